/- Contract of frame's Check at a frame in memory. Conditions: where its lists lie. -/
import Derived.Test.YtabndibenffngaaDoorFraC
namespace Go.Proofs.YtabndibenffngaaDoor
open Go.RowKit

/-- The text of what is wrong. -/
def wrongT4 : Option FrameP.Wrong → List UInt8
  | none => []
  | some (c, p) => atT c p

theorem chkMsgs_step {l : List FrameP.Msg} {k : Nat} {m : FrameP.Msg} (h : l[k]? = some m) :
    FrameP.chkMsgs k (l.drop k) = if msgCode m.port m.data.length = 0 then FrameP.chkMsgs (k + 1) (l.drop (k + 1)) else some ((msgCode m.port m.data.length).toNat, (k : Int)) := by
  obtain ⟨hk, rfl⟩ := List.getElem?_eq_some_iff.1 h
  rw [List.drop_eq_getElem_cons hk]
  unfold msgCode
  conv => lhs; unfold FrameP.chkMsgs
  by_cases h1 : l[k].port < 0 ∨ 23 < l[k].port
  · rw [if_pos h1, if_pos h1]; rfl
  · rw [if_neg h1, if_neg h1]
    by_cases h2 : 16 < l[k].data.length
    · rw [if_pos h2, if_pos h2]; rfl
    · rw [if_neg h2, if_neg h2, if_pos rfl]
theorem chkMsgs_at {l : List MsgC} {k : Nat} {port : Int} {A : Option Addr} {m cap : Nat} {data : List UInt8} (h : l[k]? = some ⟨port, A, m, cap, data⟩) (hd : data.length = m) :
    FrameP.chkMsgs k ((l.map MsgC.plain).drop k) = if msgCode port m = 0 then FrameP.chkMsgs (k + 1) ((l.map MsgC.plain).drop (k + 1)) else some ((msgCode port m).toNat, (k : Int)) := by
  subst hd
  exact chkMsgs_step (m := ⟨port, data⟩) (by rw [List.getElem?_map, h]; rfl)
theorem chkRecs_step {l : List FrameP.Rec} {k : Nat} {m : FrameP.Rec} (h : l[k]? = some m) :
    FrameP.chkRecs k (l.drop k) = if recCode m = 0 then FrameP.chkRecs (k + 1) (l.drop (k + 1)) else some ((recCode m).toNat, (k : Int)) := by
  obtain ⟨hk, rfl⟩ := List.getElem?_eq_some_iff.1 h
  rw [List.drop_eq_getElem_cons hk]
  unfold recCode
  conv => lhs; unfold FrameP.chkRecs
  by_cases h1 : 6 < l[k].node ∨ 11 < l[k].part ∨ 3 < l[k].kind ∨ 3 < l[k].did
  · rw [if_pos h1, if_pos h1]; rfl
  · rw [if_neg h1, if_neg h1, if_pos rfl]
theorem msgCode_in (p : Int) (m : Nat) (h : msgCode p m ≠ 0) : 1 ≤ msgCode p m ∧ msgCode p m ≤ 199 := by
  unfold msgCode at h ⊢
  by_cases h1 : p < 0 ∨ 23 < p
  · rw [if_pos h1]; omega
  · rw [if_neg h1] at h ⊢
    by_cases h2 : 16 < m
    · rw [if_pos h2]; omega
    · rw [if_neg h2] at h; exact absurd rfl h
theorem recCode_in (x : FrameP.Rec) (h : recCode x ≠ 0) : 1 ≤ recCode x ∧ recCode x ≤ 199 := by
  unfold recCode at h ⊢
  by_cases h1 : 6 < x.node ∨ 11 < x.part ∨ 3 < x.kind ∨ 3 < x.did
  · rw [if_pos h1]; omega
  · rw [if_neg h1] at h; exact absurd rfl h

structure Box9 (w : World) (b : Nat) (x : FrameC) : Prop where
  c0 : w.cell? ⟨b, 0, none⟩ = some (.int .u8 (x.sender : Nat))
  c1 : w.cell? ⟨b, 1, none⟩ = some (.int .u32 (x.round : Nat))
  c2 : w.cell? ⟨b, 2, none⟩ = some (.int .u8 (x.members : Nat))
  c3 : w.cell? ⟨b, 3, none⟩ = some (.slice x.MA x.mn x.mcap)
  c4 : w.cell? ⟨b, 4, none⟩ = some (.int .u8 (x.kind : Nat))
  c5 : w.cell? ⟨b, 5, none⟩ = some (.int .u8 (x.key : Nat))
  c6 : w.cell? ⟨b, 6, none⟩ = some (.int .u16 (x.val : Nat))
  c7 : w.cell? ⟨b, 7, none⟩ = some (.int .u16 (x.old : Nat))
  c8 : w.cell? ⟨b, 8, none⟩ = some (.slice x.RA x.rn x.rcap)
theorem ErrPost.of_below4 {x : List UInt8} {ok : Bool} {w w0 w' : World} {e : Ending} (h : ErrPost x ok w0 e w') (hb : Below w.heap.size w w0) : ErrPost x ok w e w' := by
  obtain ⟨v, h1, h2, h3, h4⟩ := h
  exact ⟨v, h1, h2, h3, hb.trans (h4.mono hb.size)⟩
theorem ErrPost.ok4 {w w' : World} (hb : Below w.heap.size w w') : ErrPost [] true w (.returned .nilIface) w' := ⟨_, rfl, ErrText.none_ _, rfl, hb⟩

theorem errpost_at4 (w W : World) (c a : Int) (N : Nat) (hN : N = W.heap.size) (hc : 1 ≤ c ∧ c ≤ 199) (ha : -1 ≤ a ∧ a ≤ 9223372036854775807) (hb : Below w.heap.size w W) :
    ErrPost (atT c.toNat a) false w (.returned (.iface 80 (.pointer (some ⟨N, 0, none⟩)))) (W.alloc (.cells #[.int .i64 c, .int .i64 a, .nilIface] 82)) := by
  subst hN
  exact errpost_new w W c a hc ha hb

def CheckPost4 (c : Option FrameP.Wrong) (w : World) (e : Ending) (w' : World) : Prop := ErrPost (wrongT4 c) c.isNone w e w'

def ChkRel1 (msgs : List FrameP.Msg) (n : Nat) (W : World) (i : Value) (wr : World) : Prop :=
  ∃ k, k ≤ n ∧ i = .int .i64 (k : Nat) ∧ FrameP.chkMsgs k (msgs.drop k) = FrameP.chkMsgs 0 msgs ∧ Below W.heap.size W wr
def ChkRel2 (recs : List FrameP.Rec) (n : Nat) (W : World) (i : Value) (wr : World) : Prop :=
  ∃ k, k ≤ n ∧ i = .int .i64 (k : Nat) ∧ FrameP.chkRecs k (recs.drop k) = FrameP.chkRecs 0 recs ∧ Below W.heap.size W wr

theorem cmdCode_in (a b c d : Nat) (h : cmdCode a b c d ≠ 0) : 1 ≤ cmdCode a b c d ∧ cmdCode a b c d ≤ 199 := by
  unfold cmdCode at h ⊢
  by_cases h1 : 3 < a
  · rw [if_pos h1]; omega
  · rw [if_neg h1] at h ⊢
    by_cases h2 : FrameP.unlawful a b c d
    · rw [if_pos h2]; omega
    · rw [if_neg h2] at h; exact absurd rfl h

end Go.Proofs.YtabndibenffngaaDoor
