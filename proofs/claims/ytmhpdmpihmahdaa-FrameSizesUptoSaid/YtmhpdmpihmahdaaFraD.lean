/- Contract of frame's Check at a frame in memory. Conditions: where its lists lie. -/
import Derived.Test.YtmhpdmpihmahdaaFraC
namespace Go.Proofs.Ytmhpdmpihmahdaa
open Go.RowKit

/-- The text of what is wrong. -/
def wrongT : Option FrameP.Wrong → List UInt8
  | none => []
  | some (c, p) => atT c p

theorem chkMsgs_step {l : List FrameP.Msg} {k : Nat} {m : FrameP.Msg} (h : l[k]? = some m) :
    FrameP.chkMsgs k (l.drop k) = if msgCode m.port m.data.length = 0 then FrameP.chkMsgs (k + 1) (l.drop (k + 1)) else some ((msgCode m.port m.data.length).toNat, (k : Int)) := by
  obtain ⟨hk, rfl⟩ := List.getElem?_eq_some_iff.1 h
  rw [List.drop_eq_getElem_cons hk]
  unfold msgCode
  conv => lhs; unfold FrameP.chkMsgs
  by_cases h1 : l[k].port < 0 ∨ 23 < l[k].port
  · rw [if_pos h1, if_pos h1]; rfl
  · rw [if_neg h1, if_neg h1]
    by_cases h2 : 16 < l[k].data.length
    · rw [if_pos h2, if_pos h2]; rfl
    · rw [if_neg h2, if_neg h2, if_pos rfl]
theorem chkMsgs_at {l : List MsgC} {k : Nat} {port : Int} {A : Option Addr} {m cap : Nat} {data : List UInt8} (h : l[k]? = some ⟨port, A, m, cap, data⟩) (hd : data.length = m) :
    FrameP.chkMsgs k ((l.map MsgC.plain).drop k) = if msgCode port m = 0 then FrameP.chkMsgs (k + 1) ((l.map MsgC.plain).drop (k + 1)) else some ((msgCode port m).toNat, (k : Int)) := by
  subst hd
  exact chkMsgs_step (m := ⟨port, data⟩) (by rw [List.getElem?_map, h]; rfl)
theorem chkRecs_step {l : List FrameP.Rec} {k : Nat} {m : FrameP.Rec} (h : l[k]? = some m) :
    FrameP.chkRecs k (l.drop k) = if recCode m = 0 then FrameP.chkRecs (k + 1) (l.drop (k + 1)) else some ((recCode m).toNat, (k : Int)) := by
  obtain ⟨hk, rfl⟩ := List.getElem?_eq_some_iff.1 h
  rw [List.drop_eq_getElem_cons hk]
  unfold recCode
  conv => lhs; unfold FrameP.chkRecs
  by_cases h1 : 6 < l[k].node ∨ 11 < l[k].part ∨ 3 < l[k].kind ∨ 3 < l[k].did
  · rw [if_pos h1, if_pos h1]; rfl
  · rw [if_neg h1, if_neg h1, if_pos rfl]
theorem msgCode_in (p : Int) (m : Nat) (h : msgCode p m ≠ 0) : 1 ≤ msgCode p m ∧ msgCode p m ≤ 199 := by
  unfold msgCode at h ⊢
  by_cases h1 : p < 0 ∨ 23 < p
  · rw [if_pos h1]; omega
  · rw [if_neg h1] at h ⊢
    by_cases h2 : 16 < m
    · rw [if_pos h2]; omega
    · rw [if_neg h2] at h; exact absurd rfl h
theorem recCode_in (x : FrameP.Rec) (h : recCode x ≠ 0) : 1 ≤ recCode x ∧ recCode x ≤ 199 := by
  unfold recCode at h ⊢
  by_cases h1 : 6 < x.node ∨ 11 < x.part ∨ 3 < x.kind ∨ 3 < x.did
  · rw [if_pos h1]; omega
  · rw [if_neg h1] at h; exact absurd rfl h

/-- A frame that was boxed. -/
def boxF (w : World) (x : FrameC) : World := w.alloc (.cells #[.int .u8 (x.sender : Nat), .int .u32 (x.round : Nat), .int .u8 (x.members : Nat), .slice x.MA x.mn x.mcap, .int .u8 (x.kind : Nat), .int .u8 (x.key : Nat), .int .u16 (x.val : Nat), .int .u16 (x.old : Nat), .slice x.RA x.rn x.rcap] 32)
structure Box9 (w : World) (b : Nat) (x : FrameC) : Prop where
  c0 : w.cell? ⟨b, 0, none⟩ = some (.int .u8 (x.sender : Nat))
  c1 : w.cell? ⟨b, 1, none⟩ = some (.int .u32 (x.round : Nat))
  c2 : w.cell? ⟨b, 2, none⟩ = some (.int .u8 (x.members : Nat))
  c3 : w.cell? ⟨b, 3, none⟩ = some (.slice x.MA x.mn x.mcap)
  c4 : w.cell? ⟨b, 4, none⟩ = some (.int .u8 (x.kind : Nat))
  c5 : w.cell? ⟨b, 5, none⟩ = some (.int .u8 (x.key : Nat))
  c6 : w.cell? ⟨b, 6, none⟩ = some (.int .u16 (x.val : Nat))
  c7 : w.cell? ⟨b, 7, none⟩ = some (.int .u16 (x.old : Nat))
  c8 : w.cell? ⟨b, 8, none⟩ = some (.slice x.RA x.rn x.rcap)
theorem boxF_size (w : World) (x : FrameC) : (boxF w x).heap.size = w.heap.size + 1 := by simp [boxF]
theorem boxF_below (w : World) (x : FrameC) : Below w.heap.size w (boxF w x) := (Below.refl _ _).alloc (Nat.le_refl _) _
theorem box9 {w wr : World} {x : FrameC} (h : Below (boxF w x).heap.size (boxF w x) wr) : Box9 wr w.heap.size x := by
  have hb : w.heap.size < (boxF w x).heap.size := by rw [boxF_size]; omega
  have h0 : (boxF w x).heap[w.heap.size]? = some (.cells #[.int .u8 (x.sender : Nat), .int .u32 (x.round : Nat), .int .u8 (x.members : Nat), .slice x.MA x.mn x.mcap, .int .u8 (x.kind : Nat), .int .u8 (x.key : Nat), .int .u16 (x.val : Nat), .int .u16 (x.old : Nat), .slice x.RA x.rn x.rcap] 32 (0, 0)) := heap_alloc_new w _
  refine ⟨?_, ?_, ?_, ?_, ?_, ?_, ?_, ?_, ?_⟩ <;> refine (h.cell (by exact hb)).trans ?_ <;> simp [World.cell?, h0]

theorem ErrPost.of_below {x : List UInt8} {ok : Bool} {w w0 w' : World} {e : Ending} (h : ErrPost x ok w0 e w') (hb : Below w.heap.size w w0) : ErrPost x ok w e w' := by
  obtain ⟨v, h1, h2, h3, h4⟩ := h
  exact ⟨v, h1, h2, h3, hb.trans (h4.mono hb.size)⟩
theorem ErrPost.ok {w w' : World} (hb : Below w.heap.size w w') : ErrPost [] true w (.returned .nilIface) w' := ⟨_, rfl, ErrText.none_ _, rfl, hb⟩

theorem errpost_at (w W : World) (c a : Int) (N : Nat) (hN : N = W.heap.size) (hc : 1 ≤ c ∧ c ≤ 199) (ha : -1 ≤ a ∧ a ≤ 9223372036854775807) (hb : Below w.heap.size w W) :
    ErrPost (atT c.toNat a) false w (.returned (.iface 76 (.pointer (some ⟨N, 0, none⟩)))) (W.alloc (.cells #[.int .i64 c, .int .i64 a, .nilIface] 78)) := by
  subst hN
  exact errpost_new w W c a hc ha hb

def CheckPost (c : Option FrameP.Wrong) (w : World) (e : Ending) (w' : World) : Prop := ErrPost (wrongT c) c.isNone w e w'

theorem check_sender (x : FrameC) (w : World) (h1 : 6 < x.sender) :
    Calls Try.prog 15 #[x.value] w (CheckPost (FrameP.chk x.plain) w) := by
  have e : FrameP.chk x.plain = some (2, -1) := if_pos h1
  rw [e]; clear e
  have HF := Lib.hid (fun W N hN => errpost_at w W 2 (-1) N hN (by omega) (by omega))
  have HB := Lib.hid (boxF_below w x)
  obtain ⟨sender, round, members, MA, mn, mcap, msgs, kind, key, val, old, RA, rn, rcap, recs⟩ := x
  have q1 : decide ((7 : Int) ≤ sender) = true := decide_eq_true (by simp only at h1; omega)
  have HN := Lib.hid (fun W => new_some 2 (-1) W rfl)
  rw [place_of (-1) (by omega)] at HN
  simp only [FrameC.value]
  unfold boxF at HB
  simp only at HB
  clear h1
  go_enter Try.func15, Try.ntmps15
  go_wp2_with fail
  refine (HN.out _).mono ?_
  rintro e w1 ⟨rfl, rfl⟩
  go_wp2_with fail
  go_ret
  exact HF.out _ _ (by simp) HB.out

theorem check_many (x : FrameC) (w : World) (h1 : ¬ 6 < x.sender) (h2 : 96 < x.mn ∨ 4 < x.rn) (hm : x.msgs.length = x.mn) (hr : x.recs.length = x.rn) :
    Calls Try.prog 15 #[x.value] w (CheckPost (FrameP.chk x.plain) w) := by
  have e : FrameP.chk x.plain = some (3, -1) := by
    unfold FrameP.chk
    rw [if_neg (show ¬ 6 < x.plain.sender from h1), if_pos (show 96 < x.plain.msgs.length ∨ 4 < x.plain.recs.length by simp only [FrameC.plain, List.length_map]; omega)]
  rw [e]; clear e
  have HF := Lib.hid (fun W N hN => errpost_at w W 3 (-1) N hN (by omega) (by omega))
  have HB := Lib.hid (boxF_below w x)
  obtain ⟨sender, round, members, MA, mn, mcap, msgs, kind, key, val, old, RA, rn, rcap, recs⟩ := x
  have q1 : decide ((7 : Int) ≤ sender) = false := decide_eq_false (by simp only at h1; omega)
  have HN := Lib.hid (fun W => new_some 3 (-1) W rfl)
  rw [place_of (-1) (by omega)] at HN
  simp only [FrameC.value]
  unfold boxF at HB
  simp only at HB h1 h2
  clear h1 hm hr
  by_cases h3 : 96 < mn
  · have q2 : decide ((96 : Int) < mn) = true := decide_eq_true (by omega)
    clear h2 h3
    go_enter Try.func15, Try.ntmps15
    go_wp2_with fail
    refine (HN.out _).mono ?_
    rintro e w1 ⟨rfl, rfl⟩
    go_wp2_with fail
    go_ret
    exact HF.out _ _ (by simp) HB.out
  · have q2 : decide ((96 : Int) < mn) = false := decide_eq_false (by omega)
    have q3 : decide ((4 : Int) < rn) = true := decide_eq_true (by omega)
    clear h2 h3
    go_enter Try.func15, Try.ntmps15
    go_wp2_with fail
    refine (HN.out _).mono ?_
    rintro e w1 ⟨rfl, rfl⟩
    go_wp2_with fail
    go_ret
    exact HF.out _ _ (by simp) HB.out

def ChkRel1 (msgs : List FrameP.Msg) (n : Nat) (W : World) (i : Value) (wr : World) : Prop :=
  ∃ k, k ≤ n ∧ i = .int .i64 (k : Nat) ∧ FrameP.chkMsgs k (msgs.drop k) = FrameP.chkMsgs 0 msgs ∧ Below W.heap.size W wr
def ChkRel2 (recs : List FrameP.Rec) (n : Nat) (W : World) (i : Value) (wr : World) : Prop :=
  ∃ k, k ≤ n ∧ i = .int .i64 (k : Nat) ∧ FrameP.chkRecs k (recs.drop k) = FrameP.chkRecs 0 recs ∧ Below W.heap.size W wr

theorem cmdCode_in (a b c d : Nat) (h : cmdCode a b c d ≠ 0) : 1 ≤ cmdCode a b c d ∧ cmdCode a b c d ≤ 199 := by
  unfold cmdCode at h ⊢
  by_cases h1 : 3 < a
  · rw [if_pos h1]; omega
  · rw [if_neg h1] at h ⊢
    by_cases h2 : FrameP.unlawful a b c d
    · rw [if_pos h2]; omega
    · rw [if_neg h2] at h; exact absurd rfl h

set_option maxRecDepth 100000 in
set_option maxHeartbeats 1000000 in
theorem check_rest (x : FrameC) (w : World) (h : FrameIn w x) (h1 : ¬ 6 < x.sender) (h2 : ¬ (96 < x.mn ∨ 4 < x.rn)) :
    Calls Try.prog 15 #[x.value] w (CheckPost (FrameP.chk x.plain) w) := by
  have HFr := Lib.hid h
  have hm := h.mlen
  have hr := h.rlen
  have hchk : FrameP.chk x.plain = match FrameP.chkMsgs 0 x.plain.msgs with
      | some e => some e
      | none => if 3 < x.kind then some (7, -1) else if FrameP.unlawful x.kind x.key x.val x.old then some (8, -1) else FrameP.chkRecs 0 x.recs := by
    unfold FrameP.chk
    rw [if_neg (show ¬ 6 < x.plain.sender from h1), if_neg (show ¬ (96 < x.plain.msgs.length ∨ 4 < x.plain.recs.length) by simp only [FrameC.plain, List.length_map]; omega)]
    rfl
  have HE1 : Hid (∀ e, FrameP.chkMsgs 0 x.plain.msgs = some e → FrameP.chk x.plain = some e) := Lib.hid fun e he => by rw [hchk, he]
  have HE2 : Hid (FrameP.chkMsgs 0 x.plain.msgs = none → cmdCode x.kind x.key x.val x.old ≠ 0 → FrameP.chk x.plain = some ((cmdCode x.kind x.key x.val x.old).toNat, -1)) := Lib.hid fun he hc => by
    rw [hchk, he]
    simp only
    unfold cmdCode at hc ⊢
    by_cases h1 : 3 < x.kind
    · rw [if_pos h1, if_pos h1]; rfl
    · rw [if_neg h1] at hc ⊢
      rw [if_neg h1]
      by_cases h2 : FrameP.unlawful x.kind x.key x.val x.old
      · rw [if_pos h2, if_pos h2]; rfl
      · rw [if_neg h2] at hc; exact absurd rfl hc
  have HE3 : Hid (FrameP.chkMsgs 0 x.plain.msgs = none → cmdCode x.kind x.key x.val x.old = 0 → FrameP.chk x.plain = FrameP.chkRecs 0 x.recs) := Lib.hid fun he hc => by
    rw [hchk, he]
    simp only
    unfold cmdCode at hc
    by_cases h1 : 3 < x.kind
    · rw [if_pos h1] at hc; cases hc
    · rw [if_neg h1] at hc ⊢
      by_cases h2 : FrameP.unlawful x.kind x.key x.val x.old
      · rw [if_pos h2] at hc; cases hc
      · rw [if_neg h2]
  have HBOX := Lib.hid (fun wr hb => box9 (w := w) (wr := wr) (x := x) hb)
  have HB0 := Lib.hid (boxF_below w x)
  have HS := Lib.hid (boxF_size w x)
  have hW : Hid (boxF w x = w.alloc _) := Lib.hid rfl
  have HEP := Lib.hid (fun c p W N hN hc hp => errpost_at w W c p N hN hc hp)
  generalize FrameP.chk x.plain = R at *
  clear h hchk
  obtain ⟨sender, round, members, MA, mn, mcap, msgs, kind, key, val, old, RA, rn, rcap, recs⟩ := x
  simp only at h1 h2 hm hr
  simp only [FrameC.value]
  simp only at hW HE1 HE2 HE3
  have q1 : decide ((7 : Int) ≤ sender) = false := decide_eq_false (by omega)
  have q2 : decide ((96 : Int) < mn) = false := decide_eq_false (by omega)
  have q3 : decide ((4 : Int) < rn) = false := decide_eq_false (by omega)
  have h96 : mn ≤ 96 := by omega
  have h4 : rn ≤ 4 := by omega
  have hst : Hid (ChkRel1 (msgs.map MsgC.plain) mn (boxF w ⟨sender, round, members, MA, mn, mcap, msgs, kind, key, val, old, RA, rn, rcap, recs⟩) (.int .i64 0) (boxF w ⟨sender, round, members, MA, mn, mcap, msgs, kind, key, val, old, RA, rn, rcap, recs⟩)) := Lib.hid ⟨0, Nat.zero_le _, rfl, rfl, Below.refl _ _⟩
  rw [show (boxF w ⟨sender, round, members, MA, mn, mcap, msgs, kind, key, val, old, RA, rn, rcap, recs⟩) = _ from hW.out] at HBOX HB0 HS hst
  clear hW h1 h2
  go_enter Try.func15, Try.ntmps15
  go_wp2_with fail
  go_loopw [28] (ChkRel1 (msgs.map MsgC.plain) mn (w.alloc (.cells #[.int .u8 (sender : Nat), .int .u32 (round : Nat), .int .u8 (members : Nat), .slice MA mn mcap, .int .u8 (kind : Nat), .int .u8 (key : Nat), .int .u16 (val : Nat), .int .u16 (old : Nat), .slice RA rn rcap] 32))) (fun i _ => (mn + 1 - intOf i).toNat)
  case atStart => exact hst.out
  case round =>
    clear hst
    obtain ⟨k, hk, rfl, hck, hb⟩ := hrel
    have Hb := Lib.hid hb
    have Hck := Lib.hid hck
    have hbw : Below w.heap.size w wr := HB0.out.trans (hb.mono (by rw [HS.out]; omega))
    have Hbw := Lib.hid hbw
    have Hfr := Lib.hid (HFr.out.below hbw)
    have Hbx := Lib.hid (HBOX.out wr hb)
    clear hbw hb hck
    by_cases hlt : k < mn
    · obtain ⟨b, off, e, hbl, hi⟩ := Hfr.out.msgs (by have := Hfr.out.mlen; simp only at this ⊢; omega)
      change MA = some _ at e
      obtain ⟨⟨port, A, m, cap, data⟩, hmk⟩ : ∃ y, msgs[k]? = some y := ⟨_, List.getElem?_eq_getElem (by omega)⟩
      obtain ⟨kp, kt, ok1, ok2, ok3, ok4, ok5⟩ := hi k _ hmk
      simp only at kp kt ok1 ok2 ok3 ok4 ok5
      have hst := Lib.hid (chkMsgs_at hmk ok1)
      have hrel : Hid (∀ W, Below wr.heap.size wr W → msgCode port m = 0 → ChkRel1 (msgs.map MsgC.plain) mn (w.alloc (.cells #[.int .u8 (sender : Nat), .int .u32 (round : Nat), .int .u8 (members : Nat), .slice MA mn mcap, .int .u8 (kind : Nat), .int .u8 (key : Nat), .int .u16 (val : Nat), .int .u16 (old : Nat), .slice RA rn rcap] 32)) (.int .i64 ((k : Int) + 1)) W) := Lib.hid fun W hW hc => by
        refine ⟨k + 1, by omega, by go_num, ?_, Hb.out.trans (hW.mono Hb.out.size)⟩
        rw [← Hck.out, hst.out, if_pos hc]
      have hbad : Hid (∀ W N, N = W.heap.size → Below wr.heap.size wr W → msgCode port m ≠ 0 → CheckPost R w (.returned (.iface 76 (.pointer (some ⟨N, 0, none⟩)))) (W.alloc (.cells #[.int .i64 (msgCode port m), .int .i64 k, .nilIface] 78))) := Lib.hid fun W N hN hW hc => by
        have h0 := Hck.out
        rw [hst.out, if_neg hc] at h0
        have h3 := msgCode_in port m hc
        rw [HE1.out _ h0.symm]
        exact HEP.out _ _ W N hN h3 (by omega) (Hbw.out.trans (hW.mono Hbw.out.size))
      have HWM := Lib.hid (fun W => wrongMessage_any port A m cap W (by omega))
      clear hi hmk ok1 ok4 hst
      subst e
      by_cases hc : msgCode port m = 0
      · have HR0 := Lib.hid (fun W hW => hrel.out W hW hc)
        rw [hc] at HWM
        clear hrel hbad hc
        go_wp2_with fail
        refine (HWM.out _).mono ?_
        rintro e w1 ⟨rfl, hb1⟩
        have Hb1 := Lib.hid hb1
        clear hb1
        go_wp2_with fail
        refine (new_ok _ _).mono ?_
        rintro e w2 ⟨rfl, rfl⟩
        go_wp2_with fail
        go_roundw
        case rel =>
          exact HR0.out _ (((Below.refl _ _).alloc (Nat.le_refl _) _).trans (Hb1.out.mono (by simp)))
        case measure => simp [intOf]; omega
      · have HR0 := Lib.hid (fun W N hN hW => hbad.out W N hN hW hc)
        have q4 : (msgCode port m == 0) = false := by rw [beq_eq_false_iff_ne]; exact hc
        generalize msgCode port m = c at *
        have HN := Lib.hid (fun W => new_some c (k : Int) W q4)
        rw [place_of (k : Int) (by omega)] at HN
        clear hrel hbad hc
        go_wp2_with fail
        refine (HWM.out _).mono ?_
        rintro e w1 ⟨rfl, hb1⟩
        have Hb1 := Lib.hid hb1
        clear hb1
        go_wp2_with fail
        refine (HN.out _).mono ?_
        rintro e w2 ⟨rfl, rfl⟩
        go_wp2_with fail
        go_ret
        exact HR0.out _ _ rfl (((Below.refl _ _).alloc (Nat.le_refl _) _).trans (Hb1.out.mono (by simp)))
    · have hkn : mn = k := by omega
      subst hkn
      have hnone : FrameP.chkMsgs 0 (msgs.map MsgC.plain) = none := by
        rw [← Hck.out, List.drop_of_length_le (by rw [List.length_map]; omega)]
        rfl
      obtain ⟨b0, b1, b2, b3, b4, b5, b6, b7, b8⟩ := Hbx.out
      simp only at b0 b1 b2 b3 b4 b5 b6 b7 b8
      have HWC := Lib.hid (fun W => wrongCommand_any kind key val old W)
      have hsz := Hb.out.size
      by_cases hc : cmdCode kind key val old = 0
      · have hR := HE3.out hnone hc
        subst hR
        rw [hc] at HWC
        clear hnone hc HE1 HE2 HE3
        go_wp2_with fail
        refine (HWC.out _).mono ?_
        rintro e w1 ⟨rfl, hb1⟩
        have HBb := Lib.hid (Hb.out.trans (hb1.mono Hb.out.size))
        obtain ⟨b0, b1, b2, b3, b4, b5, b6, b7, b8⟩ := HBOX.out w1 HBb.out
        simp only at b0 b1 b2 b3 b4 b5 b6 b7 b8
        have Hb1 := Lib.hid hb1
        clear hb1
        go_wp2_with fail
        refine (new_ok _ _).mono ?_
        rintro e w2 ⟨rfl, rfl⟩
        go_wp2_with fail
        go_loopw [51] (ChkRel2 recs rn (w.alloc (.cells #[.int .u8 (sender : Nat), .int .u32 (round : Nat), .int .u8 (members : Nat), .slice MA mn mcap, .int .u8 (kind : Nat), .int .u8 (key : Nat), .int .u16 (val : Nat), .int .u16 (old : Nat), .slice RA rn rcap] 32))) (fun i _ => (rn + 1 - intOf i).toNat)
        case atStart => exact ⟨0, Nat.zero_le _, rfl, rfl, HBb.out⟩
        case round =>
          clear HBb Hb1 Hfr Hbx Hbw Hck Hb hsz b0 b1 b2 b3 b4 b5 b6 b7 b8
          obtain ⟨k, hk, rfl, hck, hb⟩ := hrel
          have Hb := Lib.hid hb
          have Hck := Lib.hid hck
          have hbw : Below w.heap.size w wr := HB0.out.trans (hb.mono (by rw [HS.out]; omega))
          have Hbw := Lib.hid hbw
          have Hfr := Lib.hid (HFr.out.below hbw)
          clear hbw hb hck
          by_cases hlt : k < rn
          · obtain ⟨b, off, e, hbl, hi⟩ := Hfr.out.recs (by have := Hfr.out.rlen; simp only at this ⊢; omega)
            change RA = some _ at e
            obtain ⟨y, hmk⟩ : ∃ y, recs[k]? = some y := ⟨_, List.getElem?_eq_getElem (by omega)⟩
            obtain ⟨k0, k1, k2, k3, k4⟩ := hi k _ hmk
            have hst := Lib.hid (chkRecs_step hmk)
            have hrel : Hid (∀ W, Below wr.heap.size wr W → recCode y = 0 → ChkRel2 recs rn (w.alloc (.cells #[.int .u8 (sender : Nat), .int .u32 (round : Nat), .int .u8 (members : Nat), .slice MA mn mcap, .int .u8 (kind : Nat), .int .u8 (key : Nat), .int .u16 (val : Nat), .int .u16 (old : Nat), .slice RA rn rcap] 32)) (.int .i64 ((k : Int) + 1)) W) := Lib.hid fun W hW hc => by
              refine ⟨k + 1, by omega, by go_num, ?_, Hb.out.trans (hW.mono Hb.out.size)⟩
              rw [← Hck.out, hst.out, if_pos hc]
            have hbad : Hid (∀ W N, N = W.heap.size → Below wr.heap.size wr W → recCode y ≠ 0 → CheckPost (FrameP.chkRecs 0 recs) w (.returned (.iface 76 (.pointer (some ⟨N, 0, none⟩)))) (W.alloc (.cells #[.int .i64 (recCode y), .int .i64 k, .nilIface] 78))) := Lib.hid fun W N hN hW hc => by
              have h0 := Hck.out
              rw [hst.out, if_neg hc] at h0
              have h3 := recCode_in y hc
              rw [← h0]
              exact HEP.out _ _ W N hN h3 (by omega) (Hbw.out.trans (hW.mono Hbw.out.size))
            have HWM := Lib.hid (fun W => wrongRecord_any y W)
            clear hi hmk hst
            subst e
            by_cases hc : recCode y = 0
            · have HR0 := Lib.hid (fun W hW => hrel.out W hW hc)
              rw [hc] at HWM
              obtain ⟨rd, nd, pt, kd, dd⟩ := y
              simp only at k0 k1 k2 k3 k4 HWM
              clear hrel hbad hc
              go_wp2_with fail
              refine (HWM.out _).mono ?_
              rintro e w1 ⟨rfl, hb1⟩
              have Hb1 := Lib.hid hb1
              clear hb1
              go_wp2_with fail
              refine (new_ok _ _).mono ?_
              rintro e w2 ⟨rfl, rfl⟩
              go_wp2_with fail
              go_roundw
              case rel => exact HR0.out _ (((Below.refl _ _).alloc (Nat.le_refl _) _).trans (Hb1.out.mono (by simp)))
              case measure => simp [intOf]; omega
            · have HR0 := Lib.hid (fun W N hN hW => hbad.out W N hN hW hc)
              have q4 : (recCode y == 0) = false := by rw [beq_eq_false_iff_ne]; exact hc
              generalize recCode y = c at *
              have HN := Lib.hid (fun W => new_some c (k : Int) W q4)
              rw [place_of (k : Int) (by omega)] at HN
              obtain ⟨rd, nd, pt, kd, dd⟩ := y
              simp only at k0 k1 k2 k3 k4 HWM
              clear hrel hbad hc
              go_wp2_with fail
              refine (HWM.out _).mono ?_
              rintro e w1 ⟨rfl, hb1⟩
              have Hb1 := Lib.hid hb1
              clear hb1
              go_wp2_with fail
              refine (HN.out _).mono ?_
              rintro e w2 ⟨rfl, rfl⟩
              go_wp2_with fail
              go_ret
              exact HR0.out _ _ rfl (((Below.refl _ _).alloc (Nat.le_refl _) _).trans (Hb1.out.mono (by simp)))
          · have hkn : rn = k := by omega
            subst hkn
            have hnone : FrameP.chkRecs 0 recs = none := by
              rw [← Hck.out, List.drop_of_length_le (by omega)]
              rfl
            have HF : Hid (CheckPost (FrameP.chkRecs 0 recs) w (.returned .nilIface) wr) := Lib.hid (by rw [hnone]; exact ErrPost.ok Hbw.out)
            clear hnone
            go_wp2_with fail
            go_ret
            exact HF.out
      · have hR := HE2.out hnone hc
        have hin := cmdCode_in _ _ _ _ hc
        subst hR
        have q4 : (cmdCode kind key val old == 0) = false := by rw [beq_eq_false_iff_ne]; exact hc
        generalize cmdCode kind key val old = c at *
        have HN := Lib.hid (fun W => new_some c (-1) W q4)
        rw [place_of (-1) (by omega)] at HN
        have HF : Hid (∀ W N, N = W.heap.size → Below wr.heap.size wr W → CheckPost (some (c.toNat, -1)) w (.returned (.iface 76 (.pointer (some ⟨N, 0, none⟩)))) (W.alloc (.cells #[.int .i64 c, .int .i64 (-1), .nilIface] 78))) := Lib.hid fun W N hN hW =>
          HEP.out _ _ W N hN hin (by omega) (Hbw.out.trans (hW.mono Hbw.out.size))
        clear hnone hc HE1 HE2 HE3 hin
        go_wp2_with fail
        refine (HWC.out _).mono ?_
        rintro e w1 ⟨rfl, hb1⟩
        have Hb1 := Lib.hid hb1
        clear hb1
        go_wp2_with fail
        refine (HN.out _).mono ?_
        rintro e w2 ⟨rfl, rfl⟩
        go_wp2_with fail
        go_ret
        exact HF.out _ _ rfl Hb1.out

/-- Check: of any frame. -/
theorem check_any (x : FrameC) (w : World) (h : FrameIn w x) :
    Calls Try.prog 15 #[x.value] w (CheckPost (FrameP.chk x.plain) w) := by
  by_cases h1 : 6 < x.sender
  · exact check_sender x w h1
  · by_cases h2 : 96 < x.mn ∨ 4 < x.rn
    · exact check_many x w h1 h2 h.mlen h.rlen
    · exact check_rest x w h h1 h2
end Go.Proofs.Ytmhpdmpihmahdaa
