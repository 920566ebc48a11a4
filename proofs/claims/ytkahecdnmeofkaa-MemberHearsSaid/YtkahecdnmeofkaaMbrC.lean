/- Contract of clone: a frame that reads alike, in memory of its own. Conditions: where its lists lie. -/
import Derived.Test.YtkahecdnmeofkaaMidBa
import Derived.Test.YtkahecdnmeofkaaFraL
import Derived.Lib.SliceRun
namespace Go.Proofs.Ytkahecdnmeofkaa
open Go.RowKit
set_option maxRecDepth 100000

theorem infoU12 : (Try.prog.info? 5).map (fun i => (i.zero, i.size, i.bytes)) = some (some (.int .u8 0), 1, 1) := by kernel_rfl
/-- A copy of bytes, in memory of its own. -/
def BCloneP (l : List UInt8) (w : World) (e : Ending) (w' : World) : Prop := ∃ A c, e = .returned (.slice A l.length c) ∧ w'.ownsRow w.heap.size 5 1 (.slice A l.length c) l.length (bytesV l) ∧ Below w.heap.size w w'
theorem bclone_any (A : Option Addr) (n cap : Nat) (l : List UInt8) (hl : l.length = n) (hn : n ≤ 140737488355328) (w : World) (h : Bytes w w.heap.size A l) :
    Calls Try.prog 37 #[.slice A n cap] w (BCloneP l w) := by
  have Hb := Lib.hid h
  have Hl := Lib.hid hl
  have HO := Lib.hid (own_empty w w.heap.size w.heap.size 1 5 rfl (Nat.le_refl _))
  have HB1 := Lib.hid (fun o => (Below.refl w.heap.size w).alloc (Nat.le_refl _) o)
  have kn := fun W => Lib.run_eql_slice_nil (P := Try.prog) W 71 5 A n cap 0 0 Try.underlying71
  cases A with
  | none =>
    have h0 : l = [] := by
      rcases Nat.eq_zero_or_pos l.length with h0 | h0
      · exact List.eq_nil_of_length_eq_zero h0
      · obtain ⟨_, _, h, _⟩ := h h0
        cases h
    subst h0
    simp only [Option.isNone_none] at kn
    have HF : Hid (BCloneP [] w (.returned (.slice none 0 0)) w) := Lib.hid ⟨none, 0, rfl, ⟨rfl, .inl ⟨rfl, rfl⟩⟩, Below.refl _ _⟩
    clear h hl HB1 HO Hb
    go_enter Try.func37, Try.ntmps37
    go_wp2_with fail
    go_ret
    exact HF.out
  | some ad =>
    simp only [Option.isNone_some] at kn
    clear h hl
    go_enter Try.func37, Try.ntmps37
    go_wp2_with (at_builtin
                 refine wpList_append_r rfl (.tmp 5) (.tmp 6) _ rfl w.heap.size 5 (.int .u8 0) Try.underlying71 infoU12 rfl _ (some w.heap.size) [] rfl ⟨rfl, HO.out⟩ w.heap.size (some ad) n cap l rfl Hl.out (Hb.out.below (HB1.out _) (Nat.le_refl _)) (by simp; omega) (by simp) ?_
                 intro v1 w1 g1 h1 h2 h3
                 have h4 : w1.ownsRow w.heap.size 5 1 v1 l.length (bytesV l) := by simpa using h1.2
                 obtain ⟨A1, c1, rfl, -⟩ := own_slice h4
                 have HF : Hid (BCloneP l w (.returned (.slice A1 l.length c1)) w1) := Lib.hid ⟨A1, c1, rfl, h4, ((HB1.out _).trans (h3.below (by simp) (fun k e => by simp only [Option.some.injEq] at e; omega)))⟩
                 clear h1 h2 h3 h4)
    go_ret
    exact HF.out

def ClonedFP (x : FrameC) (w : World) (e : Ending) (w' : World) : Prop := ∃ y : FrameC, e = .returned y.value ∧ FrameIn w' y ∧ y.plain = x.plain ∧ FrameHi w.heap.size y ∧ Below w.heap.size w w'
def boxCs (x : FrameC) (v rv : Value) : Array Value := #[.int .u8 (x.sender : Nat), .int .u32 (x.round : Nat), .int .u8 (x.members : Nat), v, .int .u8 (x.kind : Nat), .int .u8 (x.key : Nat), .int .u16 (x.val : Nat), .int .u16 (x.old : Nat), rv]
def zeroCs : Array Value := #[.int .u8 0, .int .u32 0, .int .u8 0, .slice none 0 0, .int .u8 0, .int .u8 0, .int .u16 0, .int .u16 0, .slice none 0 0]
/-- What a message's copy is. -/
structure OwnMsg (W : World) (B : Nat) (y : MsgC) : Prop where
  row : W.ownsRow B 5 1 (.slice y.A y.m y.cap) y.m (bytesV y.data)
  most : y.m ≤ 140737488355328
  ports : -9223372036854775808 ≤ y.port ∧ y.port ≤ 9223372036854775807
theorem OwnMsg.ok {W : World} {B : Nat} {y : MsgC} (h : OwnMsg W B y) : MsgOk W y ∧ (0 < y.data.length → ∀ k, blockOf y.A = some k → B ≤ k) := by
  obtain ⟨A, cap, e, h1, h2, h3, h4⟩ := own_bytes h.row
  injection e with e1 e2 e3
  rw [← e1] at h3 h4
  refine ⟨⟨h1, by rw [e3]; exact h2, h.most, h3, h.ports⟩, fun hn k hk => ?_⟩
  rcases h4 with h4 | ⟨g, h4, h5⟩
  · rw [h4] at hk; cases hk
  · rw [h4] at hk; obtain rfl : g = k := Option.some.inj hk; exact h5
theorem OwnMsg.apart {W W' : World} {B : Nat} {y : MsgC} {F : Nat → Prop} (h : OwnMsg W B y) (ha : Apart F W W') (hF : ∀ k, (Value.slice y.A y.m y.cap).ownBlock = some k → ¬ F k) : OwnMsg W' B y := ⟨own_apart h.row ha hF, h.most, h.ports⟩
/-- Behind k of the messages. -/
structure CloIn (w : World) (x : FrameC) (v : Value) (k : Nat) (ys : List MsgC) (W : World) : Prop where
  own : W.ownsRow (w.heap.size + 2) 73 2 v k (msgVals ys)
  plain : ys.map MsgC.plain = (x.msgs.take k).map MsgC.plain
  rows : ∀ y ∈ ys, OwnMsg W (w.heap.size + 2) y
  box : W.heap[w.heap.size]? = some (.cells (boxCs x v (.slice x.RA x.rn x.rcap)) 51 (0, 0))
  res : W.heap[w.heap.size + 1]? = some (.cells zeroCs 51 (0, 0))
  below : Below w.heap.size w W
theorem CloIn.len {w : World} {x : FrameC} {v : Value} {k : Nat} {ys : List MsgC} {W : World} (h : CloIn w x v k ys W) : ys.length = k := by
  have := h.own.1; rw [msgVals_length] at this; omega
theorem CloIn.size {w : World} {x : FrameC} {v : Value} {k : Nat} {ys : List MsgC} {W : World} (h : CloIn w x v k ys W) : w.heap.size + 2 ≤ W.heap.size := by
  have := (Array.getElem?_eq_some_iff.1 h.res).1; omega
theorem CloIn.step {w : World} {x : FrameC} {v : Value} {k : Nat} {ys : List MsgC} {W W' : World} (h : CloIn w x v k ys W) (hb : Below W.heap.size W W') : CloIn w x v k ys W' :=
  ⟨ikeep h.own hb, h.plain, fun y hy => (h.rows y hy).apart (F := fun _ => False) (Apart.of_below' hb) (fun _ _ h => h), (hb.block _ (by have := h.size; omega)).trans h.box, (hb.block _ (by have := h.size; omega)).trans h.res, h.below.trans (hb.mono h.below.size)⟩
theorem CloIn.drew {w : World} {x : FrameC} {v : Value} {k : Nat} {ys : List MsgC} {W : World} (h : CloIn w x v k ys W) : CloIn w x v k ys W.drew := h.step (Below.refl _ _).drew
/-- One more: its copy's row (data), then the row of messages is W1's, and lies in the box. -/
theorem CloIn.more {w : World} {x : FrameC} {v v' : Value} {k : Nat} {ys : List MsgC} {W W1 : World} {y x0 : MsgC} (h : CloIn w x v k ys W) (hx : x.msgs[k]? = some x0) (hy : y.plain = x0.plain) (ho : OwnMsg W (w.heap.size + 2) y)
    (hr : W1.ownsRow (w.heap.size + 2) 73 2 v' (k + 1) (msgVals (ys ++ [y]))) (ha : Apart (fun q => v.ownBlock = some q) W W1) : CloIn w x v' (k + 1) (ys ++ [y]) (W1.setCell ⟨w.heap.size, 3, none⟩ v') := by
  have hs := h.size
  have hlow : ∀ q, v.ownBlock = some q → w.heap.size + 2 ≤ q := fun q e => (h.own.lt q e).1
  have hlow' : ∀ q, v'.ownBlock = some q → w.heap.size + 2 ≤ q := fun q e => (hr.lt q e).1
  have hbx := (ha.block w.heap.size (by omega) (fun e => by have := hlow _ e; omega)).trans h.box
  have hrs := (ha.block (w.heap.size + 1) (by omega) (fun e => by have := hlow _ e; omega)).trans h.res
  have hap : Apart (fun q => q = w.heap.size) W1 (W1.setCell ⟨w.heap.size, 3, none⟩ v') := Apart.setCell (F := fun q => q = w.heap.size) (Apart.refl _ W1) (p := ⟨w.heap.size, 3, none⟩) (.inl rfl) v'
  have hall : ∀ z ∈ ys ++ [y], OwnMsg W (w.heap.size + 2) z := fun z hz => by
    rcases List.mem_append.1 hz with hz | hz
    · exact h.rows z hz
    · rw [List.mem_singleton.1 hz]; exact ho
  refine ⟨own_apart hr hap (fun q e h => by have := hlow' q e; omega), ?_, fun z hz => ?_, ?_, ?_, ?_⟩
  · rw [List.map_append, h.plain, List.take_add_one, hx, List.map_append]
    simp [hy]
  · have h1 := (hall z hz).apart ha (fun q hq e => own_tag6 (hall z hz).row h.own (by decide) q hq e)
    exact h1.apart hap (fun q e h2 => by have := (h1.row.lt q e).1; omega)
  · rw [heap_set_at hbx]; rfl
  · rw [heap_set_other _ _ (by omega)]; exact hrs
  · exact (h.below.trans (ha.below h.below.size (fun q e => by have := hlow _ e; omega))).setCell (by show w.heap.size ≤ w.heap.size; omega) _
theorem ys_get {ys : List MsgC} {l : List MsgC} {k : Nat} (h : ys.map MsgC.plain = (l.take k).map MsgC.plain) (hk : k = l.length) : ys.map MsgC.plain = l.map MsgC.plain := by
  rw [h, hk, List.take_length]
end Go.Proofs.Ytkahecdnmeofkaa
