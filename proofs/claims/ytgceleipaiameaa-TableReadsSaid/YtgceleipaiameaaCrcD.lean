/- Contract of crc.Open at bytes in memory: it opens what is sealed, and nothing else. Conditions: where the bytes lie; at most 100000000 of them. -/
import Derived.Test.YtgceleipaiameaaCrcC
import Derived.Deep.QuietTactic
import Derived.BigQuiet
namespace Go.Proofs.Ytgceleipaiameaa
open Go.RowKit
set_option maxRecDepth 100000

def isSealed (l : List UInt8) : Prop := ∃ p, l = CrcP.seal4 p

/-- What opening answers. -/
def OpenPost (l : List UInt8) (W : World) (e : Ending) (w' : World) : Prop :=
  (∃ p v, l = CrcP.seal4 p ∧ e = .returned (.tuple #[v, .bool true]) ∧ w'.ownsRow W.heap.size 5 1 v p.length (bytesV p) ∧ Below W.heap.size W w') ∨
  (¬ isSealed l ∧ e = .returned (.tuple #[.slice none 0 0, .bool false]) ∧ Below W.heap.size W w')

theorem seal4_len (p : List UInt8) : (CrcP.seal4 p).length = p.length + 4 := by simp [CrcP.seal4, CrcP.bytes_length]
theorem sealed_len {l : List UInt8} (h : isSealed l) : 4 ≤ l.length := by
  obtain ⟨p, rfl⟩ := h
  rw [seal4_len]; omega
/-- How far the check has been compared. -/
def Fits (p q : List UInt8) (k : Nat) : Prop := ∀ j, j < k → q[j]? = (CrcP.bytes 4 (CrcP.sum p))[j]?
theorem fits_all {p q : List UInt8} (hq : q.length = 4) (h : Fits p q 4) : p ++ q = CrcP.seal4 p := by
  unfold CrcP.seal4
  congr 1
  apply List.ext_getElem?
  intro j
  rcases Nat.lt_or_ge j 4 with h4 | h4
  · exact h j h4
  · rw [List.getElem?_eq_none (by omega), List.getElem?_eq_none (by rw [CrcP.bytes_length]; omega)]
theorem fits_not {p q : List UInt8} (hq : q.length = 4) {k : Nat} (h : q[k]? ≠ (CrcP.bytes 4 (CrcP.sum p))[k]?) : ¬ isSealed (p ++ q) := by
  rintro ⟨p', e⟩
  unfold CrcP.seal4 at e
  have hl : p.length = p'.length := by
    have := congrArg List.length e
    simp [CrcP.bytes_length] at this
    omega
  obtain ⟨rfl, rfl⟩ := List.append_inj e hl
  exact h rfl

theorem neq_bool (c y : Nat) : (((c : Nat) : Int) != ((y : Nat) : Int)) = !decide (c = y) := by
  rw [Bool.eq_iff_iff]
  simp
  omega

theorem u8_eq {c : UInt8} {y : Nat} (hy : y < 256) : c.toNat = y ↔ c = UInt8.ofNat y := by
  constructor
  · rintro rfl; simp
  · rintro rfl; simp; omega

def OpenRel (p q : List UInt8) (W : World) (i : Value) (wr : World) : Prop := ∃ k, k ≤ 4 ∧ i = .int .i64 (k : Nat) ∧ Fits p q k ∧ ∃ n, wr = W.drewN n

theorem open_rel (p q : List UInt8) (W : World) (k n : Nat) (hk : k < 4) (hf : Fits p q k) (he : q[k]? = (CrcP.bytes 4 (CrcP.sum p))[k]?) : OpenRel p q W (.int .i64 ((k : Int) + 1)) (W.drewN n) :=
  ⟨k + 1, by omega, by go_num, fun j hj => by
    rcases Nat.lt_or_ge j k with h | h
    · exact hf j h
    · obtain rfl : j = k := by omega
      exact he, n, rfl⟩

theorem quiet_left {P : Program} {f : FuncId} {args : Array Value} {w : World} {n : Nat} {v : Value}
    (h : Calls P f args (w.drewN n) fun e w' => e = .returned v ∧ w.drewN n = w') : Calls P f args (w.drewN n) fun e w'' => e = .returned v ∧ ∃ m, w'' = w.drewN m :=
  h.mono fun _ _ ⟨he, hm⟩ => ⟨he, n, hm.symm⟩

theorem below_drewN2 {B : Nat} {a w : World} (h : Below B a w) (n : Nat) : Below B a (w.drewN n) := ⟨h.os, h.tape, h.output, h.size, h.block⟩

set_option maxHeartbeats 400000 in
theorem open_short (A : Option Addr) (l : List UInt8) (n cap : Nat) (hn : l.length = n) (w : World) (hl : n < 4) :
    Calls Try.prog 36 #[.slice A n cap] w (OpenPost l w) := by
  have HF : Hid (OpenPost l w (.returned (.tuple #[.slice none 0 0, .bool false])) w) := Lib.hid (.inr ⟨fun h => by have := sealed_len h; omega, rfl, Below.refl _ _⟩)
  clear hn
  go_enter Try.func36, Try.ntmps36
  go_wp2_with fail
  go_ret2
  exact HF.out

set_option maxHeartbeats 400000 in
theorem open_long (A : Option Addr) (p q : List UInt8) (m cap : Nat) (hm : p.length = m) (hq : q.length = 4) (w : World) (hl : m ≤ 100000000) (hcap : m + 4 ≤ cap) (h : Bytes w w.heap.size A (p ++ q)) :
    Calls Try.prog 36 #[.slice A ((m + 4 : Nat)) cap] w (OpenPost (p ++ q) w) := by
  obtain ⟨b, o, rfl, hb, hc⟩ := h (by simp; omega)
  have hs := CrcP.sum_lt p
  have HP := Lib.hid (fun i hi W => part_any (CrcP.sum p) i hs hi W)
  have hp : Bytes w w.heap.size (some ⟨b, o, none⟩) p := by simpa using h.take p.length
  have HS : Hid (∀ W : World, Calls Try.prog 44 #[.slice (some ⟨b, o, none⟩) m cap] w fun e w' => e = .returned (.int .u32 (CrcP.sum p : Nat)) ∧ w = w') := Lib.hid fun _ => by
    subst hm
    exact sum_any _ p cap w (by omega) hp
  have hsl := fun W => run_slice_to (P := Try.prog) W 30 5 Try.underlying30 (fun w => by kernel_rfl) (some ⟨b, o, none⟩) (m + 4) cap (m : Int) (by omega) (by omega)
  simp only [Int.toNat_natCast] at hsl
  have hcell : ∀ k, k < 4 → ∃ c : UInt8, q[k]? = some c ∧ w.cell? ⟨b, o + (m + k), none⟩ = some (.int .u8 (c.toNat : Nat)) := fun k hk => by
    refine ⟨q[k], List.getElem?_eq_getElem (by omega), hc (m + k) _ ?_⟩
    rw [List.getElem?_append_right (by omega), hm, Nat.add_sub_cancel_left]
    exact List.getElem?_eq_getElem (by omega)
  have Hcell := Lib.hid hcell
  have Hm := Lib.hid hm
  have Hq := Lib.hid hq
  have Hp := Lib.hid hp
  clear hc hcell hm hq h hp
  go_enter Try.func36, Try.ntmps36
  go_wp2_with fail
  refine (HS.out w).mono ?_
  rintro e w' ⟨rfl, rfl⟩
  clear HS
  go_wp2_with fail
  go_loopw [16] (fun i wr => OpenRel p q w i wr) (fun i _ => (4 - intOf i).toNat)
  case atStart => exact ⟨0, by omega, rfl, fun j hj => absurd hj (by omega), 0, rfl⟩
  case round =>
    obtain ⟨k, hk, rfl, hf, n, hw⟩ := hrel
    by_cases hlt : k < 4
    · obtain ⟨c, hqc, hc⟩ := Hcell.out k hlt
      have hb4 := bytes4_at (CrcP.sum p) k hlt
      have hcw : wr.cell? ⟨b, o + (m + k), none⟩ = some (.int .u8 (c.toNat : Nat)) := by rw [hw]; exact hc
      have hc2 : c.toNat < 256 := c.toNat_lt
      have hy2 : CrcP.sum p / 256 ^ k % 256 < 256 := Nat.mod_lt _ (by omega)
      have hne := neq_bool c.toNat (CrcP.sum p / 256 ^ k % 256)
      have HP' := Lib.hid (HP.out k hlt)
      have hsum : IntKind.i64.wrap ((m : Int) + (k : Int)) = (m : Int) + (k : Int) := IntWalk.i64_in _ (by omega)
      by_cases heq : c.toNat = CrcP.sum p / 256 ^ k % 256
      · have HR : Hid (∀ n', OpenRel p q w (.int .i64 ((k : Int) + 1)) (wr.drewN n')) := Lib.hid fun n' => by
          rw [hw]
          have hx := open_rel p q w k (n + n') hlt hf (by rw [hqc, hb4]; congr 1; exact (u8_eq hy2).1 heq)
          rwa [← World.drewN_drewN] at hx
        rw [decide_eq_true heq] at hne
        simp only [Bool.not_true] at hne
        clear hf hw hqc hc hb4 heq
        generalize CrcP.sum p / 256 ^ k % 256 = y at *
        generalize c.toNat = x at *
        go_wp2_with fail
        go_quiet ((go_at_call 45; exact quiet_left (HP'.out _)))
        go_wp2_with fail
        go_roundw
        case rel => exact HR.out _
        case measure => simp [intOf]; omega
      · have HF : Hid (∀ n', OpenPost (p ++ q) w (.returned (.tuple #[.slice none 0 0, .bool false])) (wr.drewN n')) := Lib.hid fun n' => by
          rw [hw]
          refine .inr ⟨fits_not Hq.out (k := k) ?_, rfl, below_drewN2 (below_drewN2 (Below.refl _ _) _) _⟩
          rw [hqc, hb4]
          exact fun e => heq ((u8_eq hy2).2 (Option.some.inj e))
        rw [decide_eq_false heq] at hne
        simp only [Bool.not_false] at hne
        clear hf hw hqc hc hb4 heq
        generalize CrcP.sum p / 256 ^ k % 256 = y at *
        generalize c.toNat = x at *
        go_wp2_with fail
        go_quiet ((go_at_call 45; exact quiet_left (HP'.out _)))
        go_wp2_with fail
        go_ret2
        exact HF.out _
    · obtain rfl : k = 4 := by omega
      have HF : Hid (∀ v w1, w1.ownsRow w.heap.size 5 1 v m (bytesV p) → Below w.heap.size wr w1 → OpenPost (p ++ q) w (.returned (.tuple #[v, .bool true])) w1) := Lib.hid fun v w1 ho hb1 => by
        rw [hw] at hb1
        exact .inl ⟨p, v, fits_all Hq.out hf, rfl, by rw [Hm.out]; exact ho, (below_drewN2 (Below.refl _ _) n).trans hb1⟩
      have Hpw : Hid (Bytes wr w.heap.size (some ⟨b, o, none⟩) p) := Lib.hid (by rw [hw]; exact Hp.out)
      have hsz : Hid (w.heap.size ≤ wr.heap.size) := Lib.hid (by rw [hw]; exact Nat.le_refl _)
      have Hn := Lib.hid (World.ownsRow_nil (base := w.heap.size) (w := wr) (e := 5) (size := 1))
      clear hf hw
      go_wp2_with (at_builtin
                   refine wpList_append_b rfl (.const (.slice none 0 0)) (.tmp 32) _ rfl w.heap.size 5 (.int .u8 0) Try.underlying30 infoB2 rfl _ 0 [] rfl Hn.out w.heap.size (some ⟨b, o, none⟩) m cap p rfl Hm.out Hpw.out (by omega) hsz.out ?_
                   intro v1 w1 hown1 _ hb1
                   have HFF := Lib.hid (HF.out v1 w1 (by simpa using hown1) hb1)
                   clear hown1 hb1)
      go_ret2
      exact HFF.out

/-- crc.Open: of any bytes. -/
theorem open_any (A : Option Addr) (l : List UInt8) (n cap : Nat) (hn : l.length = n) (w : World) (hl : n ≤ 100000000) (hcap : n ≤ cap) (h : Bytes w w.heap.size A l) :
    Calls Try.prog 36 #[.slice A n cap] w (OpenPost l w) := by
  rcases Nat.lt_or_ge n 4 with h4 | h4
  · exact open_short A l n cap hn w h4
  · obtain ⟨m, rfl⟩ : ∃ m, n = m + 4 := ⟨n - 4, by omega⟩
    have e : l = l.take m ++ l.drop m := (List.take_append_drop m l).symm
    rw [e] at h ⊢
    exact open_long A (l.take m) (l.drop m) m cap (by simp; omega) (by simp; omega) w (by omega) hcap h
end Go.Proofs.Ytgceleipaiameaa
