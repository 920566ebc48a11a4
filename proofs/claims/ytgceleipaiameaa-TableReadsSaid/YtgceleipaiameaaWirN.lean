/- Contracts of the document's Reader: Text and End. Conditions: where it lies. -/
import Derived.Test.YtgceleipaiameaaWirI
namespace Go.Proofs.Ytgceleipaiameaa
open Go.RowKit Go.Extern.Stop Go.Stop Go.Extern

section
variable {P : Program}
/-- s[lo:hi], empty or not. -/
theorem run_slice_mid0 (W : World) (t e : TypeId) (ht : P.underlying t = some (.slice e)) (hz : ∀ w, (Go.sizeOf e).run P w = .ok 1 w) (b o : Nat) (len cap : Nat) (lo hi : Int) (k n : Nat) (hlo : lo = k) (hhi : hi = (k + n : Nat)) (h2 : k + n ≤ cap) :
    (Instr.slice t (.slice (some ⟨b, o, none⟩) len cap) (some (.int .i64 lo)) (some (.int .i64 hi)) none).run P W = .ok (.slice (some (if cap = k then ⟨b, o, none⟩ else ⟨b, o + k, none⟩)) n (cap - k)) W := by
  subst hlo hhi
  have ht' : P.underlying t = some (.slice (P.elem t)) := by simp [Program.elem, ht]
  have he : P.elem t = e := by simp [Program.elem, ht]
  rw [run_slice_lh W t _ _ _ ht' .i64 .i64 _ _ (by omega) (by omega) (by omega), he, hz]
  have ha : (⟨b, o, none⟩ : Addr).add (k * 1) = ⟨b, o + k, none⟩ := by rw [Nat.mul_one]; exact addr_addB b o k
  simp only [Result.andThen, sliced, Int.toNat_natCast]
  by_cases h : cap = k
  · rw [if_pos h, if_pos h]
    congr 2
    omega
  · rw [if_neg h, if_neg h]
    simp only [Option.map_some, ha]
    congr 2
    omega
end

/-- What the document's Text answers: a new slice of the bytes. -/
def RefTellPost (rr : Nat) (A : Option Addr) (n cap : Nat) (l : List UInt8) (t : WireP.Told) (w : World) (e : Ending) (w' : World) : Prop :=
  ∃ v g, e = .returned v ∧ Row w' w.heap.size 5 g v t.l ∧ RefAt w' rr A n cap l t.at_ t.short ∧ Apart (RF rr) w w'

theorem ref_byte {w : World} {rr : Nat} {A : Option Addr} {n cap : Nat} {l : List UInt8} {a c : Nat} (h : RefAt w rr A n cap l a false) (ha : a < n) (hc : (l.getD a 0).toNat = c) : ∃ b o, A = some ⟨b, o, none⟩ ∧ w.cell? ⟨b, o + a, none⟩ = some (.int .u8 (c : Nat)) := by
  have hl := h.len
  obtain ⟨b, o, e, _, h2⟩ := h.bytes.at_ (k := a) (by omega)
  refine ⟨b, o, e, ?_⟩
  rw [h2]
  have e9 : l[a].toNat = c := Eq.trans (by simp [List.getD, List.getElem?_eq_getElem (show a < l.length by omega)]) hc
  rw [e9]

theorem alloc_cells {w : World} {rr : Nat} {x y z : Value} {t : TypeId} (h : w.heap[rr]? = some (.cells #[x, y, z] t (0, 0))) {w1 : World} (hb : Below w.heap.size w w1) : w1.cell? ⟨rr, 0, none⟩ = some x ∧ w1.cell? ⟨rr, 1, none⟩ = some y := by
  have := three_cells ((hb.block rr (lt_of_block h)).trans h)
  exact ⟨this.1, this.2.1⟩

/-- What the document's End answers. -/
def RefEndPost (x : List UInt8) (w : World) (e : Ending) (w' : World) : Prop := e = .returned (strV x) ∧ Below w.heap.size w w'

theorem refend_any (rr : Nat) (A : Option Addr) (n cap : Nat) (l : List UInt8) (a : Nat) (sh : Bool) (w : World) (h : RefAt w rr A n cap l a sh) :
    Calls Try.prog 43 #[.pointer (some ⟨rr, 0, none⟩)] w (RefEndPost (endText sh a n) w) := by
  obtain ⟨k0, k1, k2, f0, f1, f2⟩ := three_cells h.block
  have hp := h.place
  have hmo := h.most
  cases sh with
  | true =>
    have e1 : endText true a n = errText true a := rfl
    have hne : (errText true a).isEmpty = false := atT_ne' 4 (a : Nat)
    rw [e1]
    generalize errText true a = x at *
    have HF : Hid (∀ m, RefEndPost x w (.returned (strV x)) (w.drewN m)) := Lib.hid fun m => ⟨rfl, below_drewN (Below.refl _ _) m⟩
    simp only [strV] at k2 HF
    clear h e1
    go_enter Try.func43, Try.ntmps43
    go_wp2_with fail
    go_quiet (fail)
    go_wp2_with fail
    go_ret
    exact HF.out _
  | false =>
    have he : errText false a = [] := rfl
    rw [he] at k2
    simp only [strV] at k2
    by_cases hlt : a < n
    · have q : decide (a < n) = true := decide_eq_true hlt
      have e1 : endText false a n = atT 5 (a : Nat) := by simp [endText, hlt]
      have HA := Lib.hid (fun W => at_any 5 (a : Nat) W (by omega) (by omega))
      rw [e1]
      generalize atT 5 ((a : Nat) : Int) = x at *
      have HF : Hid (∀ m w1, Below (w.drewN m).heap.size (w.drewN m) w1 → RefEndPost x w (.returned (strV x)) w1) := Lib.hid fun m w1 hb => ⟨rfl, hb.os, hb.tape, hb.output, hb.size, hb.block⟩
      simp only [strV] at HA HF
      clear h e1 he
      go_enter Try.func43, Try.ntmps43
      go_wp2_with fail
      go_quiet (fail)
      go_wp2_with fail
      refine (HA.out _).mono ?_
      rintro e w1 ⟨rfl, hb1⟩
      have HFF := Lib.hid (HF.out _ w1 hb1)
      clear hb1
      go_wp2_with fail
      go_ret
      exact HFF.out
    · have q : decide (a < n) = false := decide_eq_false hlt
      have e1 : endText false a n = [] := by simp [endText, hlt]
      rw [e1]
      have HF : Hid (∀ m, RefEndPost [] w (.returned (.string ⟨#[]⟩)) (w.drewN m)) := Lib.hid fun m => ⟨rfl, below_drewN (Below.refl _ _) m⟩
      clear h e1 he
      go_enter Try.func43, Try.ntmps43
      go_wp2_with fail
      go_quiet (fail)
      go_wp2_with fail
      go_ret
      exact HF.out _
end Go.Proofs.Ytgceleipaiameaa
