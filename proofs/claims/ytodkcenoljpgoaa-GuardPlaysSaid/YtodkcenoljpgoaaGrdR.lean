/- A guardian, boxed tables and a row of a law's own, side by side. Conditions: those that each states. -/
import Derived.Test.YtodkcenoljpgoaaGrdB
import Derived.Test.YtodkcenoljpgoaaGrdArg
namespace Go.Proofs.Ytodkcenoljpgoaa
open Go.RowKit
set_option maxRecDepth 100000

/-- The boxed tables x, a guardian with the tables y, and a row of N cells of the law's own. -/
structure GS (w : World) (x y : CfgC) (b : Nat) (ps : List Bool) (g N : Nat) (e : TypeId) (row : List Value) (W : World) : Prop where
  box : BoxS w x W
  guard : GuardIn W b y ps
  lo : (boxC w x).heap.size ≤ b
  row_ : W.ownsRow (boxC w x).heap.size e 1 (.slice (some ⟨g, 0, none⟩) N N) N row
section
variable {w : World} {x y : CfgC} {b : Nat} {ps qs : List Bool} {g N : Nat} {e : TypeId} {row : List Value} {W W' : World}
theorem GS.step (h : GS w x y b ps g N e row W) (hb : Below W.heap.size W W') : GS w x y b ps g N e row W' :=
  ⟨h.box.step hb, h.guard.below hb, h.lo, own_apart (F := fun _ => False) h.row_ (Apart.of_below' hb) (fun _ _ h => h)⟩
theorem GS.drew (h : GS w x y b ps g N e row W) : GS w x y b ps g N e row W.drew := h.step (Below.refl _ _).drew
theorem GS.drewN (h : GS w x y b ps g N e row W) (m : Nat) : GS w x y b ps g N e row (W.drewN m) := h.step (below_drewN (Below.refl _ _) m)
theorem GS.come (h : GS w x y b ps g N e row W) (hg : GuardIn W' b y qs) (ha : Apart (fun q => q = b) W W') (hne : e ≠ 66) : GS w x y b qs g N e row W' :=
  ⟨h.box.trans (ha.below h.box.size (fun k hk => by subst hk; exact h.lo)), hg, h.lo, own_apart h.row_ ha (fun k hk => own_off h.row_ h.guard.at_ hne k hk)⟩
theorem GS.gl (h : GS w x y b ps g N e row W) : (boxC w x).heap.size ≤ g ∧ g < W.heap.size := h.row_.lt g (by simp [Value.ownBlock])
theorem GS.stored (h : GS w x y b ps g N e row W) (hne : e ≠ 66) (j : Nat) (v : Value) : GS w x y b ps g N e (row.set j v) (W.setCell ⟨g, j, none⟩ v) := by
  have h2 := h.row_.stored j v
  have hgb : g ≠ b := own_off h.row_ h.guard.at_ hne g (by simp [Value.ownBlock])
  refine ⟨Below.grown h.box h2.2 h.box.size (fun q hq => ?_), h.guard.apart ((Apart.refl (fun q => q = g) W).setCell (p := ⟨g, j, none⟩) (.inl rfl) v) (fun e => hgb e.symm), h.lo, h2.1⟩
  cases hq
  exact h.gl.1
theorem GS.cell (h : GS w x y b ps g N e row W) {j : Nat} {v : Value} (hj : row[j]? = some v) (hjN : j < N) : W.cell? ⟨g, j, none⟩ = some v := by
  rw [h.row_.cellAt j (by omega)]; exact hj
theorem GS.free (h : GS w x y b ps g N e row W) (j : Nat) : W.frozen? ⟨g, j, none⟩ = false := h.row_.frozenAt j
end

/-- How often something passed, as ints: never, or once. -/
def cntV (l : List Bool) : List Value := l.map fun p => if p = true then .int .i64 1 else .int .i64 0
theorem cntV_get {l : List Bool} {k : Nat} {p : Bool} (h : l[k]? = some p) : (cntV l)[k]? = some (if p = true then .int .i64 1 else .int .i64 0) := by simp [cntV, h]
theorem cntV_set (l : List Bool) (k : Nat) : cntV (l.set k true) = (cntV l).set k (.int .i64 1) := by simp [cntV, List.map_set]
theorem cnts_made {w : World} {B n : Nat} {e : TypeId} (hB : B ≤ w.heap.size) (hn : n ≤ maxLen) : (w.alloc (.cells (madeCells #[.int .i64 0] n) e)).ownsRow B e 1 (.slice (some ⟨w.heap.size, 0, none⟩) n n) n (cntV (List.replicate n false)) := by
  have h1 := World.ownsRow_lit (e := e) (size := 1) (base := B) w (madeCells #[.int .i64 0] n) n hB hn (by have := congrArg List.length (toList_madeCells_one (.int .i64 0) n); simpa using this)
  rw [toList_madeCells_one] at h1
  have e1 : cntV (List.replicate n false) = List.replicate n (.int .i64 0) := by simp [cntV]
  rw [e1]
  exact h1
theorem take_rep {N : Nat} (h : N ≤ 7) : p0.take N = List.replicate N false := by
  unfold p0
  rw [List.take_replicate, Nat.min_eq_left h]

/-- A node's number out of any number. -/
theorem node_of (a : Int) (N : Nat) (hN : 0 < N) (hN7 : N ≤ 7) : ∃ t : Nat, t < N ∧ wrap64 ((IntKind.u64.wrap a).tmod (N : Int)) = (t : Int) := by
  have e : IntKind.u64.wrap a = a % 18446744073709551616 := by simp [IntKind.wrap, IntKind.bits, IntKind.signed]
  rw [e]
  have h0 : 0 ≤ a % 18446744073709551616 := Int.emod_nonneg _ (by decide)
  generalize a % 18446744073709551616 = b at *
  rw [Int.tmod_eq_emod_of_nonneg h0]
  have h1 : 0 ≤ b % (N : Int) := Int.emod_nonneg _ (by omega)
  have h2 : b % (N : Int) < (N : Int) := Int.emod_lt_of_pos _ (by omega)
  generalize b % (N : Int) = d at *
  refine ⟨d.toNat, by omega, ?_⟩
  rw [IntWalk.wrap64_in d ⟨by omega, by omega⟩]
  omega
/-- What is left of a division by m, from -(m - 1) to m - 1. -/
theorem tmod_in (a m : Int) (hm : 0 < m) : -m < a.tmod m ∧ a.tmod m < m := by
  by_cases h : 0 ≤ a
  · rw [Int.tmod_eq_emod_of_nonneg h]
    have := Int.emod_nonneg a (b := m) (by omega)
    have := Int.emod_lt_of_pos a hm
    omega
  · have e : a.tmod m = -((-a).tmod m) := by rw [Int.neg_tmod]; omega
    rw [e, Int.tmod_eq_emod_of_nonneg (by omega)]
    have := Int.emod_nonneg (-a) (b := m) (by omega)
    have := Int.emod_lt_of_pos (-a) hm
    omega
end Go.Proofs.Ytodkcenoljpgoaa
