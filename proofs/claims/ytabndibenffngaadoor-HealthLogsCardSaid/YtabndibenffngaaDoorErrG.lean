/- Contracts of errors.As as a question that is asked safely (Asked): at nil, at a fault for a **api.Fault, at an Errno for a **api.Fault and for a *api.Errno. Conditions: errors.errorType holds the type error; the target is a variable of its own block. -/
import Derived.Test.YtabndibenffngaaDoorErrF
namespace Go.Proofs.YtabndibenffngaaDoor
open Go.RowKit Go.Extern.Stop Go.Stop Go.Extern

/-- errors.errorType holds the type error (the card ties it to the program's text). -/
def HasType (w : World) : Prop := w.cell? ⟨0, 0, none⟩ = some (.iface 138 (.agg #[.pointer (some ⟨1, 25, none⟩)]))
theorem HasType.pos {w : World} (h : HasType w) : 0 < w.heap.size := by
  rcases Nat.eq_zero_or_pos w.heap.size with h0 | h'
  · simp [HasType, World.cell?, h0] at h
  · exact h'
theorem HasType.keep {w w' : World} (h : HasType w) (hk : w'.heap[0]? = w.heap[0]?) : HasType w' := by
  unfold HasType at *
  rw [← h]
  exact World.cell?_of_block (a := ⟨0, 0, none⟩) hk

/-- How a world goes on: new blocks, and one old block that may be written. -/
theorem grown_alloc {w w' : World} {row : Option Nat} (h : w.grownBy w' row) (o : Obj) : w.grownBy (w'.alloc o) row :=
  ⟨h.os, h.tape, h.output, by have := h.size; simp; omega, fun k hk hne => (Below.heap_alloc _ _ _ (by have := h.size; omega)).trans (h.block k hk hne)⟩
theorem allocAt (w : World) (o : Obj) (k : Nat) (h : k < w.heap.size) : (w.alloc o).heap[k]? = w.heap[k]? := Below.heap_alloc w o k h

theorem as_nilA (t : Value) (row : Option Nat) (w : World) :
    Calls Tryd.prog 53 #[.nilIface, t] w (Asked w row fun r w1 => r = false ∧ w1 = w) :=
  (as_nil t w).mono fun _ _ ⟨he, hw⟩ => ⟨false, he, by subst hw; exact grown_refl _ _, rfl, hw.symm⟩
end Go.Proofs.YtabndibenffngaaDoor
