/- Contract of fault.outermost at an error in memory: its first fault, or nil. Conditions: errors.errorType holds the type error; where the faults lie. -/
import Derived.Test.YtabndibenffngaaDoorErrH
namespace Go.Proofs.YtabndibenffngaaDoor
open Go.RowKit Go.Extern.Stop Go.Stop Go.Extern

theorem newAt (w : World) (o : Obj) : (w.alloc o).heap[w.heap.size]? = some o := by
  show (w.heap.push o)[w.heap.size]? = _
  simp
theorem newAt1 (w : World) (o o' : Obj) : ((w.alloc o).alloc o').heap[w.heap.size + 1]? = some o' := by
  have h : (w.alloc o).heap.size = w.heap.size + 1 := by simp
  rw [← h]
  exact newAt _ _

def ptrOf : List (Nat × Int × Int) → Value
  | [] => .pointer none
  | (b, _, _) :: _ => .pointer (some ⟨b, 0, none⟩)

def OutR (l : List (Nat × Int × Int)) (q : Nat) (r : Bool) (w1 : World) : Prop := r = !l.isEmpty ∧ w1.heap[q]? = some (.cells #[ptrOf l] 80 (0, 0))

theorem Asked.imp {w : World} {row : Option Nat} {R R' : Bool → World → Prop} {e : Ending} {w' : World} (h : Asked w row R e w') (hR : ∀ r w1, R r w1 → R' r w1) : Asked w row R' e w' := by
  obtain ⟨r, he, hg, hr⟩ := h
  exact ⟨r, he, hg, hR _ _ hr⟩

theorem enters41 (args : Array Value) (w : World) : (callFunc 57 args).run Tryd.prog w = .ok (.enter 57 args) w :=
  enters Tryd.func57 (by kernel_rfl) rfl args w

theorem asFault_nil (w : World) : (Instr.typeAssert .nilIface 25 80 true).run Tryd.prog w = .ok (.tuple #[.pointer none, .bool false]) w := by kernel_rfl

end Go.Proofs.YtabndibenffngaaDoor
