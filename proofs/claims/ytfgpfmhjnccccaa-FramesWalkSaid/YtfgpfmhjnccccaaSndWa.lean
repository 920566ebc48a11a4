/- Contracts of the document's walk and Reach. Conditions: the tables are allowed. -/
import Derived.Test.YtfgpfmhjnccccaaSndX
import Derived.Test.YtfgpfmhjnccccaaSndRe
namespace Go.Proofs.Ytfgpfmhjnccccaa
open Go.RowKit
set_option maxRecDepth 100000

def WalkPost (w0 : World) (g n : Nat) (E : List (Nat × Nat)) (a : Nat) (bl : List Bool) (W : World) (e : Ending) (w' : World) : Prop :=
  e = .returned (.tuple #[]) ∧ Apart (fun q => q = g) W w' ∧ ∃ bl2, w'.ownsRow w0.heap.size 4 1 (.slice (some ⟨g, 0, none⟩) n n) n (bitV bl2) ∧ RchP.Dfs E a bl bl2
theorem bits_cell {w : World} {B g n : Nat} {bl : List Bool} (h : w.ownsRow B 4 1 (.slice (some ⟨g, 0, none⟩) n n) n (bitV bl)) {k : Nat} {b : Bool} (hk : bl[k]? = some b) (hkn : k < n) : w.cell? ⟨g, k, none⟩ = some (.bool b) := by
  rw [h.cellAt k (by omega)]; exact bitV_get hk
theorem bits_lt {w : World} {B g n : Nat} {xs : List Value} (h : w.ownsRow B 4 1 (.slice (some ⟨g, 0, none⟩) n n) n xs) : B ≤ g ∧ g < w.heap.size := h.lt g (by simp [Value.ownBlock])

/-- The loop's state. -/
def WkR (w0 W : World) (x : CfgC) (g : Nat) (E : List (Nat × Nat)) (a : Nat) (bl : List Bool) (i : Value) (wr : World) : Prop :=
  ∃ (k : Nat) (T : List Bool), k ≤ x.rn ∧ i = .int .i64 (k : Nat) ∧ Apart (fun q => q = g) (boxC W x) wr ∧ wr.ownsRow w0.heap.size 4 1 (.slice (some ⟨g, 0, none⟩) x.pn x.pn) x.pn (bitV T) ∧ RchP.DfsI E ((x.routes.take k).map (RchP.edge x.ports)) a bl T

end Go.Proofs.Ytfgpfmhjnccccaa
