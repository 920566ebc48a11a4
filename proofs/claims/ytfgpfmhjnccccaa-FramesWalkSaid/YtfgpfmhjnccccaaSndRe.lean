/- Contract of sound's Reach: the walk. Conditions: the tables are allowed. -/
import Derived.Test.YtfgpfmhjnccccaaSndW
import Derived.Deep.OwnRows
namespace Go.Proofs.Ytfgpfmhjnccccaa
open Go.RowKit
set_option maxRecDepth 100000

theorem bare_rep (n : Nat) : RchP.bare (List.replicate n false) = n := by
  induction n with
  | zero => rfl
  | succ n ih => unfold RchP.bare at *; rw [List.replicate_succ, List.countP_cons, ih]; rfl
theorem edges_in {c : TableP.Cfg} (h : SndP.Allowed c) : ∀ e ∈ RchP.edges c, e.1 < c.parts.length ∧ e.2 < c.parts.length := fun e he => by
  unfold RchP.edges at he
  obtain ⟨r, hr, rfl⟩ := List.mem_map.1 he
  obtain ⟨s, d, -, pa, pb, -, -, a, b, -, -, h1, h2, h3⟩ := ends_of h hr
  rw [h3]; exact ⟨h1, h2⟩

end Go.Proofs.Ytfgpfmhjnccccaa
