/- A region that draws its order: a narrower condition on the worlds serves from a step on. No conditions. -/
import Derived.Deep.RegionHeld3
namespace Go.Proofs.Ytgceleipaiameaa
theorem wpAnyH_mono {P : Program} {md : Region.Mode} {ops : Array Oper} {Q : Exit → Act → World → Prop} {S S' : World → Prop} (hi : ∀ w, S' w → S w) :
    ∀ (fuel : Nat) (listed : Array Bool) (a : Act) (w : World), wpAnyH P md ops Q S' fuel listed a w → wpAnyH P md ops Q S fuel listed a w
  | 0, _, _, _, h => h
  | fuel + 1, _, _, _, h => ⟨h.1, fun i hr => wpOp_mono (fun a' w' h' => ⟨hi _ h'.1, wpAnyH_mono hi fuel _ a' w' h'.2⟩) (h.2 i hr)⟩
end Go.Proofs.Ytgceleipaiameaa
