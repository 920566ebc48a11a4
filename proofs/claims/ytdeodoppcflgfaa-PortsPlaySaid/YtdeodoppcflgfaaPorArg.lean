/- Arguments of chapter 13's laws opened: messages. Conditions: as each states. -/
import Derived.Test.YtdeodoppcflgfaaLawM
import Derived.ProofKit
import Derived.Test.YtdeodoppcflgfaaFraArg
namespace Go.Proofs.Ytdeodoppcflgfaa
open Go.WideShapes Go.RowKit
set_option maxRecDepth 100000

section
variable {H : Type} {enc : TypeId × Value → H} {w : World}
theorem msgs_open {v : Value} {d : DataW H} {p : List MemPlace} {r : Reach} {b0 : Nat}
    (hv : Value.okWide Try.prog w r b0 39 v) (h0 : DataW.Trod enc Try.prog w 0 (fun _ => true) true 39 v d p) (hw : ∀ k ∈ d.weights Try.prog 39, k ≤ reachBytes) :
    ∃ A l n cap, v = .slice A n cap ∧ l.length = n ∧ n ≤ cap ∧ n ≤ 4398046511104 ∧ MsgsIn w A l := by
  obtain ⟨a0, len0, cap0, rfl⟩ := okWide_slice Try.underlying39 hv
  obtain ⟨fuel, hf⟩ := h0
  exact msgs_trod (x := (d, p)) hf hw
end
end Go.Proofs.Ytdeodoppcflgfaa
