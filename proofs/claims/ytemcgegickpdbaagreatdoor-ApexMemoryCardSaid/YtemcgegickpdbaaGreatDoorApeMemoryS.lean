/- ApexMemory: for every input the law returns true, and the arguments read afterwards as before; the row lists errors.errorType, and the card ties it to the program's text. Conditions: those that the given row prints. -/
import Derived.ProofKit
import Derived.Test.YtemcgegickpdbaaGreatDoorTie
import Derived.Test.YtemcgegickpdbaaGreatDoorCards
import Derived.Test.YtemcgegickpdbaaGreatDoorSm06
import Derived.Test.YtemcgegickpdbaaGreatDoorSl14
import Derived.Test.YtemcgegickpdbaaGreatDoorSl13
namespace Go.Proofs.YtemcgegickpdbaaGreatDoor
open Go.ChangeShapes Go.WideShapes Go.ChangeAt Go.RowKit

set_option maxRecDepth 100000 in
theorem amem_lifted (os : Os) (started : os.Started) (H : Type) (enc : TypeId × Value → H) :
    ReturnsInHanded {} Tryz.checked os 5 .any (fun w args => (Rows.apexMemorySpec.pre enc Tryz.prog Tryz.f5 [] false w args ∧ laidMetH Tryz.prog laidOf w) ∧ sizedMet enc Tryz.prog Tryz.f5 (OpenSpec.ofChange Rows.apexMemorySpec) false w args)
      (Rows.apexMemorySpec.post enc Tryz.prog Tryz.f5 false true false false) := by
  refine returnsInHanded_of_change_and (C := Tryz.checked) (X := fun w _ => laidMetH Tryz.prog laidOf w) (fun _ _ _ hh h => h.of_heap hh) own started (by kernel_rfl) Tryz.func5
    (ChangeSpec.witness_at (enc := enc) (C := Tryz.checked) (os := os) (X := fun w _ => laidMetH Tryz.prog laidOf w) false (laidWorld os) #[.slice none 0 0] 8 rfl (by kernel_rfl) (by kernel_rfl) (by kernel_rfl) (by kernel_rfl) (by kernel_rfl) (laidWorld_met os _)) ?_
  intro W base args ds gs before hval0 hW _ hsz0 hL _
  have hval : ∀ (j : Nat) t v, Tryz.f5.params[j]? = some t → args[j]? = some v → Value.okWide Tryz.prog W .any base t v := hval0
  have hsz : (DataW.weightsEach Tryz.prog (Tryz.f5.params.toList ++ Rows.apexMemorySpec.plain.varTypes Tryz.prog) (ds ++ gs)).all (· ≤ reachBytes) = true := hsz0
  have hW' := hW
  have hg := hasType_of_laid hL
  obtain ⟨p, q, hA0, hV0, -, -, -⟩ := hW
  have hA : DataW.TrodAll enc Tryz.prog W 0 (fun _ => true) true Tryz.f5.params.toList args.toList ds p := hA0
  rw [Tryz.params5] at hA hval hsz
  obtain ⟨v0, d0, rfl, rfl, h0⟩ := trodAll_one hA
  have hw0 : ∀ k ∈ d0.weights Tryz.prog 97, k ≤ reachBytes := fun k hk => by
    have := List.all_eq_true.1 hsz k (DataW.weights_mem_each (j := 0) (t := 97) (d := d0) rfl rfl k hk)
    simpa using this
  obtain ⟨A0, l0, n0, c0, rfl, hl0, hn0, hi0, ho0⟩ := pairs_open (hval 0 97 v0 rfl rfl) h0 hw0
  refine (memory_law A0 n0 c0 l0 hl0 hn0 W hg hi0 ho0).mono fun e W' ⟨he, hb⟩ => ⟨_, he, ?_⟩
  obtain ⟨rfl, rfl⟩ := trodVars_none hV0
  exact law_post rowLaidOut (by rw [Tryz.params5]; intro t ht; simp at ht; subst ht; exact ⟨by kernel_rfl, of_decide_eq_true (by kernel_rfl)⟩) Tryz.underlying4 rfl rfl rfl hW' hb

theorem amem_holds : Rows.ApexMemorySaid :=
  OpenClaim.holds_of_wide 5 Tryz.f5 rfl rfl rfl rfl rfl rfl rfl ⟨rfl, rfl, rfl, rfl, rfl⟩ rfl rfl rfl rfl rfl (by kernel_rfl) Tryz.func5 (by kernel_rfl)
    (of_decide_eq_true (by kernel_rfl)) (by unfold Func.isWrapper; rw [if_neg (of_decide_eq_false (by kernel_rfl))]; exact ⟨rfl, rfl⟩)
    (fun os started H enc _ => amem_lifted os started H enc)

theorem amem_card : Rows.ApexMemoryCardSaid :=
  Claim7.holds_tied_plain_at .later [] [.handle] true _ true
    amem_holds (fun _ h => by cases h) (by kernel_rfl) (fun _ h => by cases h) apexMemory_row_tie rfl ⟨rfl, rfl⟩ (by kernel_rfl) rfl
    (fun f fn hf hfn => by
      obtain rfl : f = 5 := Option.some.inj ((show Tryz.prog.funcNamed "escapement/escapementlaw16.ApexMemory" = some 5 by kernel_rfl).symm.trans hf) |>.symm
      obtain rfl : fn = Tryz.f5 := (Option.some.inj (Tryz.func5.symm.trans hfn)).symm
      exact ⟨by kernel_rfl, fun j t ht => by
        rw [Tryz.params5] at ht
        rcases j with _ | j
        · obtain rfl : t = 97 := by simpa using ht.symm
          exact (show Tryz.prog.wantsStandIn 97 = false by kernel_rfl)
        · simp at ht⟩)
    (by kernel_rfl)
#print axioms amem_card
end Go.Proofs.YtemcgegickpdbaaGreatDoor
