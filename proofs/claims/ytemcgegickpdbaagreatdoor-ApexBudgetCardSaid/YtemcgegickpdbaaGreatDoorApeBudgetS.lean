/- ApexBudget: for every input the law returns true, and the arguments read afterwards as before; the row lists errors.errorType, and the card ties it to the program's text. Conditions: those that the given row prints. -/
import Derived.ProofKit
import Derived.Test.YtemcgegickpdbaaGreatDoorTie
import Derived.Test.YtemcgegickpdbaaGreatDoorCards
import Derived.Test.YtemcgegickpdbaaGreatDoorSl30
import Derived.Test.YtemcgegickpdbaaGreatDoorSl29
import Derived.Test.YtemcgegickpdbaaGreatDoorSl14
import Derived.Test.YtemcgegickpdbaaGreatDoorSl13
namespace Go.Proofs.YtemcgegickpdbaaGreatDoor
open Go.ChangeShapes Go.WideShapes Go.ChangeAt Go.RowKit

set_option maxRecDepth 100000 in
theorem abudget_lifted (os : Os) (started : os.Started) (H : Type) (enc : TypeId × Value → H) :
    ReturnsInHanded {} Tryz.checked os 4 .any (fun w args => (Rows.apexBudgetSpec.pre enc Tryz.prog Tryz.f4 [] false w args ∧ laidMetH Tryz.prog laidOf w) ∧ sizedMet enc Tryz.prog Tryz.f4 (OpenSpec.ofChange Rows.apexBudgetSpec) false w args)
      (Rows.apexBudgetSpec.post enc Tryz.prog Tryz.f4 false true false false) := by
  refine returnsInHanded_of_change_and (C := Tryz.checked) (X := fun w _ => laidMetH Tryz.prog laidOf w) (fun _ _ _ hh h => h.of_heap hh) own started (by kernel_rfl) Tryz.func4
    (ChangeSpec.witness_at (enc := enc) (C := Tryz.checked) (os := os) (X := fun w _ => laidMetH Tryz.prog laidOf w) false (laidWorld os) #[.int .i64 0, .slice none 0 0] 8 rfl (by kernel_rfl) (by kernel_rfl) (by kernel_rfl) (by kernel_rfl) (by kernel_rfl) (laidWorld_met os _)) ?_
  intro W base args ds gs before hval0 hW _ hsz0 hL _
  have hval : ∀ (j : Nat) t v, Tryz.f4.params[j]? = some t → args[j]? = some v → Value.okWide Tryz.prog W .any base t v := hval0
  have hsz : (DataW.weightsEach Tryz.prog (Tryz.f4.params.toList ++ Rows.apexBudgetSpec.plain.varTypes Tryz.prog) (ds ++ gs)).all (· ≤ reachBytes) = true := hsz0
  have hW' := hW
  have hg := hasType_of_laid hL
  obtain ⟨p, q, hA0, hV0, -, -, -⟩ := hW
  have hA : DataW.TrodAll enc Tryz.prog W 0 (fun _ => true) true Tryz.f4.params.toList args.toList ds p := hA0
  rw [Tryz.params4] at hA hval hsz
  obtain ⟨v0, v1, d0, d1, p0, p1, rfl, rfl, -, h0, h1⟩ := trodAll_two hA
  obtain ⟨a0, rfl, rfl, rfl, w0⟩ := open_int Tryz.underlying3 (hval 0 3 v0 rfl rfl) h0
  have hw1 : ∀ k ∈ d1.weights Tryz.prog 68, k ≤ reachBytes := fun k hk => by
    have := List.all_eq_true.1 hsz k (DataW.weights_mem_each (j := 1) (t := 68) (d := d1) rfl rfl k hk)
    simpa using this
  obtain ⟨A1, l1, n1, c1, rfl, hl1, hc1, hn1, hi1⟩ := ops_open (hval 1 68 v1 rfl rfl) h1 hw1
  refine (budget_law a0 A1 n1 c1 l1 hl1 W hg hi1).mono fun e W' ⟨he, hb⟩ => ⟨_, he, ?_⟩
  obtain ⟨rfl, rfl⟩ := trodVars_none hV0
  exact law_post rowLaidOut (by rw [Tryz.params4]; intro t ht; simp at ht; rcases ht with rfl | rfl <;> exact ⟨by kernel_rfl, of_decide_eq_true (by kernel_rfl)⟩) Tryz.underlying4 rfl rfl rfl hW' hb

theorem abudget_holds : Rows.ApexBudgetSaid :=
  OpenClaim.holds_of_wide 4 Tryz.f4 rfl rfl rfl rfl rfl rfl rfl ⟨rfl, rfl, rfl, rfl, rfl⟩ rfl rfl rfl rfl rfl (by kernel_rfl) Tryz.func4 (by kernel_rfl)
    (of_decide_eq_true (by kernel_rfl)) (by unfold Func.isWrapper; rw [if_neg (of_decide_eq_false (by kernel_rfl))]; exact ⟨rfl, rfl⟩)
    (fun os started H enc _ => abudget_lifted os started H enc)

theorem abudget_card : Rows.ApexBudgetCardSaid :=
  Claim7.holds_tied_plain_at .later [] [.handle] true _ true
    abudget_holds (fun _ h => by cases h) (by kernel_rfl) (fun _ h => by cases h) apexBudget_row_tie rfl ⟨rfl, rfl⟩ (by kernel_rfl) rfl
    (fun f fn hf hfn => by
      obtain rfl : f = 4 := Option.some.inj ((show Tryz.prog.funcNamed "escapement/escapementlaw16.ApexBudget" = some 4 by kernel_rfl).symm.trans hf) |>.symm
      obtain rfl : fn = Tryz.f4 := (Option.some.inj (Tryz.func4.symm.trans hfn)).symm
      exact ⟨by kernel_rfl, fun j t ht => by
        rw [Tryz.params4] at ht
        rcases j with _ | _ | j
        · obtain rfl : t = 3 := by simpa using ht.symm
          exact (show Tryz.prog.wantsStandIn 3 = false by kernel_rfl)
        · obtain rfl : t = 68 := by simpa using ht.symm
          exact (show Tryz.prog.wantsStandIn 68 = false by kernel_rfl)
        · simp at ht⟩)
    (by kernel_rfl)
#print axioms abudget_card
end Go.Proofs.YtemcgegickpdbaaGreatDoor
