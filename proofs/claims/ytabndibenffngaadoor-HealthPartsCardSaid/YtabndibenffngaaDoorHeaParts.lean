/- HealthParts: for every input the law returns true, and the arguments read afterwards as before; the row lists errors.errorType, and the card ties it to the program's text. Conditions: those that the given row prints. -/
import Derived.Test.YtabndibenffngaaDoorHeaK
import Derived.Test.YtabndibenffngaaDoorMidArg
import Derived.Test.YtabndibenffngaaDoorHeaArg
import Derived.ProofKit
import Derived.Test.YtabndibenffngaaDoorLaid
import Derived.Test.YtabndibenffngaaDoorTie
import Derived.Test.YtabndibenffngaaDoorCards
namespace Go.Proofs.YtabndibenffngaaDoor
open Go.ChangeShapes Go.WideShapes Go.ChangeAt Go.RowKit

set_option maxRecDepth 100000 in
theorem hparts_lifted (os : Os) (started : os.Started) (H : Type) (enc : TypeId × Value → H) :
    ReturnsInHanded {} Tryd.checked os 8 .any (fun w args => (Rows.healthPartsSpec.pre enc Tryd.prog Tryd.f8 [] false w args ∧ laidMetH Tryd.prog laidOf w) ∧ sizedMet enc Tryd.prog Tryd.f8 (OpenSpec.ofChange Rows.healthPartsSpec) false w args)
      (Rows.healthPartsSpec.post enc Tryd.prog Tryd.f8 false true false false) := by
  refine returnsInHanded_of_change_and (C := Tryd.checked) (X := fun w _ => laidMetH Tryd.prog laidOf w) (fun _ _ _ hh h => h.of_heap hh) own started (by kernel_rfl) Tryd.func8
    (ChangeSpec.witness_at (enc := enc) (C := Tryd.checked) (os := os) (X := fun w _ => laidMetH Tryd.prog laidOf w) false (laidWorld os) #[.slice none 0 0, .slice none 0 0] 8 rfl (by kernel_rfl) (by kernel_rfl) (by kernel_rfl) (by kernel_rfl) (by kernel_rfl) (laidWorld_met os _)) ?_
  intro W base args ds gs before hval0 hW _ hsz0 _ _
  have hval : ∀ (j : Nat) t v, Tryd.f8.params[j]? = some t → args[j]? = some v → Value.okWide Tryd.prog W .any base t v := hval0
  have hsz : (DataW.weightsEach Tryd.prog (Tryd.f8.params.toList ++ Rows.healthPartsSpec.plain.varTypes Tryd.prog) (ds ++ gs)).all (· ≤ reachBytes) = true := hsz0
  have hW' := hW
  obtain ⟨p, q, hA0, hV0, -, -, -⟩ := hW
  have hA : DataW.TrodAll enc Tryd.prog W 0 (fun _ => true) true Tryd.f8.params.toList args.toList ds p := hA0
  rw [Tryd.params8] at hA hval hsz
  obtain ⟨v0, v1, d0, d1, p0, p1, rfl, rfl, -, h0, h1⟩ := trodAll_two hA
  have hw0 : ∀ k ∈ d0.weights Tryd.prog 77, k ≤ reachBytes := fun k hk => by
    have := List.all_eq_true.1 hsz k (DataW.weights_mem_each (j := 0) (t := 77) (d := d0) rfl rfl k hk)
    simpa using this
  obtain ⟨A0, l0, n0, c0, rfl, hl0, hn0, hi0⟩ := u32s_open (hval 0 77 v0 rfl rfl) h0 hw0
  have hw1 : ∀ k ∈ d1.weights Tryd.prog 66, k ≤ reachBytes := fun k hk => by
    have := List.all_eq_true.1 hsz k (DataW.weights_mem_each (j := 1) (t := 66) (d := d1) rfl rfl k hk)
    simpa using this
  obtain ⟨A1, l1, n1, c1, rfl, hl1, hn1, hi1, hr1⟩ := ints_open (hval 1 66 v1 rfl rfl) h1 hw1
  refine (hparts_law A0 n0 c0 l0 hl0 A1 n1 c1 l1 hl1 W hi0 hi1).mono fun e W' ⟨he, hb⟩ => ⟨_, he, ?_⟩
  obtain ⟨rfl, rfl⟩ := trodVars_none hV0
  exact law_post rowLaidOut (by rw [Tryd.params8]; intro t ht; simp at ht; rcases ht with rfl | rfl <;> exact ⟨by kernel_rfl, of_decide_eq_true (by kernel_rfl)⟩) Tryd.underlying4 rfl rfl rfl hW' hb

theorem hparts_holds : Rows.HealthPartsSaid :=
  OpenClaim.holds_of_wide 8 Tryd.f8 rfl rfl rfl rfl rfl rfl rfl ⟨rfl, rfl, rfl, rfl, rfl⟩ rfl rfl rfl rfl rfl (by kernel_rfl) Tryd.func8 (by kernel_rfl)
    (of_decide_eq_true (by kernel_rfl)) (by unfold Func.isWrapper; rw [if_neg (of_decide_eq_false (by kernel_rfl))]; exact ⟨rfl, rfl⟩)
    (fun os started H enc _ => hparts_lifted os started H enc)

theorem hparts_card : Rows.HealthPartsCardSaid :=
  Claim7.holds_tied_plain_at .later [] [.handle] true _ true
    hparts_holds (fun _ h => by cases h) (by kernel_rfl) (fun _ h => by cases h) healthParts_row_tie rfl ⟨rfl, rfl⟩ (by kernel_rfl) rfl
    (fun f fn hf hfn => by
      obtain rfl : f = 8 := Option.some.inj ((show Tryd.prog.funcNamed "escapement/escapementlaw15.HealthParts" = some 8 by kernel_rfl).symm.trans hf) |>.symm
      obtain rfl : fn = Tryd.f8 := (Option.some.inj (Tryd.func8.symm.trans hfn)).symm
      exact ⟨by kernel_rfl, fun j t ht => by
        rw [Tryd.params8] at ht
        rcases j with _ | _ | j
        · obtain rfl : t = 77 := by simpa using ht.symm
          exact (show Tryd.prog.wantsStandIn 77 = false by kernel_rfl)
        · obtain rfl : t = 66 := by simpa using ht.symm
          exact (show Tryd.prog.wantsStandIn 66 = false by kernel_rfl)
        · simp at ht⟩)
    (by kernel_rfl)
#print axioms hparts_card
end Go.Proofs.YtabndibenffngaaDoor
