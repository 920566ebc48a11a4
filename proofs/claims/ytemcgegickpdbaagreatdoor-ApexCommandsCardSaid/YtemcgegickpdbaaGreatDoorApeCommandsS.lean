/- ApexCommands: for every input the law returns true, and the arguments read afterwards as before; the row lists errors.errorType, and the card ties it to the program's text. Conditions: those that the given row prints. -/
import Derived.ProofKit
import Derived.Test.YtemcgegickpdbaaGreatDoorTie
import Derived.Test.YtemcgegickpdbaaGreatDoorCards
import Derived.Test.YtemcgegickpdbaaGreatDoorSn23
import Derived.Test.YtemcgegickpdbaaGreatDoorSn11
import Derived.Test.YtemcgegickpdbaaGreatDoorSn13
import Derived.Test.YtemcgegickpdbaaGreatDoorSn12
namespace Go.Proofs.YtemcgegickpdbaaGreatDoor
open Go.ChangeShapes Go.WideShapes Go.ChangeAt Go.RowKit

set_option maxRecDepth 100000 in
theorem acmds_lifted (os : Os) (started : os.Started) (H : Type) (enc : TypeId × Value → H) :
    ReturnsInHanded {} Tryz.checked os 7 .any (fun w args => (Rows.apexCommandsSpec.pre enc Tryz.prog Tryz.f7 [] false w args ∧ laidMetH Tryz.prog laidOf w) ∧ sizedMet enc Tryz.prog Tryz.f7 (OpenSpec.ofChange Rows.apexCommandsSpec) false w args)
      (Rows.apexCommandsSpec.post enc Tryz.prog Tryz.f7 false true false false) := by
  refine returnsInHanded_of_change_and (C := Tryz.checked) (X := fun w _ => laidMetH Tryz.prog laidOf w) (fun _ _ _ hh h => h.of_heap hh) own started (by kernel_rfl) Tryz.func7
    (ChangeSpec.witness_at (enc := enc) (C := Tryz.checked) (os := os) (X := fun w _ => laidMetH Tryz.prog laidOf w) false (laidWorld os) #[.slice none 0 0] 8 rfl (by kernel_rfl) (by kernel_rfl) (by kernel_rfl) (by kernel_rfl) (by kernel_rfl) (laidWorld_met os _)) ?_
  intro W base args ds gs before hval0 hW _ hsz0 hL _
  have hval : ∀ (j : Nat) t v, Tryz.f7.params[j]? = some t → args[j]? = some v → Value.okWide Tryz.prog W .any base t v := hval0
  have hsz : (DataW.weightsEach Tryz.prog (Tryz.f7.params.toList ++ Rows.apexCommandsSpec.plain.varTypes Tryz.prog) (ds ++ gs)).all (· ≤ reachBytes) = true := hsz0
  have hW' := hW
  have hg := hasType_of_laid hL
  obtain ⟨p, q, hA0, hV0, -, -, -⟩ := hW
  have hA : DataW.TrodAll enc Tryz.prog W 0 (fun _ => true) true Tryz.f7.params.toList args.toList ds p := hA0
  rw [Tryz.params7] at hA hval hsz
  obtain ⟨v0, d0, rfl, rfl, h0⟩ := trodAll_one hA
  have hw0 : ∀ k ∈ d0.weights Tryz.prog 68, k ≤ reachBytes := fun k hk => by
    have := List.all_eq_true.1 hsz k (DataW.weights_mem_each (j := 0) (t := 68) (d := d0) rfl rfl k hk)
    simpa using this
  obtain ⟨A0, l0, n0, c0, rfl, hl0, hc0, hn0, hi0⟩ := ops_open (hval 0 68 v0 rfl rfl) h0 hw0
  refine (commands_law A0 n0 c0 l0 hl0 W hg hi0).mono fun e W' ⟨he, hb⟩ => ⟨_, he, ?_⟩
  obtain ⟨rfl, rfl⟩ := trodVars_none hV0
  exact law_post rowLaidOut (by rw [Tryz.params7]; intro t ht; simp at ht; subst ht; exact ⟨by kernel_rfl, of_decide_eq_true (by kernel_rfl)⟩) Tryz.underlying4 rfl rfl rfl hW' hb

theorem acmds_holds : Rows.ApexCommandsSaid :=
  OpenClaim.holds_of_wide 7 Tryz.f7 rfl rfl rfl rfl rfl rfl rfl ⟨rfl, rfl, rfl, rfl, rfl⟩ rfl rfl rfl rfl rfl (by kernel_rfl) Tryz.func7 (by kernel_rfl)
    (of_decide_eq_true (by kernel_rfl)) (by unfold Func.isWrapper; rw [if_neg (of_decide_eq_false (by kernel_rfl))]; exact ⟨rfl, rfl⟩)
    (fun os started H enc _ => acmds_lifted os started H enc)

theorem acmds_card : Rows.ApexCommandsCardSaid :=
  Claim7.holds_tied_plain_at .later [] [.handle] true _ true
    acmds_holds (fun _ h => by cases h) (by kernel_rfl) (fun _ h => by cases h) apexCommands_row_tie rfl ⟨rfl, rfl⟩ (by kernel_rfl) rfl
    (fun f fn hf hfn => by
      obtain rfl : f = 7 := Option.some.inj ((show Tryz.prog.funcNamed "escapement/escapementlaw16.ApexCommands" = some 7 by kernel_rfl).symm.trans hf) |>.symm
      obtain rfl : fn = Tryz.f7 := (Option.some.inj (Tryz.func7.symm.trans hfn)).symm
      exact ⟨by kernel_rfl, fun j t ht => by
        rw [Tryz.params7] at ht
        rcases j with _ | j
        · obtain rfl : t = 68 := by simpa using ht.symm
          exact (show Tryz.prog.wantsStandIn 68 = false by kernel_rfl)
        · simp at ht⟩)
    (by kernel_rfl)
#print axioms acmds_card
end Go.Proofs.YtemcgegickpdbaaGreatDoor
