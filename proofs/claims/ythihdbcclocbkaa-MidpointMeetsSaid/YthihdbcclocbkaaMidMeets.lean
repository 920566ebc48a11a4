/- MidpointMeets: for every input the law returns true, and the arguments read afterwards as before. Conditions: none. -/
import Derived.Test.YthihdbcclocbkaaMidJ
import Derived.Test.YthihdbcclocbkaaMidArg
import Derived.ProofKit
import Derived.Test.YthihdbcclocbkaaLawKit
import Derived.Test.YthihdbcclocbkaaOwn
namespace Go.Proofs.Ythihdbcclocbkaa
open Go.ChangeShapes Go.WideShapes Go.ChangeAt Go.RowKit

set_option maxRecDepth 100000 in
theorem mmeets_lifted (os : Os) (started : os.Started) (H : Type) (enc : TypeId × Value → H) :
    ReturnsInHanded {} Try.checked os 5 .any (Rows.midpointMeetsSpec.pre6 enc Try.prog Try.f5 Rows.midpointMeetsRow.domain false) (Rows.midpointMeetsSpec.post enc Try.prog Try.f5 false true false false) := by
  refine returnsInHanded_of_change_sized (C := Try.checked) own started (by kernel_rfl) Try.func5
    (ChangeSpec.witness6 (enc := enc) (C := Try.checked) false ⟨#[], #[.slice none 0 0, .slice none 0 0, .slice none 0 0, .slice none 0 0, .int .i64 0, .int .i64 0], []⟩ 8 (by kernel_rfl) (by kernel_rfl) (by kernel_rfl) (by kernel_rfl)) ?_
  intro W base args ds gs before hval0 hW hcnd hsz0 _
  have hval : ∀ (j : Nat) t v, Try.f5.params[j]? = some t → args[j]? = some v → Value.okWide Try.prog W .any base t v := hval0
  have hsz : (DataW.weightsEach Try.prog (Try.f5.params.toList ++ Rows.midpointMeetsSpec.plain.varTypes Try.prog) (ds ++ gs)).all (· ≤ reachBytes) = true := hsz0
  have hW' := hW
  obtain ⟨p, q, hA0, hV, -, -, -⟩ := hW
  have hA : DataW.TrodAll enc Try.prog W 0 (fun _ => true) true Try.f5.params.toList args.toList ds p := hA0
  rw [Try.params5] at hA hval hsz
  obtain ⟨v0, v1, v2, v3, v4, v5, d0, d1, d2, d3, d4, d5, p0, p1, p2, p3, p4, p5, rfl, rfl, rfl, h0, h1, h2, h3, h4, h5⟩ := trodAll_six hA
  have hw0 : ∀ k ∈ d0.weights Try.prog 22, k ≤ reachBytes := fun k hk => by
    have := List.all_eq_true.1 hsz k (DataW.weights_mem_each (j := 0) (t := 22) (d := d0) rfl rfl k hk)
    simpa using this
  obtain ⟨A0, l0, n0, c0, rfl, hl0, hn0, hi0, hr0⟩ := ints_open (hval 0 22 v0 rfl rfl) h0 hw0
  have hw1 : ∀ k ∈ d1.weights Try.prog 22, k ≤ reachBytes := fun k hk => by
    have := List.all_eq_true.1 hsz k (DataW.weights_mem_each (j := 1) (t := 22) (d := d1) rfl rfl k hk)
    simpa using this
  obtain ⟨A1, l1, n1, c1, rfl, hl1, hn1, hi1, hr1⟩ := ints_open (hval 1 22 v1 rfl rfl) h1 hw1
  have hw2 : ∀ k ∈ d2.weights Try.prog 22, k ≤ reachBytes := fun k hk => by
    have := List.all_eq_true.1 hsz k (DataW.weights_mem_each (j := 2) (t := 22) (d := d2) rfl rfl k hk)
    simpa using this
  obtain ⟨A2, l2, n2, c2, rfl, hl2, hn2, hi2, hr2⟩ := ints_open (hval 2 22 v2 rfl rfl) h2 hw2
  have hw3 : ∀ k ∈ d3.weights Try.prog 22, k ≤ reachBytes := fun k hk => by
    have := List.all_eq_true.1 hsz k (DataW.weights_mem_each (j := 3) (t := 22) (d := d3) rfl rfl k hk)
    simpa using this
  obtain ⟨A3, l3, n3, c3, rfl, hl3, hn3, hi3, hr3⟩ := ints_open (hval 3 22 v3 rfl rfl) h3 hw3
  obtain ⟨a4, rfl, rfl, rfl, w4⟩ := open_int Try.underlying3 (hval 4 3 v4 rfl rfl) h4
  obtain ⟨a5, rfl, rfl, rfl, w5⟩ := open_int Try.underlying3 (hval 5 3 v5 rfl rfl) h5
  refine (mmeets_law A0 n0 c0 l0 hl0 A1 n1 c1 l1 hl1 A2 n2 c2 l2 hl2 A3 n3 c3 l3 hl3 a4 a5 W hi0 hr0 hi1 hr1 hi2 hr2 hi3 hr3).mono fun e W' ⟨he, hb⟩ => ⟨_, he, ?_⟩
  obtain ⟨rfl, rfl⟩ := trodVars_none hV
  exact law_post rowLaidOut (by rw [Try.params5]; intro t ht; simp at ht; rcases ht with rfl | rfl | rfl | rfl | rfl | rfl <;> exact ⟨by kernel_rfl, of_decide_eq_true (by kernel_rfl)⟩) Try.underlying4 rfl rfl rfl hW' hb

theorem mmeets_holds : Rows.MidpointMeetsSaid :=
  OpenClaim.holds_of_wide 5 Try.f5 rfl rfl rfl rfl rfl rfl rfl ⟨rfl, rfl, rfl, rfl, rfl⟩ rfl rfl rfl rfl rfl (by kernel_rfl) Try.func5 (by kernel_rfl)
    (of_decide_eq_true (by kernel_rfl)) (by unfold Func.isWrapper; rw [if_neg (of_decide_eq_false (by kernel_rfl))]; exact ⟨rfl, rfl⟩)
    (fun os started H enc _ => mmeets_lifted os started H enc)
#print axioms mmeets_holds
end Go.Proofs.Ythihdbcclocbkaa
