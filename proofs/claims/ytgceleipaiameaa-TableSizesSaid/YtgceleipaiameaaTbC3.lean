/- Contract of table's lawful. Conditions: numbers within their types. -/
import Derived.Test.YtgceleipaiameaaTbC2
namespace Go.Proofs.Ytgceleipaiameaa
open Go.RowKit
set_option maxRecDepth 100000

set_option maxHeartbeats 2000000 in
theorem lawful_any (x : TableP.Port) (np : Nat) (hn : np ≤ 12) (w : World) :
    Calls Try.prog 33 #[.agg (portVals x).toArray, .int .i64 (np : Nat)] w (BoolPost (decide (TableP.portOk np x)) w) := by
  have HT : Hid (TableP.portOk np x → Ending.returned (.bool true) = .returned (.bool (decide (TableP.portOk np x)))) := Lib.hid fun h => by rw [decide_eq_true h]
  have HN : Hid (¬ TableP.portOk np x → Ending.returned (.bool false) = .returned (.bool (decide (TableP.portOk np x)))) := Lib.hid fun h => by rw [decide_eq_false h]
  have HB := Lib.hid (fun t => ((Below.refl w.heap.size w).alloc (Nat.le_refl _) (.cells (portVals x).toArray t)))
  have HM := Lib.hid (fun t m => below_drewN' ((Below.refl w.heap.size w).alloc (Nat.le_refl _) (.cells (portVals x).toArray t)) m)
  obtain ⟨part, kind, out, size, depth, fresh⟩ := x
  simp only [portVals] at HB HM ⊢
  unfold BoolPost
  generalize hD : decide (TableP.portOk np ⟨part, kind, out, size, depth, fresh⟩) = D at *
  simp only [TableP.portOk] at HT HN
  clear hD
  have U0 := Lib.hid (fun W => place_any part np (by omega) W)
  have U1 := Lib.hid (fun W => within_any size 0 16 W)
  have U2 := Lib.hid (fun W => mostFresh_any out W)
  have U3 := Lib.hid (fun m W => within_any fresh 0 m W)
  have U4 := Lib.hid (fun W => within_any depth 1 4 W)
  clear hn
  go_enter Try.func33, Try.ntmps33
  go_wp2_with fail
  refine (U0.out _).mono ?_
  rintro e w1 ⟨rfl, rfl⟩
  by_cases h0 : TableP.up part 0 ((np : Int) - 1)
  case neg =>
    have HF := Lib.hid (HN.out (fun h => h0 h.1))
    rw [decide_eq_false h0]
    clear h0
    go_wp2_with fail
    go_ret
    exact ⟨HF.out, HB.out _⟩
  rw [decide_eq_true h0]
  have K0 := Lib.hid h0
  clear h0
  go_wp2_with fail
  refine (U1.out _).mono ?_
  rintro e w1 ⟨rfl, rfl⟩
  by_cases h1 : TableP.up size 0 16
  case neg =>
    have HF := Lib.hid (HN.out (fun h => h1 h.2.1))
    rw [decide_eq_false h1]
    clear h1
    go_wp2_with fail
    go_ret
    exact ⟨HF.out, HB.out _⟩
  rw [decide_eq_true h1]
  have K1 := Lib.hid h1
  clear h1
  by_cases hk : kind = 1
  case pos =>
    subst hk
    have qk : (((1 : Nat) : Int) == 1) = true := rfl
    by_cases hd : depth = 0
    case neg =>
      have qd : (depth == 0) = false := by rw [beq_eq_false_iff_ne]; exact hd
      have HF := Lib.hid (HN.out (fun h => by
        rcases h.2.2 with ⟨_, h3, _⟩ | ⟨h3, _⟩
        · exact hd h3
        · cases h3))
      clear hd
      go_wp2_with fail
      go_quiet (fail)
      go_wp2_with fail
      go_ret
      exact ⟨HF.out, HM.out _ _⟩
    subst hd
    by_cases hf : TableP.up fresh 0 (if out = true then 0 else 8)
    case neg =>
      have HF := Lib.hid (HN.out (fun h => by
        rcases h.2.2 with ⟨_, _, ⟨h3, h4⟩, h5⟩ | ⟨h3, _⟩
        · refine hf ⟨h3, ?_⟩
          cases out with
          | true =>
            have : fresh = 0 := Classical.byContradiction fun h => h5 ⟨rfl, h⟩
            simp [this]
          | false => simpa using h4
        · cases h3))
      have U5 : Hid (∀ W, Calls Try.prog 50 #[.int .i64 fresh, .int .i64 0, .int .i64 (if out = true then 0 else 8)] W (Pure (.bool false) W)) := Lib.hid fun W => by have := U3.out (if out = true then 0 else 8) W; rwa [decide_eq_false hf] at this
      clear hf U3 HT HN
      generalize (if out = true then (0 : Int) else 8) = bb at *
      go_wp2_with fail
      go_quiet ((first | (go_at_call 51; exact quiet_pure (U2.out _)) | (go_at_call 50; exact quiet_pure (U5.out _))))
      go_wp2_with fail
      go_ret
      exact ⟨HF.out, HM.out _ _⟩
    have HF := Lib.hid (HT.out ⟨K0.out, K1.out, .inl ⟨rfl, rfl, ⟨hf.1, by have := hf.2; cases out <;> simp at this <;> omega⟩, fun h => by
      have h1 := hf.1
      have h2 := hf.2
      rw [if_pos h.1] at h2
      exact h.2 (by omega)⟩⟩)
    have U5 : Hid (∀ W, Calls Try.prog 50 #[.int .i64 fresh, .int .i64 0, .int .i64 (if out = true then 0 else 8)] W (Pure (.bool true) W)) := Lib.hid fun W => by have := U3.out (if out = true then 0 else 8) W; rwa [decide_eq_true hf] at this
    clear hf U3 HT HN
    generalize (if out = true then (0 : Int) else 8) = bb at *
    go_wp2_with fail
    go_quiet ((first | (go_at_call 51; exact quiet_pure (U2.out _)) | (go_at_call 50; exact quiet_pure (U5.out _))))
    go_wp2_with fail
    go_ret
    exact ⟨HF.out, HM.out _ _⟩
  have qk : ((kind : Int) == 1) = false := by rw [beq_eq_false_iff_ne]; omega
  by_cases hk2 : kind = 2
  case neg =>
    have qk2 : ((kind : Int) == 2) = false := by rw [beq_eq_false_iff_ne]; omega
    have HF := Lib.hid (HN.out (fun h => by
      rcases h.2.2 with ⟨h3, _⟩ | ⟨h3, _⟩
      · exact hk h3
      · exact hk2 h3))
    clear hk hk2
    go_wp2_with fail
    go_ret
    exact ⟨HF.out, HB.out _⟩
  subst hk2
  clear hk qk
  go_wp2_with fail
  refine (U4.out _).mono ?_
  rintro e w1 ⟨rfl, rfl⟩
  by_cases h4 : TableP.up depth 1 4
  case neg =>
    have HF := Lib.hid (HN.out (fun h => by
      rcases h.2.2 with ⟨h3, _⟩ | ⟨_, h3, _⟩
      · cases h3
      · exact h4 h3))
    rw [decide_eq_false h4]
    clear h4
    go_wp2_with fail
    go_ret
    exact ⟨HF.out, HB.out _⟩
  rw [decide_eq_true h4]
  have K4 := Lib.hid h4
  clear h4
  by_cases hf : fresh = 0
  case neg =>
    have qf : (fresh == 0) = false := by rw [beq_eq_false_iff_ne]; exact hf
    have HF := Lib.hid (HN.out (fun h => by
      rcases h.2.2 with ⟨h3, _⟩ | ⟨_, _, h3⟩
      · cases h3
      · exact hf h3))
    clear hf
    go_wp2_with fail
    go_ret
    exact ⟨HF.out, HB.out _⟩
  subst hf
  have HF := Lib.hid (HT.out ⟨K0.out, K1.out, .inr ⟨trivial, K4.out, rfl⟩⟩)
  go_wp2_with fail
  go_ret
  exact ⟨HF.out, HB.out _⟩
end Go.Proofs.Ytgceleipaiameaa
