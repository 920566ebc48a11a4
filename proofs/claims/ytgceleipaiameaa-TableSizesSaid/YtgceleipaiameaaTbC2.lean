/- Contract of table's partInRange. Conditions: numbers within their types. -/
import Derived.Test.YtgceleipaiameaaTbC1
import Derived.Deep.QuietTactic
import Derived.BigQuiet
namespace Go.Proofs.Ytgceleipaiameaa
open Go.RowKit
set_option maxRecDepth 100000

theorem below_drewN' {B : Nat} {a w : World} (h : Below B a w) (m : Nat) : Below B a (w.drewN m) := ⟨h.os, h.tape, h.output, h.size, h.block⟩

set_option maxHeartbeats 2000000 in
theorem partInRange_any (x : TableP.Part) (nodes : Nat) (hn : nodes ≤ 7) (w : World) :
    Calls Try.prog 32 #[.agg (partVals x).toArray, .int .i64 (nodes : Nat)] w (BoolPost (decide (TableP.partOk nodes x)) w) := by
  have HT : Hid (TableP.partOk nodes x → Ending.returned (.bool true) = .returned (.bool (decide (TableP.partOk nodes x)))) := Lib.hid fun h => by rw [decide_eq_true h]
  have HN : Hid (¬ TableP.partOk nodes x → Ending.returned (.bool false) = .returned (.bool (decide (TableP.partOk nodes x)))) := Lib.hid fun h => by rw [decide_eq_false h]
  have HB := Lib.hid (fun t m => below_drewN' ((Below.refl w.heap.size w).alloc (Nat.le_refl _) (.cells (partVals x).toArray t)) m)
  have HB0 := Lib.hid (fun t => ((Below.refl w.heap.size w).alloc (Nat.le_refl _) (.cells (partVals x).toArray t)))
  obtain ⟨node, start, length, budget, words, r0, r1, r2, r3⟩ := x
  simp only [partVals] at HB HB0 ⊢
  unfold BoolPost
  generalize hD : decide (TableP.partOk nodes ⟨node, start, length, budget, words, r0, r1, r2, r3⟩) = D at *
  simp only [TableP.partOk] at HT HN
  clear hD
  have i0 : ∀ w : World, (Instr.index 58 (.agg #[.int .u8 (r0 : Nat), .int .u8 (r1 : Nat), .int .u8 (r2 : Nat), .int .u8 (r3 : Nat)]) (.int .i64 0)).run Try.prog w = .ok (.int .u8 (r0 : Nat)) w := fun _ => by kernel_rfl
  have i1 : ∀ w : World, (Instr.index 58 (.agg #[.int .u8 (r0 : Nat), .int .u8 (r1 : Nat), .int .u8 (r2 : Nat), .int .u8 (r3 : Nat)]) (.int .i64 1)).run Try.prog w = .ok (.int .u8 (r1 : Nat)) w := fun _ => by kernel_rfl
  have i2 : ∀ w : World, (Instr.index 58 (.agg #[.int .u8 (r0 : Nat), .int .u8 (r1 : Nat), .int .u8 (r2 : Nat), .int .u8 (r3 : Nat)]) (.int .i64 2)).run Try.prog w = .ok (.int .u8 (r2 : Nat)) w := fun _ => by kernel_rfl
  have i3 : ∀ w : World, (Instr.index 58 (.agg #[.int .u8 (r0 : Nat), .int .u8 (r1 : Nat), .int .u8 (r2 : Nat), .int .u8 (r3 : Nat)]) (.int .i64 3)).run Try.prog w = .ok (.int .u8 (r3 : Nat)) w := fun _ => by kernel_rfl
  go_enter Try.func32, Try.ntmps32
  go_wp2_with fail
  go_loopw [9] (fun i wr => (∃ k : Nat, k ≤ 4 ∧ i = .int .i64 (k : Nat) ∧ (0 < k → r0 ≤ 3) ∧ (1 < k → r1 ≤ 3) ∧ (2 < k → r2 ≤ 3) ∧ (3 < k → r3 ≤ 3)) ∧ wr = w.alloc (.cells #[.int .i64 node, .int .i64 start, .int .i64 length, .int .i64 budget, .int .i64 words, .int .u8 (r0 : Nat), .int .u8 (r1 : Nat), .int .u8 (r2 : Nat), .int .u8 (r3 : Nat)] 60)) (fun i _ => (5 - intOf i).toNat)
  case atStart => exact ⟨⟨0, by omega, rfl, fun h => by omega, fun h => by omega, fun h => by omega, fun h => by omega⟩, rfl⟩
  case round =>
    obtain ⟨⟨k, hk, rfl, g0, g1, g2, g3⟩, rfl⟩ := hrel
    have hk4 : k = 0 ∨ k = 1 ∨ k = 2 ∨ k = 3 ∨ k = 4 := by omega
    rcases hk4 with rfl | rfl | rfl | rfl | rfl
    · by_cases hr : r0 ≤ 3
      · have q1 : decide ((3 : Int) < r0) = false := decide_eq_false (by omega)
        have HG := Lib.hid (And.intro g0 (And.intro g1 (And.intro g2 g3)))
        have Hr := Lib.hid hr
        clear g0 g1 g2 g3 hr HT HN HB HB0
        go_wp2_with fail
        go_roundw
        case rel => exact ⟨⟨1, by omega, rfl, fun _ => Hr.out, fun h => by omega, fun h => by omega, fun h => by omega⟩, trivial⟩
        case measure => simp [intOf]
      · have q1 : decide ((3 : Int) < r0) = true := decide_eq_true (by omega)
        have HF := Lib.hid (HN.out (fun h => hr h.2.2.2.2.2.1))
        clear g0 g1 g2 g3 hr HT HN
        go_wp2_with fail
        go_ret
        exact ⟨HF.out, HB0.out _⟩
    · by_cases hr : r1 ≤ 3
      · have q1 : decide ((3 : Int) < r1) = false := decide_eq_false (by omega)
        have HG := Lib.hid (And.intro g0 (And.intro g1 (And.intro g2 g3)))
        have Hr := Lib.hid hr
        clear g0 g1 g2 g3 hr HT HN HB HB0
        go_wp2_with fail
        go_roundw
        case rel => exact ⟨⟨2, by omega, rfl, fun _ => HG.out.1 (by omega), fun _ => Hr.out, fun h => by omega, fun h => by omega⟩, trivial⟩
        case measure => simp [intOf]
      · have q1 : decide ((3 : Int) < r1) = true := decide_eq_true (by omega)
        have HF := Lib.hid (HN.out (fun h => hr h.2.2.2.2.2.2.1))
        clear g0 g1 g2 g3 hr HT HN
        go_wp2_with fail
        go_ret
        exact ⟨HF.out, HB0.out _⟩
    · by_cases hr : r2 ≤ 3
      · have q1 : decide ((3 : Int) < r2) = false := decide_eq_false (by omega)
        have HG := Lib.hid (And.intro g0 (And.intro g1 (And.intro g2 g3)))
        have Hr := Lib.hid hr
        clear g0 g1 g2 g3 hr HT HN HB HB0
        go_wp2_with fail
        go_roundw
        case rel => exact ⟨⟨3, by omega, rfl, fun _ => HG.out.1 (by omega), fun _ => HG.out.2.1 (by omega), fun _ => Hr.out, fun h => by omega⟩, trivial⟩
        case measure => simp [intOf]
      · have q1 : decide ((3 : Int) < r2) = true := decide_eq_true (by omega)
        have HF := Lib.hid (HN.out (fun h => hr h.2.2.2.2.2.2.2.1))
        clear g0 g1 g2 g3 hr HT HN
        go_wp2_with fail
        go_ret
        exact ⟨HF.out, HB0.out _⟩
    · by_cases hr : r3 ≤ 3
      · have q1 : decide ((3 : Int) < r3) = false := decide_eq_false (by omega)
        have HG := Lib.hid (And.intro g0 (And.intro g1 (And.intro g2 g3)))
        have Hr := Lib.hid hr
        clear g0 g1 g2 g3 hr HT HN HB HB0
        go_wp2_with fail
        go_roundw
        case rel => exact ⟨⟨4, by omega, rfl, fun _ => HG.out.1 (by omega), fun _ => HG.out.2.1 (by omega), fun _ => HG.out.2.2.1 (by omega), fun _ => Hr.out⟩, trivial⟩
        case measure => simp [intOf]
      · have q1 : decide ((3 : Int) < r3) = true := decide_eq_true (by omega)
        have HF := Lib.hid (HN.out (fun h => hr h.2.2.2.2.2.2.2.2))
        clear g0 g1 g2 g3 hr HT HN
        go_wp2_with fail
        go_ret
        exact ⟨HF.out, HB0.out _⟩
    · have HG := Lib.hid (And.intro (g0 (by omega)) (And.intro (g1 (by omega)) (And.intro (g2 (by omega)) (g3 (by omega)))))
      clear g0 g1 g2 g3
      have U0 := Lib.hid (fun W => place_any node nodes (by omega) W)
      have U1 := Lib.hid (fun W => within_any start 0 268435456 W)
      have U2 := Lib.hid (fun W => within_any length 1 268435456 W)
      have U3 := Lib.hid (fun W => within_any budget 0 64 W)
      have U4 := Lib.hid (fun W => within_any words 0 16 W)
      clear hn
      go_wp2_with fail
      refine (U0.out _).mono ?_
      rintro e w1 ⟨rfl, rfl⟩
      by_cases h0 : TableP.up node 0 ((nodes : Int) - 1)
      case neg =>
        have HF := Lib.hid (HN.out (fun h => h0 h.1))
        rw [decide_eq_false h0]
        clear h0
        go_wp2_with fail
        go_ret
        exact ⟨HF.out, HB0.out _⟩
      rw [decide_eq_true h0]
      have K0 := Lib.hid h0
      clear h0
      go_wp2_with fail
      refine (U1.out _).mono ?_
      rintro e w2 ⟨rfl, rfl⟩
      by_cases h1 : TableP.up start 0 268435456
      case neg =>
        have HF := Lib.hid (HN.out (fun h => h1 h.2.1))
        rw [decide_eq_false h1]
        clear h1
        go_wp2_with fail
        go_ret
        exact ⟨HF.out, HB0.out _⟩
      rw [decide_eq_true h1]
      have K1 := Lib.hid h1
      clear h1
      go_wp2_with fail
      refine (U2.out _).mono ?_
      rintro e w3 ⟨rfl, rfl⟩
      by_cases h2 : TableP.up length 1 268435456
      case neg =>
        have HF := Lib.hid (HN.out (fun h => h2 h.2.2.1))
        rw [decide_eq_false h2]
        clear h2
        go_wp2_with fail
        go_ret
        exact ⟨HF.out, HB0.out _⟩
      rw [decide_eq_true h2]
      have K2 := Lib.hid h2
      clear h2
      go_wp2_with fail
      refine (U3.out _).mono ?_
      rintro e w4 ⟨rfl, rfl⟩
      by_cases h3 : TableP.up budget 0 64
      case neg =>
        have HF := Lib.hid (HN.out (fun h => h3 h.2.2.2.1))
        rw [decide_eq_false h3]
        clear h3
        go_wp2_with fail
        go_ret
        exact ⟨HF.out, HB0.out _⟩
      rw [decide_eq_true h3]
      have K3 := Lib.hid h3
      clear h3
      go_wp2_with fail
      refine (U4.out _).mono ?_
      rintro e w5 ⟨rfl, rfl⟩
      by_cases h4 : TableP.up words 0 16
      case neg =>
        have HF := Lib.hid (HN.out (fun h => h4 h.2.2.2.2.1))
        rw [decide_eq_false h4]
        clear h4
        go_wp2_with fail
        go_ret
        exact ⟨HF.out, HB0.out _⟩
      rw [decide_eq_true h4]
      have K4 := Lib.hid h4
      clear h4
      go_wp2_with fail
      go_ret
      exact ⟨HT.out ⟨K0.out, K1.out, K2.out, K3.out, K4.out, HG.out.1, HG.out.2.1, HG.out.2.2.1, HG.out.2.2.2⟩, HB0.out _⟩
end Go.Proofs.Ytgceleipaiameaa
