/- Contracts of table's within, place, mostFresh, way and the document's up. No conditions. · Contracts of table's inRange, partInRange, lawful. Conditions: numbers within their types. · Contract of table's partInRange. Conditions: numbers within their types. · Contract of table's lawful. Conditions: numbers within their types. -/
import Derived.Test.YtodkcenoljpgoaaWirG
import Derived.Test.YtodkcenoljpgoaaTbA
import Derived.Deep.QuietTactic
import Derived.BigQuiet
namespace Go.Proofs.Ytodkcenoljpgoaa
open Go.RowKit

/-- What a call that only computes answers. -/
def Pure (v : Value) (w : World) (e : Ending) (w' : World) : Prop := e = .returned v ∧ w = w'

theorem quiet_pure {P : Program} {f : FuncId} {args : Array Value} {w : World} {n : Nat} {v : Value}
    (h : Calls P f args (w.drewN n) (Pure v (w.drewN n))) : Calls P f args (w.drewN n) fun e w'' => e = .returned v ∧ ∃ m, w'' = w.drewN m :=
  h.mono fun _ _ ⟨he, hm⟩ => ⟨he, n, hm.symm⟩

theorem within_any (n a b : Int) (w : World) :
    Calls Try.prog 53 #[.int .i64 n, .int .i64 a, .int .i64 b] w (Pure (.bool (decide (TableP.up n a b))) w) := by
  by_cases h1 : a ≤ n
  · have e : decide (TableP.up n a b) = decide (n ≤ b) := by unfold TableP.up; simp [h1]
    have q1 : decide (a ≤ n) = true := decide_eq_true h1
    rw [e]; clear e h1
    go_enter Try.func53, Try.ntmps53
    go_wp2_with fail
    go_ret
    exact ⟨rfl, rfl⟩
  · have e : decide (TableP.up n a b) = false := by unfold TableP.up; simp [h1]
    have q1 : decide (a ≤ n) = false := decide_eq_false h1
    rw [e]; clear e h1
    go_enter Try.func53, Try.ntmps53
    go_wp2_with fail
    go_ret
    exact ⟨rfl, rfl⟩
theorem up_any (n a b : Int) (w : World) :
    Calls Try.prog 39 #[.int .i64 n, .int .i64 a, .int .i64 b] w (Pure (.bool (decide (TableP.up n a b))) w) := by
  by_cases h1 : a ≤ n
  · have e : decide (TableP.up n a b) = decide (n ≤ b) := by unfold TableP.up; simp [h1]
    have q1 : decide (a ≤ n) = true := decide_eq_true h1
    rw [e]; clear e h1
    go_enter Try.func39, Try.ntmps39
    go_wp2_with fail
    go_ret
    exact ⟨rfl, rfl⟩
  · have e : decide (TableP.up n a b) = false := by unfold TableP.up; simp [h1]
    have q1 : decide (a ≤ n) = false := decide_eq_false h1
    rw [e]; clear e h1
    go_enter Try.func39, Try.ntmps39
    go_wp2_with fail
    go_ret
    exact ⟨rfl, rfl⟩
theorem place_any (n : Int) (m : Nat) (hm : m ≤ 140737488355328) (w : World) :
    Calls Try.prog 46 #[.int .i64 n, .int .i64 (m : Nat)] w (Pure (.bool (decide (TableP.up n 0 ((m : Int) - 1)))) w) := by
  have HW := Lib.hid (fun W => within_any n 0 ((m : Int) - 1) W)
  have hw : IntKind.i64.wrap ((m : Int) - 1) = (m : Int) - 1 := IntWalk.i64_in _ (by omega)
  go_enter Try.func46, Try.ntmps46
  go_wp2_with fail
  refine (HW.out _).mono ?_
  rintro e w1 ⟨rfl, rfl⟩
  go_wp2_with fail
  go_ret
  exact ⟨rfl, rfl⟩
theorem mostFresh_any (o : Bool) (w : World) :
    Calls Try.prog 54 #[.bool o] w (Pure (.int .i64 (if o then 0 else 8)) w) := by
  cases o with
  | true =>
    go_enter Try.func54, Try.ntmps54
    go_wp2_with fail
    go_ret
    exact ⟨rfl, rfl⟩
  | false =>
    go_enter Try.func54, Try.ntmps54
    go_wp2_with fail
    go_ret
    exact ⟨rfl, rfl⟩
end Go.Proofs.Ytodkcenoljpgoaa
namespace Go.Proofs.Ytodkcenoljpgoaa
open Go.RowKit
set_option maxRecDepth 100000

def BoolPost (b : Bool) (w : World) (e : Ending) (w' : World) : Prop := e = .returned (.bool b) ∧ Below w.heap.size w w'

set_option maxHeartbeats 1000000 in
theorem inRange_any (x : CfgC) (w : World) :
    Calls Try.prog 43 #[x.value] w (BoolPost (decide (TableP.headOk x.plain)) w) := by
  have HT : Hid (TableP.headOk x.plain → Ending.returned (.bool true) = .returned (.bool (decide (TableP.headOk x.plain)))) := Lib.hid fun h => by rw [decide_eq_true h]
  have HN : Hid (¬ TableP.headOk x.plain → Ending.returned (.bool false) = .returned (.bool (decide (TableP.headOk x.plain)))) := Lib.hid fun h => by rw [decide_eq_false h]
  obtain ⟨nodes, faulty, slot, gap, rho, dmin, dmax, margin, PA, pn, pcap, parts, QA, qn, qcap, ports, RA, rn, rcap, routes⟩ := x
  have HB := Lib.hid (fun t => (Below.refl w.heap.size w).alloc (Nat.le_refl _) (.cells (cfgCells ⟨nodes, faulty, slot, gap, rho, dmin, dmax, margin, PA, pn, pcap, parts, QA, qn, qcap, ports, RA, rn, rcap, routes⟩) t))
  simp only [cfgCells] at HB
  simp only [CfgC.value]
  unfold TableP.headOk at HT HN
  simp only [CfgC.plain] at HT HN
  have U0 := Lib.hid (fun W => within_any nodes 1 7 W)
  have U1 := Lib.hid (fun W => within_any faulty 0 2 W)
  have U2 := Lib.hid (fun W => within_any slot 1 16777216 W)
  have U3 := Lib.hid (fun W => within_any gap 0 16777216 W)
  have U4 := Lib.hid (fun W => within_any rho 0 200 W)
  have U5 := Lib.hid (fun W => within_any dmax 0 1048576 W)
  have U6 := Lib.hid (fun W => within_any dmin 0 dmax W)
  have U7 := Lib.hid (fun W => within_any margin 0 16777216 W)
  unfold BoolPost
  simp only [CfgC.plain, TableP.headOk]
  generalize hD : decide (TableP.up nodes 1 7 ∧ TableP.up faulty 0 2 ∧ TableP.up slot 1 16777216 ∧ TableP.up gap 0 16777216 ∧ TableP.up rho 0 200 ∧ TableP.up dmax 0 1048576 ∧ TableP.up dmin 0 dmax ∧ TableP.up margin 0 16777216) = D at *
  clear hD
  go_enter Try.func43, Try.ntmps43
  go_wp2_with fail
  refine (U0.out _).mono ?_
  rintro e w1 ⟨rfl, rfl⟩
  by_cases h0 : TableP.up nodes 1 7
  case neg =>
    have HF := Lib.hid (HN.out (fun h => h0 h.1))
    rw [decide_eq_false h0]
    clear h0
    go_wp2_with fail
    go_ret
    exact ⟨HF.out, HB.out _⟩
  rw [decide_eq_true h0]
  have K0 := Lib.hid h0
  clear h0
  go_wp2_with fail
  refine (U1.out _).mono ?_
  rintro e w2 ⟨rfl, rfl⟩
  by_cases h1 : TableP.up faulty 0 2
  case neg =>
    have HF := Lib.hid (HN.out (fun h => h1 h.2.1))
    rw [decide_eq_false h1]
    clear h1
    go_wp2_with fail
    go_ret
    exact ⟨HF.out, HB.out _⟩
  rw [decide_eq_true h1]
  have K1 := Lib.hid h1
  clear h1
  go_wp2_with fail
  refine (U2.out _).mono ?_
  rintro e w3 ⟨rfl, rfl⟩
  by_cases h2 : TableP.up slot 1 16777216
  case neg =>
    have HF := Lib.hid (HN.out (fun h => h2 h.2.2.1))
    rw [decide_eq_false h2]
    clear h2
    go_wp2_with fail
    go_ret
    exact ⟨HF.out, HB.out _⟩
  rw [decide_eq_true h2]
  have K2 := Lib.hid h2
  clear h2
  go_wp2_with fail
  refine (U3.out _).mono ?_
  rintro e w4 ⟨rfl, rfl⟩
  by_cases h3 : TableP.up gap 0 16777216
  case neg =>
    have HF := Lib.hid (HN.out (fun h => h3 h.2.2.2.1))
    rw [decide_eq_false h3]
    clear h3
    go_wp2_with fail
    go_ret
    exact ⟨HF.out, HB.out _⟩
  rw [decide_eq_true h3]
  have K3 := Lib.hid h3
  clear h3
  go_wp2_with fail
  refine (U4.out _).mono ?_
  rintro e w5 ⟨rfl, rfl⟩
  by_cases h4 : TableP.up rho 0 200
  case neg =>
    have HF := Lib.hid (HN.out (fun h => h4 h.2.2.2.2.1))
    rw [decide_eq_false h4]
    clear h4
    go_wp2_with fail
    go_ret
    exact ⟨HF.out, HB.out _⟩
  rw [decide_eq_true h4]
  have K4 := Lib.hid h4
  clear h4
  go_wp2_with fail
  refine (U5.out _).mono ?_
  rintro e w6 ⟨rfl, rfl⟩
  by_cases h5 : TableP.up dmax 0 1048576
  case neg =>
    have HF := Lib.hid (HN.out (fun h => h5 h.2.2.2.2.2.1))
    rw [decide_eq_false h5]
    clear h5
    go_wp2_with fail
    go_ret
    exact ⟨HF.out, HB.out _⟩
  rw [decide_eq_true h5]
  have K5 := Lib.hid h5
  clear h5
  go_wp2_with fail
  refine (U6.out _).mono ?_
  rintro e w7 ⟨rfl, rfl⟩
  by_cases h6 : TableP.up dmin 0 dmax
  case neg =>
    have HF := Lib.hid (HN.out (fun h => h6 h.2.2.2.2.2.2.1))
    rw [decide_eq_false h6]
    clear h6
    go_wp2_with fail
    go_ret
    exact ⟨HF.out, HB.out _⟩
  rw [decide_eq_true h6]
  have K6 := Lib.hid h6
  clear h6
  go_wp2_with fail
  refine (U7.out _).mono ?_
  rintro e w8 ⟨rfl, rfl⟩
  by_cases h7 : TableP.up margin 0 16777216
  case neg =>
    have HF := Lib.hid (HN.out (fun h => h7 h.2.2.2.2.2.2.2))
    rw [decide_eq_false h7]
    clear h7
    go_wp2_with fail
    go_ret
    exact ⟨HF.out, HB.out _⟩
  rw [decide_eq_true h7]
  have K7 := Lib.hid h7
  clear h7
  go_wp2_with fail
  go_ret
  exact ⟨HT.out ⟨K0.out, K1.out, K2.out, K3.out, K4.out, K5.out, K6.out, K7.out⟩, HB.out _⟩
end Go.Proofs.Ytodkcenoljpgoaa
namespace Go.Proofs.Ytodkcenoljpgoaa
open Go.RowKit
set_option maxRecDepth 100000

theorem below_drewN' {B : Nat} {a w : World} (h : Below B a w) (m : Nat) : Below B a (w.drewN m) := ⟨h.os, h.tape, h.output, h.size, h.block⟩

set_option maxHeartbeats 2000000 in
theorem partInRange_any (x : TableP.Part) (nodes : Nat) (hn : nodes ≤ 7) (w : World) :
    Calls Try.prog 44 #[.agg (partVals x).toArray, .int .i64 (nodes : Nat)] w (BoolPost (decide (TableP.partOk nodes x)) w) := by
  have HT : Hid (TableP.partOk nodes x → Ending.returned (.bool true) = .returned (.bool (decide (TableP.partOk nodes x)))) := Lib.hid fun h => by rw [decide_eq_true h]
  have HN : Hid (¬ TableP.partOk nodes x → Ending.returned (.bool false) = .returned (.bool (decide (TableP.partOk nodes x)))) := Lib.hid fun h => by rw [decide_eq_false h]
  have HB := Lib.hid (fun t m => below_drewN' ((Below.refl w.heap.size w).alloc (Nat.le_refl _) (.cells (partVals x).toArray t)) m)
  have HB0 := Lib.hid (fun t => ((Below.refl w.heap.size w).alloc (Nat.le_refl _) (.cells (partVals x).toArray t)))
  obtain ⟨node, start, length, budget, words, r0, r1, r2, r3⟩ := x
  simp only [partVals] at HB HB0 ⊢
  unfold BoolPost
  generalize hD : decide (TableP.partOk nodes ⟨node, start, length, budget, words, r0, r1, r2, r3⟩) = D at *
  simp only [TableP.partOk] at HT HN
  clear hD
  have i0 : ∀ w : World, (Instr.index 69 (.agg #[.int .u8 (r0 : Nat), .int .u8 (r1 : Nat), .int .u8 (r2 : Nat), .int .u8 (r3 : Nat)]) (.int .i64 0)).run Try.prog w = .ok (.int .u8 (r0 : Nat)) w := fun _ => by kernel_rfl
  have i1 : ∀ w : World, (Instr.index 69 (.agg #[.int .u8 (r0 : Nat), .int .u8 (r1 : Nat), .int .u8 (r2 : Nat), .int .u8 (r3 : Nat)]) (.int .i64 1)).run Try.prog w = .ok (.int .u8 (r1 : Nat)) w := fun _ => by kernel_rfl
  have i2 : ∀ w : World, (Instr.index 69 (.agg #[.int .u8 (r0 : Nat), .int .u8 (r1 : Nat), .int .u8 (r2 : Nat), .int .u8 (r3 : Nat)]) (.int .i64 2)).run Try.prog w = .ok (.int .u8 (r2 : Nat)) w := fun _ => by kernel_rfl
  have i3 : ∀ w : World, (Instr.index 69 (.agg #[.int .u8 (r0 : Nat), .int .u8 (r1 : Nat), .int .u8 (r2 : Nat), .int .u8 (r3 : Nat)]) (.int .i64 3)).run Try.prog w = .ok (.int .u8 (r3 : Nat)) w := fun _ => by kernel_rfl
  go_enter Try.func44, Try.ntmps44
  go_wp2_with fail
  go_loopw [9] (fun i wr => (∃ k : Nat, k ≤ 4 ∧ i = .int .i64 (k : Nat) ∧ (0 < k → r0 ≤ 3) ∧ (1 < k → r1 ≤ 3) ∧ (2 < k → r2 ≤ 3) ∧ (3 < k → r3 ≤ 3)) ∧ wr = w.alloc (.cells #[.int .i64 node, .int .i64 start, .int .i64 length, .int .i64 budget, .int .i64 words, .int .u8 (r0 : Nat), .int .u8 (r1 : Nat), .int .u8 (r2 : Nat), .int .u8 (r3 : Nat)] 71)) (fun i _ => (5 - intOf i).toNat)
  case atStart => exact ⟨⟨0, by omega, rfl, fun h => by omega, fun h => by omega, fun h => by omega, fun h => by omega⟩, rfl⟩
  case round =>
    obtain ⟨⟨k, hk, rfl, g0, g1, g2, g3⟩, rfl⟩ := hrel
    have hk4 : k = 0 ∨ k = 1 ∨ k = 2 ∨ k = 3 ∨ k = 4 := by omega
    rcases hk4 with rfl | rfl | rfl | rfl | rfl
    · by_cases hr : r0 ≤ 3
      · have q1 : decide ((3 : Int) < r0) = false := decide_eq_false (by omega)
        have HG := Lib.hid (And.intro g0 (And.intro g1 (And.intro g2 g3)))
        have Hr := Lib.hid hr
        clear g0 g1 g2 g3 hr HT HN HB HB0
        go_wp2_with fail
        go_roundw
        case rel => exact ⟨⟨1, by omega, rfl, fun _ => Hr.out, fun h => by omega, fun h => by omega, fun h => by omega⟩, trivial⟩
        case measure => simp [intOf]
      · have q1 : decide ((3 : Int) < r0) = true := decide_eq_true (by omega)
        have HF := Lib.hid (HN.out (fun h => hr h.2.2.2.2.2.1))
        clear g0 g1 g2 g3 hr HT HN
        go_wp2_with fail
        go_ret
        exact ⟨HF.out, HB0.out _⟩
    · by_cases hr : r1 ≤ 3
      · have q1 : decide ((3 : Int) < r1) = false := decide_eq_false (by omega)
        have HG := Lib.hid (And.intro g0 (And.intro g1 (And.intro g2 g3)))
        have Hr := Lib.hid hr
        clear g0 g1 g2 g3 hr HT HN HB HB0
        go_wp2_with fail
        go_roundw
        case rel => exact ⟨⟨2, by omega, rfl, fun _ => HG.out.1 (by omega), fun _ => Hr.out, fun h => by omega, fun h => by omega⟩, trivial⟩
        case measure => simp [intOf]
      · have q1 : decide ((3 : Int) < r1) = true := decide_eq_true (by omega)
        have HF := Lib.hid (HN.out (fun h => hr h.2.2.2.2.2.2.1))
        clear g0 g1 g2 g3 hr HT HN
        go_wp2_with fail
        go_ret
        exact ⟨HF.out, HB0.out _⟩
    · by_cases hr : r2 ≤ 3
      · have q1 : decide ((3 : Int) < r2) = false := decide_eq_false (by omega)
        have HG := Lib.hid (And.intro g0 (And.intro g1 (And.intro g2 g3)))
        have Hr := Lib.hid hr
        clear g0 g1 g2 g3 hr HT HN HB HB0
        go_wp2_with fail
        go_roundw
        case rel => exact ⟨⟨3, by omega, rfl, fun _ => HG.out.1 (by omega), fun _ => HG.out.2.1 (by omega), fun _ => Hr.out, fun h => by omega⟩, trivial⟩
        case measure => simp [intOf]
      · have q1 : decide ((3 : Int) < r2) = true := decide_eq_true (by omega)
        have HF := Lib.hid (HN.out (fun h => hr h.2.2.2.2.2.2.2.1))
        clear g0 g1 g2 g3 hr HT HN
        go_wp2_with fail
        go_ret
        exact ⟨HF.out, HB0.out _⟩
    · by_cases hr : r3 ≤ 3
      · have q1 : decide ((3 : Int) < r3) = false := decide_eq_false (by omega)
        have HG := Lib.hid (And.intro g0 (And.intro g1 (And.intro g2 g3)))
        have Hr := Lib.hid hr
        clear g0 g1 g2 g3 hr HT HN HB HB0
        go_wp2_with fail
        go_roundw
        case rel => exact ⟨⟨4, by omega, rfl, fun _ => HG.out.1 (by omega), fun _ => HG.out.2.1 (by omega), fun _ => HG.out.2.2.1 (by omega), fun _ => Hr.out⟩, trivial⟩
        case measure => simp [intOf]
      · have q1 : decide ((3 : Int) < r3) = true := decide_eq_true (by omega)
        have HF := Lib.hid (HN.out (fun h => hr h.2.2.2.2.2.2.2.2))
        clear g0 g1 g2 g3 hr HT HN
        go_wp2_with fail
        go_ret
        exact ⟨HF.out, HB0.out _⟩
    · have HG := Lib.hid (And.intro (g0 (by omega)) (And.intro (g1 (by omega)) (And.intro (g2 (by omega)) (g3 (by omega)))))
      clear g0 g1 g2 g3
      have U0 := Lib.hid (fun W => place_any node nodes (by omega) W)
      have U1 := Lib.hid (fun W => within_any start 0 268435456 W)
      have U2 := Lib.hid (fun W => within_any length 1 268435456 W)
      have U3 := Lib.hid (fun W => within_any budget 0 64 W)
      have U4 := Lib.hid (fun W => within_any words 0 16 W)
      clear hn
      go_wp2_with fail
      refine (U0.out _).mono ?_
      rintro e w1 ⟨rfl, rfl⟩
      by_cases h0 : TableP.up node 0 ((nodes : Int) - 1)
      case neg =>
        have HF := Lib.hid (HN.out (fun h => h0 h.1))
        rw [decide_eq_false h0]
        clear h0
        go_wp2_with fail
        go_ret
        exact ⟨HF.out, HB0.out _⟩
      rw [decide_eq_true h0]
      have K0 := Lib.hid h0
      clear h0
      go_wp2_with fail
      refine (U1.out _).mono ?_
      rintro e w2 ⟨rfl, rfl⟩
      by_cases h1 : TableP.up start 0 268435456
      case neg =>
        have HF := Lib.hid (HN.out (fun h => h1 h.2.1))
        rw [decide_eq_false h1]
        clear h1
        go_wp2_with fail
        go_ret
        exact ⟨HF.out, HB0.out _⟩
      rw [decide_eq_true h1]
      have K1 := Lib.hid h1
      clear h1
      go_wp2_with fail
      refine (U2.out _).mono ?_
      rintro e w3 ⟨rfl, rfl⟩
      by_cases h2 : TableP.up length 1 268435456
      case neg =>
        have HF := Lib.hid (HN.out (fun h => h2 h.2.2.1))
        rw [decide_eq_false h2]
        clear h2
        go_wp2_with fail
        go_ret
        exact ⟨HF.out, HB0.out _⟩
      rw [decide_eq_true h2]
      have K2 := Lib.hid h2
      clear h2
      go_wp2_with fail
      refine (U3.out _).mono ?_
      rintro e w4 ⟨rfl, rfl⟩
      by_cases h3 : TableP.up budget 0 64
      case neg =>
        have HF := Lib.hid (HN.out (fun h => h3 h.2.2.2.1))
        rw [decide_eq_false h3]
        clear h3
        go_wp2_with fail
        go_ret
        exact ⟨HF.out, HB0.out _⟩
      rw [decide_eq_true h3]
      have K3 := Lib.hid h3
      clear h3
      go_wp2_with fail
      refine (U4.out _).mono ?_
      rintro e w5 ⟨rfl, rfl⟩
      by_cases h4 : TableP.up words 0 16
      case neg =>
        have HF := Lib.hid (HN.out (fun h => h4 h.2.2.2.2.1))
        rw [decide_eq_false h4]
        clear h4
        go_wp2_with fail
        go_ret
        exact ⟨HF.out, HB0.out _⟩
      rw [decide_eq_true h4]
      have K4 := Lib.hid h4
      clear h4
      go_wp2_with fail
      go_ret
      exact ⟨HT.out ⟨K0.out, K1.out, K2.out, K3.out, K4.out, HG.out.1, HG.out.2.1, HG.out.2.2.1, HG.out.2.2.2⟩, HB0.out _⟩
end Go.Proofs.Ytodkcenoljpgoaa
namespace Go.Proofs.Ytodkcenoljpgoaa
open Go.RowKit
set_option maxRecDepth 100000

set_option maxHeartbeats 2000000 in
theorem lawful_any (x : TableP.Port) (np : Nat) (hn : np ≤ 12) (w : World) :
    Calls Try.prog 45 #[.agg (portVals x).toArray, .int .i64 (np : Nat)] w (BoolPost (decide (TableP.portOk np x)) w) := by
  have HT : Hid (TableP.portOk np x → Ending.returned (.bool true) = .returned (.bool (decide (TableP.portOk np x)))) := Lib.hid fun h => by rw [decide_eq_true h]
  have HN : Hid (¬ TableP.portOk np x → Ending.returned (.bool false) = .returned (.bool (decide (TableP.portOk np x)))) := Lib.hid fun h => by rw [decide_eq_false h]
  have HB := Lib.hid (fun t => ((Below.refl w.heap.size w).alloc (Nat.le_refl _) (.cells (portVals x).toArray t)))
  have HM := Lib.hid (fun t m => below_drewN' ((Below.refl w.heap.size w).alloc (Nat.le_refl _) (.cells (portVals x).toArray t)) m)
  obtain ⟨part, kind, out, size, depth, fresh⟩ := x
  simp only [portVals] at HB HM ⊢
  unfold BoolPost
  generalize hD : decide (TableP.portOk np ⟨part, kind, out, size, depth, fresh⟩) = D at *
  simp only [TableP.portOk] at HT HN
  clear hD
  have U0 := Lib.hid (fun W => place_any part np (by omega) W)
  have U1 := Lib.hid (fun W => within_any size 0 16 W)
  have U2 := Lib.hid (fun W => mostFresh_any out W)
  have U3 := Lib.hid (fun m W => within_any fresh 0 m W)
  have U4 := Lib.hid (fun W => within_any depth 1 4 W)
  clear hn
  go_enter Try.func45, Try.ntmps45
  go_wp2_with fail
  refine (U0.out _).mono ?_
  rintro e w1 ⟨rfl, rfl⟩
  by_cases h0 : TableP.up part 0 ((np : Int) - 1)
  case neg =>
    have HF := Lib.hid (HN.out (fun h => h0 h.1))
    rw [decide_eq_false h0]
    clear h0
    go_wp2_with fail
    go_ret
    exact ⟨HF.out, HB.out _⟩
  rw [decide_eq_true h0]
  have K0 := Lib.hid h0
  clear h0
  go_wp2_with fail
  refine (U1.out _).mono ?_
  rintro e w1 ⟨rfl, rfl⟩
  by_cases h1 : TableP.up size 0 16
  case neg =>
    have HF := Lib.hid (HN.out (fun h => h1 h.2.1))
    rw [decide_eq_false h1]
    clear h1
    go_wp2_with fail
    go_ret
    exact ⟨HF.out, HB.out _⟩
  rw [decide_eq_true h1]
  have K1 := Lib.hid h1
  clear h1
  by_cases hk : kind = 1
  case pos =>
    subst hk
    have qk : (((1 : Nat) : Int) == 1) = true := rfl
    by_cases hd : depth = 0
    case neg =>
      have qd : (depth == 0) = false := by rw [beq_eq_false_iff_ne]; exact hd
      have HF := Lib.hid (HN.out (fun h => by
        rcases h.2.2 with ⟨_, h3, _⟩ | ⟨h3, _⟩
        · exact hd h3
        · cases h3))
      clear hd
      go_wp2_with fail
      go_quiet (fail)
      go_wp2_with fail
      go_ret
      exact ⟨HF.out, HM.out _ _⟩
    subst hd
    by_cases hf : TableP.up fresh 0 (if out = true then 0 else 8)
    case neg =>
      have HF := Lib.hid (HN.out (fun h => by
        rcases h.2.2 with ⟨_, _, ⟨h3, h4⟩, h5⟩ | ⟨h3, _⟩
        · refine hf ⟨h3, ?_⟩
          cases out with
          | true =>
            have : fresh = 0 := Classical.byContradiction fun h => h5 ⟨rfl, h⟩
            simp [this]
          | false => simpa using h4
        · cases h3))
      have U5 : Hid (∀ W, Calls Try.prog 53 #[.int .i64 fresh, .int .i64 0, .int .i64 (if out = true then 0 else 8)] W (Pure (.bool false) W)) := Lib.hid fun W => by have := U3.out (if out = true then 0 else 8) W; rwa [decide_eq_false hf] at this
      clear hf U3 HT HN
      generalize (if out = true then (0 : Int) else 8) = bb at *
      go_wp2_with fail
      go_quiet ((first | (go_at_call 54; exact quiet_pure (U2.out _)) | (go_at_call 53; exact quiet_pure (U5.out _))))
      go_wp2_with fail
      go_ret
      exact ⟨HF.out, HM.out _ _⟩
    have HF := Lib.hid (HT.out ⟨K0.out, K1.out, .inl ⟨rfl, rfl, ⟨hf.1, by have := hf.2; cases out <;> simp at this <;> omega⟩, fun h => by
      have h1 := hf.1
      have h2 := hf.2
      rw [if_pos h.1] at h2
      exact h.2 (by omega)⟩⟩)
    have U5 : Hid (∀ W, Calls Try.prog 53 #[.int .i64 fresh, .int .i64 0, .int .i64 (if out = true then 0 else 8)] W (Pure (.bool true) W)) := Lib.hid fun W => by have := U3.out (if out = true then 0 else 8) W; rwa [decide_eq_true hf] at this
    clear hf U3 HT HN
    generalize (if out = true then (0 : Int) else 8) = bb at *
    go_wp2_with fail
    go_quiet ((first | (go_at_call 54; exact quiet_pure (U2.out _)) | (go_at_call 53; exact quiet_pure (U5.out _))))
    go_wp2_with fail
    go_ret
    exact ⟨HF.out, HM.out _ _⟩
  have qk : ((kind : Int) == 1) = false := by rw [beq_eq_false_iff_ne]; omega
  by_cases hk2 : kind = 2
  case neg =>
    have qk2 : ((kind : Int) == 2) = false := by rw [beq_eq_false_iff_ne]; omega
    have HF := Lib.hid (HN.out (fun h => by
      rcases h.2.2 with ⟨h3, _⟩ | ⟨h3, _⟩
      · exact hk h3
      · exact hk2 h3))
    clear hk hk2
    go_wp2_with fail
    go_ret
    exact ⟨HF.out, HB.out _⟩
  subst hk2
  clear hk qk
  go_wp2_with fail
  refine (U4.out _).mono ?_
  rintro e w1 ⟨rfl, rfl⟩
  by_cases h4 : TableP.up depth 1 4
  case neg =>
    have HF := Lib.hid (HN.out (fun h => by
      rcases h.2.2 with ⟨h3, _⟩ | ⟨_, h3, _⟩
      · cases h3
      · exact h4 h3))
    rw [decide_eq_false h4]
    clear h4
    go_wp2_with fail
    go_ret
    exact ⟨HF.out, HB.out _⟩
  rw [decide_eq_true h4]
  have K4 := Lib.hid h4
  clear h4
  by_cases hf : fresh = 0
  case neg =>
    have qf : (fresh == 0) = false := by rw [beq_eq_false_iff_ne]; exact hf
    have HF := Lib.hid (HN.out (fun h => by
      rcases h.2.2 with ⟨h3, _⟩ | ⟨_, _, h3⟩
      · cases h3
      · exact hf h3))
    clear hf
    go_wp2_with fail
    go_ret
    exact ⟨HF.out, HB.out _⟩
  subst hf
  have HF := Lib.hid (HT.out ⟨K0.out, K1.out, .inr ⟨trivial, K4.out, rfl⟩⟩)
  go_wp2_with fail
  go_ret
  exact ⟨HF.out, HB.out _⟩
end Go.Proofs.Ytodkcenoljpgoaa
