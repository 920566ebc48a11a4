/- Contracts of table's inRange, partInRange, lawful. Conditions: numbers within their types. -/
import Derived.Test.YtgceleipaiameaaTbB
namespace Go.Proofs.Ytgceleipaiameaa
open Go.RowKit
set_option maxRecDepth 100000

def BoolPost (b : Bool) (w : World) (e : Ending) (w' : World) : Prop := e = .returned (.bool b) ∧ Below w.heap.size w w'

set_option maxHeartbeats 1000000 in
theorem inRange_any (x : CfgC) (w : World) :
    Calls Try.prog 30 #[x.value] w (BoolPost (decide (TableP.headOk x.plain)) w) := by
  have HT : Hid (TableP.headOk x.plain → Ending.returned (.bool true) = .returned (.bool (decide (TableP.headOk x.plain)))) := Lib.hid fun h => by rw [decide_eq_true h]
  have HN : Hid (¬ TableP.headOk x.plain → Ending.returned (.bool false) = .returned (.bool (decide (TableP.headOk x.plain)))) := Lib.hid fun h => by rw [decide_eq_false h]
  obtain ⟨nodes, faulty, slot, gap, rho, dmin, dmax, margin, PA, pn, pcap, parts, QA, qn, qcap, ports, RA, rn, rcap, routes⟩ := x
  have HB := Lib.hid (fun t => (Below.refl w.heap.size w).alloc (Nat.le_refl _) (.cells (cfgCells ⟨nodes, faulty, slot, gap, rho, dmin, dmax, margin, PA, pn, pcap, parts, QA, qn, qcap, ports, RA, rn, rcap, routes⟩) t))
  simp only [cfgCells] at HB
  simp only [CfgC.value]
  unfold TableP.headOk at HT HN
  simp only [CfgC.plain] at HT HN
  have U0 := Lib.hid (fun W => within_any nodes 1 7 W)
  have U1 := Lib.hid (fun W => within_any faulty 0 2 W)
  have U2 := Lib.hid (fun W => within_any slot 1 16777216 W)
  have U3 := Lib.hid (fun W => within_any gap 0 16777216 W)
  have U4 := Lib.hid (fun W => within_any rho 0 200 W)
  have U5 := Lib.hid (fun W => within_any dmax 0 1048576 W)
  have U6 := Lib.hid (fun W => within_any dmin 0 dmax W)
  have U7 := Lib.hid (fun W => within_any margin 0 16777216 W)
  unfold BoolPost
  simp only [CfgC.plain, TableP.headOk]
  generalize hD : decide (TableP.up nodes 1 7 ∧ TableP.up faulty 0 2 ∧ TableP.up slot 1 16777216 ∧ TableP.up gap 0 16777216 ∧ TableP.up rho 0 200 ∧ TableP.up dmax 0 1048576 ∧ TableP.up dmin 0 dmax ∧ TableP.up margin 0 16777216) = D at *
  clear hD
  go_enter Try.func30, Try.ntmps30
  go_wp2_with fail
  refine (U0.out _).mono ?_
  rintro e w1 ⟨rfl, rfl⟩
  by_cases h0 : TableP.up nodes 1 7
  case neg =>
    have HF := Lib.hid (HN.out (fun h => h0 h.1))
    rw [decide_eq_false h0]
    clear h0
    go_wp2_with fail
    go_ret
    exact ⟨HF.out, HB.out _⟩
  rw [decide_eq_true h0]
  have K0 := Lib.hid h0
  clear h0
  go_wp2_with fail
  refine (U1.out _).mono ?_
  rintro e w2 ⟨rfl, rfl⟩
  by_cases h1 : TableP.up faulty 0 2
  case neg =>
    have HF := Lib.hid (HN.out (fun h => h1 h.2.1))
    rw [decide_eq_false h1]
    clear h1
    go_wp2_with fail
    go_ret
    exact ⟨HF.out, HB.out _⟩
  rw [decide_eq_true h1]
  have K1 := Lib.hid h1
  clear h1
  go_wp2_with fail
  refine (U2.out _).mono ?_
  rintro e w3 ⟨rfl, rfl⟩
  by_cases h2 : TableP.up slot 1 16777216
  case neg =>
    have HF := Lib.hid (HN.out (fun h => h2 h.2.2.1))
    rw [decide_eq_false h2]
    clear h2
    go_wp2_with fail
    go_ret
    exact ⟨HF.out, HB.out _⟩
  rw [decide_eq_true h2]
  have K2 := Lib.hid h2
  clear h2
  go_wp2_with fail
  refine (U3.out _).mono ?_
  rintro e w4 ⟨rfl, rfl⟩
  by_cases h3 : TableP.up gap 0 16777216
  case neg =>
    have HF := Lib.hid (HN.out (fun h => h3 h.2.2.2.1))
    rw [decide_eq_false h3]
    clear h3
    go_wp2_with fail
    go_ret
    exact ⟨HF.out, HB.out _⟩
  rw [decide_eq_true h3]
  have K3 := Lib.hid h3
  clear h3
  go_wp2_with fail
  refine (U4.out _).mono ?_
  rintro e w5 ⟨rfl, rfl⟩
  by_cases h4 : TableP.up rho 0 200
  case neg =>
    have HF := Lib.hid (HN.out (fun h => h4 h.2.2.2.2.1))
    rw [decide_eq_false h4]
    clear h4
    go_wp2_with fail
    go_ret
    exact ⟨HF.out, HB.out _⟩
  rw [decide_eq_true h4]
  have K4 := Lib.hid h4
  clear h4
  go_wp2_with fail
  refine (U5.out _).mono ?_
  rintro e w6 ⟨rfl, rfl⟩
  by_cases h5 : TableP.up dmax 0 1048576
  case neg =>
    have HF := Lib.hid (HN.out (fun h => h5 h.2.2.2.2.2.1))
    rw [decide_eq_false h5]
    clear h5
    go_wp2_with fail
    go_ret
    exact ⟨HF.out, HB.out _⟩
  rw [decide_eq_true h5]
  have K5 := Lib.hid h5
  clear h5
  go_wp2_with fail
  refine (U6.out _).mono ?_
  rintro e w7 ⟨rfl, rfl⟩
  by_cases h6 : TableP.up dmin 0 dmax
  case neg =>
    have HF := Lib.hid (HN.out (fun h => h6 h.2.2.2.2.2.2.1))
    rw [decide_eq_false h6]
    clear h6
    go_wp2_with fail
    go_ret
    exact ⟨HF.out, HB.out _⟩
  rw [decide_eq_true h6]
  have K6 := Lib.hid h6
  clear h6
  go_wp2_with fail
  refine (U7.out _).mono ?_
  rintro e w8 ⟨rfl, rfl⟩
  by_cases h7 : TableP.up margin 0 16777216
  case neg =>
    have HF := Lib.hid (HN.out (fun h => h7 h.2.2.2.2.2.2.2))
    rw [decide_eq_false h7]
    clear h7
    go_wp2_with fail
    go_ret
    exact ⟨HF.out, HB.out _⟩
  rw [decide_eq_true h7]
  have K7 := Lib.hid h7
  clear h7
  go_wp2_with fail
  go_ret
  exact ⟨HT.out ⟨K0.out, K1.out, K2.out, K3.out, K4.out, K5.out, K6.out, K7.out⟩, HB.out _⟩
end Go.Proofs.Ytgceleipaiameaa
