/- long: is one of the lists longer than is asked. Conditions: none. -/
import Derived.Test.YtgceleipaiameaaTbAw
namespace Go.Proofs.Ytgceleipaiameaa
open Go.RowKit
set_option maxRecDepth 100000

def longB (x : CfgC) : Bool := decide (100 < x.pn) || decide (100 < x.qn) || decide (100 < x.rn)
theorem longB_no {x : CfgC} (h : longB x = false) : x.pn ≤ 100 ∧ x.qn ≤ 100 ∧ x.rn ≤ 100 := by
  simp [longB] at h
  omega

set_option maxHeartbeats 1000000 in
theorem long_any (x : CfgC) (w : World) : Calls Try.prog 9 #[x.value] w (fun e w' => e = .returned (.bool (longB x)) ∧ Below w.heap.size w w') := by
  have HB0 := Lib.hid (boxC_below w x)
  obtain ⟨B, hB⟩ : ∃ B, longB x = B := ⟨_, rfl⟩
  rw [hB]
  obtain ⟨nodes, faulty, slot, gap, rho, dmin, dmax, margin, PA, pn, pcap, parts, QA, qn, qcap, ports, RA, rn, rcap, routes⟩ := x
  simp only [longB] at hB
  simp only [CfgC.value]
  simp only [boxC, cfgCells] at HB0
  by_cases h1 : 100 < pn
  · have q1 : decide ((100 : Int) < pn) = true := decide_eq_true (by omega)
    have e : B = true := by rw [← hB]; simp [h1]
    subst e
    clear hB h1
    go_enter Try.func9, Try.ntmps9
    go_wp2_with fail
    go_ret
    exact ⟨rfl, HB0.out⟩
  · have q1 : decide ((100 : Int) < pn) = false := decide_eq_false (by omega)
    by_cases h2 : 100 < qn
    · have q2 : decide ((100 : Int) < qn) = true := decide_eq_true (by omega)
      have e : B = true := by rw [← hB]; simp [h2]
      subst e
      clear hB h1 h2
      go_enter Try.func9, Try.ntmps9
      go_wp2_with fail
      go_ret
      exact ⟨rfl, HB0.out⟩
    · have q2 : decide ((100 : Int) < qn) = false := decide_eq_false (by omega)
      have e : decide ((100 : Int) < rn) = B := by
        rw [← hB]
        have h1' : ¬ 100 < pn := h1
        have h3 : ((100 : Int) < rn) = (100 < rn) := by simp only [eq_iff_iff]; omega
        simp [h1, h2, h3]
      clear hB h1 h2
      go_enter Try.func9, Try.ntmps9
      go_wp2_with fail
      go_ret
      exact ⟨rfl, HB0.out⟩
end Go.Proofs.Ytgceleipaiameaa
