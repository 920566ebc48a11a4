/- Contract of the document's Check at tables in memory: what stands ahead of the lists. Conditions: where its lists lie. -/
import Derived.Test.YtodkcenoljpgoaaTbD
import Derived.Test.YtodkcenoljpgoaaTxtO
namespace Go.Proofs.Ytodkcenoljpgoaa
open Go.RowKit
set_option maxRecDepth 100000

def RefChkPost (r : Option FrameP.Wrong) (w : World) (e : Ending) (w' : World) : Prop := e = .returned (strV (wrongT r)) ∧ Below w.heap.size w w'

set_option maxHeartbeats 2000000 in
theorem refcheck_head (x : CfgC) (w : World) (h1 : ¬ TableP.headOk x.plain) :
    Calls Try.prog 22 #[x.value] w (RefChkPost (TableP.chk x.plain) w) := by
  have e : TableP.chk x.plain = some (2, -1) := by unfold TableP.chk; rw [if_neg h1]
  rw [e]; clear e
  have HB := Lib.hid (boxC_below w x)
  have HA := Lib.hid (fun W => at_any 2 (-1) W (by omega) (by omega))
  have hT : wrongT (some (2, -1)) = atT 2 (-1) := rfl
  unfold RefChkPost
  rw [hT]
  clear hT
  generalize atT 2 (-1) = t at *
  obtain ⟨nodes, faulty, slot, gap, rho, dmin, dmax, margin, PA, pn, pcap, parts, QA, qn, qcap, ports, RA, rn, rcap, routes⟩ := x
  have HN := Lib.hid h1
  clear h1
  unfold TableP.headOk at HN
  simp only [CfgC.plain] at HN
  simp only [CfgC.value]
  simp only [boxC, cfgCells] at HB
  unfold strV at *
  have U0 := Lib.hid (fun W => up_any nodes 1 7 W)
  have U1 := Lib.hid (fun W => up_any faulty 0 2 W)
  have U2 := Lib.hid (fun W => up_any slot 1 16777216 W)
  have U3 := Lib.hid (fun W => up_any gap 0 16777216 W)
  have U4 := Lib.hid (fun W => up_any rho 0 200 W)
  have U5 := Lib.hid (fun W => up_any dmax 0 1048576 W)
  have U6 := Lib.hid (fun W => up_any dmin 0 dmax W)
  have U7 := Lib.hid (fun W => up_any margin 0 16777216 W)
  go_enter Try.func22, Try.ntmps22
  go_wp2_with fail
  refine (U0.out _).mono ?_
  rintro e w0 ⟨rfl, rfl⟩
  by_cases h0 : TableP.up nodes 1 7
  case neg =>
    rw [decide_eq_false h0]
    clear h0
    go_wp2_with fail
    refine (HA.out _).mono ?_
    rintro e w9 ⟨rfl, hb⟩
    have Hb := Lib.hid hb
    clear hb
    go_wp2_with fail
    go_ret
    exact ⟨rfl, HB.out.trans (Hb.out.mono (by simp))⟩
  rw [decide_eq_true h0]
  have K0 := Lib.hid h0
  clear h0
  go_wp2_with fail
  refine (U1.out _).mono ?_
  rintro e w1 ⟨rfl, rfl⟩
  by_cases h1 : TableP.up faulty 0 2
  case neg =>
    rw [decide_eq_false h1]
    clear h1
    go_wp2_with fail
    refine (HA.out _).mono ?_
    rintro e w9 ⟨rfl, hb⟩
    have Hb := Lib.hid hb
    clear hb
    go_wp2_with fail
    go_ret
    exact ⟨rfl, HB.out.trans (Hb.out.mono (by simp))⟩
  rw [decide_eq_true h1]
  have K1 := Lib.hid h1
  clear h1
  go_wp2_with fail
  refine (U2.out _).mono ?_
  rintro e w2 ⟨rfl, rfl⟩
  by_cases h2 : TableP.up slot 1 16777216
  case neg =>
    rw [decide_eq_false h2]
    clear h2
    go_wp2_with fail
    refine (HA.out _).mono ?_
    rintro e w9 ⟨rfl, hb⟩
    have Hb := Lib.hid hb
    clear hb
    go_wp2_with fail
    go_ret
    exact ⟨rfl, HB.out.trans (Hb.out.mono (by simp))⟩
  rw [decide_eq_true h2]
  have K2 := Lib.hid h2
  clear h2
  go_wp2_with fail
  refine (U3.out _).mono ?_
  rintro e w3 ⟨rfl, rfl⟩
  by_cases h3 : TableP.up gap 0 16777216
  case neg =>
    rw [decide_eq_false h3]
    clear h3
    go_wp2_with fail
    refine (HA.out _).mono ?_
    rintro e w9 ⟨rfl, hb⟩
    have Hb := Lib.hid hb
    clear hb
    go_wp2_with fail
    go_ret
    exact ⟨rfl, HB.out.trans (Hb.out.mono (by simp))⟩
  rw [decide_eq_true h3]
  have K3 := Lib.hid h3
  clear h3
  go_wp2_with fail
  refine (U4.out _).mono ?_
  rintro e w4 ⟨rfl, rfl⟩
  by_cases h4 : TableP.up rho 0 200
  case neg =>
    rw [decide_eq_false h4]
    clear h4
    go_wp2_with fail
    refine (HA.out _).mono ?_
    rintro e w9 ⟨rfl, hb⟩
    have Hb := Lib.hid hb
    clear hb
    go_wp2_with fail
    go_ret
    exact ⟨rfl, HB.out.trans (Hb.out.mono (by simp))⟩
  rw [decide_eq_true h4]
  have K4 := Lib.hid h4
  clear h4
  go_wp2_with fail
  refine (U5.out _).mono ?_
  rintro e w5 ⟨rfl, rfl⟩
  by_cases h5 : TableP.up dmax 0 1048576
  case neg =>
    rw [decide_eq_false h5]
    clear h5
    go_wp2_with fail
    refine (HA.out _).mono ?_
    rintro e w9 ⟨rfl, hb⟩
    have Hb := Lib.hid hb
    clear hb
    go_wp2_with fail
    go_ret
    exact ⟨rfl, HB.out.trans (Hb.out.mono (by simp))⟩
  rw [decide_eq_true h5]
  have K5 := Lib.hid h5
  clear h5
  go_wp2_with fail
  refine (U6.out _).mono ?_
  rintro e w6 ⟨rfl, rfl⟩
  by_cases h6 : TableP.up dmin 0 dmax
  case neg =>
    rw [decide_eq_false h6]
    clear h6
    go_wp2_with fail
    refine (HA.out _).mono ?_
    rintro e w9 ⟨rfl, hb⟩
    have Hb := Lib.hid hb
    clear hb
    go_wp2_with fail
    go_ret
    exact ⟨rfl, HB.out.trans (Hb.out.mono (by simp))⟩
  rw [decide_eq_true h6]
  have K6 := Lib.hid h6
  clear h6
  go_wp2_with fail
  refine (U7.out _).mono ?_
  rintro e w7 ⟨rfl, rfl⟩
  have h7 : ¬ TableP.up margin 0 16777216 := fun h => HN.out ⟨K0.out, K1.out, K2.out, K3.out, K4.out, K5.out, K6.out, h⟩
  rw [decide_eq_false h7]
  clear h7
  go_wp2_with fail
  refine (HA.out _).mono ?_
  rintro e w9 ⟨rfl, hb⟩
  have Hb := Lib.hid hb
  clear hb
  go_wp2_with fail
  go_ret
  exact ⟨rfl, HB.out.trans (Hb.out.mono (by simp))⟩

set_option maxHeartbeats 2000000 in
theorem refcheck_many (x : CfgC) (w : World) (h1 : TableP.headOk x.plain) (h2 : 12 < x.pn ∨ 24 < x.qn ∨ 24 < x.rn) (h : CfgIn w x) :
    Calls Try.prog 22 #[x.value] w (RefChkPost (TableP.chk x.plain) w) := by
  have e : TableP.chk x.plain = some (3, -1) := by
    unfold TableP.chk
    rw [if_pos h1, if_pos (show 12 < x.plain.parts.length ∨ 24 < x.plain.ports.length ∨ 24 < x.plain.routes.length by have := h.plen; have := h.qlen; have := h.rlen; simp only [CfgC.plain]; omega)]
  rw [e]; clear e
  have HB := Lib.hid (boxC_below w x)
  have HA := Lib.hid (fun W => at_any 3 (-1) W (by omega) (by omega))
  have hT : wrongT (some (3, -1)) = atT 3 (-1) := rfl
  unfold RefChkPost
  rw [hT]
  clear hT h
  generalize atT 3 (-1) = t at *
  obtain ⟨nodes, faulty, slot, gap, rho, dmin, dmax, margin, PA, pn, pcap, parts, QA, qn, qcap, ports, RA, rn, rcap, routes⟩ := x
  unfold TableP.headOk at h1
  simp only [CfgC.plain] at h1
  obtain ⟨h0, h3, h4, h5, h6, h7, h8, h9⟩ := h1
  simp only [CfgC.value]
  simp only [boxC, cfgCells] at HB
  simp only at h2
  unfold strV at *
  have U0 := Lib.hid (fun W => up_any nodes 1 7 W)
  rw [decide_eq_true h0] at U0
  have U1 := Lib.hid (fun W => up_any faulty 0 2 W)
  rw [decide_eq_true h3] at U1
  have U2 := Lib.hid (fun W => up_any slot 1 16777216 W)
  rw [decide_eq_true h4] at U2
  have U3 := Lib.hid (fun W => up_any gap 0 16777216 W)
  rw [decide_eq_true h5] at U3
  have U4 := Lib.hid (fun W => up_any rho 0 200 W)
  rw [decide_eq_true h6] at U4
  have U5 := Lib.hid (fun W => up_any dmax 0 1048576 W)
  rw [decide_eq_true h7] at U5
  have U6 := Lib.hid (fun W => up_any dmin 0 dmax W)
  rw [decide_eq_true h8] at U6
  have U7 := Lib.hid (fun W => up_any margin 0 16777216 W)
  rw [decide_eq_true h9] at U7
  clear h0 h3 h4 h5 h6 h7 h8 h9
  by_cases h3 : 12 < pn
  case pos =>
    have q : decide ((12 : Int) < pn) = true := decide_eq_true (by omega)
    clear h2 h3
    go_enter Try.func22, Try.ntmps22
    go_wp2_with fail
    refine (U0.out _).mono ?_
    rintro e w0 ⟨rfl, rfl⟩
    go_wp2_with fail
    refine (U1.out _).mono ?_
    rintro e w1 ⟨rfl, rfl⟩
    go_wp2_with fail
    refine (U2.out _).mono ?_
    rintro e w2 ⟨rfl, rfl⟩
    go_wp2_with fail
    refine (U3.out _).mono ?_
    rintro e w3 ⟨rfl, rfl⟩
    go_wp2_with fail
    refine (U4.out _).mono ?_
    rintro e w4 ⟨rfl, rfl⟩
    go_wp2_with fail
    refine (U5.out _).mono ?_
    rintro e w5 ⟨rfl, rfl⟩
    go_wp2_with fail
    refine (U6.out _).mono ?_
    rintro e w6 ⟨rfl, rfl⟩
    go_wp2_with fail
    refine (U7.out _).mono ?_
    rintro e w7 ⟨rfl, rfl⟩
    go_wp2_with fail
    refine (HA.out _).mono ?_
    rintro e w9 ⟨rfl, hb⟩
    have Hb := Lib.hid hb
    clear hb
    go_wp2_with fail
    go_ret
    exact ⟨rfl, HB.out.trans (Hb.out.mono (by simp))⟩
  have q : decide ((12 : Int) < pn) = false := decide_eq_false (by omega)
  by_cases h4 : 24 < qn
  case pos =>
    have q2 : decide ((24 : Int) < qn) = true := decide_eq_true (by omega)
    clear h2 h3 h4
    go_enter Try.func22, Try.ntmps22
    go_wp2_with fail
    refine (U0.out _).mono ?_
    rintro e w0 ⟨rfl, rfl⟩
    go_wp2_with fail
    refine (U1.out _).mono ?_
    rintro e w1 ⟨rfl, rfl⟩
    go_wp2_with fail
    refine (U2.out _).mono ?_
    rintro e w2 ⟨rfl, rfl⟩
    go_wp2_with fail
    refine (U3.out _).mono ?_
    rintro e w3 ⟨rfl, rfl⟩
    go_wp2_with fail
    refine (U4.out _).mono ?_
    rintro e w4 ⟨rfl, rfl⟩
    go_wp2_with fail
    refine (U5.out _).mono ?_
    rintro e w5 ⟨rfl, rfl⟩
    go_wp2_with fail
    refine (U6.out _).mono ?_
    rintro e w6 ⟨rfl, rfl⟩
    go_wp2_with fail
    refine (U7.out _).mono ?_
    rintro e w7 ⟨rfl, rfl⟩
    go_wp2_with fail
    refine (HA.out _).mono ?_
    rintro e w9 ⟨rfl, hb⟩
    have Hb := Lib.hid hb
    clear hb
    go_wp2_with fail
    go_ret
    exact ⟨rfl, HB.out.trans (Hb.out.mono (by simp))⟩
  have q2 : decide ((24 : Int) < qn) = false := decide_eq_false (by omega)
  have q3 : decide ((24 : Int) < rn) = true := decide_eq_true (by omega)
  clear h2 h3 h4
  go_enter Try.func22, Try.ntmps22
  go_wp2_with fail
  refine (U0.out _).mono ?_
  rintro e w0 ⟨rfl, rfl⟩
  go_wp2_with fail
  refine (U1.out _).mono ?_
  rintro e w1 ⟨rfl, rfl⟩
  go_wp2_with fail
  refine (U2.out _).mono ?_
  rintro e w2 ⟨rfl, rfl⟩
  go_wp2_with fail
  refine (U3.out _).mono ?_
  rintro e w3 ⟨rfl, rfl⟩
  go_wp2_with fail
  refine (U4.out _).mono ?_
  rintro e w4 ⟨rfl, rfl⟩
  go_wp2_with fail
  refine (U5.out _).mono ?_
  rintro e w5 ⟨rfl, rfl⟩
  go_wp2_with fail
  refine (U6.out _).mono ?_
  rintro e w6 ⟨rfl, rfl⟩
  go_wp2_with fail
  refine (U7.out _).mono ?_
  rintro e w7 ⟨rfl, rfl⟩
  go_wp2_with fail
  refine (HA.out _).mono ?_
  rintro e w9 ⟨rfl, hb⟩
  have Hb := Lib.hid hb
  clear hb
  go_wp2_with fail
  go_ret
  exact ⟨rfl, HB.out.trans (Hb.out.mono (by simp))⟩
end Go.Proofs.Ytodkcenoljpgoaa
