/- Awake of stage 6: true; Long: is one of the lists longer than is asked; Works: do tables work. Conditions: where the lists lie. -/
import Derived.Test.YtodkcenoljpgoaaSndF
namespace Go.Proofs.Ytodkcenoljpgoaa
open Go.RowKit
set_option maxRecDepth 100000

def TruePost (w : World) (e : Ending) (w' : World) : Prop := e = .returned (.bool true) ∧ Below w.heap.size w w'
def longB6 (x : CfgC) : Bool := decide (40 < x.pn) || decide (60 < x.qn) || decide (60 < x.rn)
theorem longB6_no {x : CfgC} (h : longB6 x = false) : x.pn ≤ 40 ∧ x.qn ≤ 60 ∧ x.rn ≤ 60 := by
  simp [longB6] at h
  omega

set_option maxHeartbeats 1000000 in
theorem long6_any (x : CfgC) (w : World) : Calls Try.prog 8 #[x.value] w (BoolPost (longB6 x) w) := by
  have HB0 := Lib.hid (boxC_below w x)
  obtain ⟨B, hB⟩ : ∃ B, longB6 x = B := ⟨_, rfl⟩
  rw [hB]
  obtain ⟨nodes, faulty, slot, gap, rho, dmin, dmax, margin, PA, pn, pcap, parts, QA, qn, qcap, ports, RA, rn, rcap, routes⟩ := x
  simp only [longB6] at hB
  simp only [CfgC.value]
  simp only [boxC, cfgCells] at HB0
  by_cases h1 : 40 < pn
  · have q1 : decide ((40 : Int) < pn) = true := decide_eq_true (by omega)
    have e : B = true := by rw [← hB]; simp [h1]
    subst e
    clear hB h1
    go_enter Try.func8, Try.ntmps8
    go_wp2_with fail
    go_ret
    exact ⟨rfl, HB0.out⟩
  · have q1 : decide ((40 : Int) < pn) = false := decide_eq_false (by omega)
    by_cases h2 : 60 < qn
    · have q2 : decide ((60 : Int) < qn) = true := decide_eq_true (by omega)
      have e : B = true := by rw [← hB]; simp [h2]
      subst e
      clear hB h1 h2
      go_enter Try.func8, Try.ntmps8
      go_wp2_with fail
      go_ret
      exact ⟨rfl, HB0.out⟩
    · have q2 : decide ((60 : Int) < qn) = false := decide_eq_false (by omega)
      have e : decide ((60 : Int) < rn) = B := by
        rw [← hB]
        have h1' : ¬ 40 < pn := h1
        have h3 : ((60 : Int) < rn) = (60 < rn) := by simp only [eq_iff_iff]; omega
        simp [h1, h2, h3]
      clear hB h1 h2
      go_enter Try.func8, Try.ntmps8
      go_wp2_with fail
      go_ret
      exact ⟨rfl, HB0.out⟩

/-- The document's Check: of any tables. -/
theorem rcheck_any (x : CfgC) (w : World) (h : CfgIn w x) :
    Calls Try.prog 11 #[x.value] w (RefChkPost (SndP.chk6 x.plain) w) := by
  cases hc : TableP.chk x.plain with
  | some f => exact rcheck_head x w h f hc
  | none => exact rcheck_rest x w h hc
/-- Do tables work? -/
def worksB (x : CfgC) : Bool := !longB6 x && (SndP.chk6 x.plain).isNone
theorem wrong_emp (o : Option FrameP.Wrong) : (Value.string ⟨(wrongT o).toArray⟩ = Value.string ⟨#[]⟩) ↔ o = none := by
  cases o with
  | none => simp [wrongT]
  | some c => have := wrongS_ne c; simp [this]

set_option maxHeartbeats 1000000 in
theorem works_any (x : CfgC) (w : World) (h : CfgIn w x) : Calls Try.prog 17 #[x.value] w (BoolPost (worksB x) w) := by
  have HLg := Lib.hid (fun W => long6_any x W)
  have HRc := Lib.hid (fun W (hW : BoxS w x W) => rcheck_any x W (h.below hW.below))
  have hst := BoxS.start w x
  obtain ⟨L, hL⟩ : ∃ L, longB6 x = L := ⟨_, rfl⟩
  obtain ⟨c, hc⟩ : ∃ c, SndP.chk6 x.plain = c := ⟨_, rfl⟩
  have hw : worksB x = (!L && c.isNone) := by simp only [worksB, hL, hc]
  rw [hw]
  simp only [hL] at HLg
  simp only [hc] at HRc
  unfold RefChkPost strV at HRc
  clear h hL hc hw
  obtain ⟨nodes, faulty, slot, gap, rho, dmin, dmax, margin, PA, pn, pcap, parts, QA, qn, qcap, ports, RA, rn, rcap, routes⟩ := x
  have d0 := fun W (hW : BoxS w ⟨nodes, faulty, slot, gap, rho, dmin, dmax, margin, PA, pn, pcap, parts, QA, qn, qcap, ports, RA, rn, rcap, routes⟩ W) => hW.cells.c0
  have d1 := fun W (hW : BoxS w ⟨nodes, faulty, slot, gap, rho, dmin, dmax, margin, PA, pn, pcap, parts, QA, qn, qcap, ports, RA, rn, rcap, routes⟩ W) => hW.cells.c1
  have d2 := fun W (hW : BoxS w ⟨nodes, faulty, slot, gap, rho, dmin, dmax, margin, PA, pn, pcap, parts, QA, qn, qcap, ports, RA, rn, rcap, routes⟩ W) => hW.cells.c2
  have d3 := fun W (hW : BoxS w ⟨nodes, faulty, slot, gap, rho, dmin, dmax, margin, PA, pn, pcap, parts, QA, qn, qcap, ports, RA, rn, rcap, routes⟩ W) => hW.cells.c3
  have d4 := fun W (hW : BoxS w ⟨nodes, faulty, slot, gap, rho, dmin, dmax, margin, PA, pn, pcap, parts, QA, qn, qcap, ports, RA, rn, rcap, routes⟩ W) => hW.cells.c4
  have d5 := fun W (hW : BoxS w ⟨nodes, faulty, slot, gap, rho, dmin, dmax, margin, PA, pn, pcap, parts, QA, qn, qcap, ports, RA, rn, rcap, routes⟩ W) => hW.cells.c5
  have d6 := fun W (hW : BoxS w ⟨nodes, faulty, slot, gap, rho, dmin, dmax, margin, PA, pn, pcap, parts, QA, qn, qcap, ports, RA, rn, rcap, routes⟩ W) => hW.cells.c6
  have d7 := fun W (hW : BoxS w ⟨nodes, faulty, slot, gap, rho, dmin, dmax, margin, PA, pn, pcap, parts, QA, qn, qcap, ports, RA, rn, rcap, routes⟩ W) => hW.cells.c7
  have d8 := fun W (hW : BoxS w ⟨nodes, faulty, slot, gap, rho, dmin, dmax, margin, PA, pn, pcap, parts, QA, qn, qcap, ports, RA, rn, rcap, routes⟩ W) => hW.cells.c8
  have d9 := fun W (hW : BoxS w ⟨nodes, faulty, slot, gap, rho, dmin, dmax, margin, PA, pn, pcap, parts, QA, qn, qcap, ports, RA, rn, rcap, routes⟩ W) => hW.cells.c9
  have d10 := fun W (hW : BoxS w ⟨nodes, faulty, slot, gap, rho, dmin, dmax, margin, PA, pn, pcap, parts, QA, qn, qcap, ports, RA, rn, rcap, routes⟩ W) => hW.cells.c10
  have k0 := d0 _ hst
  have k1 := d1 _ hst
  have k2 := d2 _ hst
  have k3 := d3 _ hst
  have k4 := d4 _ hst
  have k5 := d5 _ hst
  have k6 := d6 _ hst
  have k7 := d7 _ hst
  have k8 := d8 _ hst
  have k9 := d9 _ hst
  have k10 := d10 _ hst
  simp only [boxC, cfgCells] at hst k0 k1 k2 k3 k4 k5 k6 k7 k8 k9 k10
  simp only at d0 d1 d2 d3 d4 d5 d6 d7 d8 d9 d10 k0 k1 k2 k3 k4 k5 k6 k7 k8 k9 k10
  simp only [CfgC.value] at HLg HRc ⊢
  have HST := Lib.hid hst
  clear hst
  cases L with
  | true =>
    go_enter Try.func17, Try.ntmps17
    go_wp2_with fail
    refine (HLg.out _).mono ?_
    rintro e w1 ⟨rfl, hb1⟩
    have HF := Lib.hid (HST.out.step hb1).below
    clear hb1
    go_wp2_with fail
    go_ret
    exact ⟨rfl, HF.out⟩
  | false =>
    go_enter Try.func17, Try.ntmps17
    go_wp2_with fail
    refine (HLg.out _).mono ?_
    rintro e w1 ⟨rfl, hb1⟩
    have hd1 := HST.out.step hb1
    clear hb1 k0 k1 k2 k3 k4 k5 k6 k7 k8 k9 k10
    have k0 := d0 _ hd1
    have k1 := d1 _ hd1
    have k2 := d2 _ hd1
    have k3 := d3 _ hd1
    have k4 := d4 _ hd1
    have k5 := d5 _ hd1
    have k6 := d6 _ hd1
    have k7 := d7 _ hd1
    have k8 := d8 _ hd1
    have k9 := d9 _ hd1
    have k10 := d10 _ hd1
    have Hd1 := Lib.hid hd1
    clear hd1
    go_wp2_with fail
    refine (HRc.out _ Hd1.out).mono ?_
    rintro e w2 ⟨rfl, hb2⟩
    have HF := Lib.hid (Hd1.out.step hb2).below
    clear hb2
    cases c with
    | none =>
      simp only [wrongT]
      go_wp2_with fail
      go_ret
      exact ⟨rfl, HF.out⟩
    | some c =>
      have hne := wrongS_ne c
      generalize wrongT (some c) = t at *
      cases t with
      | nil => exact absurd rfl hne
      | cons u r =>
      clear hne
      go_wp2_with fail
      go_ret
      exact ⟨rfl, HF.out⟩
end Go.Proofs.Ytodkcenoljpgoaa
