/- New of a pace: a pace, or an error. Conditions: where the tables lie. -/
import Derived.Test.YthhbdnjihhpalaaPacA
namespace Go.Proofs.Ythhbdnjihhpalaa
open Go.RowKit
set_option maxRecDepth 100000

def h0 : List Bool := List.replicate 7 false
def z0 : List Int := List.replicate 7 0
/-- What New does: a pace in memory of its own, with its clock .. -/
def NewPace (x : CfgC) (me since rate : Int) (cold : Bool) (w : World) (e : Ending) (w' : World) : Prop :=
  ∃ b bk, e = .returned (.tuple #[pv b, .nilIface]) ∧ PaceIn w' b x me cold bk since rate h0 z0 ∧ w.heap.size ≤ b ∧ w.heap.size ≤ bk ∧ Below w.heap.size w w'
/-- .. or sound's error, or ErrRange. -/
def NoPace (t : List UInt8) (w : World) (e : Ending) (w' : World) : Prop := ∃ b, e = .returned (.tuple #[.pointer none, .iface 81 (.pointer (some ⟨b, 0, none⟩))]) ∧ ErrText w' (.iface 81 (.pointer (some ⟨b, 0, none⟩))) t ∧ Below w.heap.size w w'
def NoPace2 (w : World) (e : Ending) (w' : World) : Prop := e = .returned (.tuple #[.pointer none, .iface 63 (.int .i64 2)]) ∧ Below w.heap.size w w'
theorem newPace_new (x : CfgC) (me since rate : Int) (cold : Bool) (bk : Nat) (w w1 : World) (hb : Below w.heap.size w w1) (hk : w.heap.size ≤ bk) (hc : ClockIn w1 bk since rate) (hl : LawfulIn since rate) :
    NewPace x me since rate cold w (.returned (.tuple #[pv w1.heap.size, .nilIface])) (w1.alloc (.cells (paceCells x me cold bk h0 z0) 70)) :=
  ⟨_, bk, rfl, ⟨heap_alloc_new w1 _, rfl, rfl, ⟨(Below.refl w1.heap.size w1).alloc (Nat.le_refl _) _ |>.block bk (Array.getElem?_eq_some_iff.1 hc).1 |>.trans hc, hl⟩⟩, hb.size, hk, hb.alloc hb.size _⟩

theorem pnew_bad (x : CfgC) (me since rate : Int) (cold : Bool) (w : World) (h : CfgIn w x) (f : FrameP.Wrong) (hc : SndP.chk6 x.plain = some f) :
    Calls Try.prog 8 #[x.value, .int .i64 me, .int .i64 since, .int .i64 rate, .bool cold] w (NoPace (wrongT (some f)) w) := by
  have HC := Lib.hid (scheck_any x (boxC w x) (h.below (boxC_below w x)))
  rw [hc] at HC
  have HST := Lib.hid (BoxS.start w x)
  have HF := Lib.hid (fun W (hW : BoxS w x W) => hW.below)
  clear h hc
  obtain ⟨nodes, faulty, slot, gap, rho, dmin, dmax, margin, PA, pn, pcap, parts, QA, qn, qcap, ports, RA, rn, rcap, routes⟩ := x
  simp only [CfgC.value, boxC, cfgCells] at HC HST ⊢
  go_enter Try.func8, Try.ntmps8
  go_wp2_with fail
  refine HC.out.mono ?_
  rintro e w1 ⟨v, rfl, h1, ⟨b, rfl⟩, h3⟩
  have hd1 := HST.out.step h3
  have HE : Hid (NoPace (wrongT (some f)) w (.returned (.tuple #[.pointer none, .iface 81 (.pointer (some ⟨b, 0, none⟩))])) w1) := Lib.hid ⟨b, rfl, h1, HF.out _ hd1⟩
  clear h3 HC HST h1 hd1 HF
  go_wp2_with fail
  go_ret2
  exact HE.out

theorem pnew_range (x : CfgC) (me since rate : Int) (cold : Bool) (w : World) (h : CfgIn w x) (hc : SndP.chk6 x.plain = none) (hm : ¬ (-1 ≤ me ∧ me < x.nodes)) :
    Calls Try.prog 8 #[x.value, .int .i64 me, .int .i64 since, .int .i64 rate, .bool cold] w (NoPace2 w) := by
  have HC := Lib.hid (scheck_any x (boxC w x) (h.below (boxC_below w x)))
  rw [hc] at HC
  have HST := Lib.hid (BoxS.start w x)
  have HF := Lib.hid (fun W (hW : BoxS w x W) => hW.below)
  clear h hc
  obtain ⟨nodes, faulty, slot, gap, rho, dmin, dmax, margin, PA, pn, pcap, parts, QA, qn, qcap, ports, RA, rn, rcap, routes⟩ := x
  have d0 := fun W (hW : BoxS w ⟨nodes, faulty, slot, gap, rho, dmin, dmax, margin, PA, pn, pcap, parts, QA, qn, qcap, ports, RA, rn, rcap, routes⟩ W) => hW.cells.c0
  have d1 := fun W (hW : BoxS w ⟨nodes, faulty, slot, gap, rho, dmin, dmax, margin, PA, pn, pcap, parts, QA, qn, qcap, ports, RA, rn, rcap, routes⟩ W) => hW.cells.c1
  have d2 := fun W (hW : BoxS w ⟨nodes, faulty, slot, gap, rho, dmin, dmax, margin, PA, pn, pcap, parts, QA, qn, qcap, ports, RA, rn, rcap, routes⟩ W) => hW.cells.c2
  have d3 := fun W (hW : BoxS w ⟨nodes, faulty, slot, gap, rho, dmin, dmax, margin, PA, pn, pcap, parts, QA, qn, qcap, ports, RA, rn, rcap, routes⟩ W) => hW.cells.c3
  have d4 := fun W (hW : BoxS w ⟨nodes, faulty, slot, gap, rho, dmin, dmax, margin, PA, pn, pcap, parts, QA, qn, qcap, ports, RA, rn, rcap, routes⟩ W) => hW.cells.c4
  have d5 := fun W (hW : BoxS w ⟨nodes, faulty, slot, gap, rho, dmin, dmax, margin, PA, pn, pcap, parts, QA, qn, qcap, ports, RA, rn, rcap, routes⟩ W) => hW.cells.c5
  have d6 := fun W (hW : BoxS w ⟨nodes, faulty, slot, gap, rho, dmin, dmax, margin, PA, pn, pcap, parts, QA, qn, qcap, ports, RA, rn, rcap, routes⟩ W) => hW.cells.c6
  have d7 := fun W (hW : BoxS w ⟨nodes, faulty, slot, gap, rho, dmin, dmax, margin, PA, pn, pcap, parts, QA, qn, qcap, ports, RA, rn, rcap, routes⟩ W) => hW.cells.c7
  have d8 := fun W (hW : BoxS w ⟨nodes, faulty, slot, gap, rho, dmin, dmax, margin, PA, pn, pcap, parts, QA, qn, qcap, ports, RA, rn, rcap, routes⟩ W) => hW.cells.c8
  have d9 := fun W (hW : BoxS w ⟨nodes, faulty, slot, gap, rho, dmin, dmax, margin, PA, pn, pcap, parts, QA, qn, qcap, ports, RA, rn, rcap, routes⟩ W) => hW.cells.c9
  have d10 := fun W (hW : BoxS w ⟨nodes, faulty, slot, gap, rho, dmin, dmax, margin, PA, pn, pcap, parts, QA, qn, qcap, ports, RA, rn, rcap, routes⟩ W) => hW.cells.c10
  simp only at d0 d1 d2 d3 d4 d5 d6 d7 d8 d9 d10
  simp only [CfgC.value, boxC, cfgCells] at HC HST ⊢
  simp only at hm
  by_cases h1 : me < -1
  · have q1 : decide (me < -1) = true := decide_eq_true h1
    clear hm h1
    go_enter Try.func8, Try.ntmps8
    go_wp2_with fail
    refine HC.out.mono ?_
    rintro e w1 ⟨v, rfl, -, hv, h3⟩
    obtain rfl : v = .nilIface := hv
    have hd1 := HST.out.step h3
    clear h3 HC HST
    have k0 := d0 _ hd1
    have k1 := d1 _ hd1
    have k2 := d2 _ hd1
    have k3 := d3 _ hd1
    have k4 := d4 _ hd1
    have k5 := d5 _ hd1
    have k6 := d6 _ hd1
    have k7 := d7 _ hd1
    have k8 := d8 _ hd1
    have k9 := d9 _ hd1
    have k10 := d10 _ hd1
    replace HF := Lib.hid (HF.out _ hd1)
    clear hd1
    go_wp2_with fail
    go_ret2
    exact ⟨rfl, HF.out⟩
  · have q1 : decide (me < -1) = false := decide_eq_false h1
    have q2 : decide (nodes ≤ me) = true := decide_eq_true (by omega)
    clear hm h1
    go_enter Try.func8, Try.ntmps8
    go_wp2_with fail
    refine HC.out.mono ?_
    rintro e w1 ⟨v, rfl, -, hv, h3⟩
    obtain rfl : v = .nilIface := hv
    have hd1 := HST.out.step h3
    clear h3 HC HST
    have k0 := d0 _ hd1
    have k1 := d1 _ hd1
    have k2 := d2 _ hd1
    have k3 := d3 _ hd1
    have k4 := d4 _ hd1
    have k5 := d5 _ hd1
    have k6 := d6 _ hd1
    have k7 := d7 _ hd1
    have k8 := d8 _ hd1
    have k9 := d9 _ hd1
    have k10 := d10 _ hd1
    replace HF := Lib.hid (HF.out _ hd1)
    clear hd1
    go_wp2_with fail
    go_ret2
    exact ⟨rfl, HF.out⟩

theorem pnew_clock (x : CfgC) (me since rate : Int) (cold : Bool) (w : World) (h : CfgIn w x) (hc : SndP.chk6 x.plain = none) (hm : -1 ≤ me ∧ me < x.nodes) (hl : ¬ LawfulIn since rate) :
    Calls Try.prog 8 #[x.value, .int .i64 me, .int .i64 since, .int .i64 rate, .bool cold] w (NoPace2 w) := by
  have HC := Lib.hid (scheck_any x (boxC w x) (h.below (boxC_below w x)))
  rw [hc] at HC
  have HST := Lib.hid (BoxS.start w x)
  have HK := Lib.hid (fun W => clock_bad since rate hl W)
  have HF := Lib.hid (fun W (hW : BoxS w x W) => hW.below)
  clear h hc hl
  obtain ⟨nodes, faulty, slot, gap, rho, dmin, dmax, margin, PA, pn, pcap, parts, QA, qn, qcap, ports, RA, rn, rcap, routes⟩ := x
  have d0 := fun W (hW : BoxS w ⟨nodes, faulty, slot, gap, rho, dmin, dmax, margin, PA, pn, pcap, parts, QA, qn, qcap, ports, RA, rn, rcap, routes⟩ W) => hW.cells.c0
  have d1 := fun W (hW : BoxS w ⟨nodes, faulty, slot, gap, rho, dmin, dmax, margin, PA, pn, pcap, parts, QA, qn, qcap, ports, RA, rn, rcap, routes⟩ W) => hW.cells.c1
  have d2 := fun W (hW : BoxS w ⟨nodes, faulty, slot, gap, rho, dmin, dmax, margin, PA, pn, pcap, parts, QA, qn, qcap, ports, RA, rn, rcap, routes⟩ W) => hW.cells.c2
  have d3 := fun W (hW : BoxS w ⟨nodes, faulty, slot, gap, rho, dmin, dmax, margin, PA, pn, pcap, parts, QA, qn, qcap, ports, RA, rn, rcap, routes⟩ W) => hW.cells.c3
  have d4 := fun W (hW : BoxS w ⟨nodes, faulty, slot, gap, rho, dmin, dmax, margin, PA, pn, pcap, parts, QA, qn, qcap, ports, RA, rn, rcap, routes⟩ W) => hW.cells.c4
  have d5 := fun W (hW : BoxS w ⟨nodes, faulty, slot, gap, rho, dmin, dmax, margin, PA, pn, pcap, parts, QA, qn, qcap, ports, RA, rn, rcap, routes⟩ W) => hW.cells.c5
  have d6 := fun W (hW : BoxS w ⟨nodes, faulty, slot, gap, rho, dmin, dmax, margin, PA, pn, pcap, parts, QA, qn, qcap, ports, RA, rn, rcap, routes⟩ W) => hW.cells.c6
  have d7 := fun W (hW : BoxS w ⟨nodes, faulty, slot, gap, rho, dmin, dmax, margin, PA, pn, pcap, parts, QA, qn, qcap, ports, RA, rn, rcap, routes⟩ W) => hW.cells.c7
  have d8 := fun W (hW : BoxS w ⟨nodes, faulty, slot, gap, rho, dmin, dmax, margin, PA, pn, pcap, parts, QA, qn, qcap, ports, RA, rn, rcap, routes⟩ W) => hW.cells.c8
  have d9 := fun W (hW : BoxS w ⟨nodes, faulty, slot, gap, rho, dmin, dmax, margin, PA, pn, pcap, parts, QA, qn, qcap, ports, RA, rn, rcap, routes⟩ W) => hW.cells.c9
  have d10 := fun W (hW : BoxS w ⟨nodes, faulty, slot, gap, rho, dmin, dmax, margin, PA, pn, pcap, parts, QA, qn, qcap, ports, RA, rn, rcap, routes⟩ W) => hW.cells.c10
  simp only at d0 d1 d2 d3 d4 d5 d6 d7 d8 d9 d10
  simp only [CfgC.value, boxC, cfgCells] at HC HST ⊢
  simp only at hm
  have q1 : decide (me < -1) = false := decide_eq_false (by omega)
  have q2 : decide (nodes ≤ me) = false := decide_eq_false (by omega)
  clear hm
  go_enter Try.func8, Try.ntmps8
  go_wp2_with fail
  refine HC.out.mono ?_
  rintro e w1 ⟨v, rfl, -, hv, h3⟩
  obtain rfl : v = .nilIface := hv
  have hd1 := HST.out.step h3
  clear h3 HC HST
  have k0 := d0 _ hd1
  have k1 := d1 _ hd1
  have k2 := d2 _ hd1
  have k3 := d3 _ hd1
  have k4 := d4 _ hd1
  have k5 := d5 _ hd1
  have k6 := d6 _ hd1
  have k7 := d7 _ hd1
  have k8 := d8 _ hd1
  have k9 := d9 _ hd1
  have k10 := d10 _ hd1
  replace HF := Lib.hid (HF.out _ hd1)
  clear hd1
  go_wp2_with fail
  refine (HK.out _).mono ?_
  rintro e w2 ⟨rfl, rfl⟩
  unfold errV
  go_wp2_with fail
  go_ret2
  exact ⟨rfl, HF.out⟩

theorem pnew_good (x : CfgC) (me since rate : Int) (cold : Bool) (w : World) (h : CfgIn w x) (hc : SndP.chk6 x.plain = none) (hm : -1 ≤ me ∧ me < x.nodes) (hl : LawfulIn since rate) :
    Calls Try.prog 8 #[x.value, .int .i64 me, .int .i64 since, .int .i64 rate, .bool cold] w (NewPace x me since rate cold w) := by
  have HC := Lib.hid (scheck_any x (boxC w x) (h.below (boxC_below w x)))
  rw [hc] at HC
  have HST := Lib.hid (BoxS.start w x)
  have HK := Lib.hid (fun W => clock_new since rate hl W)
  have HF := Lib.hid (fun bk W (hW : BoxS w x W) (hk : w.heap.size ≤ bk) (hc : ClockIn W bk since rate) => newPace_new x me since rate cold bk w W hW.below hk hc hl)
  have HB := Lib.hid (fun W (hW : BoxS w x W) => hW.below.size)
  clear h hc hl
  obtain ⟨nodes, faulty, slot, gap, rho, dmin, dmax, margin, PA, pn, pcap, parts, QA, qn, qcap, ports, RA, rn, rcap, routes⟩ := x
  have d0 := fun W (hW : BoxS w ⟨nodes, faulty, slot, gap, rho, dmin, dmax, margin, PA, pn, pcap, parts, QA, qn, qcap, ports, RA, rn, rcap, routes⟩ W) => hW.cells.c0
  have d1 := fun W (hW : BoxS w ⟨nodes, faulty, slot, gap, rho, dmin, dmax, margin, PA, pn, pcap, parts, QA, qn, qcap, ports, RA, rn, rcap, routes⟩ W) => hW.cells.c1
  have d2 := fun W (hW : BoxS w ⟨nodes, faulty, slot, gap, rho, dmin, dmax, margin, PA, pn, pcap, parts, QA, qn, qcap, ports, RA, rn, rcap, routes⟩ W) => hW.cells.c2
  have d3 := fun W (hW : BoxS w ⟨nodes, faulty, slot, gap, rho, dmin, dmax, margin, PA, pn, pcap, parts, QA, qn, qcap, ports, RA, rn, rcap, routes⟩ W) => hW.cells.c3
  have d4 := fun W (hW : BoxS w ⟨nodes, faulty, slot, gap, rho, dmin, dmax, margin, PA, pn, pcap, parts, QA, qn, qcap, ports, RA, rn, rcap, routes⟩ W) => hW.cells.c4
  have d5 := fun W (hW : BoxS w ⟨nodes, faulty, slot, gap, rho, dmin, dmax, margin, PA, pn, pcap, parts, QA, qn, qcap, ports, RA, rn, rcap, routes⟩ W) => hW.cells.c5
  have d6 := fun W (hW : BoxS w ⟨nodes, faulty, slot, gap, rho, dmin, dmax, margin, PA, pn, pcap, parts, QA, qn, qcap, ports, RA, rn, rcap, routes⟩ W) => hW.cells.c6
  have d7 := fun W (hW : BoxS w ⟨nodes, faulty, slot, gap, rho, dmin, dmax, margin, PA, pn, pcap, parts, QA, qn, qcap, ports, RA, rn, rcap, routes⟩ W) => hW.cells.c7
  have d8 := fun W (hW : BoxS w ⟨nodes, faulty, slot, gap, rho, dmin, dmax, margin, PA, pn, pcap, parts, QA, qn, qcap, ports, RA, rn, rcap, routes⟩ W) => hW.cells.c8
  have d9 := fun W (hW : BoxS w ⟨nodes, faulty, slot, gap, rho, dmin, dmax, margin, PA, pn, pcap, parts, QA, qn, qcap, ports, RA, rn, rcap, routes⟩ W) => hW.cells.c9
  have d10 := fun W (hW : BoxS w ⟨nodes, faulty, slot, gap, rho, dmin, dmax, margin, PA, pn, pcap, parts, QA, qn, qcap, ports, RA, rn, rcap, routes⟩ W) => hW.cells.c10
  simp only at d0 d1 d2 d3 d4 d5 d6 d7 d8 d9 d10
  simp only [CfgC.value, boxC, cfgCells] at HC HST ⊢
  simp only at hm
  have q1 : decide (me < -1) = false := decide_eq_false (by omega)
  have q2 : decide (nodes ≤ me) = false := decide_eq_false (by omega)
  clear hm
  go_enter Try.func8, Try.ntmps8
  go_wp2_with fail
  refine HC.out.mono ?_
  rintro e w1 ⟨v, rfl, -, hv, h3⟩
  obtain rfl : v = .nilIface := hv
  have hd1 := HST.out.step h3
  clear h3 HC HST
  have k0 := d0 _ hd1
  have k1 := d1 _ hd1
  have k2 := d2 _ hd1
  have k3 := d3 _ hd1
  have k4 := d4 _ hd1
  have k5 := d5 _ hd1
  have k6 := d6 _ hd1
  have k7 := d7 _ hd1
  have k8 := d8 _ hd1
  have k9 := d9 _ hd1
  have k10 := d10 _ hd1
  have Hd1 := Lib.hid hd1
  clear hd1
  go_wp2_with fail
  refine (HK.out _).mono ?_
  rintro e w2 ⟨bk, rfl, h1, h2, -, h4⟩
  have hd2 := Hd1.out.step h4
  have h5 := Nat.le_trans (HB.out _ Hd1.out) h2
  clear k0 k1 k2 k3 k4 k5 k6 k7 k8 k9 k10 Hd1 h4 h2 HK
  have k0 := d0 _ hd2
  have k1 := d1 _ hd2
  have k2 := d2 _ hd2
  have k3 := d3 _ hd2
  have k4 := d4 _ hd2
  have k5 := d5 _ hd2
  have k6 := d6 _ hd2
  have k7 := d7 _ hd2
  have k8 := d8 _ hd2
  have k9 := d9 _ hd2
  have k10 := d10 _ hd2
  replace HF := Lib.hid (HF.out bk _ hd2 h5 h1)
  clear hd2 h5 h1 HB
  unfold clockV at *
  go_wp2_with fail
  go_ret2
  exact HF.out
end Go.Proofs.Ythhbdnjihhpalaa
