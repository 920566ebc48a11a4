/- GuardPlays: the walk of the law at tables in memory and comings. Conditions: where they lie. -/
import Derived.Test.YtodkcenoljpgoaaGrdR
import Derived.Test.YtodkcenoljpgoaaTbY
import Derived.Deep.OwnRows
namespace Go.Proofs.Ytodkcenoljpgoaa
open Go.RowKit
set_option maxRecDepth 100000

theorem infoB9 : (Try.prog.info? 4).map (fun i => (i.zero, i.size, i.bytes)) = some (some (.bool false), 1, 1) := by kernel_rfl
/-- So many comings are done. -/
def PlayG (w : World) (x y : CfgC) (b g N n : Nat) (i : Value) (W : World) : Prop :=
  ∃ (k : Nat) (ps : List Bool), k ≤ n ∧ k ≤ 200 ∧ i = .int .i64 (k : Nat) ∧ ps.length = 7 ∧ GS w x y b ps g N 4 (bitV (ps.take N)) W

set_option maxHeartbeats 1000000 in
theorem gplays_bad (x : CfgC) (A : Option Addr) (n cap : Nat) (f : FrameP.Wrong) (hf : SndP.chk6 x.plain = some f) (hL : longB6 x = false) (w : World) (h : CfgIn w x) : Calls Try.prog 3 #[x.value, .slice A n cap] w (TruePost w) := by
  have HA := Lib.hid (fun W => awake9_any W)
  have HLg := Lib.hid (fun W => long6_any x W)
  rw [hL] at HLg
  have HST := Lib.hid (BoxS.start w x)
  have HRc := Lib.hid (fun W (hW : BoxS w x W) => rcheck_any x W (h.below hW.below))
  have HCp : Hid (∀ W, BoxS w x W → Calls Try.prog 10 #[x.value] W (CopiedPost x.plain W)) := Lib.hid fun W hW => by
    have := longB6_no hL
    exact copied_any x W (h.below hW.below) (by omega) (by omega) (by omega)
  have HN : Hid (∀ y W, CfgIn W y → y.plain = x.plain → Calls Try.prog 9 #[y.value] W (NoGuard (wrongT (some f)) W)) := Lib.hid fun y W hy e => gnew_bad y W hy f (by rw [e]; exact hf)
  rw [hf] at HRc
  have hne := wrongS_ne f
  unfold RefChkPost at HRc
  generalize wrongT (some f) = t at *
  cases t with
  | nil => exact absurd rfl hne
  | cons u r =>
  clear hne hf hL h
  obtain ⟨nodes, faulty, slot, gap, rho, dmin, dmax, margin, PA, pn, pcap, parts, QA, qn, qcap, ports, RA, rn, rcap, routes⟩ := x
  have d0 := fun W (hW : BoxS w ⟨nodes, faulty, slot, gap, rho, dmin, dmax, margin, PA, pn, pcap, parts, QA, qn, qcap, ports, RA, rn, rcap, routes⟩ W) => hW.cells.c0
  have d1 := fun W (hW : BoxS w ⟨nodes, faulty, slot, gap, rho, dmin, dmax, margin, PA, pn, pcap, parts, QA, qn, qcap, ports, RA, rn, rcap, routes⟩ W) => hW.cells.c1
  have d2 := fun W (hW : BoxS w ⟨nodes, faulty, slot, gap, rho, dmin, dmax, margin, PA, pn, pcap, parts, QA, qn, qcap, ports, RA, rn, rcap, routes⟩ W) => hW.cells.c2
  have d3 := fun W (hW : BoxS w ⟨nodes, faulty, slot, gap, rho, dmin, dmax, margin, PA, pn, pcap, parts, QA, qn, qcap, ports, RA, rn, rcap, routes⟩ W) => hW.cells.c3
  have d4 := fun W (hW : BoxS w ⟨nodes, faulty, slot, gap, rho, dmin, dmax, margin, PA, pn, pcap, parts, QA, qn, qcap, ports, RA, rn, rcap, routes⟩ W) => hW.cells.c4
  have d5 := fun W (hW : BoxS w ⟨nodes, faulty, slot, gap, rho, dmin, dmax, margin, PA, pn, pcap, parts, QA, qn, qcap, ports, RA, rn, rcap, routes⟩ W) => hW.cells.c5
  have d6 := fun W (hW : BoxS w ⟨nodes, faulty, slot, gap, rho, dmin, dmax, margin, PA, pn, pcap, parts, QA, qn, qcap, ports, RA, rn, rcap, routes⟩ W) => hW.cells.c6
  have d7 := fun W (hW : BoxS w ⟨nodes, faulty, slot, gap, rho, dmin, dmax, margin, PA, pn, pcap, parts, QA, qn, qcap, ports, RA, rn, rcap, routes⟩ W) => hW.cells.c7
  have d8 := fun W (hW : BoxS w ⟨nodes, faulty, slot, gap, rho, dmin, dmax, margin, PA, pn, pcap, parts, QA, qn, qcap, ports, RA, rn, rcap, routes⟩ W) => hW.cells.c8
  have d9 := fun W (hW : BoxS w ⟨nodes, faulty, slot, gap, rho, dmin, dmax, margin, PA, pn, pcap, parts, QA, qn, qcap, ports, RA, rn, rcap, routes⟩ W) => hW.cells.c9
  have d10 := fun W (hW : BoxS w ⟨nodes, faulty, slot, gap, rho, dmin, dmax, margin, PA, pn, pcap, parts, QA, qn, qcap, ports, RA, rn, rcap, routes⟩ W) => hW.cells.c10
  simp only at d0 d1 d2 d3 d4 d5 d6 d7 d8 d9 d10
  simp only [CfgC.value] at HLg HRc HCp ⊢
  simp only [boxC, cfgCells] at HST
  go_enter Try.func3, Try.ntmps3
  go_wp2_with fail
  refine (HA.out _).mono ?_
  rintro e w1 ⟨rfl, hb1⟩
  have hd1 := HST.out.step hb1
  clear hb1 HA
  have k0 := d0 _ hd1
  have k1 := d1 _ hd1
  have k2 := d2 _ hd1
  have k3 := d3 _ hd1
  have k4 := d4 _ hd1
  have k5 := d5 _ hd1
  have k6 := d6 _ hd1
  have k7 := d7 _ hd1
  have k8 := d8 _ hd1
  have k9 := d9 _ hd1
  have k10 := d10 _ hd1
  have Hd1 := Lib.hid hd1
  clear hd1
  go_wp2_with fail
  refine (HLg.out _).mono ?_
  rintro e w2 ⟨rfl, hb2⟩
  have hd2 := Hd1.out.step hb2
  clear hb2 Hd1 HLg k0 k1 k2 k3 k4 k5 k6 k7 k8 k9 k10
  have k0 := d0 _ hd2
  have k1 := d1 _ hd2
  have k2 := d2 _ hd2
  have k3 := d3 _ hd2
  have k4 := d4 _ hd2
  have k5 := d5 _ hd2
  have k6 := d6 _ hd2
  have k7 := d7 _ hd2
  have k8 := d8 _ hd2
  have k9 := d9 _ hd2
  have k10 := d10 _ hd2
  have Hd2 := Lib.hid hd2
  clear hd2
  go_wp2_with fail
  refine (HCp.out _ Hd2.out).mono ?_
  rintro e w3 ⟨v3, rfl, ⟨x3, rfl, hx3, hp3⟩, hb3⟩
  have HN3 := Lib.hid (HN.out x3 _ hx3 hp3)
  have Hd3 := Lib.hid (Hd2.out.step hb3)
  clear hx3 hp3 hb3 Hd2 HN HCp k0 k1 k2 k3 k4 k5 k6 k7 k8 k9 k10
  go_wp2_with fail
  refine HN3.out.mono ?_
  rintro e w4 ⟨b4, rfl, hx4, hb4⟩
  have hd4 := Hd3.out.step hb4
  have k0 := d0 _ hd4
  have k1 := d1 _ hd4
  have k2 := d2 _ hd4
  have k3 := d3 _ hd4
  have k4 := d4 _ hd4
  have k5 := d5 _ hd4
  have k6 := d6 _ hd4
  have k7 := d7 _ hd4
  have k8 := d8 _ hd4
  have k9 := d9 _ hd4
  have k10 := d10 _ hd4
  have Hd4 := Lib.hid hd4
  have HX4 := Lib.hid hx4
  clear hx4 hb4 hd4 Hd3 HN3
  go_wp2_with fail
  refine (HRc.out _ Hd4.out).mono ?_
  rintro e w5 ⟨rfl, hb5⟩
  have HX5 := Lib.hid (ErrText.read (HX4.out.below hb5))
  have Hd5 := Lib.hid (Hd4.out.step hb5)
  clear hb5 HX4 Hd4 HRc k0 k1 k2 k3 k4 k5 k6 k7 k8 k9 k10
  unfold strV at *
  go_wp2_with fail
  refine HX5.out.mono ?_
  rintro e w6 ⟨rfl, hb6⟩
  have HF := Lib.hid (Hd5.out.step hb6).below
  clear hb6 Hd5 HX5
  go_wp2_with fail
  refine (due_nil _ _).mono ?_
  rintro e w7 ⟨rfl, rfl⟩
  go_wp2_with fail
  refine (come_nil _ _ _).mono ?_
  rintro e w8 ⟨rfl, rfl⟩
  go_wp2_with fail
  go_ret
  exact ⟨rfl, HF.out⟩

set_option maxHeartbeats 1000000 in
theorem gplays_long (x : CfgC) (A : Option Addr) (n cap : Nat) (hL : longB6 x = true) (w : World) : Calls Try.prog 3 #[x.value, .slice A n cap] w (TruePost w) := by
  have HA := Lib.hid (fun W => awake9_any W)
  have HLg := Lib.hid (fun W => long6_any x W)
  rw [hL] at HLg
  have HST := Lib.hid (BoxS.start w x)
  clear hL
  obtain ⟨nodes, faulty, slot, gap, rho, dmin, dmax, margin, PA, pn, pcap, parts, QA, qn, qcap, ports, RA, rn, rcap, routes⟩ := x
  have d0 := fun W (hW : BoxS w ⟨nodes, faulty, slot, gap, rho, dmin, dmax, margin, PA, pn, pcap, parts, QA, qn, qcap, ports, RA, rn, rcap, routes⟩ W) => hW.cells.c0
  have d1 := fun W (hW : BoxS w ⟨nodes, faulty, slot, gap, rho, dmin, dmax, margin, PA, pn, pcap, parts, QA, qn, qcap, ports, RA, rn, rcap, routes⟩ W) => hW.cells.c1
  have d2 := fun W (hW : BoxS w ⟨nodes, faulty, slot, gap, rho, dmin, dmax, margin, PA, pn, pcap, parts, QA, qn, qcap, ports, RA, rn, rcap, routes⟩ W) => hW.cells.c2
  have d3 := fun W (hW : BoxS w ⟨nodes, faulty, slot, gap, rho, dmin, dmax, margin, PA, pn, pcap, parts, QA, qn, qcap, ports, RA, rn, rcap, routes⟩ W) => hW.cells.c3
  have d4 := fun W (hW : BoxS w ⟨nodes, faulty, slot, gap, rho, dmin, dmax, margin, PA, pn, pcap, parts, QA, qn, qcap, ports, RA, rn, rcap, routes⟩ W) => hW.cells.c4
  have d5 := fun W (hW : BoxS w ⟨nodes, faulty, slot, gap, rho, dmin, dmax, margin, PA, pn, pcap, parts, QA, qn, qcap, ports, RA, rn, rcap, routes⟩ W) => hW.cells.c5
  have d6 := fun W (hW : BoxS w ⟨nodes, faulty, slot, gap, rho, dmin, dmax, margin, PA, pn, pcap, parts, QA, qn, qcap, ports, RA, rn, rcap, routes⟩ W) => hW.cells.c6
  have d7 := fun W (hW : BoxS w ⟨nodes, faulty, slot, gap, rho, dmin, dmax, margin, PA, pn, pcap, parts, QA, qn, qcap, ports, RA, rn, rcap, routes⟩ W) => hW.cells.c7
  have d8 := fun W (hW : BoxS w ⟨nodes, faulty, slot, gap, rho, dmin, dmax, margin, PA, pn, pcap, parts, QA, qn, qcap, ports, RA, rn, rcap, routes⟩ W) => hW.cells.c8
  have d9 := fun W (hW : BoxS w ⟨nodes, faulty, slot, gap, rho, dmin, dmax, margin, PA, pn, pcap, parts, QA, qn, qcap, ports, RA, rn, rcap, routes⟩ W) => hW.cells.c9
  have d10 := fun W (hW : BoxS w ⟨nodes, faulty, slot, gap, rho, dmin, dmax, margin, PA, pn, pcap, parts, QA, qn, qcap, ports, RA, rn, rcap, routes⟩ W) => hW.cells.c10
  simp only at d0 d1 d2 d3 d4 d5 d6 d7 d8 d9 d10
  simp only [CfgC.value] at HLg ⊢
  simp only [boxC, cfgCells] at HST
  go_enter Try.func3, Try.ntmps3
  go_wp2_with fail
  refine (HA.out _).mono ?_
  rintro e w1 ⟨rfl, hb1⟩
  have hd1 := HST.out.step hb1
  clear hb1 HA
  have k0 := d0 _ hd1
  have k1 := d1 _ hd1
  have k2 := d2 _ hd1
  have k3 := d3 _ hd1
  have k4 := d4 _ hd1
  have k5 := d5 _ hd1
  have k6 := d6 _ hd1
  have k7 := d7 _ hd1
  have k8 := d8 _ hd1
  have k9 := d9 _ hd1
  have k10 := d10 _ hd1
  have Hd1 := Lib.hid hd1
  clear hd1
  go_wp2_with fail
  refine (HLg.out _).mono ?_
  rintro e w2 ⟨rfl, hb2⟩
  have hd2 := Hd1.out.step hb2
  clear hb2 Hd1 HLg k0 k1 k2 k3 k4 k5 k6 k7 k8 k9 k10
  have HF := Lib.hid hd2.below
  clear hd2
  go_wp2_with fail
  go_ret
  exact ⟨rfl, HF.out⟩

set_option maxHeartbeats 8000000 in
theorem gplays_good (x : CfgC) (A : Option Addr) (l : List CallG) (n cap : Nat) (hl : l.length = n) (hn : n * 16 ≤ 140737488355328) (hf : SndP.chk6 x.plain = none) (hL : longB6 x = false) (w : World) (h : CfgIn w x) (hin : ItemsIn callVals 2 w A l) :
    Calls Try.prog 3 #[x.value, .slice A n cap] w (TruePost w) := by
  have HA := Lib.hid (fun W => awake9_any W)
  have HLg := Lib.hid (fun W => long6_any x W)
  rw [hL] at HLg
  have HST := Lib.hid (BoxS.start w x)
  have HRc := Lib.hid (fun W (hW : BoxS w x W) => rcheck_any x W (h.below hW.below))
  rw [hf] at HRc
  unfold RefChkPost strV at HRc
  simp only [wrongT] at HRc
  have HX := Lib.hid (fun W => ErrText.read (ErrText.none_ W))
  unfold strV at HX
  have HCp : Hid (∀ W, BoxS w x W → Calls Try.prog 10 #[x.value] W (CopiedPost x.plain W)) := Lib.hid fun W hW => by
    have := longB6_no hL
    exact copied_any x W (h.below hW.below) (by omega) (by omega) (by omega)
  have HN : Hid (∀ y W, CfgIn W y → y.plain = x.plain → Calls Try.prog 9 #[y.value] W (NewGuard y W)) := Lib.hid fun y W hy e => gnew_good y W hy (by rw [e]; exact hf)
  have hhd := (SndP.works hf).allowed.head
  have hnn : 1 ≤ x.nodes ∧ x.nodes ≤ 7 := (SndP.nums_in hhd).nodes
  have hmg : 0 ≤ x.margin ∧ x.margin ≤ 16777216 := (SndP.nums_in hhd).margin
  have hdue := Lib.hid (fun (j : Nat) (hj : (j : Int) < x.nodes) => GrdP.due_in (SndP.nums_in hhd) (n := (j : Int)) ⟨by omega, by omega⟩)
  have HSe := Lib.hid (fun (j : Nat) (hj : (j : Int) < x.nodes) W => refsend_any x j ⟨by omega, by omega⟩ W hhd)
  have HMe := Lib.hid (fun W => refmean_any x W hhd)
  have HD := Lib.hid (fun (y : CfgC) (e : y.plain = x.plain) (j : Nat) (hj : (j : Int) < x.nodes) b ps W (hg : GuardIn W b y ps) => (by have := due_any y ps j ⟨by omega, by omega⟩ b W hg (by rw [e]; exact hhd); rw [e] at this; exact this : Calls Try.prog 13 #[gv b, .int .i64 (j : Nat)] W (IntPost (GrdP.dueT x.plain j) W)))
  have HC : Hid (∀ (y : CfgC) (e : y.plain = x.plain) (j : Nat) (hj : (j : Int) < x.nodes) a b ps W (hg : GuardIn W b y ps), Calls Try.prog 14 #[gv b, .int .i64 (j : Nat), .int .i64 a] W (fun e w' => e = .returned (.int .i64 (GrdP.verd x.plain ps j a)) ∧ GuardIn w' b y (GrdP.next x.plain ps j a) ∧ Apart (fun q => q = b) W w')) := Lib.hid fun y e j hj a b ps W hg => by
    have e2 : y.nodes = x.nodes := congrArg TableP.Cfg.nodes e
    have := come_any y ps j (by omega) a b W hg (by rw [e]; exact hhd)
    unfold ComeP at this
    rw [e] at this
    exact this
  have HCw : Hid (∀ (y : CfgC) (e : y.plain = x.plain) (m : Int) (hj : m < 0 ∨ x.nodes ≤ m) a b ps W (hg : GuardIn W b y ps), Calls Try.prog 14 #[gv b, .int .i64 m, .int .i64 a] W (fun e w' => e = .returned (.int .i64 5) ∧ w' = W)) := Lib.hid fun y e m hm a b ps W hg => by
    have e2 : y.nodes = x.nodes := congrArg TableP.Cfg.nodes e
    exact come_wrong y ps m a b W hg (by omega)
  have HIn := Lib.hid (fun W (hW : BoxS w x W) k y hy => call_cells (hin.below hW.below) (k := k) (n := y.node) (o := y.off) (show l[k]? = some y from hy))
  have HL := Lib.hid hl
  clear hL h hin hl hhd hf
  obtain ⟨nodes, faulty, slot, gap, rho, dmin, dmax, margin, PA, pn, pcap, parts, QA, qn, qcap, ports, RA, rn, rcap, routes⟩ := x
  have d0 := fun W (hW : BoxS w ⟨nodes, faulty, slot, gap, rho, dmin, dmax, margin, PA, pn, pcap, parts, QA, qn, qcap, ports, RA, rn, rcap, routes⟩ W) => hW.cells.c0
  have d1 := fun W (hW : BoxS w ⟨nodes, faulty, slot, gap, rho, dmin, dmax, margin, PA, pn, pcap, parts, QA, qn, qcap, ports, RA, rn, rcap, routes⟩ W) => hW.cells.c1
  have d2 := fun W (hW : BoxS w ⟨nodes, faulty, slot, gap, rho, dmin, dmax, margin, PA, pn, pcap, parts, QA, qn, qcap, ports, RA, rn, rcap, routes⟩ W) => hW.cells.c2
  have d3 := fun W (hW : BoxS w ⟨nodes, faulty, slot, gap, rho, dmin, dmax, margin, PA, pn, pcap, parts, QA, qn, qcap, ports, RA, rn, rcap, routes⟩ W) => hW.cells.c3
  have d4 := fun W (hW : BoxS w ⟨nodes, faulty, slot, gap, rho, dmin, dmax, margin, PA, pn, pcap, parts, QA, qn, qcap, ports, RA, rn, rcap, routes⟩ W) => hW.cells.c4
  have d5 := fun W (hW : BoxS w ⟨nodes, faulty, slot, gap, rho, dmin, dmax, margin, PA, pn, pcap, parts, QA, qn, qcap, ports, RA, rn, rcap, routes⟩ W) => hW.cells.c5
  have d6 := fun W (hW : BoxS w ⟨nodes, faulty, slot, gap, rho, dmin, dmax, margin, PA, pn, pcap, parts, QA, qn, qcap, ports, RA, rn, rcap, routes⟩ W) => hW.cells.c6
  have d7 := fun W (hW : BoxS w ⟨nodes, faulty, slot, gap, rho, dmin, dmax, margin, PA, pn, pcap, parts, QA, qn, qcap, ports, RA, rn, rcap, routes⟩ W) => hW.cells.c7
  have d8 := fun W (hW : BoxS w ⟨nodes, faulty, slot, gap, rho, dmin, dmax, margin, PA, pn, pcap, parts, QA, qn, qcap, ports, RA, rn, rcap, routes⟩ W) => hW.cells.c8
  have d9 := fun W (hW : BoxS w ⟨nodes, faulty, slot, gap, rho, dmin, dmax, margin, PA, pn, pcap, parts, QA, qn, qcap, ports, RA, rn, rcap, routes⟩ W) => hW.cells.c9
  have d10 := fun W (hW : BoxS w ⟨nodes, faulty, slot, gap, rho, dmin, dmax, margin, PA, pn, pcap, parts, QA, qn, qcap, ports, RA, rn, rcap, routes⟩ W) => hW.cells.c10
  simp only at d0 d1 d2 d3 d4 d5 d6 d7 d8 d9 d10 hnn hmg HC HD HCw hdue HSe
  simp only [CfgC.value] at HLg HRc HCp HSe HMe ⊢
  simp only [boxC, cfgCells] at HST
  obtain ⟨N, rfl⟩ : ∃ N : Nat, nodes = N := ⟨nodes.toNat, by omega⟩
  have hmk := fun W => run_make_row' (P := Try.prog) 41 4 (.bool false) 1 Try.underlying41 infoB9 rfl .i64 .i64 N (by omega) (by omega) W
  go_enter Try.func3, Try.ntmps3
  go_wp2_with fail
  refine (HA.out _).mono ?_
  rintro e w1 ⟨rfl, hb1⟩
  have hd1 := HST.out.step hb1
  clear hb1 HA
  have k0 := d0 _ hd1
  have k1 := d1 _ hd1
  have k2 := d2 _ hd1
  have k3 := d3 _ hd1
  have k4 := d4 _ hd1
  have k5 := d5 _ hd1
  have k6 := d6 _ hd1
  have k7 := d7 _ hd1
  have k8 := d8 _ hd1
  have k9 := d9 _ hd1
  have k10 := d10 _ hd1
  have Hd1 := Lib.hid hd1
  clear hd1
  go_wp2_with fail
  refine (HLg.out _).mono ?_
  rintro e w2 ⟨rfl, hb2⟩
  have hd2 := Hd1.out.step hb2
  clear hb2 Hd1 HLg k0 k1 k2 k3 k4 k5 k6 k7 k8 k9 k10
  have k0 := d0 _ hd2
  have k1 := d1 _ hd2
  have k2 := d2 _ hd2
  have k3 := d3 _ hd2
  have k4 := d4 _ hd2
  have k5 := d5 _ hd2
  have k6 := d6 _ hd2
  have k7 := d7 _ hd2
  have k8 := d8 _ hd2
  have k9 := d9 _ hd2
  have k10 := d10 _ hd2
  have Hd2 := Lib.hid hd2
  clear hd2
  go_wp2_with fail
  refine (HCp.out _ Hd2.out).mono ?_
  rintro e w3 ⟨v3, rfl, ⟨y, rfl, hx3, hp3⟩, hb3⟩
  have HN3 := Lib.hid (HN.out y _ hx3 hp3)
  have Hd3 := Lib.hid (Hd2.out.step hb3)
  replace HC := Lib.hid (HC.out y hp3)
  replace HD := Lib.hid (HD.out y hp3)
  replace HCw := Lib.hid (HCw.out y hp3)
  clear hx3 hp3 hb3 Hd2 HN HCp k0 k1 k2 k3 k4 k5 k6 k7 k8 k9 k10
  go_wp2_with fail
  refine HN3.out.mono ?_
  rintro e w4 ⟨b, rfl, h1, h2, h3⟩
  have hd4 := Hd3.out.step h3
  have k0 := d0 _ hd4
  have k1 := d1 _ hd4
  have k2 := d2 _ hd4
  have k3 := d3 _ hd4
  have k4 := d4 _ hd4
  have k5 := d5 _ hd4
  have k6 := d6 _ hd4
  have k7 := d7 _ hd4
  have k8 := d8 _ hd4
  have k9 := d9 _ hd4
  have k10 := d10 _ hd4
  have Hd4 := Lib.hid hd4
  have HG4 : Hid (∀ W, Below w4.heap.size w4 W → BoxS w ⟨(N : Int), faulty, slot, gap, rho, dmin, dmax, margin, PA, pn, pcap, parts, QA, qn, qcap, ports, RA, rn, rcap, routes⟩ W ∧ GuardIn W b y p0 ∧ (boxC w ⟨(N : Int), faulty, slot, gap, rho, dmin, dmax, margin, PA, pn, pcap, parts, QA, qn, qcap, ports, RA, rn, rcap, routes⟩).heap.size ≤ b) := Lib.hid fun W hW => ⟨hd4.step hW, h1.below hW, Nat.le_trans Hd3.out.size h2⟩
  clear h1 h2 h3 hd4 Hd3 HN3
  unfold gv at *
  go_wp2_with fail
  refine (HRc.out _ Hd4.out).mono ?_
  rintro e w5 ⟨rfl, hb5⟩
  have Hb5 := Lib.hid hb5
  clear hb5 Hd4 HRc k0 k1 k2 k3 k4 k5 k6 k7 k8 k9 k10
  go_wp2_with fail
  refine (HX.out _).mono ?_
  rintro e w6 ⟨rfl, hb6⟩
  obtain ⟨hd6, hg6, hlo⟩ := HG4.out _ (Hb5.out.trans (hb6.mono Hb5.out.size))
  have HS : Hid (PlayG w ⟨(N : Int), faulty, slot, gap, rho, dmin, dmax, margin, PA, pn, pcap, parts, QA, qn, qcap, ports, RA, rn, rcap, routes⟩ y b w6.heap.size N n (.int .i64 0) (w6.alloc (.cells (madeCells #[.bool false] N) 4))) := Lib.hid
    ⟨0, p0, by omega, by omega, rfl, rfl, hd6.alloc _, hg6.below ((Below.refl _ _).alloc (Nat.le_refl _) _), hlo, by rw [take_rep (by omega)]; exact bits_made hd6.size (by unfold maxLen; omega)⟩
  have k0 := d0 _ hd6
  have k1 := d1 _ hd6
  have k2 := d2 _ hd6
  have k3 := d3 _ hd6
  have k4 := d4 _ hd6
  have k5 := d5 _ hd6
  have k6 := d6 _ hd6
  have k7 := d7 _ hd6
  have k8 := d8 _ hd6
  have k9 := d9 _ hd6
  have k10 := d10 _ hd6
  clear hb6 hd6 hg6 hlo HG4 Hb5 HX
  go_wp2_with fail
  clear k0 k1 k2 k3 k4 k5 k6 k7 k8 k9 k10 hmk
  generalize w6.alloc (.cells (madeCells #[.bool false] N) 4) = w7 at *
  generalize w6.heap.size = g at *
  go_loopw [9] (PlayG w ⟨(N : Int), faulty, slot, gap, rho, dmin, dmax, margin, PA, pn, pcap, parts, QA, qn, qcap, ports, RA, rn, rcap, routes⟩ y b g N n) (fun i _ => (201 - intOf i).toNat)
  case atStart => exact HS.out
  case round =>
    clear HS
    obtain ⟨k, ps, hk, hk2, rfl, hp7, hG⟩ := hrel
    have HG := Lib.hid hG
    clear hG
    by_cases hkn : k < n ∧ k < 200
    case neg =>
      have HF := Lib.hid HG.out.box.below
      clear HG HD HC HCw HIn HSe HMe hdue
      by_cases hkn1 : k < n
      · obtain rfl : k = 200 := by omega
        have q1 : decide ((200 : Int) < (n : Int)) = true := decide_eq_true (by omega)
        have q2 : decide (200 < n) = true := decide_eq_true (by omega)
        clear hkn hkn1
        go_wp2_with fail
        go_ret
        exact ⟨rfl, HF.out⟩
      · have q1 : decide ((k : Int) < (n : Int)) = false := decide_eq_false (by omega)
        have q2 : decide (k < n) = false := decide_eq_false (by omega)
        clear hkn hkn1
        go_wp2_with fail
        go_ret
        exact ⟨rfl, HF.out⟩
    obtain ⟨hkn, hk200⟩ := hkn
    obtain ⟨⟨no, of⟩, hx⟩ : ∃ y, l[k]? = some y := ⟨_, List.getElem?_eq_getElem (by have := HL.out; omega)⟩
    obtain ⟨bc, oc, ec, -, c0, c1⟩ := HIn.out wr HG.out.box k _ hx
    simp only at c0 c1
    clear hx HIn
    subst ec
    have k0 := d0 _ HG.out.box
    have k1 := d1 _ HG.out.box
    have k2 := d2 _ HG.out.box
    have k3 := d3 _ HG.out.box
    have k4 := d4 _ HG.out.box
    have k5 := d5 _ HG.out.box
    have k6 := d6 _ HG.out.box
    have k7 := d7 _ HG.out.box
    have k8 := d8 _ HG.out.box
    have k9 := d9 _ HG.out.box
    have k10 := d10 _ HG.out.box
    have q1 : decide ((k : Int) < (n : Int)) = true := decide_eq_true (by omega)
    have q2 : decide (k < n) = true := decide_eq_true hkn
    have q3 : decide ((k : Int) < 200) = true := decide_eq_true (by omega)
    have q4 : decide (k < 200) = true := decide_eq_true hk200
    have ek1 : IntKind.i64.wrap ((k : Int) + 1) = (k : Int) + 1 := IntWalk.i64_in _ (by omega)
    obtain ⟨o, ho, hob⟩ : ∃ o, of.tmod 1073741824 = o ∧ (-1073741824 < o ∧ o < 1073741824) := ⟨_, rfl, tmod_in of 1073741824 (by omega)⟩
    have eO : wrap64 (of.tmod 1073741824) = o := by rw [ho]; exact IntWalk.wrap64_in o ⟨by omega, by omega⟩
    have eO2 : IntKind.i64.wrap (of.tmod 1073741824) = o := by rw [ho]; exact IntWalk.i64_in o ⟨by omega, by omega⟩
    have HG6 : Hid (∀ m, GS w ⟨(N : Int), faulty, slot, gap, rho, dmin, dmax, margin, PA, pn, pcap, parts, QA, qn, qcap, ports, RA, rn, rcap, routes⟩ y b ps g N 4 (bitV (ps.take N)) (wr.drewN m)) := Lib.hid fun m => HG.out.drewN m
    by_cases hj : 0 ≤ no ∧ no < (N : Int)
    case neg =>
      have HW6 := Lib.hid (fun a W (hW : GS w ⟨(N : Int), faulty, slot, gap, rho, dmin, dmax, margin, PA, pn, pcap, parts, QA, qn, qcap, ports, RA, rn, rcap, routes⟩ y b ps g N 4 (bitV (ps.take N)) W) => HCw.out no (by omega) a b ps W hW.guard)
      have HR : Hid (∀ m, PlayG w ⟨(N : Int), faulty, slot, gap, rho, dmin, dmax, margin, PA, pn, pcap, parts, QA, qn, qcap, ports, RA, rn, rcap, routes⟩ y b g N n (.int .i64 ((k : Int) + 1)) (wr.drewN m)) := Lib.hid fun m => ⟨k + 1, ps, by omega, by omega, by go_num, hp7, HG6.out m⟩
      clear HG HCw HC HD HSe HMe hdue hob ho
      by_cases h0 : 0 ≤ no
      · have q5 : decide (0 ≤ no) = true := decide_eq_true h0
        have q6 : decide (no < (N : Int)) = false := decide_eq_false (by omega)
        clear hj h0
        go_wp2_with fail
        go_quiet (fail)
        go_wp2_with fail
        refine (HW6.out _ _ (HG6.out _)).mono ?_
        rintro e w8 ⟨rfl, rfl⟩
        go_wp2_with fail
        go_roundw
        case rel => exact HR.out _
        case measure => simp [intOf]; omega
      · have q5 : decide (0 ≤ no) = false := decide_eq_false h0
        clear hj h0
        go_wp2_with fail
        go_quiet (fail)
        go_wp2_with fail
        refine (HW6.out _ _ (HG6.out _)).mono ?_
        rintro e w8 ⟨rfl, rfl⟩
        go_wp2_with fail
        go_roundw
        case rel => exact HR.out _
        case measure => simp [intOf]; omega
    obtain ⟨h0, h1⟩ := hj
    obtain ⟨j, rfl⟩ := Int.eq_ofNat_of_zero_le h0
    have hjN : j < N := by omega
    have q5 : decide (0 ≤ (j : Int)) = true := decide_eq_true h0
    have q6 : decide ((j : Int) < (N : Int)) = true := decide_eq_true h1
    have q7 : decide (j < N) = true := decide_eq_true hjN
    obtain ⟨p, hp⟩ : ∃ p, ps[j]? = some p := ⟨_, List.getElem?_eq_getElem (by omega)⟩
    have hd5 := hdue.out j h1
    have HS6 := Lib.hid (HSe.out j h1)
    have HD6 : Hid (∀ row W, GS w ⟨(N : Int), faulty, slot, gap, rho, dmin, dmax, margin, PA, pn, pcap, parts, QA, qn, qcap, ports, RA, rn, rcap, routes⟩ y b ps g N 4 row W → Calls Try.prog 13 #[.pointer (some ⟨b, 0, none⟩), .int .i64 (j : Nat)] W (fun e W' => e = .returned (.int .i64 (GrdP.dueT (⟨(N : Int), faulty, slot, gap, rho, dmin, dmax, margin, PA, pn, pcap, parts, QA, qn, qcap, ports, RA, rn, rcap, routes⟩ : CfgC).plain j)) ∧ GS w ⟨(N : Int), faulty, slot, gap, rho, dmin, dmax, margin, PA, pn, pcap, parts, QA, qn, qcap, ports, RA, rn, rcap, routes⟩ y b ps g N 4 row W')) := Lib.hid fun row W hW =>
      (HD.out j h1 b ps W hW.guard).mono fun e W' h => ⟨h.1, hW.step h.2⟩
    have HC6 : Hid (∀ row W, GS w ⟨(N : Int), faulty, slot, gap, rho, dmin, dmax, margin, PA, pn, pcap, parts, QA, qn, qcap, ports, RA, rn, rcap, routes⟩ y b ps g N 4 row W → Calls Try.prog 14 #[.pointer (some ⟨b, 0, none⟩), .int .i64 (j : Nat), .int .i64 (GrdP.dueT (⟨(N : Int), faulty, slot, gap, rho, dmin, dmax, margin, PA, pn, pcap, parts, QA, qn, qcap, ports, RA, rn, rcap, routes⟩ : CfgC).plain j + o)] W (fun e W' => e = .returned (.int .i64 (GrdP.verd (⟨(N : Int), faulty, slot, gap, rho, dmin, dmax, margin, PA, pn, pcap, parts, QA, qn, qcap, ports, RA, rn, rcap, routes⟩ : CfgC).plain ps j (GrdP.dueT (⟨(N : Int), faulty, slot, gap, rho, dmin, dmax, margin, PA, pn, pcap, parts, QA, qn, qcap, ports, RA, rn, rcap, routes⟩ : CfgC).plain j + o))) ∧ GS w ⟨(N : Int), faulty, slot, gap, rho, dmin, dmax, margin, PA, pn, pcap, parts, QA, qn, qcap, ports, RA, rn, rcap, routes⟩ y b (GrdP.next (⟨(N : Int), faulty, slot, gap, rho, dmin, dmax, margin, PA, pn, pcap, parts, QA, qn, qcap, ports, RA, rn, rcap, routes⟩ : CfgC).plain ps j (GrdP.dueT (⟨(N : Int), faulty, slot, gap, rho, dmin, dmax, margin, PA, pn, pcap, parts, QA, qn, qcap, ports, RA, rn, rcap, routes⟩ : CfgC).plain j + o)) g N 4 row W')) := Lib.hid fun row W hW =>
      (HC.out j h1 _ b ps W hW.guard).mono fun e W' h => ⟨h.1, hW.come h.2.1 h.2.2 (by decide)⟩
    have V2 := Lib.hid (fun h1 => GrdP.verd_early (c := (⟨(N : Int), faulty, slot, gap, rho, dmin, dmax, margin, PA, pn, pcap, parts, QA, qn, qcap, ports, RA, rn, rcap, routes⟩ : CfgC).plain) (ps := ps) (k := j) (a := GrdP.dueT (⟨(N : Int), faulty, slot, gap, rho, dmin, dmax, margin, PA, pn, pcap, parts, QA, qn, qcap, ports, RA, rn, rcap, routes⟩ : CfgC).plain j + o) h1)
    have V3 := Lib.hid (fun h1 h2 => GrdP.verd_late (c := (⟨(N : Int), faulty, slot, gap, rho, dmin, dmax, margin, PA, pn, pcap, parts, QA, qn, qcap, ports, RA, rn, rcap, routes⟩ : CfgC).plain) (ps := ps) (k := j) (a := GrdP.dueT (⟨(N : Int), faulty, slot, gap, rho, dmin, dmax, margin, PA, pn, pcap, parts, QA, qn, qcap, ports, RA, rn, rcap, routes⟩ : CfgC).plain j + o) h1 h2)
    have V4 := Lib.hid (fun (h3 : p = true) h1 h2 => GrdP.verd_again (c := (⟨(N : Int), faulty, slot, gap, rho, dmin, dmax, margin, PA, pn, pcap, parts, QA, qn, qcap, ports, RA, rn, rcap, routes⟩ : CfgC).plain) (ps := ps) (k := j) (a := GrdP.dueT (⟨(N : Int), faulty, slot, gap, rho, dmin, dmax, margin, PA, pn, pcap, parts, QA, qn, qcap, ports, RA, rn, rcap, routes⟩ : CfgC).plain j + o) h1 h2 (h3 ▸ hp))
    have V1 := Lib.hid (fun (h3 : p = false) h1 h2 => GrdP.verd_pass (c := (⟨(N : Int), faulty, slot, gap, rho, dmin, dmax, margin, PA, pn, pcap, parts, QA, qn, qcap, ports, RA, rn, rcap, routes⟩ : CfgC).plain) (ps := ps) (k := j) (a := GrdP.dueT (⟨(N : Int), faulty, slot, gap, rho, dmin, dmax, margin, PA, pn, pcap, parts, QA, qn, qcap, ports, RA, rn, rcap, routes⟩ : CfgC).plain j + o) h1 h2 (h3 ▸ hp))
    simp only [show ((⟨(N : Int), faulty, slot, gap, rho, dmin, dmax, margin, PA, pn, pcap, parts, QA, qn, qcap, ports, RA, rn, rcap, routes⟩ : CfgC).plain).margin = margin from rfl] at V1 V2 V3 V4
    have eD : GrdP.dueT (⟨(N : Int), faulty, slot, gap, rho, dmin, dmax, margin, PA, pn, pcap, parts, QA, qn, qcap, ports, RA, rn, rcap, routes⟩ : CfgC).plain j = SndP.sendT (⟨(N : Int), faulty, slot, gap, rho, dmin, dmax, margin, PA, pn, pcap, parts, QA, qn, qcap, ports, RA, rn, rcap, routes⟩ : CfgC).plain j + SndP.meanT (⟨(N : Int), faulty, slot, gap, rho, dmin, dmax, margin, PA, pn, pcap, parts, QA, qn, qcap, ports, RA, rn, rcap, routes⟩ : CfgC).plain := rfl
    have D0 := fun W (hW : GS w ⟨(N : Int), faulty, slot, gap, rho, dmin, dmax, margin, PA, pn, pcap, parts, QA, qn, qcap, ports, RA, rn, rcap, routes⟩ y b ps g N 4 (bitV (ps.take N)) W) => hW.box.cells
    have dd0 := fun W (hW : GS w ⟨(N : Int), faulty, slot, gap, rho, dmin, dmax, margin, PA, pn, pcap, parts, QA, qn, qcap, ports, RA, rn, rcap, routes⟩ y b ps g N 4 (bitV (ps.take N)) W) => (D0 W hW).c0
    have dd1 := fun W (hW : GS w ⟨(N : Int), faulty, slot, gap, rho, dmin, dmax, margin, PA, pn, pcap, parts, QA, qn, qcap, ports, RA, rn, rcap, routes⟩ y b ps g N 4 (bitV (ps.take N)) W) => (D0 W hW).c1
    have dd2 := fun W (hW : GS w ⟨(N : Int), faulty, slot, gap, rho, dmin, dmax, margin, PA, pn, pcap, parts, QA, qn, qcap, ports, RA, rn, rcap, routes⟩ y b ps g N 4 (bitV (ps.take N)) W) => (D0 W hW).c2
    have dd3 := fun W (hW : GS w ⟨(N : Int), faulty, slot, gap, rho, dmin, dmax, margin, PA, pn, pcap, parts, QA, qn, qcap, ports, RA, rn, rcap, routes⟩ y b ps g N 4 (bitV (ps.take N)) W) => (D0 W hW).c3
    have dd4 := fun W (hW : GS w ⟨(N : Int), faulty, slot, gap, rho, dmin, dmax, margin, PA, pn, pcap, parts, QA, qn, qcap, ports, RA, rn, rcap, routes⟩ y b ps g N 4 (bitV (ps.take N)) W) => (D0 W hW).c4
    have dd5 := fun W (hW : GS w ⟨(N : Int), faulty, slot, gap, rho, dmin, dmax, margin, PA, pn, pcap, parts, QA, qn, qcap, ports, RA, rn, rcap, routes⟩ y b ps g N 4 (bitV (ps.take N)) W) => (D0 W hW).c5
    have dd6 := fun W (hW : GS w ⟨(N : Int), faulty, slot, gap, rho, dmin, dmax, margin, PA, pn, pcap, parts, QA, qn, qcap, ports, RA, rn, rcap, routes⟩ y b ps g N 4 (bitV (ps.take N)) W) => (D0 W hW).c6
    have dd7 := fun W (hW : GS w ⟨(N : Int), faulty, slot, gap, rho, dmin, dmax, margin, PA, pn, pcap, parts, QA, qn, qcap, ports, RA, rn, rcap, routes⟩ y b ps g N 4 (bitV (ps.take N)) W) => (D0 W hW).c7
    have dd8 := fun W (hW : GS w ⟨(N : Int), faulty, slot, gap, rho, dmin, dmax, margin, PA, pn, pcap, parts, QA, qn, qcap, ports, RA, rn, rcap, routes⟩ y b ps g N 4 (bitV (ps.take N)) W) => (D0 W hW).c8
    have dd9 := fun W (hW : GS w ⟨(N : Int), faulty, slot, gap, rho, dmin, dmax, margin, PA, pn, pcap, parts, QA, qn, qcap, ports, RA, rn, rcap, routes⟩ y b ps g N 4 (bitV (ps.take N)) W) => (D0 W hW).c9
    have dd10 := fun W (hW : GS w ⟨(N : Int), faulty, slot, gap, rho, dmin, dmax, margin, PA, pn, pcap, parts, QA, qn, qcap, ports, RA, rn, rcap, routes⟩ y b ps g N 4 (bitV (ps.take N)) W) => (D0 W hW).c10
    simp only at dd0 dd1 dd2 dd3 dd4 dd5 dd6 dd7 dd8 dd9 dd10
    have hbit := fun W (hW : GS w ⟨(N : Int), faulty, slot, gap, rho, dmin, dmax, margin, PA, pn, pcap, parts, QA, qn, qcap, ports, RA, rn, rcap, routes⟩ y b ps g N 4 (bitV (ps.take N)) W) => hW.cell (bitV_get (l := ps.take N) (k := j) (b := p) (by rw [List.getElem?_take, if_pos hjN]; exact hp)) hjN
    have hfree := fun W (hW : GS w ⟨(N : Int), faulty, slot, gap, rho, dmin, dmax, margin, PA, pn, pcap, parts, QA, qn, qcap, ports, RA, rn, rcap, routes⟩ y b ps g N 4 (bitV (ps.take N)) W) => hW.free j
    obtain ⟨sd, hsd⟩ : ∃ sd, SndP.sendT (⟨(N : Int), faulty, slot, gap, rho, dmin, dmax, margin, PA, pn, pcap, parts, QA, qn, qcap, ports, RA, rn, rcap, routes⟩ : CfgC).plain j = sd := ⟨_, rfl⟩
    obtain ⟨mn, hmn⟩ : ∃ mn, SndP.meanT (⟨(N : Int), faulty, slot, gap, rho, dmin, dmax, margin, PA, pn, pcap, parts, QA, qn, qcap, ports, RA, rn, rcap, routes⟩ : CfgC).plain = mn := ⟨_, rfl⟩
    rw [hsd, hmn] at eD
    rw [eD] at HD6 HC6 V1 V2 V3 V4
    rw [hsd] at HS6
    rw [hmn] at HMe
    rw [eD, hsd, hmn] at hd5
    have e3 : IntKind.i64.wrap (sd + mn) = sd + mn := IntWalk.i64_in _ (by omega)
    have e4 : IntKind.i64.wrap (sd + mn + o) = sd + mn + o := IntWalk.i64_in _ (by omega)
    have e5 : IntKind.i64.wrap (-margin) = -margin := IntWalk.i64_in _ (by omega)
    clear D0 HG HCw HC HD HSe hdue hsd hmn eD
    go_wp2_with fail
    go_quiet (fail)
    go_wp2_with fail
    refine wp_region_held_drew (S := fun W => GS w ⟨(N : Int), faulty, slot, gap, rho, dmin, dmax, margin, PA, pn, pcap, parts, QA, qn, qcap, ports, RA, rn, rcap, routes⟩ y b ps g N 4 (bitV (ps.take N)) W) (by kernel_rfl) ((HG6.out _).drew) (fun _ => ?_)
    refine wpAnyH_take (i := 0) (oi := ?oo1) (v := ?vv1) ?ii1 (by kernel_rfl) ?ff1 (by kernel_rfl) ?qq1 (Or.inl ⟨?ww1, ?yy1⟩) ((HG6.out _).drew) ?rr1
    case ii1 => simp only [List.getElem?_toArray, List.getElem?_cons_zero]; rfl
    case ff1 => kernel_rfl
    case qq1 => exact fun _ _ _ h => h
    case ww1 => rfl
    case yy1 => intro W hW; go_simp <;> with_reducible rfl
    try simp only [Act.put, List.setIfInBounds_toArray, List.set_cons_zero, List.set_cons_succ]
    refine wpAnyH_take (i := 1) (oi := ?oo2) (v := ?vv2) ?ii2 (by kernel_rfl) ?ff2 (by kernel_rfl) ?qq2 (Or.inl ⟨?ww2, ?yy2⟩) ((HG6.out _).drew) ?rr2
    case ii2 => simp only [List.getElem?_toArray, List.getElem?_cons_succ, List.getElem?_cons_zero]; rfl
    case ff2 => kernel_rfl
    case qq2 => exact fun _ _ _ h => h
    case ww2 => rfl
    case yy2 => intro W hW; go_simp <;> with_reducible rfl
    try simp only [Act.put, List.setIfInBounds_toArray, List.set_cons_zero, List.set_cons_succ]
    refine wpAnyH_take (i := 3) (oi := ?oo3) (v := ?vv3) ?ii3 (by kernel_rfl) ?ff3 (by kernel_rfl) ?qq3 (Or.inl ⟨?ww3, ?yy3⟩) ((HG6.out _).drew) ?rr3
    case ii3 => simp only [List.getElem?_toArray, List.getElem?_cons_succ, List.getElem?_cons_zero]; rfl
    case ff3 => kernel_rfl
    case qq3 => exact fun _ _ _ h => h
    case ww3 => rfl
    case yy3 => intro W hW; go_simp <;> with_reducible rfl
    try simp only [Act.put, List.setIfInBounds_toArray, List.set_cons_zero, List.set_cons_succ]
    refine wpAnyH_ready (rs := [2]) (by kernel_rfl) (by simp) ?_
    refine AllReadyH.cons (o := ?oo4) ?ii4 (fun K hK => ?_) AllReadyH.nil
    case ii4 => simp only [List.getElem?_toArray, List.getElem?_cons_succ, List.getElem?_cons_zero]; rfl
    go_simp
    refine (HS6.out _).mono ?_
    rintro e w7 ⟨rfl, hb7⟩
    have hg7 := (HG6.out _).drew.step hb7
    clear hb7
    go_wp2_with fail
    refine hK.out _ _ hg7 (fun _ => ?_)
    clear hK K
    refine wpAnyH_ready (rs := [4]) (by kernel_rfl) (by simp) ?_
    refine AllReadyH.cons (o := ?oo5) ?ii5 (fun K hK => ?_) AllReadyH.nil
    case ii5 => simp only [List.getElem?_toArray, List.getElem?_cons_succ, List.getElem?_cons_zero]; rfl
    go_simp
    refine (HMe.out _).mono ?_
    rintro e w8 ⟨rfl, hb8⟩
    have hg8 := hg7.step hb8
    clear hb8
    go_wp2_with fail
    refine hK.out _ _ hg8 (fun _ => ?_)
    clear hK K
    refine wpAnyH_take (i := 5) (oi := ?oo6) (v := ?vv6) ?ii6 (by kernel_rfl) ?ff6 (by kernel_rfl) ?qq6 (Or.inl ⟨?ww6, ?yy6⟩) hg8 ?rr6
    case ii6 => simp only [List.getElem?_toArray, List.getElem?_cons_succ, List.getElem?_cons_zero]; rfl
    case ff6 => kernel_rfl
    case qq6 => exact fun _ _ _ h => h
    case ww6 => rfl
    case yy6 => intro W hW; go_simp <;> with_reducible rfl
    try simp only [Act.put, List.setIfInBounds_toArray, List.set_cons_zero, List.set_cons_succ]
    refine wpAnyH_take (i := 6) (oi := ?oo7) (v := ?vv7) ?ii7 (by kernel_rfl) ?ff7 (by kernel_rfl) ?qq7 (Or.inl ⟨?ww7, ?yy7⟩) hg8 ?rr7
    case ii7 => simp only [List.getElem?_toArray, List.getElem?_cons_succ, List.getElem?_cons_zero]; rfl
    case ff7 => kernel_rfl
    case qq7 => exact fun _ _ _ h => h
    case ww7 => rfl
    case yy7 => intro W hW; go_simp <;> with_reducible rfl
    try simp only [Act.put, List.setIfInBounds_toArray, List.set_cons_zero, List.set_cons_succ]
    refine wpAnyH_done (by kernel_rfl) ?_ _
    have HG8 := Lib.hid hg8
    have hB := hbit _ hg8
    have hFr := hfree _ hg8
    have k0 := dd0 _ hg8
    have k1 := dd1 _ hg8
    have k2 := dd2 _ hg8
    have k3 := dd3 _ hg8
    have k4 := dd4 _ hg8
    have k5 := dd5 _ hg8
    have k6 := dd6 _ hg8
    have k7 := dd7 _ hg8
    have k8 := dd8 _ hg8
    have k9 := dd9 _ hg8
    have k10 := dd10 _ hg8
    clear hg7 hg8 HG6 HS6 HMe hbit hfree c0 c1 hp
    by_cases h2 : o < -margin
    case pos =>
      have q8 : decide (o < -margin) = true := decide_eq_true h2
      have hv := V2.out (by omega)
      have hx2 := GrdP.next_not (c := (⟨(N : Int), faulty, slot, gap, rho, dmin, dmax, margin, PA, pn, pcap, parts, QA, qn, qcap, ports, RA, rn, rcap, routes⟩ : CfgC).plain) (ps := ps) (k := j) (a := sd + mn + o) (by rw [hv]; omega)
      rw [hv, hx2] at HC6
      clear V1 V2 V3 V4 hv hx2 h2
      go_wp2_with fail
      refine (HD6.out _ _ HG8.out).mono ?_
      rintro e w8 ⟨rfl, h8⟩
      have H8 := Lib.hid h8
      clear h8 HD6
      go_wp2_with fail
      refine (HC6.out _ _ H8.out).mono ?_
      rintro e w9 ⟨rfl, h9⟩
      have HR : Hid (PlayG w ⟨(N : Int), faulty, slot, gap, rho, dmin, dmax, margin, PA, pn, pcap, parts, QA, qn, qcap, ports, RA, rn, rcap, routes⟩ y b g N n (.int .i64 ((k : Int) + 1)) w9) := Lib.hid ⟨k + 1, ps, by omega, by omega, by go_num, hp7, h9⟩
      clear h9 H8 HC6
      go_wp2_with fail
      go_roundw
      case rel => exact HR.out
      case measure => simp [intOf]; omega
    have q8 : decide (o < -margin) = false := decide_eq_false h2
    by_cases h3 : margin < o
    case pos =>
      have q9 : decide (margin < o) = true := decide_eq_true h3
      have hv := V3.out (by omega) (by omega)
      have hx2 := GrdP.next_not (c := (⟨(N : Int), faulty, slot, gap, rho, dmin, dmax, margin, PA, pn, pcap, parts, QA, qn, qcap, ports, RA, rn, rcap, routes⟩ : CfgC).plain) (ps := ps) (k := j) (a := sd + mn + o) (by rw [hv]; omega)
      rw [hv, hx2] at HC6
      clear V1 V2 V3 V4 hv hx2 h2 h3
      go_wp2_with fail
      refine (HD6.out _ _ HG8.out).mono ?_
      rintro e w8 ⟨rfl, h8⟩
      have H8 := Lib.hid h8
      clear h8 HD6
      go_wp2_with fail
      refine (HC6.out _ _ H8.out).mono ?_
      rintro e w9 ⟨rfl, h9⟩
      have HR : Hid (PlayG w ⟨(N : Int), faulty, slot, gap, rho, dmin, dmax, margin, PA, pn, pcap, parts, QA, qn, qcap, ports, RA, rn, rcap, routes⟩ y b g N n (.int .i64 ((k : Int) + 1)) w9) := Lib.hid ⟨k + 1, ps, by omega, by omega, by go_num, hp7, h9⟩
      clear h9 H8 HC6
      go_wp2_with fail
      go_roundw
      case rel => exact HR.out
      case measure => simp [intOf]; omega
    have q9 : decide (margin < o) = false := decide_eq_false h3
    cases p with
    | true =>
      have hv := V4.out rfl (by omega) (by omega)
      have hx2 := GrdP.next_not (c := (⟨(N : Int), faulty, slot, gap, rho, dmin, dmax, margin, PA, pn, pcap, parts, QA, qn, qcap, ports, RA, rn, rcap, routes⟩ : CfgC).plain) (ps := ps) (k := j) (a := sd + mn + o) (by rw [hv]; omega)
      rw [hv, hx2] at HC6
      clear V1 V2 V3 V4 hv hx2 h2 h3
      go_wp2_with fail
      refine (HD6.out _ _ HG8.out).mono ?_
      rintro e w8 ⟨rfl, h8⟩
      have H8 := Lib.hid h8
      clear h8 HD6
      go_wp2_with fail
      refine (HC6.out _ _ H8.out).mono ?_
      rintro e w9 ⟨rfl, h9⟩
      have HR : Hid (PlayG w ⟨(N : Int), faulty, slot, gap, rho, dmin, dmax, margin, PA, pn, pcap, parts, QA, qn, qcap, ports, RA, rn, rcap, routes⟩ y b g N n (.int .i64 ((k : Int) + 1)) w9) := Lib.hid ⟨k + 1, ps, by omega, by omega, by go_num, hp7, h9⟩
      clear h9 H8 HC6
      go_wp2_with fail
      go_roundw
      case rel => exact HR.out
      case measure => simp [intOf]; omega
    | false =>
      have hv := V1.out rfl (by omega) (by omega)
      have hx2 := GrdP.next_pass (c := (⟨(N : Int), faulty, slot, gap, rho, dmin, dmax, margin, PA, pn, pcap, parts, QA, qn, qcap, ports, RA, rn, rcap, routes⟩ : CfgC).plain) (ps := ps) (k := j) (a := sd + mn + o) hv
      rw [hv, hx2] at HC6
      have HG9 := Lib.hid (HG8.out.stored (by decide) j (.bool true))
      rw [← bitV_set, ← List.take_set] at HG9
      clear V1 V2 V3 V4 hv hx2 h2 h3 HG8
      go_wp2_with fail
      refine (HD6.out _ _ HG9.out).mono ?_
      rintro e w8 ⟨rfl, h8⟩
      have H8 := Lib.hid h8
      clear h8 HD6
      go_wp2_with fail
      refine (HC6.out _ _ H8.out).mono ?_
      rintro e w9 ⟨rfl, h9⟩
      have HR : Hid (PlayG w ⟨(N : Int), faulty, slot, gap, rho, dmin, dmax, margin, PA, pn, pcap, parts, QA, qn, qcap, ports, RA, rn, rcap, routes⟩ y b g N n (.int .i64 ((k : Int) + 1)) w9) := Lib.hid ⟨k + 1, ps.set j true, by omega, by omega, by go_num, (by rw [List.length_set]; exact hp7), h9⟩
      clear h9 H8 HC6
      go_wp2_with fail
      go_roundw
      case rel => exact HR.out
      case measure => simp [intOf]; omega

theorem gplays_law (x : CfgC) (A : Option Addr) (l : List CallG) (n cap : Nat) (hl : l.length = n) (hn : n * 16 ≤ 140737488355328) (w : World) (h : CfgIn w x) (hin : ItemsIn callVals 2 w A l) :
    Calls Try.prog 3 #[x.value, .slice A n cap] w (TruePost w) := by
  cases hL : longB6 x with
  | true => exact gplays_long x A n cap hL w
  | false =>
    cases hf : SndP.chk6 x.plain with
    | some f => exact gplays_bad x A n cap f hf hL w h
    | none => exact gplays_good x A l n cap hl hn hf hL w h hin
end Go.Proofs.Ytodkcenoljpgoaa
