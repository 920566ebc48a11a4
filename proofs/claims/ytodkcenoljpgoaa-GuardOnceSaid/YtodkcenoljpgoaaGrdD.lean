/- GuardOnce: the walk of the law at tables in memory and comings. Conditions: where they lie. -/
import Derived.Test.YtodkcenoljpgoaaGrdR
import Derived.Deep.OwnRows
namespace Go.Proofs.Ytodkcenoljpgoaa
open Go.RowKit
set_option maxRecDepth 100000

theorem infoI1 : (Try.prog.info? 3).map (fun i => (i.zero, i.size, i.bytes)) = some (some (.int .i64 0), 1, 8) := by kernel_rfl
/-- So many comings are done. -/
def OnceR (w : World) (x : CfgC) (b g N n : Nat) (i : Value) (W : World) : Prop :=
  ∃ (k : Nat) (ps : List Bool), k ≤ n ∧ k ≤ 200 ∧ i = .int .i64 (k : Nat) ∧ ps.length = 7 ∧ GS w x x b ps g N 3 (cntV (ps.take N)) W
/-- What Come says of bytes that come in time. -/
theorem in_time {c : TableP.Cfg} {ps : List Bool} {j : Nat} {o : Int} (ho : -(c.margin + 1) < o ∧ o < c.margin + 1) {p : Bool} (hp : ps[j]? = some p) :
    GrdP.verd c ps j (GrdP.dueT c j + o) = if p = true then 4 else 1 := by
  have h1 : ¬ GrdP.dueT c j + o < GrdP.dueT c j - c.margin := by omega
  have h2 : ¬ GrdP.dueT c j + c.margin < GrdP.dueT c j + o := by omega
  cases p with
  | true => exact GrdP.verd_again h1 h2 hp
  | false => exact GrdP.verd_pass h1 h2 hp

set_option maxHeartbeats 4000000 in
theorem gonce_law (x : CfgC) (A : Option Addr) (l : List CallG) (n cap : Nat) (hl : l.length = n) (hn : n * 16 ≤ 140737488355328) (w : World) (h : CfgIn w x) (hin : ItemsIn callVals 2 w A l) : Calls Try.prog 6 #[x.value, .slice A n cap] w (TruePost w) := by
  have HA := Lib.hid (fun W => awake9_any W)
  have HWk := Lib.hid (fun W (hW : BoxS w x W) => works_any x W (h.below hW.below))
  have HST := Lib.hid (BoxS.start w x)
  obtain ⟨L, hL⟩ : ∃ L, worksB x = L := ⟨_, rfl⟩
  rw [hL] at HWk
  cases L with
  | false =>
    clear h hL hl hn hin
    obtain ⟨nodes, faulty, slot, gap, rho, dmin, dmax, margin, PA, pn, pcap, parts, QA, qn, qcap, ports, RA, rn, rcap, routes⟩ := x
    have d0 := fun W (hW : BoxS w ⟨nodes, faulty, slot, gap, rho, dmin, dmax, margin, PA, pn, pcap, parts, QA, qn, qcap, ports, RA, rn, rcap, routes⟩ W) => hW.cells.c0
    have d1 := fun W (hW : BoxS w ⟨nodes, faulty, slot, gap, rho, dmin, dmax, margin, PA, pn, pcap, parts, QA, qn, qcap, ports, RA, rn, rcap, routes⟩ W) => hW.cells.c1
    have d2 := fun W (hW : BoxS w ⟨nodes, faulty, slot, gap, rho, dmin, dmax, margin, PA, pn, pcap, parts, QA, qn, qcap, ports, RA, rn, rcap, routes⟩ W) => hW.cells.c2
    have d3 := fun W (hW : BoxS w ⟨nodes, faulty, slot, gap, rho, dmin, dmax, margin, PA, pn, pcap, parts, QA, qn, qcap, ports, RA, rn, rcap, routes⟩ W) => hW.cells.c3
    have d4 := fun W (hW : BoxS w ⟨nodes, faulty, slot, gap, rho, dmin, dmax, margin, PA, pn, pcap, parts, QA, qn, qcap, ports, RA, rn, rcap, routes⟩ W) => hW.cells.c4
    have d5 := fun W (hW : BoxS w ⟨nodes, faulty, slot, gap, rho, dmin, dmax, margin, PA, pn, pcap, parts, QA, qn, qcap, ports, RA, rn, rcap, routes⟩ W) => hW.cells.c5
    have d6 := fun W (hW : BoxS w ⟨nodes, faulty, slot, gap, rho, dmin, dmax, margin, PA, pn, pcap, parts, QA, qn, qcap, ports, RA, rn, rcap, routes⟩ W) => hW.cells.c6
    have d7 := fun W (hW : BoxS w ⟨nodes, faulty, slot, gap, rho, dmin, dmax, margin, PA, pn, pcap, parts, QA, qn, qcap, ports, RA, rn, rcap, routes⟩ W) => hW.cells.c7
    have d8 := fun W (hW : BoxS w ⟨nodes, faulty, slot, gap, rho, dmin, dmax, margin, PA, pn, pcap, parts, QA, qn, qcap, ports, RA, rn, rcap, routes⟩ W) => hW.cells.c8
    have d9 := fun W (hW : BoxS w ⟨nodes, faulty, slot, gap, rho, dmin, dmax, margin, PA, pn, pcap, parts, QA, qn, qcap, ports, RA, rn, rcap, routes⟩ W) => hW.cells.c9
    have d10 := fun W (hW : BoxS w ⟨nodes, faulty, slot, gap, rho, dmin, dmax, margin, PA, pn, pcap, parts, QA, qn, qcap, ports, RA, rn, rcap, routes⟩ W) => hW.cells.c10
    simp only at d0 d1 d2 d3 d4 d5 d6 d7 d8 d9 d10
    simp only [CfgC.value] at HWk ⊢
    simp only [boxC, cfgCells] at HST
    go_enter Try.func6, Try.ntmps6
    go_wp2_with fail
    refine (HA.out _).mono ?_
    rintro e w1 ⟨rfl, hb1⟩
    have hd1 := HST.out.step hb1
    clear hb1 HA
    have k0 := d0 _ hd1
    have k1 := d1 _ hd1
    have k2 := d2 _ hd1
    have k3 := d3 _ hd1
    have k4 := d4 _ hd1
    have k5 := d5 _ hd1
    have k6 := d6 _ hd1
    have k7 := d7 _ hd1
    have k8 := d8 _ hd1
    have k9 := d9 _ hd1
    have k10 := d10 _ hd1
    have Hd1 := Lib.hid hd1
    clear hd1
    go_wp2_with fail
    refine (HWk.out _ Hd1.out).mono ?_
    rintro e w2 ⟨rfl, hb2⟩
    have hd2 := Hd1.out.step hb2
    clear hb2 Hd1 HWk k0 k1 k2 k3 k4 k5 k6 k7 k8 k9 k10
    have HF := Lib.hid hd2.below
    clear hd2
    go_wp2_with fail
    go_ret
    exact ⟨rfl, HF.out⟩
  | true =>
  have hR : SndP.chk6 x.plain = none := by
    unfold worksB at hL
    simp only [Bool.and_eq_true] at hL
    exact Option.isNone_iff_eq_none.1 hL.2
  have hW := SndP.works hR
  have hhd := hW.allowed.head
  have hnn : 1 ≤ x.nodes ∧ x.nodes ≤ 7 := (SndP.nums_in hhd).nodes
  have hmg : 0 ≤ x.margin ∧ x.margin ≤ 16777216 := (SndP.nums_in hhd).margin
  have hdue : Hid (∀ j : Nat, (j : Int) < x.nodes → 0 ≤ GrdP.dueT x.plain j ∧ GrdP.dueT x.plain j ≤ 152043520) := Lib.hid fun j hj => by have := GrdP.due_in (SndP.nums_in hhd) (n := (j : Int)) ⟨by omega, by omega⟩; omega
  have HN := Lib.hid (fun W (hb : BoxS w x W) => gnew_good x W (h.below hb.below) hR)
  have HD := Lib.hid (fun (j : Nat) (hj : (j : Int) < x.nodes) b ps W (hg : GuardIn W b x ps) => due_any x ps j ⟨by omega, by omega⟩ b W hg hhd)
  have HC := Lib.hid (fun (j : Nat) (hj : (j : Int) < x.nodes) o b ps W (hg : GuardIn W b x ps) => come_any x ps j hj (GrdP.dueT x.plain j + o) b W hg hhd)
  have HT := Lib.hid (fun (j : Nat) (o : Int) (ho : -(x.margin + 1) < o ∧ o < x.margin + 1) (ps : List Bool) (p : Bool) (hp : ps[j]? = some p) => in_time (c := x.plain) ho hp)
  have HIn := Lib.hid (fun W (hW : BoxS w x W) k y hy => call_cells (hin.below hW.below) (k := k) (n := y.node) (o := y.off) (show l[k]? = some y from hy))
  have HL := Lib.hid hl
  clear hL hR hW h hin hl hhd
  unfold ComeP at HC
  obtain ⟨nodes, faulty, slot, gap, rho, dmin, dmax, margin, PA, pn, pcap, parts, QA, qn, qcap, ports, RA, rn, rcap, routes⟩ := x
  have d0 := fun W (hW : BoxS w ⟨nodes, faulty, slot, gap, rho, dmin, dmax, margin, PA, pn, pcap, parts, QA, qn, qcap, ports, RA, rn, rcap, routes⟩ W) => hW.cells.c0
  have d1 := fun W (hW : BoxS w ⟨nodes, faulty, slot, gap, rho, dmin, dmax, margin, PA, pn, pcap, parts, QA, qn, qcap, ports, RA, rn, rcap, routes⟩ W) => hW.cells.c1
  have d2 := fun W (hW : BoxS w ⟨nodes, faulty, slot, gap, rho, dmin, dmax, margin, PA, pn, pcap, parts, QA, qn, qcap, ports, RA, rn, rcap, routes⟩ W) => hW.cells.c2
  have d3 := fun W (hW : BoxS w ⟨nodes, faulty, slot, gap, rho, dmin, dmax, margin, PA, pn, pcap, parts, QA, qn, qcap, ports, RA, rn, rcap, routes⟩ W) => hW.cells.c3
  have d4 := fun W (hW : BoxS w ⟨nodes, faulty, slot, gap, rho, dmin, dmax, margin, PA, pn, pcap, parts, QA, qn, qcap, ports, RA, rn, rcap, routes⟩ W) => hW.cells.c4
  have d5 := fun W (hW : BoxS w ⟨nodes, faulty, slot, gap, rho, dmin, dmax, margin, PA, pn, pcap, parts, QA, qn, qcap, ports, RA, rn, rcap, routes⟩ W) => hW.cells.c5
  have d6 := fun W (hW : BoxS w ⟨nodes, faulty, slot, gap, rho, dmin, dmax, margin, PA, pn, pcap, parts, QA, qn, qcap, ports, RA, rn, rcap, routes⟩ W) => hW.cells.c6
  have d7 := fun W (hW : BoxS w ⟨nodes, faulty, slot, gap, rho, dmin, dmax, margin, PA, pn, pcap, parts, QA, qn, qcap, ports, RA, rn, rcap, routes⟩ W) => hW.cells.c7
  have d8 := fun W (hW : BoxS w ⟨nodes, faulty, slot, gap, rho, dmin, dmax, margin, PA, pn, pcap, parts, QA, qn, qcap, ports, RA, rn, rcap, routes⟩ W) => hW.cells.c8
  have d9 := fun W (hW : BoxS w ⟨nodes, faulty, slot, gap, rho, dmin, dmax, margin, PA, pn, pcap, parts, QA, qn, qcap, ports, RA, rn, rcap, routes⟩ W) => hW.cells.c9
  have d10 := fun W (hW : BoxS w ⟨nodes, faulty, slot, gap, rho, dmin, dmax, margin, PA, pn, pcap, parts, QA, qn, qcap, ports, RA, rn, rcap, routes⟩ W) => hW.cells.c10
  simp only at d0 d1 d2 d3 d4 d5 d6 d7 d8 d9 d10 hnn hmg HC HD HT hdue
  simp only [CfgC.value] at HWk HN ⊢
  simp only [boxC, cfgCells] at HST
  obtain ⟨N, rfl⟩ : ∃ N : Nat, nodes = N := ⟨nodes.toNat, by omega⟩
  have hmk := fun W => run_make_row' (P := Try.prog) 60 3 (.int .i64 0) 8 Try.underlying60 infoI1 rfl .i64 .i64 N (by omega) (by omega) W
  go_enter Try.func6, Try.ntmps6
  go_wp2_with fail
  refine (HA.out _).mono ?_
  rintro e w1 ⟨rfl, hb1⟩
  have hd1 := HST.out.step hb1
  clear hb1 HA
  have k0 := d0 _ hd1
  have k1 := d1 _ hd1
  have k2 := d2 _ hd1
  have k3 := d3 _ hd1
  have k4 := d4 _ hd1
  have k5 := d5 _ hd1
  have k6 := d6 _ hd1
  have k7 := d7 _ hd1
  have k8 := d8 _ hd1
  have k9 := d9 _ hd1
  have k10 := d10 _ hd1
  have Hd1 := Lib.hid hd1
  clear hd1
  go_wp2_with fail
  refine (HWk.out _ Hd1.out).mono ?_
  rintro e w2 ⟨rfl, hb2⟩
  have hd2 := Hd1.out.step hb2
  clear hb2 Hd1 HWk k0 k1 k2 k3 k4 k5 k6 k7 k8 k9 k10
  have k0 := d0 _ hd2
  have k1 := d1 _ hd2
  have k2 := d2 _ hd2
  have k3 := d3 _ hd2
  have k4 := d4 _ hd2
  have k5 := d5 _ hd2
  have k6 := d6 _ hd2
  have k7 := d7 _ hd2
  have k8 := d8 _ hd2
  have k9 := d9 _ hd2
  have k10 := d10 _ hd2
  have Hd2 := Lib.hid hd2
  have HN2 := Lib.hid (HN.out _ hd2)
  clear hd2 HN
  go_wp2_with fail
  refine HN2.out.mono ?_
  rintro e w3 ⟨b, rfl, h1, h2, h3⟩
  have hd3 := Hd2.out.step h3
  have HS : Hid (OnceR w ⟨(N : Int), faulty, slot, gap, rho, dmin, dmax, margin, PA, pn, pcap, parts, QA, qn, qcap, ports, RA, rn, rcap, routes⟩ b w3.heap.size N n (.int .i64 0) (w3.alloc (.cells (madeCells #[.int .i64 0] N) 3))) := Lib.hid
    ⟨0, p0, by omega, by omega, rfl, rfl, hd3.alloc _, h1.below ((Below.refl _ _).alloc (Nat.le_refl _) _), Nat.le_trans Hd2.out.size h2, by rw [take_rep (by omega)]; exact cnts_made hd3.size (by unfold maxLen; omega)⟩
  clear h1 h2 h3 Hd2 HN2 k0 k1 k2 k3 k4 k5 k6 k7 k8 k9 k10
  have k0 := d0 _ hd3
  have k1 := d1 _ hd3
  have k2 := d2 _ hd3
  have k3 := d3 _ hd3
  have k4 := d4 _ hd3
  have k5 := d5 _ hd3
  have k6 := d6 _ hd3
  have k7 := d7 _ hd3
  have k8 := d8 _ hd3
  have k9 := d9 _ hd3
  have k10 := d10 _ hd3
  clear hd3
  unfold gv at *
  go_wp2_with fail
  clear k0 k1 k2 k3 k4 k5 k6 k7 k8 k9 k10 hmk
  generalize w3.alloc (.cells (madeCells #[.int .i64 0] N) 3) = w4 at *
  generalize w3.heap.size = g at *
  go_loopw [8] (OnceR w ⟨(N : Int), faulty, slot, gap, rho, dmin, dmax, margin, PA, pn, pcap, parts, QA, qn, qcap, ports, RA, rn, rcap, routes⟩ b g N n) (fun i _ => (201 - intOf i).toNat)
  case atStart => exact HS.out
  case round =>
    clear HS
    obtain ⟨k, ps, hk, hk2, rfl, hp7, hG⟩ := hrel
    have HG := Lib.hid hG
    clear hG
    by_cases hkn : k < n ∧ k < 200
    case neg =>
      have HF := Lib.hid HG.out.box.below
      clear HG HD HC HT HIn
      by_cases hkn1 : k < n
      · obtain rfl : k = 200 := by omega
        have q1 : decide ((200 : Int) < (n : Int)) = true := decide_eq_true (by omega)
        have q2 : decide (200 < n) = true := decide_eq_true (by omega)
        clear hkn hkn1
        go_wp2_with fail
        go_ret
        exact ⟨rfl, HF.out⟩
      · have q1 : decide ((k : Int) < (n : Int)) = false := decide_eq_false (by omega)
        have q2 : decide (k < n) = false := decide_eq_false (by omega)
        clear hkn hkn1
        go_wp2_with fail
        go_ret
        exact ⟨rfl, HF.out⟩
    obtain ⟨hkn, hk200⟩ := hkn
    obtain ⟨⟨no, of⟩, hx⟩ : ∃ y, l[k]? = some y := ⟨_, List.getElem?_eq_getElem (by have := HL.out; omega)⟩
    obtain ⟨bc, oc, ec, -, c0, c1⟩ := HIn.out wr HG.out.box k _ hx
    simp only at c0 c1
    clear hx
    subst ec
    have k0 := d0 _ HG.out.box
    have k1 := d1 _ HG.out.box
    have k2 := d2 _ HG.out.box
    have k3 := d3 _ HG.out.box
    have k4 := d4 _ HG.out.box
    have k5 := d5 _ HG.out.box
    have k6 := d6 _ HG.out.box
    have k7 := d7 _ HG.out.box
    have k8 := d8 _ HG.out.box
    have k9 := d9 _ HG.out.box
    have k10 := d10 _ HG.out.box
    have q1 : decide ((k : Int) < (n : Int)) = true := decide_eq_true (by omega)
    have q2 : decide (k < n) = true := decide_eq_true hkn
    have q3 : decide ((k : Int) < 200) = true := decide_eq_true (by omega)
    have q4 : decide (k < 200) = true := decide_eq_true hk200
    obtain ⟨j, hj, ej⟩ := node_of no N (by omega) (by omega)
    have eN : IntKind.u64.wrap (N : Int) = (N : Int) := by simp [IntKind.wrap, IntKind.bits, IntKind.signed]; omega
    have zN : ¬ (N : Int) = 0 := by omega
    have eM : IntKind.i64.wrap (margin + 1) = margin + 1 := IntWalk.i64_in _ (by omega)
    have zM : ¬ margin + 1 = 0 := by omega
    obtain ⟨o, ho, hob⟩ : ∃ o, of.tmod (margin + 1) = o ∧ (-(margin + 1) < o ∧ o < margin + 1) := ⟨_, rfl, tmod_in of (margin + 1) (by omega)⟩
    have eO : wrap64 (of.tmod (margin + 1)) = o := by rw [ho]; exact IntWalk.wrap64_in o ⟨by omega, by omega⟩
    have eO2 : IntKind.i64.wrap (of.tmod (margin + 1)) = o := by rw [ho]; exact IntWalk.i64_in o ⟨by omega, by omega⟩
    obtain ⟨p, hp⟩ : ∃ p, ps[j]? = some p := ⟨_, List.getElem?_eq_getElem (by omega)⟩
    have hd5 := hdue.out j (by omega)
    have HV := HT.out j o hob ps p hp
    have HD5 := Lib.hid (HD.out j (by omega) b ps)
    have HC5 := Lib.hid (HC.out j (by omega) o b ps)
    rw [HV] at HC5
    generalize hdu : GrdP.dueT _ (j : Int) = du at *
    have eA : IntKind.i64.wrap (du + o) = du + o := IntWalk.i64_in _ (by omega)
    have HG6 : Hid (∀ m, GS w ⟨(N : Int), faulty, slot, gap, rho, dmin, dmax, margin, PA, pn, pcap, parts, QA, qn, qcap, ports, RA, rn, rcap, routes⟩ ⟨(N : Int), faulty, slot, gap, rho, dmin, dmax, margin, PA, pn, pcap, parts, QA, qn, qcap, ports, RA, rn, rcap, routes⟩ b ps g N 3 (cntV (ps.take N)) (wr.drewN m)) := Lib.hid fun m => HG.out.drewN m
    have HD6 := Lib.hid (fun W (hW : GS w ⟨(N : Int), faulty, slot, gap, rho, dmin, dmax, margin, PA, pn, pcap, parts, QA, qn, qcap, ports, RA, rn, rcap, routes⟩ ⟨(N : Int), faulty, slot, gap, rho, dmin, dmax, margin, PA, pn, pcap, parts, QA, qn, qcap, ports, RA, rn, rcap, routes⟩ b ps g N 3 (cntV (ps.take N)) W) => (HD5.out W hW.guard).mono (R' := fun e W' => e = .returned (.int .i64 du) ∧ GS w ⟨(N : Int), faulty, slot, gap, rho, dmin, dmax, margin, PA, pn, pcap, parts, QA, qn, qcap, ports, RA, rn, rcap, routes⟩ ⟨(N : Int), faulty, slot, gap, rho, dmin, dmax, margin, PA, pn, pcap, parts, QA, qn, qcap, ports, RA, rn, rcap, routes⟩ b ps g N 3 (cntV (ps.take N)) W') fun e W' ⟨h1, h2⟩ => ⟨h1, hW.step h2⟩)
    clear HG HIn HT HD HC hdue HD5
    go_wp2_with fail
    go_quiet (fail)
    go_wp2_with fail
    go_quiet (fail)
    go_wp2_with fail
    refine (HD6.out _ (HG6.out _)).mono ?_
    rintro e w5 ⟨rfl, hg7⟩
    have HG7 := Lib.hid hg7
    clear hg7 HG6 HD6 c0 c1 k0 k1 k2 k3 k4 k5 k6 k7 k8 k9 k10
    go_wp2_with fail
    refine (HC5.out _ HG7.out.guard).mono ?_
    rintro e w6 ⟨rfl, hg6, ha6⟩
    have HG8 := Lib.hid (HG7.out.come hg6 ha6 (by decide))
    clear hg6 ha6 HG7 HC5
    have hjt : (ps.take N)[j]? = some p := by rw [List.getElem?_take, if_pos hj]; exact hp
    have hc8 := HG8.out.cell (cntV_get hjt) hj
    have hf8 := HG8.out.free j
    have e1 : IntKind.i64.wrap ((k : Int) + 1) = (k : Int) + 1 := IntWalk.i64_in _ (by omega)
    cases p with
    | true =>
      rw [if_pos rfl] at hc8
      have HR : Hid (OnceR w ⟨(N : Int), faulty, slot, gap, rho, dmin, dmax, margin, PA, pn, pcap, parts, QA, qn, qcap, ports, RA, rn, rcap, routes⟩ b g N n (.int .i64 ((k : Int) + 1)) w6) := Lib.hid
        ⟨k + 1, ps, by omega, by omega, by go_num, hp7, by have := HG8.out; rw [GrdP.next_not (by rw [HV]; simp)] at this; exact this⟩
      clear HG8 hjt HV hp
      go_wp2_with fail
      go_roundw
      case rel => exact HR.out
      case measure => simp [intOf]; omega
    | false =>
      rw [if_neg (by simp)] at hc8
      have HR : Hid (OnceR w ⟨(N : Int), faulty, slot, gap, rho, dmin, dmax, margin, PA, pn, pcap, parts, QA, qn, qcap, ports, RA, rn, rcap, routes⟩ b g N n (.int .i64 ((k : Int) + 1)) (w6.setCell ⟨g, j, none⟩ (.int .i64 1))) := Lib.hid
        ⟨k + 1, ps.set j true, by omega, by omega, by go_num, by rw [List.length_set]; exact hp7, by
          have h1 := HG8.out
          rw [GrdP.next_pass (by rw [HV]; rfl)] at h1
          have h2 := h1.stored (by decide) j (.int .i64 1)
          rw [← cntV_set, ← List.take_set] at h2
          exact h2⟩
      have hc9 : (w6.setCell ⟨g, j, none⟩ (.int .i64 1)).cell? ⟨g, j, none⟩ = some (.int .i64 1) := by
        have h2 := HG8.out.stored (by decide) j (.int .i64 1)
        exact h2.cell (by rw [List.getElem?_set_self (by rw [cntV, List.length_map, List.length_take]; omega)]) hj
      clear HG8 hjt HV hp
      go_wp2_with fail
      go_roundw
      case rel => exact HR.out
      case measure => simp [intOf]; omega
end Go.Proofs.Ytodkcenoljpgoaa
