/- GuardApart: the walk of the law at tables in memory. Conditions: where their lists lie. -/
import Derived.Test.YtodkcenoljpgoaaGrdB
namespace Go.Proofs.Ytodkcenoljpgoaa
open Go.RowKit
set_option maxRecDepth 100000

/-- So many nodes were asked, and of so many something passes. -/
def ApR (w : World) (x : CfgC) (a : Int) (n i : Value) (W : World) : Prop :=
  ∃ c k : Nat, (k : Int) ≤ x.nodes ∧ n = .int .i64 (c : Nat) ∧ i = .int .i64 (k : Nat) ∧ c ≤ 1 ∧ (c = 0 ∨ ∃ j, j < k ∧ GrdP.verd x.plain p0 j a = 1) ∧ BoxS w x W
theorem apR_step {w : World} {x : CfgC} {a : Int} {c k b : Nat} {W W3 W4 : World} (hW : SndP.Works x.plain) (hk : (k : Int) < x.nodes) (hc : c ≤ 1) (hc1 : c = 0 ∨ ∃ j, j < k ∧ GrdP.verd x.plain p0 j a = 1) (hb : BoxS w x W)
    (h3 : W.heap.size ≤ b ∧ Below W.heap.size W W3) (h4 : Apart (fun q => q = b) W3 W4) :
    (GrdP.verd x.plain p0 k a = 1 → c = 0 ∧ ApR w x a (.int .i64 1) (.int .i64 ((k : Int) + 1)) W4) ∧ (GrdP.verd x.plain p0 k a ≠ 1 → ApR w x a (.int .i64 (c : Nat)) (.int .i64 ((k : Int) + 1)) W4) := by
  have hbb : BoxS w x W4 := hb.step (h3.2.trans (h4.below h3.2.size (fun q e => by subst e; exact h3.1)))
  refine ⟨fun e => ?_, fun e => ⟨c, k + 1, by omega, rfl, by go_num, hc, hc1.imp id (fun ⟨j, h1, h2⟩ => ⟨j, by omega, h2⟩), hbb⟩⟩
  have h0 : c = 0 := hc1.elim id fun ⟨j, h1, h2⟩ => (GrdP.one_only hW h1 h2 e).elim
  exact ⟨h0, 1, k + 1, by omega, rfl, by go_num, Nat.le_refl _, .inr ⟨k, by omega, e⟩, hbb⟩

set_option maxHeartbeats 2000000 in
theorem gapart_law (x : CfgC) (a : Int) (w : World) (h : CfgIn w x) : Calls Try.prog 4 #[x.value, .int .i64 a] w (TruePost w) := by
  have HA := Lib.hid (fun W => awake9_any W)
  have HWk := Lib.hid (fun W (hW : BoxS w x W) => works_any x W (h.below hW.below))
  have HST := Lib.hid (BoxS.start w x)
  obtain ⟨L, hL⟩ : ∃ L, worksB x = L := ⟨_, rfl⟩
  rw [hL] at HWk
  cases L with
  | false =>
    clear h hL
    obtain ⟨nodes, faulty, slot, gap, rho, dmin, dmax, margin, PA, pn, pcap, parts, QA, qn, qcap, ports, RA, rn, rcap, routes⟩ := x
    have d0 := fun W (hW : BoxS w ⟨nodes, faulty, slot, gap, rho, dmin, dmax, margin, PA, pn, pcap, parts, QA, qn, qcap, ports, RA, rn, rcap, routes⟩ W) => hW.cells.c0
    have d1 := fun W (hW : BoxS w ⟨nodes, faulty, slot, gap, rho, dmin, dmax, margin, PA, pn, pcap, parts, QA, qn, qcap, ports, RA, rn, rcap, routes⟩ W) => hW.cells.c1
    have d2 := fun W (hW : BoxS w ⟨nodes, faulty, slot, gap, rho, dmin, dmax, margin, PA, pn, pcap, parts, QA, qn, qcap, ports, RA, rn, rcap, routes⟩ W) => hW.cells.c2
    have d3 := fun W (hW : BoxS w ⟨nodes, faulty, slot, gap, rho, dmin, dmax, margin, PA, pn, pcap, parts, QA, qn, qcap, ports, RA, rn, rcap, routes⟩ W) => hW.cells.c3
    have d4 := fun W (hW : BoxS w ⟨nodes, faulty, slot, gap, rho, dmin, dmax, margin, PA, pn, pcap, parts, QA, qn, qcap, ports, RA, rn, rcap, routes⟩ W) => hW.cells.c4
    have d5 := fun W (hW : BoxS w ⟨nodes, faulty, slot, gap, rho, dmin, dmax, margin, PA, pn, pcap, parts, QA, qn, qcap, ports, RA, rn, rcap, routes⟩ W) => hW.cells.c5
    have d6 := fun W (hW : BoxS w ⟨nodes, faulty, slot, gap, rho, dmin, dmax, margin, PA, pn, pcap, parts, QA, qn, qcap, ports, RA, rn, rcap, routes⟩ W) => hW.cells.c6
    have d7 := fun W (hW : BoxS w ⟨nodes, faulty, slot, gap, rho, dmin, dmax, margin, PA, pn, pcap, parts, QA, qn, qcap, ports, RA, rn, rcap, routes⟩ W) => hW.cells.c7
    have d8 := fun W (hW : BoxS w ⟨nodes, faulty, slot, gap, rho, dmin, dmax, margin, PA, pn, pcap, parts, QA, qn, qcap, ports, RA, rn, rcap, routes⟩ W) => hW.cells.c8
    have d9 := fun W (hW : BoxS w ⟨nodes, faulty, slot, gap, rho, dmin, dmax, margin, PA, pn, pcap, parts, QA, qn, qcap, ports, RA, rn, rcap, routes⟩ W) => hW.cells.c9
    have d10 := fun W (hW : BoxS w ⟨nodes, faulty, slot, gap, rho, dmin, dmax, margin, PA, pn, pcap, parts, QA, qn, qcap, ports, RA, rn, rcap, routes⟩ W) => hW.cells.c10
    simp only at d0 d1 d2 d3 d4 d5 d6 d7 d8 d9 d10
    simp only [CfgC.value] at HWk ⊢
    simp only [boxC, cfgCells] at HST
    go_enter Try.func4, Try.ntmps4
    go_wp2_with fail
    refine (HA.out _).mono ?_
    rintro e w1 ⟨rfl, hb1⟩
    have hd1 := HST.out.step hb1
    clear hb1 HA
    have k0 := d0 _ hd1
    have k1 := d1 _ hd1
    have k2 := d2 _ hd1
    have k3 := d3 _ hd1
    have k4 := d4 _ hd1
    have k5 := d5 _ hd1
    have k6 := d6 _ hd1
    have k7 := d7 _ hd1
    have k8 := d8 _ hd1
    have k9 := d9 _ hd1
    have k10 := d10 _ hd1
    have Hd1 := Lib.hid hd1
    clear hd1
    go_wp2_with fail
    refine (HWk.out _ Hd1.out).mono ?_
    rintro e w2 ⟨rfl, hb2⟩
    have hd2 := Hd1.out.step hb2
    clear hb2 Hd1 HWk k0 k1 k2 k3 k4 k5 k6 k7 k8 k9 k10
    have HF := Lib.hid hd2.below
    clear hd2
    go_wp2_with fail
    go_ret
    exact ⟨rfl, HF.out⟩
  | true =>
  have hR : SndP.chk6 x.plain = none := by
    unfold worksB at hL
    simp only [Bool.and_eq_true] at hL
    exact Option.isNone_iff_eq_none.1 hL.2
  have hW := SndP.works hR
  have HN := Lib.hid (fun W (hb : BoxS w x W) => gnew_good x W (h.below hb.below) hR)
  have HC := Lib.hid (fun k (hk : ((k : Nat) : Int) < x.nodes) b W (hg : GuardIn W b x p0) => come_any x p0 k hk a b W hg hW.allowed.head)
  have HStep := Lib.hid (fun c k b W W3 W4 hk hc hc1 hb h3 h4 => apR_step (w := w) (x := x) (a := a) (c := c) (k := k) (b := b) (W := W) (W3 := W3) (W4 := W4) hW hk hc hc1 hb h3 h4)
  have HS : Hid (∀ W, BoxS w x W → ApR w x a (.int .i64 0) (.int .i64 0) W) := Lib.hid fun W hb => ⟨0, 0, by have := (SndP.nums_in hW.allowed.head).nodes.1; simp only [CfgC.plain] at this; omega, rfl, rfl, by omega, .inl rfl, hb⟩
  have hnn : 1 ≤ x.nodes ∧ x.nodes ≤ 7 := (SndP.nums_in hW.allowed.head).nodes
  clear hL hR hW h
  unfold ComeP at HC
  obtain ⟨nodes, faulty, slot, gap, rho, dmin, dmax, margin, PA, pn, pcap, parts, QA, qn, qcap, ports, RA, rn, rcap, routes⟩ := x
  have d0 := fun W (hW : BoxS w ⟨nodes, faulty, slot, gap, rho, dmin, dmax, margin, PA, pn, pcap, parts, QA, qn, qcap, ports, RA, rn, rcap, routes⟩ W) => hW.cells.c0
  have d1 := fun W (hW : BoxS w ⟨nodes, faulty, slot, gap, rho, dmin, dmax, margin, PA, pn, pcap, parts, QA, qn, qcap, ports, RA, rn, rcap, routes⟩ W) => hW.cells.c1
  have d2 := fun W (hW : BoxS w ⟨nodes, faulty, slot, gap, rho, dmin, dmax, margin, PA, pn, pcap, parts, QA, qn, qcap, ports, RA, rn, rcap, routes⟩ W) => hW.cells.c2
  have d3 := fun W (hW : BoxS w ⟨nodes, faulty, slot, gap, rho, dmin, dmax, margin, PA, pn, pcap, parts, QA, qn, qcap, ports, RA, rn, rcap, routes⟩ W) => hW.cells.c3
  have d4 := fun W (hW : BoxS w ⟨nodes, faulty, slot, gap, rho, dmin, dmax, margin, PA, pn, pcap, parts, QA, qn, qcap, ports, RA, rn, rcap, routes⟩ W) => hW.cells.c4
  have d5 := fun W (hW : BoxS w ⟨nodes, faulty, slot, gap, rho, dmin, dmax, margin, PA, pn, pcap, parts, QA, qn, qcap, ports, RA, rn, rcap, routes⟩ W) => hW.cells.c5
  have d6 := fun W (hW : BoxS w ⟨nodes, faulty, slot, gap, rho, dmin, dmax, margin, PA, pn, pcap, parts, QA, qn, qcap, ports, RA, rn, rcap, routes⟩ W) => hW.cells.c6
  have d7 := fun W (hW : BoxS w ⟨nodes, faulty, slot, gap, rho, dmin, dmax, margin, PA, pn, pcap, parts, QA, qn, qcap, ports, RA, rn, rcap, routes⟩ W) => hW.cells.c7
  have d8 := fun W (hW : BoxS w ⟨nodes, faulty, slot, gap, rho, dmin, dmax, margin, PA, pn, pcap, parts, QA, qn, qcap, ports, RA, rn, rcap, routes⟩ W) => hW.cells.c8
  have d9 := fun W (hW : BoxS w ⟨nodes, faulty, slot, gap, rho, dmin, dmax, margin, PA, pn, pcap, parts, QA, qn, qcap, ports, RA, rn, rcap, routes⟩ W) => hW.cells.c9
  have d10 := fun W (hW : BoxS w ⟨nodes, faulty, slot, gap, rho, dmin, dmax, margin, PA, pn, pcap, parts, QA, qn, qcap, ports, RA, rn, rcap, routes⟩ W) => hW.cells.c10
  simp only at d0 d1 d2 d3 d4 d5 d6 d7 d8 d9 d10 hnn HC
  simp only [CfgC.value] at HWk HN ⊢
  simp only [boxC, cfgCells] at HST
  go_enter Try.func4, Try.ntmps4
  go_wp2_with fail
  refine (HA.out _).mono ?_
  rintro e w1 ⟨rfl, hb1⟩
  have hd1 := HST.out.step hb1
  clear hb1 HA
  have k0 := d0 _ hd1
  have k1 := d1 _ hd1
  have k2 := d2 _ hd1
  have k3 := d3 _ hd1
  have k4 := d4 _ hd1
  have k5 := d5 _ hd1
  have k6 := d6 _ hd1
  have k7 := d7 _ hd1
  have k8 := d8 _ hd1
  have k9 := d9 _ hd1
  have k10 := d10 _ hd1
  have Hd1 := Lib.hid hd1
  clear hd1
  go_wp2_with fail
  refine (HWk.out _ Hd1.out).mono ?_
  rintro e w2 ⟨rfl, hb2⟩
  have hd2 := Hd1.out.step hb2
  clear hb2 Hd1 HWk k0 k1 k2 k3 k4 k5 k6 k7 k8 k9 k10
  have k0 := d0 _ hd2
  have k1 := d1 _ hd2
  have k2 := d2 _ hd2
  have k3 := d3 _ hd2
  have k4 := d4 _ hd2
  have k5 := d5 _ hd2
  have k6 := d6 _ hd2
  have k7 := d7 _ hd2
  have k8 := d8 _ hd2
  have k9 := d9 _ hd2
  have k10 := d10 _ hd2
  have Hd2 := Lib.hid hd2
  clear hd2
  go_wp2_with fail
  clear k0 k1 k2 k3 k4 k5 k6 k7 k8 k9 k10
  go_loopw [5, 6] (ApR w ⟨nodes, faulty, slot, gap, rho, dmin, dmax, margin, PA, pn, pcap, parts, QA, qn, qcap, ports, RA, rn, rcap, routes⟩ a) (fun _ i _ => (nodes - intOf i).toNat)
  case atStart => exact HS.out _ Hd2.out
  case round =>
    clear Hd2 HS
    obtain ⟨c, k, hk, rfl, rfl, hc, hc1, hb⟩ := hrel
    simp only at hk
    have k0 := d0 _ hb
    have k1 := d1 _ hb
    have k2 := d2 _ hb
    have k3 := d3 _ hb
    have k4 := d4 _ hb
    have k5 := d5 _ hb
    have k6 := d6 _ hb
    have k7 := d7 _ hb
    have k8 := d8 _ hb
    have k9 := d9 _ hb
    have k10 := d10 _ hb
    have Hb := Lib.hid hb
    have Hc1 := Lib.hid hc1
    clear hb hc1
    by_cases hkn : (k : Int) < nodes
    case neg =>
      have q0 : decide ((k : Int) < nodes) = false := decide_eq_false hkn
      have q1 : decide ((c : Int) ≤ 1) = true := decide_eq_true (by omega)
      have HF := Lib.hid Hb.out.below
      clear HN HC HStep Hb Hc1 hkn hk hnn
      go_wp2_with fail
      go_ret
      exact ⟨rfl, HF.out⟩
    have q0 : decide ((k : Int) < nodes) = true := decide_eq_true hkn
    have HS1 := Lib.hid (fun b W3 W4 h3 h4 => HStep.out c k b wr W3 W4 hkn hc Hc1.out Hb.out h3 h4)
    have HC1 := Lib.hid (HC.out k hkn)
    have HN1 := Lib.hid (HN.out wr Hb.out)
    clear HStep HC HN Hc1 Hb
    go_wp2_with fail
    refine HN1.out.mono ?_
    rintro e w3 ⟨b, rfl, h1, h2, h3⟩
    have HC2 := Lib.hid (HC1.out b w3 h1)
    have HS2 := Lib.hid (fun W4 h4 => HS1.out b w3 W4 ⟨h2, h3⟩ h4)
    clear h1 h2 h3 HC1 HS1 HN1 k0 k1 k2 k3 k4 k5 k6 k7 k8 k9 k10
    obtain ⟨v, hv0⟩ : ∃ v, GrdP.verd (⟨nodes, faulty, slot, gap, rho, dmin, dmax, margin, PA, pn, pcap, parts, QA, qn, qcap, ports, RA, rn, rcap, routes⟩ : CfgC).plain p0 k a = v := ⟨_, rfl⟩
    rw [hv0] at HC2
    unfold gv at HC2 ⊢
    go_wp2_with fail
    refine HC2.out.mono ?_
    rintro e w4 ⟨rfl, -, h4⟩
    have HS3 := Lib.hid (HS2.out w4 h4)
    rw [hv0] at HS3
    clear h4 HS2 HC2 hv0
    by_cases hv : v = 1
    · subst hv
      obtain ⟨rfl, hR⟩ := HS3.out.1 rfl
      have HR := Lib.hid hR
      clear hR HS3
      go_wp2_with fail
      go_roundw
      case rel => exact HR.out
      case measure => simp [intOf]; omega
    · have HR := Lib.hid (HS3.out.2 hv)
      have q2 : (v == 1) = false := by rw [beq_eq_false_iff_ne]; exact hv
      clear HS3 hv
      go_wp2_with fail
      go_roundw
      case rel => exact HR.out
      case measure => simp [intOf]; omega
end Go.Proofs.Ytodkcenoljpgoaa
