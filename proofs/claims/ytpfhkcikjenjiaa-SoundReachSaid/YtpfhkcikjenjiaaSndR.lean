/- SoundReach: the walk of the law at tables in memory. Conditions: where their lists lie. -/
import Derived.Test.YtpfhkcikjenjiaaSndI
import Derived.Test.YtpfhkcikjenjiaaSndRe
namespace Go.Proofs.Ytpfhkcikjenjiaa
open Go.RowKit
set_option maxRecDepth 100000

theorem own_low {w : World} {B B' e size n : Nat} {v : Value} {xs : List Value} (h : w.ownsRow B e size v n xs) (hb : B' ≤ B) : w.ownsRow B' e size v n xs :=
  ⟨h.1, h.2.imp id fun ⟨g, cap, cur, h1, h2, h3⟩ => ⟨g, cap, cur, h1, Nat.le_trans hb h2, h3⟩⟩
def ReR (w : World) (x : CfgC) (g : Nat) (bl : List Bool) (i : Value) (W : World) : Prop := ∃ k, k ≤ x.pn ∧ i = .int .i64 (k : Nat) ∧ SeenS w x g x.pn bl W
def ReI (w : World) (x : CfgC) (g : Nat) (bl : List Bool) (g2 : Nat) (bl2 : List Bool) (i : Value) (W : World) : Prop := ∃ k, k ≤ x.pn ∧ i = .int .i64 (k : Nat) ∧ SeenS w x g x.pn bl W ∧ SeenS w x g2 x.pn bl2 W

set_option maxHeartbeats 4000000 in
theorem reach_law (x : CfgC) (n : Int) (w : World) (h : CfgIn w x) : Calls Try.prog 6 #[x.value, .int .i64 n] w (TruePost w) := by
  have HA := Lib.hid (fun W => awake6_any W)
  have HWk := Lib.hid (fun W (hW : BoxS w x W) => works_any x W (h.below hW.below))
  obtain ⟨L, hL⟩ : ∃ L, worksB x = L := ⟨_, rfl⟩
  simp only [hL] at HWk
  have HST := Lib.hid (BoxS.start w x)
  cases L with
  | false =>
    clear hL h
    obtain ⟨nodes, faulty, slot, gap, rho, dmin, dmax, margin, PA, pn, pcap, parts, QA, qn, qcap, ports, RA, rn, rcap, routes⟩ := x
    have d0 := fun W (hW : BoxS w ⟨nodes, faulty, slot, gap, rho, dmin, dmax, margin, PA, pn, pcap, parts, QA, qn, qcap, ports, RA, rn, rcap, routes⟩ W) => hW.cells.c0
    have d1 := fun W (hW : BoxS w ⟨nodes, faulty, slot, gap, rho, dmin, dmax, margin, PA, pn, pcap, parts, QA, qn, qcap, ports, RA, rn, rcap, routes⟩ W) => hW.cells.c1
    have d2 := fun W (hW : BoxS w ⟨nodes, faulty, slot, gap, rho, dmin, dmax, margin, PA, pn, pcap, parts, QA, qn, qcap, ports, RA, rn, rcap, routes⟩ W) => hW.cells.c2
    have d3 := fun W (hW : BoxS w ⟨nodes, faulty, slot, gap, rho, dmin, dmax, margin, PA, pn, pcap, parts, QA, qn, qcap, ports, RA, rn, rcap, routes⟩ W) => hW.cells.c3
    have d4 := fun W (hW : BoxS w ⟨nodes, faulty, slot, gap, rho, dmin, dmax, margin, PA, pn, pcap, parts, QA, qn, qcap, ports, RA, rn, rcap, routes⟩ W) => hW.cells.c4
    have d5 := fun W (hW : BoxS w ⟨nodes, faulty, slot, gap, rho, dmin, dmax, margin, PA, pn, pcap, parts, QA, qn, qcap, ports, RA, rn, rcap, routes⟩ W) => hW.cells.c5
    have d6 := fun W (hW : BoxS w ⟨nodes, faulty, slot, gap, rho, dmin, dmax, margin, PA, pn, pcap, parts, QA, qn, qcap, ports, RA, rn, rcap, routes⟩ W) => hW.cells.c6
    have d7 := fun W (hW : BoxS w ⟨nodes, faulty, slot, gap, rho, dmin, dmax, margin, PA, pn, pcap, parts, QA, qn, qcap, ports, RA, rn, rcap, routes⟩ W) => hW.cells.c7
    have d8 := fun W (hW : BoxS w ⟨nodes, faulty, slot, gap, rho, dmin, dmax, margin, PA, pn, pcap, parts, QA, qn, qcap, ports, RA, rn, rcap, routes⟩ W) => hW.cells.c8
    have d9 := fun W (hW : BoxS w ⟨nodes, faulty, slot, gap, rho, dmin, dmax, margin, PA, pn, pcap, parts, QA, qn, qcap, ports, RA, rn, rcap, routes⟩ W) => hW.cells.c9
    have d10 := fun W (hW : BoxS w ⟨nodes, faulty, slot, gap, rho, dmin, dmax, margin, PA, pn, pcap, parts, QA, qn, qcap, ports, RA, rn, rcap, routes⟩ W) => hW.cells.c10
    simp only at d0 d1 d2 d3 d4 d5 d6 d7 d8 d9 d10
    simp only [CfgC.value] at HWk ⊢
    simp only [boxC, cfgCells] at HST
    go_enter Try.func6, Try.ntmps6
    go_wp2_with fail
    refine (HA.out _).mono ?_
    rintro e w1 ⟨rfl, hb1⟩
    have hd1 := HST.out.step hb1
    clear hb1 HA
    have k0 := d0 _ hd1
    have k1 := d1 _ hd1
    have k2 := d2 _ hd1
    have k3 := d3 _ hd1
    have k4 := d4 _ hd1
    have k5 := d5 _ hd1
    have k6 := d6 _ hd1
    have k7 := d7 _ hd1
    have k8 := d8 _ hd1
    have k9 := d9 _ hd1
    have k10 := d10 _ hd1
    have Hd1 := Lib.hid hd1
    clear hd1
    go_wp2_with fail
    refine (HWk.out _ Hd1.out).mono ?_
    rintro e w2 ⟨rfl, hb2⟩
    have hd2 := Hd1.out.step hb2
    clear hb2 Hd1 HWk k0 k1 k2 k3 k4 k5 k6 k7 k8 k9 k10
    have HF := Lib.hid hd2.below
    clear hd2
    go_wp2_with fail
    go_ret
    exact ⟨rfl, HF.out⟩
  | true =>
  by_cases hr : 0 ≤ n ∧ n < x.pn
  case neg =>
    clear hL h
    obtain ⟨nodes, faulty, slot, gap, rho, dmin, dmax, margin, PA, pn, pcap, parts, QA, qn, qcap, ports, RA, rn, rcap, routes⟩ := x
    have d0 := fun W (hW : BoxS w ⟨nodes, faulty, slot, gap, rho, dmin, dmax, margin, PA, pn, pcap, parts, QA, qn, qcap, ports, RA, rn, rcap, routes⟩ W) => hW.cells.c0
    have d1 := fun W (hW : BoxS w ⟨nodes, faulty, slot, gap, rho, dmin, dmax, margin, PA, pn, pcap, parts, QA, qn, qcap, ports, RA, rn, rcap, routes⟩ W) => hW.cells.c1
    have d2 := fun W (hW : BoxS w ⟨nodes, faulty, slot, gap, rho, dmin, dmax, margin, PA, pn, pcap, parts, QA, qn, qcap, ports, RA, rn, rcap, routes⟩ W) => hW.cells.c2
    have d3 := fun W (hW : BoxS w ⟨nodes, faulty, slot, gap, rho, dmin, dmax, margin, PA, pn, pcap, parts, QA, qn, qcap, ports, RA, rn, rcap, routes⟩ W) => hW.cells.c3
    have d4 := fun W (hW : BoxS w ⟨nodes, faulty, slot, gap, rho, dmin, dmax, margin, PA, pn, pcap, parts, QA, qn, qcap, ports, RA, rn, rcap, routes⟩ W) => hW.cells.c4
    have d5 := fun W (hW : BoxS w ⟨nodes, faulty, slot, gap, rho, dmin, dmax, margin, PA, pn, pcap, parts, QA, qn, qcap, ports, RA, rn, rcap, routes⟩ W) => hW.cells.c5
    have d6 := fun W (hW : BoxS w ⟨nodes, faulty, slot, gap, rho, dmin, dmax, margin, PA, pn, pcap, parts, QA, qn, qcap, ports, RA, rn, rcap, routes⟩ W) => hW.cells.c6
    have d7 := fun W (hW : BoxS w ⟨nodes, faulty, slot, gap, rho, dmin, dmax, margin, PA, pn, pcap, parts, QA, qn, qcap, ports, RA, rn, rcap, routes⟩ W) => hW.cells.c7
    have d8 := fun W (hW : BoxS w ⟨nodes, faulty, slot, gap, rho, dmin, dmax, margin, PA, pn, pcap, parts, QA, qn, qcap, ports, RA, rn, rcap, routes⟩ W) => hW.cells.c8
    have d9 := fun W (hW : BoxS w ⟨nodes, faulty, slot, gap, rho, dmin, dmax, margin, PA, pn, pcap, parts, QA, qn, qcap, ports, RA, rn, rcap, routes⟩ W) => hW.cells.c9
    have d10 := fun W (hW : BoxS w ⟨nodes, faulty, slot, gap, rho, dmin, dmax, margin, PA, pn, pcap, parts, QA, qn, qcap, ports, RA, rn, rcap, routes⟩ W) => hW.cells.c10
    simp only at d0 d1 d2 d3 d4 d5 d6 d7 d8 d9 d10 hr
    simp only [CfgC.value] at HWk ⊢
    simp only [boxC, cfgCells] at HST
    by_cases h1 : n < 0
    case pos =>
      have z1 : decide (n < 0) = true := decide_eq_true h1
      go_enter Try.func6, Try.ntmps6
      go_wp2_with fail
      refine (HA.out _).mono ?_
      rintro e w1 ⟨rfl, hb1⟩
      have hd1 := HST.out.step hb1
      clear hb1 HA
      have k0 := d0 _ hd1
      have k1 := d1 _ hd1
      have k2 := d2 _ hd1
      have k3 := d3 _ hd1
      have k4 := d4 _ hd1
      have k5 := d5 _ hd1
      have k6 := d6 _ hd1
      have k7 := d7 _ hd1
      have k8 := d8 _ hd1
      have k9 := d9 _ hd1
      have k10 := d10 _ hd1
      have Hd1 := Lib.hid hd1
      clear hd1
      go_wp2_with fail
      refine (HWk.out _ Hd1.out).mono ?_
      rintro e w2 ⟨rfl, hb2⟩
      have hd2 := Hd1.out.step hb2
      clear hb2 Hd1 HWk k0 k1 k2 k3 k4 k5 k6 k7 k8 k9 k10
      have HF := Lib.hid hd2.below
      clear hd2
      go_wp2_with fail
      go_ret
      exact ⟨rfl, HF.out⟩
    have z1 : decide (n < 0) = false := decide_eq_false h1
    have z2 : decide ((pn : Int) ≤ n) = true := decide_eq_true (by omega)
    clear h1 hr
    go_enter Try.func6, Try.ntmps6
    go_wp2_with fail
    refine (HA.out _).mono ?_
    rintro e w1 ⟨rfl, hb1⟩
    have hd1 := HST.out.step hb1
    clear hb1 HA
    have k0 := d0 _ hd1
    have k1 := d1 _ hd1
    have k2 := d2 _ hd1
    have k3 := d3 _ hd1
    have k4 := d4 _ hd1
    have k5 := d5 _ hd1
    have k6 := d6 _ hd1
    have k7 := d7 _ hd1
    have k8 := d8 _ hd1
    have k9 := d9 _ hd1
    have k10 := d10 _ hd1
    have Hd1 := Lib.hid hd1
    clear hd1
    go_wp2_with fail
    refine (HWk.out _ Hd1.out).mono ?_
    rintro e w2 ⟨rfl, hb2⟩
    have hd2 := Hd1.out.step hb2
    clear hb2 Hd1 HWk k0 k1 k2 k3 k4 k5 k6 k7 k8 k9 k10
    have k0 := d0 _ hd2
    have k1 := d1 _ hd2
    have k2 := d2 _ hd2
    have k3 := d3 _ hd2
    have k4 := d4 _ hd2
    have k5 := d5 _ hd2
    have k6 := d6 _ hd2
    have k7 := d7 _ hd2
    have k8 := d8 _ hd2
    have k9 := d9 _ hd2
    have k10 := d10 _ hd2
    have Hd2 := Lib.hid hd2
    clear hd2
    go_wp2_with fail
    go_ret
    exact ⟨rfl, Hd2.out.below⟩
  case pos =>
    have hWk : SndP.Works x.plain := by
      simp only [worksB, Bool.and_eq_true, Bool.not_eq_true', Option.isNone_iff_eq_none] at hL
      exact SndP.works hL.2
    obtain ⟨a, rfl⟩ := Int.eq_ofNat_of_zero_le hr.1
    have han : a < x.pn := by omega
    have hp12 : x.pn ≤ 12 := by have h1 : x.parts.length ≤ 12 := hWk.allowed.parts; have := h.plen; omega
    have HRe : Hid (∀ (k : Nat), k < x.pn → ∀ W, BoxS w x W → Calls Try.prog 27 #[x.value, .int .i64 (k : Nat)] W (ReachPost x.pn (RchP.Says (RchP.edges x.plain) x.pn k) W)) := Lib.hid fun k hk W hW => reach_in x k W (h.below hW.below) hWk.allowed hk
    have HSn : Hid (∀ W W' g bl, BoxS w x W → Below W.heap.size W W' → W'.ownsRow (W.heap.size + 1) 4 1 (.slice (some ⟨g, 0, none⟩) x.pn x.pn) x.pn (bitV bl) → SeenS w x g x.pn bl W') := Lib.hid fun W W' g bl h1 h2 h3 =>
      ⟨h1.step h2, own_low h3 (by have := h1.size; omega)⟩
    generalize RchP.edges x.plain = E at *
    clear hL h hr hWk
    obtain ⟨nodes, faulty, slot, gap, rho, dmin, dmax, margin, PA, pn, pcap, parts, QA, qn, qcap, ports, RA, rn, rcap, routes⟩ := x
    have d0 := fun W (hW : BoxS w ⟨nodes, faulty, slot, gap, rho, dmin, dmax, margin, PA, pn, pcap, parts, QA, qn, qcap, ports, RA, rn, rcap, routes⟩ W) => hW.cells.c0
    have d1 := fun W (hW : BoxS w ⟨nodes, faulty, slot, gap, rho, dmin, dmax, margin, PA, pn, pcap, parts, QA, qn, qcap, ports, RA, rn, rcap, routes⟩ W) => hW.cells.c1
    have d2 := fun W (hW : BoxS w ⟨nodes, faulty, slot, gap, rho, dmin, dmax, margin, PA, pn, pcap, parts, QA, qn, qcap, ports, RA, rn, rcap, routes⟩ W) => hW.cells.c2
    have d3 := fun W (hW : BoxS w ⟨nodes, faulty, slot, gap, rho, dmin, dmax, margin, PA, pn, pcap, parts, QA, qn, qcap, ports, RA, rn, rcap, routes⟩ W) => hW.cells.c3
    have d4 := fun W (hW : BoxS w ⟨nodes, faulty, slot, gap, rho, dmin, dmax, margin, PA, pn, pcap, parts, QA, qn, qcap, ports, RA, rn, rcap, routes⟩ W) => hW.cells.c4
    have d5 := fun W (hW : BoxS w ⟨nodes, faulty, slot, gap, rho, dmin, dmax, margin, PA, pn, pcap, parts, QA, qn, qcap, ports, RA, rn, rcap, routes⟩ W) => hW.cells.c5
    have d6 := fun W (hW : BoxS w ⟨nodes, faulty, slot, gap, rho, dmin, dmax, margin, PA, pn, pcap, parts, QA, qn, qcap, ports, RA, rn, rcap, routes⟩ W) => hW.cells.c6
    have d7 := fun W (hW : BoxS w ⟨nodes, faulty, slot, gap, rho, dmin, dmax, margin, PA, pn, pcap, parts, QA, qn, qcap, ports, RA, rn, rcap, routes⟩ W) => hW.cells.c7
    have d8 := fun W (hW : BoxS w ⟨nodes, faulty, slot, gap, rho, dmin, dmax, margin, PA, pn, pcap, parts, QA, qn, qcap, ports, RA, rn, rcap, routes⟩ W) => hW.cells.c8
    have d9 := fun W (hW : BoxS w ⟨nodes, faulty, slot, gap, rho, dmin, dmax, margin, PA, pn, pcap, parts, QA, qn, qcap, ports, RA, rn, rcap, routes⟩ W) => hW.cells.c9
    have d10 := fun W (hW : BoxS w ⟨nodes, faulty, slot, gap, rho, dmin, dmax, margin, PA, pn, pcap, parts, QA, qn, qcap, ports, RA, rn, rcap, routes⟩ W) => hW.cells.c10
    simp only at d0 d1 d2 d3 d4 d5 d6 d7 d8 d9 d10 han hp12 HRe
    simp only [CfgC.value] at HWk HRe ⊢
    simp only [boxC, cfgCells] at HST
    have z1 : decide ((a : Int) < 0) = false := decide_eq_false (by omega)
    have z2 : decide ((pn : Int) ≤ (a : Int)) = false := decide_eq_false (by omega)
    have z2n : decide (pn ≤ a) = false := decide_eq_false (by omega)
    have z3 : (a : Int) < (pn : Int) := by omega
    go_enter Try.func6, Try.ntmps6
    go_wp2_with fail
    refine (HA.out _).mono ?_
    rintro e w1 ⟨rfl, hb1⟩
    have hd1 := HST.out.step hb1
    clear hb1 HA
    have k0 := d0 _ hd1
    have k1 := d1 _ hd1
    have k2 := d2 _ hd1
    have k3 := d3 _ hd1
    have k4 := d4 _ hd1
    have k5 := d5 _ hd1
    have k6 := d6 _ hd1
    have k7 := d7 _ hd1
    have k8 := d8 _ hd1
    have k9 := d9 _ hd1
    have k10 := d10 _ hd1
    have Hd1 := Lib.hid hd1
    clear hd1
    go_wp2_with fail
    refine (HWk.out _ Hd1.out).mono ?_
    rintro e w2 ⟨rfl, hb2⟩
    have hd2 := Hd1.out.step hb2
    clear hb2 Hd1 HWk k0 k1 k2 k3 k4 k5 k6 k7 k8 k9 k10
    have k0 := d0 _ hd2
    have k1 := d1 _ hd2
    have k2 := d2 _ hd2
    have k3 := d3 _ hd2
    have k4 := d4 _ hd2
    have k5 := d5 _ hd2
    have k6 := d6 _ hd2
    have k7 := d7 _ hd2
    have k8 := d8 _ hd2
    have k9 := d9 _ hd2
    have k10 := d10 _ hd2
    have Hd2 := Lib.hid hd2
    clear hd2
    go_wp2_with fail
    refine (HRe.out a han _ Hd2.out).mono ?_
    rintro e w3 ⟨g, bl, rfl, hbl, hsay, hown, hb3⟩
    have HS3 := Lib.hid (HSn.out _ _ g bl Hd2.out hb3 hown)
    have Hsay := Lib.hid hsay
    clear k0 k1 k2 k3 k4 k5 k6 k7 k8 k9 k10 hb3 hown hsay Hd2
    have k0 := d0 _ HS3.out.1
    have k1 := d1 _ HS3.out.1
    have k2 := d2 _ HS3.out.1
    have k3 := d3 _ HS3.out.1
    have k4 := d4 _ HS3.out.1
    have k5 := d5 _ HS3.out.1
    have k6 := d6 _ HS3.out.1
    have k7 := d7 _ HS3.out.1
    have k8 := d8 _ HS3.out.1
    have k9 := d9 _ HS3.out.1
    have k10 := d10 _ HS3.out.1
    have hba : bl[a]? = some true := (Hsay.out.2 a han).2 .base
    have ka := HS3.out.cell hba han
    try simp only at hbl
    go_wp2_with fail
    clear k0 k1 k2 k3 k4 k5 k6 k7 k8 k9 k10 ka hba z1 z2 z2n z3
    go_loopw [43] (ReR w ⟨nodes, faulty, slot, gap, rho, dmin, dmax, margin, PA, pn, pcap, parts, QA, qn, qcap, ports, RA, rn, rcap, routes⟩ g bl) (fun i _ => (pn + 1 - intOf i).toNat)
    case atStart => exact ⟨0, Nat.zero_le _, rfl, HS3.out⟩
    case round =>
      clear HS3
      obtain ⟨k, hk, rfl, hS⟩ := hrel
      have HS := Lib.hid hS
      clear hS
      simp only at hk
      by_cases hlt : k < pn
      case pos =>
        obtain ⟨y, hy⟩ : ∃ y, bl[k]? = some y := ⟨_, List.getElem?_eq_getElem (by omega)⟩
        have kk := HS.out.cell hy hlt
        have hkz : (k : Int) < (pn : Int) := by omega
        have HN := Lib.hid (fun W (hW : SeenS w ⟨nodes, faulty, slot, gap, rho, dmin, dmax, margin, PA, pn, pcap, parts, QA, qn, qcap, ports, RA, rn, rcap, routes⟩ g pn bl W) => (⟨k + 1, by simp only; omega, by go_num, hW⟩ : ReR w ⟨nodes, faulty, slot, gap, rho, dmin, dmax, margin, PA, pn, pcap, parts, QA, qn, qcap, ports, RA, rn, rcap, routes⟩ g bl (.int .i64 ((k : Int) + 1)) W))
        cases y with
        | false =>
          have HR := Lib.hid (HN.out _ HS.out)
          clear HN HS hy
          go_wp2_with fail
          go_roundw
          case rel => exact HR.out
          case measure => simp [intOf]; omega
        | true =>
          have hRk := (Hsay.out.2 k hlt).1 hy
          have k0 := d0 _ HS.out.1
          have k1 := d1 _ HS.out.1
          have k2 := d2 _ HS.out.1
          have k3 := d3 _ HS.out.1
          have k4 := d4 _ HS.out.1
          have k5 := d5 _ HS.out.1
          have k6 := d6 _ HS.out.1
          have k7 := d7 _ HS.out.1
          have k8 := d8 _ HS.out.1
          have k9 := d9 _ HS.out.1
          have k10 := d10 _ HS.out.1
          go_wp2_with fail
          refine (HRe.out k hlt _ HS.out.1).mono ?_
          rintro e w4 ⟨g2, bl2, rfl, hbl2, hsay2, hown2, hb4⟩
          have HS4 := Lib.hid (HSn.out _ _ g2 bl2 HS.out.1 hb4 hown2)
          have HS5 := Lib.hid (HS.out.step hb4)
          have HImp : Hid (∀ j : Nat, j < pn → bl2[j]? = some true → bl[j]? = some true) := Lib.hid fun j hj h2 => (Hsay.out.2 j hj).2 (hRk.trans ((hsay2.2 j hj).1 h2))
          try simp only at hbl2
          clear k0 k1 k2 k3 k4 k5 k6 k7 k8 k9 k10 kk hy hown2 hb4 hsay2 HS hRk
          go_wp2_with fail
          go_loopw [55] (ReI w ⟨nodes, faulty, slot, gap, rho, dmin, dmax, margin, PA, pn, pcap, parts, QA, qn, qcap, ports, RA, rn, rcap, routes⟩ g bl g2 bl2) (fun i _ => (pn + 1 - intOf i).toNat)
          case atStart => exact ⟨0, Nat.zero_le _, rfl, HS5.out, HS4.out⟩
          case round =>
            clear HS4 HS5
            obtain ⟨j, hj, rfl, hSa, hSb⟩ := hrel
            have HSa := Lib.hid hSa
            have HSb := Lib.hid hSb
            clear hSa hSb
            simp only at hj
            by_cases hjl : j < pn
            case pos =>
              obtain ⟨z, hz⟩ : ∃ y, bl2[j]? = some y := ⟨_, List.getElem?_eq_getElem (by omega)⟩
              have k2 := HSb.out.cell hz hjl
              have hjz : (j : Int) < (pn : Int) := by omega
              have HR : Hid (ReI w ⟨nodes, faulty, slot, gap, rho, dmin, dmax, margin, PA, pn, pcap, parts, QA, qn, qcap, ports, RA, rn, rcap, routes⟩ g bl g2 bl2 (.int .i64 ((j : Int) + 1)) wr) := Lib.hid ⟨j + 1, by simp only; omega, by go_num, HSa.out, HSb.out⟩
              cases z with
              | false =>
                clear HSa HSb HImp hz HN
                go_wp2_with fail
                go_roundw
                case rel => exact HR.out
                case measure => simp [intOf]; omega
              | true =>
                have k3 := HSa.out.cell (HImp.out j hjl hz) hjl
                clear HSa HSb HImp hz HN
                go_wp2_with fail
                go_roundw
                case rel => exact HR.out
                case measure => simp [intOf]; omega
            have hjn : pn = j := by omega
            have HR := Lib.hid (HN.out _ HSa.out)
            clear HSa HSb HImp HN HRe HSn
            subst hjn
            go_wp2_with fail
            go_roundw
            case rel => exact HR.out
            case measure => simp [intOf]; omega
      have hkn : pn = k := by omega
      have HF := Lib.hid HS.out.1.below
      clear HS HRe HSn
      subst hkn
      go_wp2_with fail
      go_ret
      exact ⟨rfl, HF.out⟩
end Go.Proofs.Ytpfhkcikjenjiaa
