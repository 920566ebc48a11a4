/- SoundReckons: the walk of the law at tables in memory. Conditions: where their lists lie. -/
import Derived.Test.YtpfhkcikjenjiaaSndI
import Derived.Test.YtpfhkcikjenjiaaSndOr
import Derived.Test.YtpfhkcikjenjiaaTbG
namespace Go.Proofs.Ytpfhkcikjenjiaa
open Go.RowKit
set_option maxRecDepth 100000

theorem at_in9 (a : Int) (n : Nat) (h1 : 0 < n) (hn : n ≤ 100000) : ∃ t : Nat, t < n ∧ wrap64 ((IntKind.u64.wrap a).tmod ((n : Nat) : Int)) = (t : Int) := by
  have e : IntKind.u64.wrap a = a % 18446744073709551616 := by simp [IntKind.wrap, IntKind.bits, IntKind.signed]
  rw [e]
  have h0 : 0 ≤ a % 18446744073709551616 := Int.emod_nonneg _ (by decide)
  generalize a % 18446744073709551616 = b at *
  rw [Int.tmod_eq_emod_of_nonneg h0]
  have h1 : 0 ≤ b % (n : Int) := Int.emod_nonneg _ (by omega)
  have h2 : b % (n : Int) < n := Int.emod_lt_of_pos _ (by omega)
  generalize b % (n : Int) = d at *
  refine ⟨d.toNat, by omega, ?_⟩
  rw [IntWalk.wrap64_in d ⟨by omega, by omega⟩]
  omega
/-- Both Reaches answer with the same marks. -/
theorem reach_both (x : CfgC) (p : Int) (ha : SndP.Allowed x.plain) : ∃ P : List Bool → Prop, (∀ a b, P a → P b → a = b) ∧
    (∀ W, CfgIn W x → Calls Try.prog 27 #[x.value, .int .i64 p] W (ReachPost x.pn P W)) ∧ (∀ W, CfgIn W x → Calls Try.prog 28 #[x.value, .int .i64 p] W (ReachPost x.pn P W)) := by
  by_cases hp : 0 ≤ p ∧ p < x.pn
  · obtain ⟨k, rfl⟩ := Int.eq_ofNat_of_zero_le hp.1
    exact ⟨_, fun a b h1 h2 => RchP.Says.same h1 h2, fun W hW => reach_in x k W hW ha (by omega), fun W hW => refreach_in x k W hW ha (by omega)⟩
  · exact ⟨fun bl => bl = List.replicate x.pn false, fun a b h1 h2 => by rw [h1, h2], fun W hW => reach_out x p W hW ha hp, fun W hW => refreach_out x p W hW ha hp⟩
def RkR (w : World) (x : CfgC) (g g2 : Nat) (bl : List Bool) (i : Value) (W : World) : Prop := ∃ k, k ≤ x.pn ∧ i = .int .i64 (k : Nat) ∧ SeenS w x g x.pn bl W ∧ SeenS w x g2 x.pn bl W

set_option maxHeartbeats 8000000 in
theorem reckons_law (x : CfgC) (n p : Int) (w : World) (h : CfgIn w x) : Calls Try.prog 4 #[x.value, .int .i64 n, .int .i64 p] w (TruePost w) := by
  have HA := Lib.hid (fun W => awake6_any W)
  have HLg := Lib.hid (fun W => long6_any x W)
  have HRc := Lib.hid (fun W (hW : BoxS w x W) => refcheck_any x W (h.below hW.below))
  obtain ⟨L, hL⟩ : ∃ L, longB6 x = L := ⟨_, rfl⟩
  simp only [hL] at HLg
  have HST := Lib.hid (BoxS.start w x)
  cases L with
  | true =>
    clear HRc hL h
    obtain ⟨nodes, faulty, slot, gap, rho, dmin, dmax, margin, PA, pn, pcap, parts, QA, qn, qcap, ports, RA, rn, rcap, routes⟩ := x
    have d0 := fun W (hW : BoxS w ⟨nodes, faulty, slot, gap, rho, dmin, dmax, margin, PA, pn, pcap, parts, QA, qn, qcap, ports, RA, rn, rcap, routes⟩ W) => hW.cells.c0
    have d1 := fun W (hW : BoxS w ⟨nodes, faulty, slot, gap, rho, dmin, dmax, margin, PA, pn, pcap, parts, QA, qn, qcap, ports, RA, rn, rcap, routes⟩ W) => hW.cells.c1
    have d2 := fun W (hW : BoxS w ⟨nodes, faulty, slot, gap, rho, dmin, dmax, margin, PA, pn, pcap, parts, QA, qn, qcap, ports, RA, rn, rcap, routes⟩ W) => hW.cells.c2
    have d3 := fun W (hW : BoxS w ⟨nodes, faulty, slot, gap, rho, dmin, dmax, margin, PA, pn, pcap, parts, QA, qn, qcap, ports, RA, rn, rcap, routes⟩ W) => hW.cells.c3
    have d4 := fun W (hW : BoxS w ⟨nodes, faulty, slot, gap, rho, dmin, dmax, margin, PA, pn, pcap, parts, QA, qn, qcap, ports, RA, rn, rcap, routes⟩ W) => hW.cells.c4
    have d5 := fun W (hW : BoxS w ⟨nodes, faulty, slot, gap, rho, dmin, dmax, margin, PA, pn, pcap, parts, QA, qn, qcap, ports, RA, rn, rcap, routes⟩ W) => hW.cells.c5
    have d6 := fun W (hW : BoxS w ⟨nodes, faulty, slot, gap, rho, dmin, dmax, margin, PA, pn, pcap, parts, QA, qn, qcap, ports, RA, rn, rcap, routes⟩ W) => hW.cells.c6
    have d7 := fun W (hW : BoxS w ⟨nodes, faulty, slot, gap, rho, dmin, dmax, margin, PA, pn, pcap, parts, QA, qn, qcap, ports, RA, rn, rcap, routes⟩ W) => hW.cells.c7
    have d8 := fun W (hW : BoxS w ⟨nodes, faulty, slot, gap, rho, dmin, dmax, margin, PA, pn, pcap, parts, QA, qn, qcap, ports, RA, rn, rcap, routes⟩ W) => hW.cells.c8
    have d9 := fun W (hW : BoxS w ⟨nodes, faulty, slot, gap, rho, dmin, dmax, margin, PA, pn, pcap, parts, QA, qn, qcap, ports, RA, rn, rcap, routes⟩ W) => hW.cells.c9
    have d10 := fun W (hW : BoxS w ⟨nodes, faulty, slot, gap, rho, dmin, dmax, margin, PA, pn, pcap, parts, QA, qn, qcap, ports, RA, rn, rcap, routes⟩ W) => hW.cells.c10
    simp only at d0 d1 d2 d3 d4 d5 d6 d7 d8 d9 d10
    simp only [CfgC.value] at HLg ⊢
    simp only [boxC, cfgCells] at HST
    go_enter Try.func4, Try.ntmps4
    go_wp2_with fail
    refine (HA.out _).mono ?_
    rintro e w1 ⟨rfl, hb1⟩
    have hd1 := HST.out.step hb1
    clear hb1 HA
    have k0 := d0 _ hd1
    have k1 := d1 _ hd1
    have k2 := d2 _ hd1
    have k3 := d3 _ hd1
    have k4 := d4 _ hd1
    have k5 := d5 _ hd1
    have k6 := d6 _ hd1
    have k7 := d7 _ hd1
    have k8 := d8 _ hd1
    have k9 := d9 _ hd1
    have k10 := d10 _ hd1
    have Hd1 := Lib.hid hd1
    clear hd1
    go_wp2_with fail
    refine (HLg.out _).mono ?_
    rintro e w2 ⟨rfl, hb2⟩
    have hd2 := Hd1.out.step hb2
    clear hb2 Hd1 HLg k0 k1 k2 k3 k4 k5 k6 k7 k8 k9 k10
    have HF := Lib.hid hd2.below
    clear hd2
    go_wp2_with fail
    go_ret
    exact ⟨rfl, HF.out⟩
  | false =>
  cases hR : TableP.chk x.plain with
  | some f =>
    rw [hR] at HRc
    have hne := wrongS_ne f
    unfold RefChkPost strV at HRc
    generalize wrongT (some f) = t at *
    clear hR hL h
    obtain ⟨nodes, faulty, slot, gap, rho, dmin, dmax, margin, PA, pn, pcap, parts, QA, qn, qcap, ports, RA, rn, rcap, routes⟩ := x
    have d0 := fun W (hW : BoxS w ⟨nodes, faulty, slot, gap, rho, dmin, dmax, margin, PA, pn, pcap, parts, QA, qn, qcap, ports, RA, rn, rcap, routes⟩ W) => hW.cells.c0
    have d1 := fun W (hW : BoxS w ⟨nodes, faulty, slot, gap, rho, dmin, dmax, margin, PA, pn, pcap, parts, QA, qn, qcap, ports, RA, rn, rcap, routes⟩ W) => hW.cells.c1
    have d2 := fun W (hW : BoxS w ⟨nodes, faulty, slot, gap, rho, dmin, dmax, margin, PA, pn, pcap, parts, QA, qn, qcap, ports, RA, rn, rcap, routes⟩ W) => hW.cells.c2
    have d3 := fun W (hW : BoxS w ⟨nodes, faulty, slot, gap, rho, dmin, dmax, margin, PA, pn, pcap, parts, QA, qn, qcap, ports, RA, rn, rcap, routes⟩ W) => hW.cells.c3
    have d4 := fun W (hW : BoxS w ⟨nodes, faulty, slot, gap, rho, dmin, dmax, margin, PA, pn, pcap, parts, QA, qn, qcap, ports, RA, rn, rcap, routes⟩ W) => hW.cells.c4
    have d5 := fun W (hW : BoxS w ⟨nodes, faulty, slot, gap, rho, dmin, dmax, margin, PA, pn, pcap, parts, QA, qn, qcap, ports, RA, rn, rcap, routes⟩ W) => hW.cells.c5
    have d6 := fun W (hW : BoxS w ⟨nodes, faulty, slot, gap, rho, dmin, dmax, margin, PA, pn, pcap, parts, QA, qn, qcap, ports, RA, rn, rcap, routes⟩ W) => hW.cells.c6
    have d7 := fun W (hW : BoxS w ⟨nodes, faulty, slot, gap, rho, dmin, dmax, margin, PA, pn, pcap, parts, QA, qn, qcap, ports, RA, rn, rcap, routes⟩ W) => hW.cells.c7
    have d8 := fun W (hW : BoxS w ⟨nodes, faulty, slot, gap, rho, dmin, dmax, margin, PA, pn, pcap, parts, QA, qn, qcap, ports, RA, rn, rcap, routes⟩ W) => hW.cells.c8
    have d9 := fun W (hW : BoxS w ⟨nodes, faulty, slot, gap, rho, dmin, dmax, margin, PA, pn, pcap, parts, QA, qn, qcap, ports, RA, rn, rcap, routes⟩ W) => hW.cells.c9
    have d10 := fun W (hW : BoxS w ⟨nodes, faulty, slot, gap, rho, dmin, dmax, margin, PA, pn, pcap, parts, QA, qn, qcap, ports, RA, rn, rcap, routes⟩ W) => hW.cells.c10
    simp only at d0 d1 d2 d3 d4 d5 d6 d7 d8 d9 d10
    simp only [CfgC.value] at HLg HRc ⊢
    simp only [boxC, cfgCells] at HST
    cases t with
    | nil => exact absurd rfl hne
    | cons u r =>
    clear hne
    go_enter Try.func4, Try.ntmps4
    go_wp2_with fail
    refine (HA.out _).mono ?_
    rintro e w1 ⟨rfl, hb1⟩
    have hd1 := HST.out.step hb1
    clear hb1 HA
    have k0 := d0 _ hd1
    have k1 := d1 _ hd1
    have k2 := d2 _ hd1
    have k3 := d3 _ hd1
    have k4 := d4 _ hd1
    have k5 := d5 _ hd1
    have k6 := d6 _ hd1
    have k7 := d7 _ hd1
    have k8 := d8 _ hd1
    have k9 := d9 _ hd1
    have k10 := d10 _ hd1
    have Hd1 := Lib.hid hd1
    clear hd1
    go_wp2_with fail
    refine (HLg.out _).mono ?_
    rintro e w2 ⟨rfl, hb2⟩
    have hd2 := Hd1.out.step hb2
    clear hb2 Hd1 HLg k0 k1 k2 k3 k4 k5 k6 k7 k8 k9 k10
    have k0 := d0 _ hd2
    have k1 := d1 _ hd2
    have k2 := d2 _ hd2
    have k3 := d3 _ hd2
    have k4 := d4 _ hd2
    have k5 := d5 _ hd2
    have k6 := d6 _ hd2
    have k7 := d7 _ hd2
    have k8 := d8 _ hd2
    have k9 := d9 _ hd2
    have k10 := d10 _ hd2
    have Hd2 := Lib.hid hd2
    clear hd2
    go_wp2_with fail
    refine (HRc.out _ Hd2.out).mono ?_
    rintro e w3 ⟨rfl, hb3⟩
    have hd3 := Hd2.out.step hb3
    clear hb3 k0 k1 k2 k3 k4 k5 k6 k7 k8 k9 k10
    have HF := Lib.hid hd3.below
    clear hd3
    go_wp2_with fail
    go_ret
    exact ⟨rfl, HF.out⟩
  | none =>
    rw [hR] at HRc
    have hal := SndP.allowed hR
    have hpl := h.plen
    have hp12 : x.pn ≤ 12 := by have h1 : x.parts.length ≤ 12 := hal.parts; omega
    obtain ⟨t, ht, et⟩ := at_in9 n 9 (by omega) (by omega)
    replace et : wrap64 ((IntKind.u64.wrap n).tmod 9) = (t : Int) := et
    obtain ⟨P, HPs, HP1, HP2⟩ := reach_both x p hal
    have C0 := Lib.hid (fun W => round_any x W hal.head)
    have C1 := Lib.hid (fun W => refround_any x W hal.head)
    have C2 := Lib.hid (fun W => drift_any x W hal.head)
    have C3 := Lib.hid (fun W => refdrift_any x W hal.head)
    have C4 := Lib.hid (fun W => prec_any x W hal.head)
    have C5 := Lib.hid (fun W => refprec_any x W hal.head)
    have C6 := Lib.hid (fun W => mean_any x W hal.head)
    have C7 := Lib.hid (fun W => refmean_any x W hal.head)
    have C8 := Lib.hid (fun W => send_any x (t : Int) (by omega) W hal.head)
    have C9 := Lib.hid (fun W => refsend_any x (t : Int) (by omega) W hal.head)
    have HR1 := Lib.hid (fun W (hW : BoxS w x W) => HP1 W (h.below hW.below))
    have HR2 := Lib.hid (fun W (hW : BoxS w x W) => HP2 W (h.below hW.below))
    have HSame := Lib.hid HPs
    have HO1 := Lib.hid (fun W (hW : BoxS w x W) => order_any x (t : Int) W (h.below hW.below) hp12)
    have HO2 := Lib.hid (fun W (hW : BoxS w x W) => reforder_any x (t : Int) W (h.below hW.below) hp12)
    have hOl : (OrdP.ord x.parts (t : Int)).length ≤ 1000 := by rw [OrdP.ord, OrdP.srt_length]; have := OrdP.pick_length x.parts (t : Int) x.parts.length; omega
    have HSI := Lib.hid (fun B B' v v' W (h1 : World.ownsRow W B 3 1 v (OrdP.ord x.parts (t : Int)).length (idxV (OrdP.ord x.parts (t : Int)))) (h2 : World.ownsRow W B' 3 1 v' (OrdP.ord x.parts (t : Int)).length (idxV (OrdP.ord x.parts (t : Int)))) => same_any _ hOl B B' v v' W h1 h2)
    have HSn : Hid (∀ W W' g bl, BoxS w x W → Below W.heap.size W W' → W'.ownsRow (W.heap.size + 1) 4 1 (.slice (some ⟨g, 0, none⟩) x.pn x.pn) x.pn (bitV bl) → SeenS w x g x.pn bl W') := Lib.hid fun W W' g bl h1 h2 h3 =>
      ⟨h1.step h2, own_low h3 (by have := h1.size; omega)⟩
    generalize OrdP.ord x.parts (t : Int) = O at *
    generalize SndP.roundT x.plain = v0 at *
    generalize SndP.driftT x.plain = v1 at *
    generalize SndP.precT x.plain = v2 at *
    generalize SndP.meanT x.plain = v3 at *
    generalize SndP.sendT x.plain (t : Int) = v4 at *
    clear hR hL h hal HP1 HP2 HPs hOl
    unfold RefChkPost at HRc
    obtain ⟨nodes, faulty, slot, gap, rho, dmin, dmax, margin, PA, pn, pcap, parts, QA, qn, qcap, ports, RA, rn, rcap, routes⟩ := x
    have d0 := fun W (hW : BoxS w ⟨nodes, faulty, slot, gap, rho, dmin, dmax, margin, PA, pn, pcap, parts, QA, qn, qcap, ports, RA, rn, rcap, routes⟩ W) => hW.cells.c0
    have d1 := fun W (hW : BoxS w ⟨nodes, faulty, slot, gap, rho, dmin, dmax, margin, PA, pn, pcap, parts, QA, qn, qcap, ports, RA, rn, rcap, routes⟩ W) => hW.cells.c1
    have d2 := fun W (hW : BoxS w ⟨nodes, faulty, slot, gap, rho, dmin, dmax, margin, PA, pn, pcap, parts, QA, qn, qcap, ports, RA, rn, rcap, routes⟩ W) => hW.cells.c2
    have d3 := fun W (hW : BoxS w ⟨nodes, faulty, slot, gap, rho, dmin, dmax, margin, PA, pn, pcap, parts, QA, qn, qcap, ports, RA, rn, rcap, routes⟩ W) => hW.cells.c3
    have d4 := fun W (hW : BoxS w ⟨nodes, faulty, slot, gap, rho, dmin, dmax, margin, PA, pn, pcap, parts, QA, qn, qcap, ports, RA, rn, rcap, routes⟩ W) => hW.cells.c4
    have d5 := fun W (hW : BoxS w ⟨nodes, faulty, slot, gap, rho, dmin, dmax, margin, PA, pn, pcap, parts, QA, qn, qcap, ports, RA, rn, rcap, routes⟩ W) => hW.cells.c5
    have d6 := fun W (hW : BoxS w ⟨nodes, faulty, slot, gap, rho, dmin, dmax, margin, PA, pn, pcap, parts, QA, qn, qcap, ports, RA, rn, rcap, routes⟩ W) => hW.cells.c6
    have d7 := fun W (hW : BoxS w ⟨nodes, faulty, slot, gap, rho, dmin, dmax, margin, PA, pn, pcap, parts, QA, qn, qcap, ports, RA, rn, rcap, routes⟩ W) => hW.cells.c7
    have d8 := fun W (hW : BoxS w ⟨nodes, faulty, slot, gap, rho, dmin, dmax, margin, PA, pn, pcap, parts, QA, qn, qcap, ports, RA, rn, rcap, routes⟩ W) => hW.cells.c8
    have d9 := fun W (hW : BoxS w ⟨nodes, faulty, slot, gap, rho, dmin, dmax, margin, PA, pn, pcap, parts, QA, qn, qcap, ports, RA, rn, rcap, routes⟩ W) => hW.cells.c9
    have d10 := fun W (hW : BoxS w ⟨nodes, faulty, slot, gap, rho, dmin, dmax, margin, PA, pn, pcap, parts, QA, qn, qcap, ports, RA, rn, rcap, routes⟩ W) => hW.cells.c10
    simp only at d0 d1 d2 d3 d4 d5 d6 d7 d8 d9 d10 hp12 HSn
    simp only [CfgC.value] at HLg HRc C0 C1 C2 C3 C4 C5 C6 C7 C8 C9 HR1 HR2 HO1 HO2 ⊢
    simp only [boxC, cfgCells] at HST
    go_enter Try.func4, Try.ntmps4
    go_wp2_with fail
    refine (HA.out _).mono ?_
    rintro e w1 ⟨rfl, hb1⟩
    have hd1 := HST.out.step hb1
    clear hb1 HA
    have k0 := d0 _ hd1
    have k1 := d1 _ hd1
    have k2 := d2 _ hd1
    have k3 := d3 _ hd1
    have k4 := d4 _ hd1
    have k5 := d5 _ hd1
    have k6 := d6 _ hd1
    have k7 := d7 _ hd1
    have k8 := d8 _ hd1
    have k9 := d9 _ hd1
    have k10 := d10 _ hd1
    have Hd1 := Lib.hid hd1
    clear hd1
    go_wp2_with fail
    refine (HLg.out _).mono ?_
    rintro e w2 ⟨rfl, hb2⟩
    have hd2 := Hd1.out.step hb2
    clear hb2 Hd1 HLg k0 k1 k2 k3 k4 k5 k6 k7 k8 k9 k10
    have k0 := d0 _ hd2
    have k1 := d1 _ hd2
    have k2 := d2 _ hd2
    have k3 := d3 _ hd2
    have k4 := d4 _ hd2
    have k5 := d5 _ hd2
    have k6 := d6 _ hd2
    have k7 := d7 _ hd2
    have k8 := d8 _ hd2
    have k9 := d9 _ hd2
    have k10 := d10 _ hd2
    have Hd2 := Lib.hid hd2
    clear hd2
    go_wp2_with fail
    refine (HRc.out _ Hd2.out).mono ?_
    rintro e w3 ⟨rfl, hb3⟩
    have hd3 := Hd2.out.step hb3
    clear hb3 k0 k1 k2 k3 k4 k5 k6 k7 k8 k9 k10 Hd2 HRc
    have hs0 : strV (wrongT none) = .string ⟨#[]⟩ := rfl
    rw [hs0]
    clear hs0
    have k0 := d0 _ hd3
    have k1 := d1 _ hd3
    have k2 := d2 _ hd3
    have k3 := d3 _ hd3
    have k4 := d4 _ hd3
    have k5 := d5 _ hd3
    have k6 := d6 _ hd3
    have k7 := d7 _ hd3
    have k8 := d8 _ hd3
    have k9 := d9 _ hd3
    have k10 := d10 _ hd3
    have Hd3 := Lib.hid hd3
    clear hd3
    go_upto_region 6 with (fail)
    clear k0 k1 k2 k3 k4 k5 k6 k7 k8 k9 k10
    go_cut [1, 57] (fun va vb wx => va = .int .i64 (t : Int) ∧ vb = .bool false ∧ BoxS w ⟨nodes, faulty, slot, gap, rho, dmin, dmax, margin, PA, pn, pcap, parts, QA, qn, qcap, ports, RA, rn, rcap, routes⟩ wx)
    case first =>
      clear HR1 HR2 HSame HO1 HO2 HSI HSn
      have hd0 := BoxS.drew Hd3.out
      go_wp2_with fail
      refine wp_region_held_drew (S := fun W => BoxS w ⟨nodes, faulty, slot, gap, rho, dmin, dmax, margin, PA, pn, pcap, parts, QA, qn, qcap, ports, RA, rn, rcap, routes⟩ W) (by kernel_rfl) hd0 (fun _ => ?_)
      refine wpAnyH_take (i := 0) (oi := ?oo1) (v := ?vv1) ?ii1 (by kernel_rfl) ?ff1 (by kernel_rfl) ?qq1 (Or.inl ⟨?ww1, ?yy1⟩) hd0 ?rr1
      case ii1 => simp only [List.getElem?_toArray, List.getElem?_cons_zero]; rfl
      case ff1 => kernel_rfl
      case qq1 => exact fun _ _ _ h => h
      case ww1 => rfl
      case yy1 => intro W hW; go_simp <;> with_reducible rfl
      try simp only [Act.put, List.setIfInBounds_toArray, List.set_cons_zero, List.set_cons_succ]
      refine wpAnyH_take (i := 2) (oi := ?oo2) (v := ?vv2) ?ii2 (by kernel_rfl) ?ff2 (by kernel_rfl) ?qq2 (Or.inl ⟨?ww2, ?yy2⟩) hd0 ?rr2
      case ii2 => simp only [List.getElem?_toArray, List.getElem?_cons_succ, List.getElem?_cons_zero]; rfl
      case ff2 => kernel_rfl
      case qq2 => exact fun _ _ _ h => h
      case ww2 => rfl
      case yy2 => intro W hW; go_simp <;> with_reducible rfl
      try simp only [Act.put, List.setIfInBounds_toArray, List.set_cons_zero, List.set_cons_succ]
      refine wpAnyH_ready (rs := [1]) (by kernel_rfl) (by simp) ?_
      refine AllReadyH.cons (o := ?oo3) ?ii3 (fun K hK => ?_) AllReadyH.nil
      case ii3 => simp only [List.getElem?_toArray, List.getElem?_cons_succ, List.getElem?_cons_zero]; rfl
      go_simp
      refine (C0.out _).mono ?_
      rintro e w10 ⟨rfl, hb10⟩
      have hd10 := hd0.step hb10
      clear hb10
      go_wp2_with fail
      refine hK.out _ _ hd10 (fun _ => ?_)
      clear hK K
      refine wpAnyH_ready (rs := [3]) (by kernel_rfl) (by simp) ?_
      refine AllReadyH.cons (o := ?oo4) ?ii4 (fun K hK => ?_) AllReadyH.nil
      case ii4 => simp only [List.getElem?_toArray, List.getElem?_cons_succ, List.getElem?_cons_zero]; rfl
      go_simp
      refine (C1.out _).mono ?_
      rintro e w11 ⟨rfl, hb11⟩
      have hd11 := hd10.step hb11
      clear hb11
      go_wp2_with fail
      refine hK.out _ _ hd11 (fun _ => ?_)
      clear hK K
      refine wpAnyH_take (i := 4) (oi := ?oo5) (v := ?vv5) ?ii5 (by kernel_rfl) ?ff5 (by kernel_rfl) ?qq5 (Or.inl ⟨?ww5, ?yy5⟩) hd11 ?rr5
      case ii5 => simp only [List.getElem?_toArray, List.getElem?_cons_succ, List.getElem?_cons_zero]; rfl
      case ff5 => kernel_rfl
      case qq5 => exact fun _ _ _ h => h
      case ww5 => rfl
      case yy5 => intro W hW; go_simp <;> with_reducible rfl
      try simp only [Act.put, List.setIfInBounds_toArray, List.set_cons_zero, List.set_cons_succ]
      refine wpAnyH_take (i := 5) (oi := ?oo6) (v := ?vv6) ?ii6 (by kernel_rfl) ?ff6 (by kernel_rfl) ?qq6 (Or.inl ⟨?ww6, ?yy6⟩) hd11 ?rr6
      case ii6 => simp only [List.getElem?_toArray, List.getElem?_cons_succ, List.getElem?_cons_zero]; rfl
      case ff6 => kernel_rfl
      case qq6 => exact fun _ _ _ h => h
      case ww6 => rfl
      case yy6 => intro W hW; go_simp <;> with_reducible rfl
      try simp only [Act.put, List.setIfInBounds_toArray, List.set_cons_zero, List.set_cons_succ]
      refine wpAnyH_take (i := 6) (oi := ?oo7) (v := ?vv7) ?ii7 (by kernel_rfl) ?ff7 (by kernel_rfl) ?qq7 (Or.inl ⟨?ww7, ?yy7⟩) hd11 ?rr7
      case ii7 => simp only [List.getElem?_toArray, List.getElem?_cons_succ, List.getElem?_cons_zero]; rfl
      case ff7 => kernel_rfl
      case qq7 => exact fun _ _ _ h => h
      case ww7 => rfl
      case yy7 => intro W hW; go_simp <;> with_reducible rfl
      try simp only [Act.put, List.setIfInBounds_toArray, List.set_cons_zero, List.set_cons_succ]
      refine wpAnyH_take (i := 8) (oi := ?oo8) (v := ?vv8) ?ii8 (by kernel_rfl) ?ff8 (by kernel_rfl) ?qq8 (Or.inl ⟨?ww8, ?yy8⟩) hd11 ?rr8
      case ii8 => simp only [List.getElem?_toArray, List.getElem?_cons_succ, List.getElem?_cons_zero]; rfl
      case ff8 => kernel_rfl
      case qq8 => exact fun _ _ _ h => h
      case ww8 => rfl
      case yy8 => intro W hW; go_simp <;> with_reducible rfl
      try simp only [Act.put, List.setIfInBounds_toArray, List.set_cons_zero, List.set_cons_succ]
      refine wpAnyH_ready (rs := [7]) (by kernel_rfl) (by simp) ?_
      refine AllReadyH.cons (o := ?oo9) ?ii9 (fun K hK => ?_) AllReadyH.nil
      case ii9 => simp only [List.getElem?_toArray, List.getElem?_cons_succ, List.getElem?_cons_zero]; rfl
      go_simp
      refine (C2.out _).mono ?_
      rintro e w12 ⟨rfl, hb12⟩
      have hd12 := hd11.step hb12
      clear hb12
      go_wp2_with fail
      refine hK.out _ _ hd12 (fun _ => ?_)
      clear hK K
      refine wpAnyH_ready (rs := [9]) (by kernel_rfl) (by simp) ?_
      refine AllReadyH.cons (o := ?oo10) ?ii10 (fun K hK => ?_) AllReadyH.nil
      case ii10 => simp only [List.getElem?_toArray, List.getElem?_cons_succ, List.getElem?_cons_zero]; rfl
      go_simp
      refine (C3.out _).mono ?_
      rintro e w13 ⟨rfl, hb13⟩
      have hd13 := hd12.step hb13
      clear hb13
      go_wp2_with fail
      refine hK.out _ _ hd13 (fun _ => ?_)
      clear hK K
      refine wpAnyH_take (i := 10) (oi := ?oo11) (v := ?vv11) ?ii11 (by kernel_rfl) ?ff11 (by kernel_rfl) ?qq11 (Or.inl ⟨?ww11, ?yy11⟩) hd13 ?rr11
      case ii11 => simp only [List.getElem?_toArray, List.getElem?_cons_succ, List.getElem?_cons_zero]; rfl
      case ff11 => kernel_rfl
      case qq11 => exact fun _ _ _ h => h
      case ww11 => rfl
      case yy11 => intro W hW; go_simp <;> with_reducible rfl
      try simp only [Act.put, List.setIfInBounds_toArray, List.set_cons_zero, List.set_cons_succ]
      refine wpAnyH_take (i := 11) (oi := ?oo12) (v := ?vv12) ?ii12 (by kernel_rfl) ?ff12 (by kernel_rfl) ?qq12 (Or.inl ⟨?ww12, ?yy12⟩) hd13 ?rr12
      case ii12 => simp only [List.getElem?_toArray, List.getElem?_cons_succ, List.getElem?_cons_zero]; rfl
      case ff12 => kernel_rfl
      case qq12 => exact fun _ _ _ h => h
      case ww12 => rfl
      case yy12 => intro W hW; go_simp <;> with_reducible rfl
      try simp only [Act.put, List.setIfInBounds_toArray, List.set_cons_zero, List.set_cons_succ]
      refine wpAnyH_take (i := 12) (oi := ?oo13) (v := ?vv13) ?ii13 (by kernel_rfl) ?ff13 (by kernel_rfl) ?qq13 (Or.inl ⟨?ww13, ?yy13⟩) hd13 ?rr13
      case ii13 => simp only [List.getElem?_toArray, List.getElem?_cons_succ, List.getElem?_cons_zero]; rfl
      case ff13 => kernel_rfl
      case qq13 => exact fun _ _ _ h => h
      case ww13 => rfl
      case yy13 => intro W hW; go_simp <;> with_reducible rfl
      try simp only [Act.put, List.setIfInBounds_toArray, List.set_cons_zero, List.set_cons_succ]
      refine wpAnyH_take (i := 13) (oi := ?oo14) (v := ?vv14) ?ii14 (by kernel_rfl) ?ff14 (by kernel_rfl) ?qq14 (Or.inl ⟨?ww14, ?yy14⟩) hd13 ?rr14
      case ii14 => simp only [List.getElem?_toArray, List.getElem?_cons_succ, List.getElem?_cons_zero]; rfl
      case ff14 => kernel_rfl
      case qq14 => exact fun _ _ _ h => h
      case ww14 => rfl
      case yy14 => intro W hW; go_simp <;> with_reducible rfl
      try simp only [Act.put, List.setIfInBounds_toArray, List.set_cons_zero, List.set_cons_succ]
      refine wpAnyH_take (i := 15) (oi := ?oo15) (v := ?vv15) ?ii15 (by kernel_rfl) ?ff15 (by kernel_rfl) ?qq15 (Or.inl ⟨?ww15, ?yy15⟩) hd13 ?rr15
      case ii15 => simp only [List.getElem?_toArray, List.getElem?_cons_succ, List.getElem?_cons_zero]; rfl
      case ff15 => kernel_rfl
      case qq15 => exact fun _ _ _ h => h
      case ww15 => rfl
      case yy15 => intro W hW; go_simp <;> with_reducible rfl
      try simp only [Act.put, List.setIfInBounds_toArray, List.set_cons_zero, List.set_cons_succ]
      refine wpAnyH_ready (rs := [14]) (by kernel_rfl) (by simp) ?_
      refine AllReadyH.cons (o := ?oo16) ?ii16 (fun K hK => ?_) AllReadyH.nil
      case ii16 => simp only [List.getElem?_toArray, List.getElem?_cons_succ, List.getElem?_cons_zero]; rfl
      go_simp
      refine (C4.out _).mono ?_
      rintro e w14 ⟨rfl, hb14⟩
      have hd14 := hd13.step hb14
      clear hb14
      go_wp2_with fail
      refine hK.out _ _ hd14 (fun _ => ?_)
      clear hK K
      refine wpAnyH_ready (rs := [16]) (by kernel_rfl) (by simp) ?_
      refine AllReadyH.cons (o := ?oo17) ?ii17 (fun K hK => ?_) AllReadyH.nil
      case ii17 => simp only [List.getElem?_toArray, List.getElem?_cons_succ, List.getElem?_cons_zero]; rfl
      go_simp
      refine (C5.out _).mono ?_
      rintro e w15 ⟨rfl, hb15⟩
      have hd15 := hd14.step hb15
      clear hb15
      go_wp2_with fail
      refine hK.out _ _ hd15 (fun _ => ?_)
      clear hK K
      refine wpAnyH_take (i := 17) (oi := ?oo18) (v := ?vv18) ?ii18 (by kernel_rfl) ?ff18 (by kernel_rfl) ?qq18 (Or.inl ⟨?ww18, ?yy18⟩) hd15 ?rr18
      case ii18 => simp only [List.getElem?_toArray, List.getElem?_cons_succ, List.getElem?_cons_zero]; rfl
      case ff18 => kernel_rfl
      case qq18 => exact fun _ _ _ h => h
      case ww18 => rfl
      case yy18 => intro W hW; go_simp <;> with_reducible rfl
      try simp only [Act.put, List.setIfInBounds_toArray, List.set_cons_zero, List.set_cons_succ]
      refine wpAnyH_take (i := 18) (oi := ?oo19) (v := ?vv19) ?ii19 (by kernel_rfl) ?ff19 (by kernel_rfl) ?qq19 (Or.inl ⟨?ww19, ?yy19⟩) hd15 ?rr19
      case ii19 => simp only [List.getElem?_toArray, List.getElem?_cons_succ, List.getElem?_cons_zero]; rfl
      case ff19 => kernel_rfl
      case qq19 => exact fun _ _ _ h => h
      case ww19 => rfl
      case yy19 => intro W hW; go_simp <;> with_reducible rfl
      try simp only [Act.put, List.setIfInBounds_toArray, List.set_cons_zero, List.set_cons_succ]
      refine wpAnyH_take (i := 19) (oi := ?oo20) (v := ?vv20) ?ii20 (by kernel_rfl) ?ff20 (by kernel_rfl) ?qq20 (Or.inl ⟨?ww20, ?yy20⟩) hd15 ?rr20
      case ii20 => simp only [List.getElem?_toArray, List.getElem?_cons_succ, List.getElem?_cons_zero]; rfl
      case ff20 => kernel_rfl
      case qq20 => exact fun _ _ _ h => h
      case ww20 => rfl
      case yy20 => intro W hW; go_simp <;> with_reducible rfl
      try simp only [Act.put, List.setIfInBounds_toArray, List.set_cons_zero, List.set_cons_succ]
      refine wpAnyH_take (i := 20) (oi := ?oo21) (v := ?vv21) ?ii21 (by kernel_rfl) ?ff21 (by kernel_rfl) ?qq21 (Or.inl ⟨?ww21, ?yy21⟩) hd15 ?rr21
      case ii21 => simp only [List.getElem?_toArray, List.getElem?_cons_succ, List.getElem?_cons_zero]; rfl
      case ff21 => kernel_rfl
      case qq21 => exact fun _ _ _ h => h
      case ww21 => rfl
      case yy21 => intro W hW; go_simp <;> with_reducible rfl
      try simp only [Act.put, List.setIfInBounds_toArray, List.set_cons_zero, List.set_cons_succ]
      refine wpAnyH_take (i := 22) (oi := ?oo22) (v := ?vv22) ?ii22 (by kernel_rfl) ?ff22 (by kernel_rfl) ?qq22 (Or.inl ⟨?ww22, ?yy22⟩) hd15 ?rr22
      case ii22 => simp only [List.getElem?_toArray, List.getElem?_cons_succ, List.getElem?_cons_zero]; rfl
      case ff22 => kernel_rfl
      case qq22 => exact fun _ _ _ h => h
      case ww22 => rfl
      case yy22 => intro W hW; go_simp <;> with_reducible rfl
      try simp only [Act.put, List.setIfInBounds_toArray, List.set_cons_zero, List.set_cons_succ]
      refine wpAnyH_ready (rs := [21]) (by kernel_rfl) (by simp) ?_
      refine AllReadyH.cons (o := ?oo23) ?ii23 (fun K hK => ?_) AllReadyH.nil
      case ii23 => simp only [List.getElem?_toArray, List.getElem?_cons_succ, List.getElem?_cons_zero]; rfl
      go_simp
      refine (C6.out _).mono ?_
      rintro e w16 ⟨rfl, hb16⟩
      have hd16 := hd15.step hb16
      clear hb16
      go_wp2_with fail
      refine hK.out _ _ hd16 (fun _ => ?_)
      clear hK K
      refine wpAnyH_ready (rs := [23]) (by kernel_rfl) (by simp) ?_
      refine AllReadyH.cons (o := ?oo24) ?ii24 (fun K hK => ?_) AllReadyH.nil
      case ii24 => simp only [List.getElem?_toArray, List.getElem?_cons_succ, List.getElem?_cons_zero]; rfl
      go_simp
      refine (C7.out _).mono ?_
      rintro e w17 ⟨rfl, hb17⟩
      have hd17 := hd16.step hb17
      clear hb17
      go_wp2_with fail
      refine hK.out _ _ hd17 (fun _ => ?_)
      clear hK K
      refine wpAnyH_take (i := 24) (oi := ?oo25) (v := ?vv25) ?ii25 (by kernel_rfl) ?ff25 (by kernel_rfl) ?qq25 (Or.inl ⟨?ww25, ?yy25⟩) hd17 ?rr25
      case ii25 => simp only [List.getElem?_toArray, List.getElem?_cons_succ, List.getElem?_cons_zero]; rfl
      case ff25 => kernel_rfl
      case qq25 => exact fun _ _ _ h => h
      case ww25 => rfl
      case yy25 => intro W hW; go_simp <;> with_reducible rfl
      try simp only [Act.put, List.setIfInBounds_toArray, List.set_cons_zero, List.set_cons_succ]
      refine wpAnyH_take (i := 25) (oi := ?oo26) (v := ?vv26) ?ii26 (by kernel_rfl) ?ff26 (by kernel_rfl) ?qq26 (Or.inl ⟨?ww26, ?yy26⟩) hd17 ?rr26
      case ii26 => simp only [List.getElem?_toArray, List.getElem?_cons_succ, List.getElem?_cons_zero]; rfl
      case ff26 => kernel_rfl
      case qq26 => exact fun _ _ _ h => h
      case ww26 => rfl
      case yy26 => intro W hW; go_simp <;> with_reducible rfl
      try simp only [Act.put, List.setIfInBounds_toArray, List.set_cons_zero, List.set_cons_succ]
      refine wpAnyH_take (i := 26) (oi := ?oo27) (v := ?vv27) ?ii27 (by kernel_rfl) ?ff27 (by kernel_rfl) ?qq27 (Or.inl ⟨?ww27, ?yy27⟩) hd17 ?rr27
      case ii27 => simp only [List.getElem?_toArray, List.getElem?_cons_succ, List.getElem?_cons_zero]; rfl
      case ff27 => kernel_rfl
      case qq27 => exact fun _ _ _ h => h
      case ww27 => rfl
      case yy27 => intro W hW; go_simp <;> with_reducible rfl
      try simp only [Act.put, List.setIfInBounds_toArray, List.set_cons_zero, List.set_cons_succ]
      refine wpAnyH_take (i := 27) (oi := ?oo28) (v := ?vv28) ?ii28 (by kernel_rfl) ?ff28 (by kernel_rfl) ?qq28 (Or.inl ⟨?ww28, ?yy28⟩) hd17 ?rr28
      case ii28 => simp only [List.getElem?_toArray, List.getElem?_cons_succ, List.getElem?_cons_zero]; rfl
      case ff28 => kernel_rfl
      case qq28 => exact fun _ _ _ h => h
      case ww28 => rfl
      case yy28 => intro W hW; go_simp <;> with_reducible rfl
      try simp only [Act.put, List.setIfInBounds_toArray, List.set_cons_zero, List.set_cons_succ]
      refine wpAnyH_take (i := 28) (oi := ?oo29) (v := ?vv29) ?ii29 (by kernel_rfl) ?ff29 (by kernel_rfl) ?qq29 (Or.inl ⟨?ww29, ?yy29⟩) hd17 ?rr29
      case ii29 => simp only [List.getElem?_toArray, List.getElem?_cons_succ, List.getElem?_cons_zero]; rfl
      case ff29 => kernel_rfl
      case qq29 => exact fun _ _ _ h => h
      case ww29 => rfl
      case yy29 => intro W hW; go_simp <;> with_reducible rfl
      try simp only [Act.put, List.setIfInBounds_toArray, List.set_cons_zero, List.set_cons_succ]
      refine wpAnyH_take (i := 30) (oi := ?oo30) (v := ?vv30) ?ii30 (by kernel_rfl) ?ff30 (by kernel_rfl) ?qq30 (Or.inl ⟨?ww30, ?yy30⟩) hd17 ?rr30
      case ii30 => simp only [List.getElem?_toArray, List.getElem?_cons_succ, List.getElem?_cons_zero]; rfl
      case ff30 => kernel_rfl
      case qq30 => exact fun _ _ _ h => h
      case ww30 => rfl
      case yy30 => intro W hW; go_simp <;> with_reducible rfl
      try simp only [Act.put, List.setIfInBounds_toArray, List.set_cons_zero, List.set_cons_succ]
      refine wpAnyH_take (i := 31) (oi := ?oo31) (v := ?vv31) ?ii31 (by kernel_rfl) ?ff31 (by kernel_rfl) ?qq31 (Or.inl ⟨?ww31, ?yy31⟩) hd17 ?rr31
      case ii31 => simp only [List.getElem?_toArray, List.getElem?_cons_succ, List.getElem?_cons_zero]; rfl
      case ff31 => kernel_rfl
      case qq31 => exact fun _ _ _ h => h
      case ww31 => rfl
      case yy31 => intro W hW; go_simp <;> with_reducible rfl
      try simp only [Act.put, List.setIfInBounds_toArray, List.set_cons_zero, List.set_cons_succ]
      refine wpAnyH_ready (rs := [29]) (by kernel_rfl) (by simp) ?_
      refine AllReadyH.cons (o := ?oo32) ?ii32 (fun K hK => ?_) AllReadyH.nil
      case ii32 => simp only [List.getElem?_toArray, List.getElem?_cons_succ, List.getElem?_cons_zero]; rfl
      go_simp
      refine (C8.out _).mono ?_
      rintro e w18 ⟨rfl, hb18⟩
      have hd18 := hd17.step hb18
      clear hb18
      go_wp2_with fail
      refine hK.out _ _ hd18 (fun _ => ?_)
      clear hK K
      refine wpAnyH_ready (rs := [32]) (by kernel_rfl) (by simp) ?_
      refine AllReadyH.cons (o := ?oo33) ?ii33 (fun K hK => ?_) AllReadyH.nil
      case ii33 => simp only [List.getElem?_toArray, List.getElem?_cons_succ, List.getElem?_cons_zero]; rfl
      go_simp
      refine (C9.out _).mono ?_
      rintro e w19 ⟨rfl, hb19⟩
      have hd19 := hd18.step hb19
      clear hb19
      go_wp2_with fail
      refine hK.out _ _ hd19 (fun _ => ?_)
      clear hK K
      refine wpAnyH_take (i := 33) (oi := ?oo34) (v := ?vv34) ?ii34 (by kernel_rfl) ?ff34 (by kernel_rfl) ?qq34 (Or.inl ⟨?ww34, ?yy34⟩) hd19 ?rr34
      case ii34 => simp only [List.getElem?_toArray, List.getElem?_cons_succ, List.getElem?_cons_zero]; rfl
      case ff34 => kernel_rfl
      case qq34 => exact fun _ _ _ h => h
      case ww34 => rfl
      case yy34 => intro W hW; go_simp <;> with_reducible rfl
      try simp only [Act.put, List.setIfInBounds_toArray, List.set_cons_zero, List.set_cons_succ]
      refine wpAnyH_take (i := 34) (oi := ?oo35) (v := ?vv35) ?ii35 (by kernel_rfl) ?ff35 (by kernel_rfl) ?qq35 (Or.inl ⟨?ww35, ?yy35⟩) hd19 ?rr35
      case ii35 => simp only [List.getElem?_toArray, List.getElem?_cons_succ, List.getElem?_cons_zero]; rfl
      case ff35 => kernel_rfl
      case qq35 => exact fun _ _ _ h => h
      case ww35 => rfl
      case yy35 => intro W hW; go_simp <;> with_reducible rfl
      try simp only [Act.put, List.setIfInBounds_toArray, List.set_cons_zero, List.set_cons_succ]
      refine wpAnyH_done (by kernel_rfl) ?_ _
      go_wp2_with fail
      go_meet
      exact ⟨rfl, rfl, hd19⟩
    case rest =>
    obtain ⟨rfl, rfl, hd4⟩ := hcut
    clear Hd3 C0 C1 C2 C3 C4 C5 C6 C7 C8 C9
    have hd5 := BoxS.drew hd4
    go_wp2_with fail
    refine wp_region_held_drew (S := fun W => BoxS w ⟨nodes, faulty, slot, gap, rho, dmin, dmax, margin, PA, pn, pcap, parts, QA, qn, qcap, ports, RA, rn, rcap, routes⟩ W) (by kernel_rfl) hd5 (fun _ => ?_)
    refine wpAnyH_take (i := 0) (oi := ?oo36) (v := ?vv36) ?ii36 (by kernel_rfl) ?ff36 (by kernel_rfl) ?qq36 (Or.inl ⟨?ww36, ?yy36⟩) hd5 ?rr36
    case ii36 => simp only [List.getElem?_toArray, List.getElem?_cons_zero]; rfl
    case ff36 => kernel_rfl
    case qq36 => exact fun _ _ _ h => h
    case ww36 => rfl
    case yy36 => intro W hW; go_simp <;> with_reducible rfl
    try simp only [Act.put, List.setIfInBounds_toArray, List.set_cons_zero, List.set_cons_succ]
    refine wpAnyH_take (i := 1) (oi := ?oo37) (v := ?vv37) ?ii37 (by kernel_rfl) ?ff37 (by kernel_rfl) ?qq37 (Or.inl ⟨?ww37, ?yy37⟩) hd5 ?rr37
    case ii37 => simp only [List.getElem?_toArray, List.getElem?_cons_succ, List.getElem?_cons_zero]; rfl
    case ff37 => kernel_rfl
    case qq37 => exact fun _ _ _ h => h
    case ww37 => rfl
    case yy37 => intro W hW; go_simp <;> with_reducible rfl
    try simp only [Act.put, List.setIfInBounds_toArray, List.set_cons_zero, List.set_cons_succ]
    refine wpAnyH_take (i := 3) (oi := ?oo38) (v := ?vv38) ?ii38 (by kernel_rfl) ?ff38 (by kernel_rfl) ?qq38 (Or.inl ⟨?ww38, ?yy38⟩) hd5 ?rr38
    case ii38 => simp only [List.getElem?_toArray, List.getElem?_cons_succ, List.getElem?_cons_zero]; rfl
    case ff38 => kernel_rfl
    case qq38 => exact fun _ _ _ h => h
    case ww38 => rfl
    case yy38 => intro W hW; go_simp <;> with_reducible rfl
    try simp only [Act.put, List.setIfInBounds_toArray, List.set_cons_zero, List.set_cons_succ]
    refine wpAnyH_take (i := 4) (oi := ?oo39) (v := ?vv39) ?ii39 (by kernel_rfl) ?ff39 (by kernel_rfl) ?qq39 (Or.inl ⟨?ww39, ?yy39⟩) hd5 ?rr39
    case ii39 => simp only [List.getElem?_toArray, List.getElem?_cons_succ, List.getElem?_cons_zero]; rfl
    case ff39 => kernel_rfl
    case qq39 => exact fun _ _ _ h => h
    case ww39 => rfl
    case yy39 => intro W hW; go_simp <;> with_reducible rfl
    try simp only [Act.put, List.setIfInBounds_toArray, List.set_cons_zero, List.set_cons_succ]
    refine wpAnyH_ready (rs := [2]) (by kernel_rfl) (by simp) ?_
    refine AllReadyH.cons (o := ?oo40) ?ii40 (fun K hK => ?_) AllReadyH.nil
    case ii40 => simp only [List.getElem?_toArray, List.getElem?_cons_succ, List.getElem?_cons_zero]; rfl
    go_simp
    refine (HR1.out _ hd5).mono ?_
    rintro e w6 ⟨g, bl, rfl, hbl, hP, hown, hb6⟩
    have hd6 := hd5.step hb6
    have HSa := Lib.hid (HSn.out _ _ g bl hd5 hb6 hown)
    have HP := Lib.hid hP
    clear hb6 hown hP
    go_wp2_with fail
    refine hK.out _ _ hd6 (fun _ => ?_)
    clear hK K
    refine wpAnyH_ready (rs := [5]) (by kernel_rfl) (by simp) ?_
    refine AllReadyH.cons (o := ?oo41) ?ii41 (fun K hK => ?_) AllReadyH.nil
    case ii41 => simp only [List.getElem?_toArray, List.getElem?_cons_succ, List.getElem?_cons_zero]; rfl
    go_simp
    refine (HR2.out _ hd6).mono ?_
    rintro e w7 ⟨g2, bl2, rfl, hbl2, hP2, hown2, hb7⟩
    obtain rfl : bl = bl2 := HSame.out _ _ HP.out hP2
    have hd7 := hd6.step hb7
    have HSb := Lib.hid (HSn.out _ _ g2 bl hd6 hb7 hown2)
    have HSa7 := Lib.hid (HSa.out.step hb7)
    clear hb7 hown2 hP2 HSa HP hbl2
    go_wp2_with fail
    refine hK.out _ _ hd7 (fun _ => ?_)
    clear hK K
    refine wpAnyH_take (i := 6) (oi := ?oo42) (v := ?vv42) ?ii42 (by kernel_rfl) ?ff42 (by kernel_rfl) ?qq42 (Or.inl ⟨?ww42, ?yy42⟩) hd7 ?rr42
    case ii42 => simp only [List.getElem?_toArray, List.getElem?_cons_succ, List.getElem?_cons_zero]; rfl
    case ff42 => kernel_rfl
    case qq42 => exact fun _ _ _ h => h
    case ww42 => rfl
    case yy42 => intro W hW; go_simp <;> with_reducible rfl
    try simp only [Act.put, List.setIfInBounds_toArray, List.set_cons_zero, List.set_cons_succ]
    refine wpAnyH_take (i := 7) (oi := ?oo43) (v := ?vv43) ?ii43 (by kernel_rfl) ?ff43 (by kernel_rfl) ?qq43 (Or.inl ⟨?ww43, ?yy43⟩) hd7 ?rr43
    case ii43 => simp only [List.getElem?_toArray, List.getElem?_cons_succ, List.getElem?_cons_zero]; rfl
    case ff43 => kernel_rfl
    case qq43 => exact fun _ _ _ h => h
    case ww43 => rfl
    case yy43 => intro W hW; go_simp <;> with_reducible rfl
    try simp only [Act.put, List.setIfInBounds_toArray, List.set_cons_zero, List.set_cons_succ]
    refine wpAnyH_done (by kernel_rfl) ?_ _
    have Hd7 := Lib.hid hd7
    clear hd4 hd5 hd6 hd7 HR1 HR2 HSame HSn
    have hd8 : Below w7.heap.size w7 w7.drew := (Below.refl _ _).drew
    try simp only at hbl
    have g0 := fun W (hW : Below w7.heap.size w7 W) => d0 W (Hd7.out.step hW)
    have g1 := fun W (hW : Below w7.heap.size w7 W) => d1 W (Hd7.out.step hW)
    have g2 := fun W (hW : Below w7.heap.size w7 W) => d2 W (Hd7.out.step hW)
    have g3 := fun W (hW : Below w7.heap.size w7 W) => d3 W (Hd7.out.step hW)
    have g4 := fun W (hW : Below w7.heap.size w7 W) => d4 W (Hd7.out.step hW)
    have g5 := fun W (hW : Below w7.heap.size w7 W) => d5 W (Hd7.out.step hW)
    have g6 := fun W (hW : Below w7.heap.size w7 W) => d6 W (Hd7.out.step hW)
    have g7 := fun W (hW : Below w7.heap.size w7 W) => d7 W (Hd7.out.step hW)
    have g8 := fun W (hW : Below w7.heap.size w7 W) => d8 W (Hd7.out.step hW)
    have g9 := fun W (hW : Below w7.heap.size w7 W) => d9 W (Hd7.out.step hW)
    have g10 := fun W (hW : Below w7.heap.size w7 W) => d10 W (Hd7.out.step hW)
    clear d0 d1 d2 d3 d4 d5 d6 d7 d8 d9 d10
    go_wp2_with fail
    refine wp_region_held_drew (S := fun W => Below w7.heap.size w7 W) (by kernel_rfl) hd8 (fun _ => ?_)
    refine wpAnyH_take (i := 0) (oi := ?oo44) (v := ?vv44) ?ii44 (by kernel_rfl) ?ff44 (by kernel_rfl) ?qq44 (Or.inl ⟨?ww44, ?yy44⟩) hd8 ?rr44
    case ii44 => simp only [List.getElem?_toArray, List.getElem?_cons_zero]; rfl
    case ff44 => kernel_rfl
    case qq44 => exact fun _ _ _ h => h
    case ww44 => rfl
    case yy44 => intro W hW; go_simp <;> with_reducible rfl
    try simp only [Act.put, List.setIfInBounds_toArray, List.set_cons_zero, List.set_cons_succ]
    refine wpAnyH_take (i := 1) (oi := ?oo45) (v := ?vv45) ?ii45 (by kernel_rfl) ?ff45 (by kernel_rfl) ?qq45 (Or.inl ⟨?ww45, ?yy45⟩) hd8 ?rr45
    case ii45 => simp only [List.getElem?_toArray, List.getElem?_cons_succ, List.getElem?_cons_zero]; rfl
    case ff45 => kernel_rfl
    case qq45 => exact fun _ _ _ h => h
    case ww45 => rfl
    case yy45 => intro W hW; go_simp <;> with_reducible rfl
    try simp only [Act.put, List.setIfInBounds_toArray, List.set_cons_zero, List.set_cons_succ]
    refine wpAnyH_take (i := 2) (oi := ?oo46) (v := ?vv46) ?ii46 (by kernel_rfl) ?ff46 (by kernel_rfl) ?qq46 (Or.inl ⟨?ww46, ?yy46⟩) hd8 ?rr46
    case ii46 => simp only [List.getElem?_toArray, List.getElem?_cons_succ, List.getElem?_cons_zero]; rfl
    case ff46 => kernel_rfl
    case qq46 => exact fun _ _ _ h => h
    case ww46 => rfl
    case yy46 => intro W hW; go_simp <;> with_reducible rfl
    try simp only [Act.put, List.setIfInBounds_toArray, List.set_cons_zero, List.set_cons_succ]
    refine wpAnyH_take (i := 3) (oi := ?oo47) (v := ?vv47) ?ii47 (by kernel_rfl) ?ff47 (by kernel_rfl) ?qq47 (Or.inl ⟨?ww47, ?yy47⟩) hd8 ?rr47
    case ii47 => simp only [List.getElem?_toArray, List.getElem?_cons_succ, List.getElem?_cons_zero]; rfl
    case ff47 => kernel_rfl
    case qq47 => exact fun _ _ _ h => h
    case ww47 => rfl
    case yy47 => intro W hW; go_simp <;> with_reducible rfl
    try simp only [Act.put, List.setIfInBounds_toArray, List.set_cons_zero, List.set_cons_succ]
    refine wpAnyH_take (i := 4) (oi := ?oo48) (v := ?vv48) ?ii48 (by kernel_rfl) ?ff48 (by kernel_rfl) ?qq48 (Or.inl ⟨?ww48, ?yy48⟩) hd8 ?rr48
    case ii48 => simp only [List.getElem?_toArray, List.getElem?_cons_succ, List.getElem?_cons_zero]; rfl
    case ff48 => kernel_rfl
    case qq48 => exact fun _ _ _ h => h
    case ww48 => rfl
    case yy48 => intro W hW; go_simp <;> with_reducible rfl
    try simp only [Act.put, List.setIfInBounds_toArray, List.set_cons_zero, List.set_cons_succ]
    refine wpAnyH_take (i := 5) (oi := ?oo49) (v := ?vv49) ?ii49 (by kernel_rfl) ?ff49 (by kernel_rfl) ?qq49 (Or.inl ⟨?ww49, ?yy49⟩) hd8 ?rr49
    case ii49 => simp only [List.getElem?_toArray, List.getElem?_cons_succ, List.getElem?_cons_zero]; rfl
    case ff49 => kernel_rfl
    case qq49 => exact fun _ _ _ h => h
    case ww49 => rfl
    case yy49 => intro W hW; go_simp <;> with_reducible rfl
    try simp only [Act.put, List.setIfInBounds_toArray, List.set_cons_zero, List.set_cons_succ]
    refine wpAnyH_take (i := 6) (oi := ?oo50) (v := ?vv50) ?ii50 (by kernel_rfl) ?ff50 (by kernel_rfl) ?qq50 (Or.inl ⟨?ww50, ?yy50⟩) hd8 ?rr50
    case ii50 => simp only [List.getElem?_toArray, List.getElem?_cons_succ, List.getElem?_cons_zero]; rfl
    case ff50 => kernel_rfl
    case qq50 => exact fun _ _ _ h => h
    case ww50 => rfl
    case yy50 => intro W hW; go_simp <;> with_reducible rfl
    try simp only [Act.put, List.setIfInBounds_toArray, List.set_cons_zero, List.set_cons_succ]
    refine wpAnyH_take (i := 7) (oi := ?oo51) (v := ?vv51) ?ii51 (by kernel_rfl) ?ff51 (by kernel_rfl) ?qq51 (Or.inl ⟨?ww51, ?yy51⟩) hd8 ?rr51
    case ii51 => simp only [List.getElem?_toArray, List.getElem?_cons_succ, List.getElem?_cons_zero]; rfl
    case ff51 => kernel_rfl
    case qq51 => exact fun _ _ _ h => h
    case ww51 => rfl
    case yy51 => intro W hW; go_simp <;> with_reducible rfl
    try simp only [Act.put, List.setIfInBounds_toArray, List.set_cons_zero, List.set_cons_succ]
    refine wpAnyH_take (i := 9) (oi := ?oo52) (v := ?vv52) ?ii52 (by kernel_rfl) ?ff52 (by kernel_rfl) ?qq52 (Or.inl ⟨?ww52, ?yy52⟩) hd8 ?rr52
    case ii52 => simp only [List.getElem?_toArray, List.getElem?_cons_succ, List.getElem?_cons_zero]; rfl
    case ff52 => kernel_rfl
    case qq52 => exact fun _ _ _ h => h
    case ww52 => rfl
    case yy52 => intro W hW; go_simp <;> with_reducible rfl
    try simp only [Act.put, List.setIfInBounds_toArray, List.set_cons_zero, List.set_cons_succ]
    refine wpAnyH_take (i := 10) (oi := ?oo53) (v := ?vv53) ?ii53 (by kernel_rfl) ?ff53 (by kernel_rfl) ?qq53 (Or.inl ⟨?ww53, ?yy53⟩) hd8 ?rr53
    case ii53 => simp only [List.getElem?_toArray, List.getElem?_cons_succ, List.getElem?_cons_zero]; rfl
    case ff53 => kernel_rfl
    case qq53 => exact fun _ _ _ h => h
    case ww53 => rfl
    case yy53 => intro W hW; go_simp <;> with_reducible rfl
    try simp only [Act.put, List.setIfInBounds_toArray, List.set_cons_zero, List.set_cons_succ]
    refine wpAnyH_ready (rs := [8]) (by kernel_rfl) (by simp) ?_
    refine AllReadyH.cons (o := ?oo54) ?ii54 (fun K hK => ?_) AllReadyH.nil
    case ii54 => simp only [List.getElem?_toArray, List.getElem?_cons_succ, List.getElem?_cons_zero]; rfl
    go_simp
    refine (HO1.out _ (Hd7.out.step hd8)).mono ?_
    rintro e w8 ⟨va, rfl, hoa, hb8⟩
    have hd9 := hd8.trans (hb8.mono hd8.size)
    go_wp2_with fail
    refine hK.out _ _ hd9 (fun _ => ?_)
    clear hK K
    refine wpAnyH_ready (rs := [11]) (by kernel_rfl) (by simp) ?_
    refine AllReadyH.cons (o := ?oo55) ?ii55 (fun K hK => ?_) AllReadyH.nil
    case ii55 => simp only [List.getElem?_toArray, List.getElem?_cons_succ, List.getElem?_cons_zero]; rfl
    go_simp
    refine (HO2.out _ (Hd7.out.step hd9)).mono ?_
    rintro e w9 ⟨vb, rfl, hob, hb9⟩
    have hd10 := hd9.trans (hb9.mono hd9.size)
    have hoa9 := own_keep hoa hb9
    go_wp2_with fail
    refine hK.out _ _ hd10 (fun _ => ?_)
    clear hK K
    refine wpAnyH_ready (rs := [12]) (by kernel_rfl) (by simp) ?_
    refine AllReadyH.cons (o := ?oo56) ?ii56 (fun K hK => ?_) AllReadyH.nil
    case ii56 => simp only [List.getElem?_toArray, List.getElem?_cons_succ, List.getElem?_cons_zero]; rfl
    go_simp
    refine (HSI.out _ _ va vb _ hoa9 hob).mono ?_
    rintro e w10 ⟨rfl, hb10⟩
    have hd11 := hd10.trans (hb10.mono hd10.size)
    clear hb8 hb9 hb10 hoa hob hoa9
    go_wp2_with fail
    refine hK.out _ _ hd11 (fun _ => ?_)
    clear hK K
    refine wpAnyH_take (i := 13) (oi := ?oo57) (v := ?vv57) ?ii57 (by kernel_rfl) ?ff57 (by kernel_rfl) ?qq57 (Or.inl ⟨?ww57, ?yy57⟩) hd11 ?rr57
    case ii57 => simp only [List.getElem?_toArray, List.getElem?_cons_succ, List.getElem?_cons_zero]; rfl
    case ff57 => kernel_rfl
    case qq57 => exact fun _ _ _ h => h
    case ww57 => rfl
    case yy57 => intro W hW; go_simp <;> with_reducible rfl
    try simp only [Act.put, List.setIfInBounds_toArray, List.set_cons_zero, List.set_cons_succ]
    refine wpAnyH_take (i := 14) (oi := ?oo58) (v := ?vv58) ?ii58 (by kernel_rfl) ?ff58 (by kernel_rfl) ?qq58 (Or.inl ⟨?ww58, ?yy58⟩) hd11 ?rr58
    case ii58 => simp only [List.getElem?_toArray, List.getElem?_cons_succ, List.getElem?_cons_zero]; rfl
    case ff58 => kernel_rfl
    case qq58 => exact fun _ _ _ h => h
    case ww58 => rfl
    case yy58 => intro W hW; go_simp <;> with_reducible rfl
    try simp only [Act.put, List.setIfInBounds_toArray, List.set_cons_zero, List.set_cons_succ]
    refine wpAnyH_done (by kernel_rfl) ?_ _
    have HSa8 := Lib.hid (HSa7.out.step hd11)
    have HSb8 := Lib.hid (HSb.out.step hd11)
    clear hd8 hd9 hd10 hd11 HSa7 HSb Hd7 HO1 HO2 HSI g0 g1 g2 g3 g4 g5 g6 g7 g8 g9 g10
    go_wp2_with fail
    go_loopw [81] (RkR w ⟨nodes, faulty, slot, gap, rho, dmin, dmax, margin, PA, pn, pcap, parts, QA, qn, qcap, ports, RA, rn, rcap, routes⟩ g g2 bl) (fun i _ => (pn + 1 - intOf i).toNat)
    case atStart => exact ⟨0, Nat.zero_le _, rfl, HSa8.out, HSb8.out⟩
    case round =>
      clear HSa8 HSb8
      obtain ⟨k, hk, rfl, hSa, hSb⟩ := hrel
      simp only at hk
      by_cases hlt : k < pn
      case pos =>
        obtain ⟨y, hy⟩ : ∃ y, bl[k]? = some y := ⟨_, List.getElem?_eq_getElem (by omega)⟩
        have ca := fun W (hW : SeenS w ⟨nodes, faulty, slot, gap, rho, dmin, dmax, margin, PA, pn, pcap, parts, QA, qn, qcap, ports, RA, rn, rcap, routes⟩ g pn bl W ∧ SeenS w ⟨nodes, faulty, slot, gap, rho, dmin, dmax, margin, PA, pn, pcap, parts, QA, qn, qcap, ports, RA, rn, rcap, routes⟩ g2 pn bl W) => hW.1.cell hy hlt
        have cb := fun W (hW : SeenS w ⟨nodes, faulty, slot, gap, rho, dmin, dmax, margin, PA, pn, pcap, parts, QA, qn, qcap, ports, RA, rn, rcap, routes⟩ g pn bl W ∧ SeenS w ⟨nodes, faulty, slot, gap, rho, dmin, dmax, margin, PA, pn, pcap, parts, QA, qn, qcap, ports, RA, rn, rcap, routes⟩ g2 pn bl W) => hW.2.cell hy hlt
        have hkz : (k : Int) < (pn : Int) := by omega
        have hd0 : SeenS w ⟨nodes, faulty, slot, gap, rho, dmin, dmax, margin, PA, pn, pcap, parts, QA, qn, qcap, ports, RA, rn, rcap, routes⟩ g pn bl wr.drew ∧ SeenS w ⟨nodes, faulty, slot, gap, rho, dmin, dmax, margin, PA, pn, pcap, parts, QA, qn, qcap, ports, RA, rn, rcap, routes⟩ g2 pn bl wr.drew := ⟨hSa.drew, hSb.drew⟩
        have HR : Hid (RkR w ⟨nodes, faulty, slot, gap, rho, dmin, dmax, margin, PA, pn, pcap, parts, QA, qn, qcap, ports, RA, rn, rcap, routes⟩ g g2 bl (.int .i64 ((k : Int) + 1)) wr.drew) := Lib.hid ⟨k + 1, by simp only; omega, by go_num, hSa.drew, hSb.drew⟩
        clear hSa hSb hy
        go_wp2_with fail
        refine wp_region_held_drew (S := fun W => SeenS w ⟨nodes, faulty, slot, gap, rho, dmin, dmax, margin, PA, pn, pcap, parts, QA, qn, qcap, ports, RA, rn, rcap, routes⟩ g pn bl W ∧ SeenS w ⟨nodes, faulty, slot, gap, rho, dmin, dmax, margin, PA, pn, pcap, parts, QA, qn, qcap, ports, RA, rn, rcap, routes⟩ g2 pn bl W) (by kernel_rfl) hd0 (fun _ => ?_)
        refine wpAnyH_take (i := 0) (oi := ?oo59) (v := ?vv59) ?ii59 (by kernel_rfl) ?ff59 (by kernel_rfl) ?qq59 (Or.inl ⟨?ww59, ?yy59⟩) hd0 ?rr59
        case ii59 => simp only [List.getElem?_toArray, List.getElem?_cons_zero]; rfl
        case ff59 => kernel_rfl
        case qq59 => exact fun _ _ _ h => h
        case ww59 => rfl
        case yy59 => intro W hW; go_simp <;> with_reducible rfl
        try simp only [Act.put, List.setIfInBounds_toArray, List.set_cons_zero, List.set_cons_succ]
        refine wpAnyH_take (i := 1) (oi := ?oo60) (v := ?vv60) ?ii60 (by kernel_rfl) ?ff60 (by kernel_rfl) ?qq60 (Or.inl ⟨?ww60, ?yy60⟩) hd0 ?rr60
        case ii60 => simp only [List.getElem?_toArray, List.getElem?_cons_succ, List.getElem?_cons_zero]; rfl
        case ff60 => kernel_rfl
        case qq60 => exact fun _ _ _ h => h
        case ww60 => rfl
        case yy60 => intro W hW; go_simp <;> with_reducible rfl
        try simp only [Act.put, List.setIfInBounds_toArray, List.set_cons_zero, List.set_cons_succ]
        refine wpAnyH_take (i := 2) (oi := ?oo61) (v := ?vv61) ?ii61 (by kernel_rfl) ?ff61 (by kernel_rfl) ?qq61 (Or.inl ⟨?ww61, ?yy61⟩) hd0 ?rr61
        case ii61 => simp only [List.getElem?_toArray, List.getElem?_cons_succ, List.getElem?_cons_zero]; rfl
        case ff61 => kernel_rfl
        case qq61 => exact fun _ _ _ h => h
        case ww61 => rfl
        case yy61 => intro W hW; go_simp <;> with_reducible rfl
        try simp only [Act.put, List.setIfInBounds_toArray, List.set_cons_zero, List.set_cons_succ]
        refine wpAnyH_take (i := 3) (oi := ?oo62) (v := ?vv62) ?ii62 (by kernel_rfl) ?ff62 (by kernel_rfl) ?qq62 (Or.inl ⟨?ww62, ?yy62⟩) hd0 ?rr62
        case ii62 => simp only [List.getElem?_toArray, List.getElem?_cons_succ, List.getElem?_cons_zero]; rfl
        case ff62 => kernel_rfl
        case qq62 => exact fun _ _ _ h => h
        case ww62 => rfl
        case yy62 => intro W hW; go_simp <;> with_reducible rfl
        try simp only [Act.put, List.setIfInBounds_toArray, List.set_cons_zero, List.set_cons_succ]
        refine wpAnyH_take (i := 4) (oi := ?oo63) (v := ?vv63) ?ii63 (by kernel_rfl) ?ff63 (by kernel_rfl) ?qq63 (Or.inl ⟨?ww63, ?yy63⟩) hd0 ?rr63
        case ii63 => simp only [List.getElem?_toArray, List.getElem?_cons_succ, List.getElem?_cons_zero]; rfl
        case ff63 => kernel_rfl
        case qq63 => exact fun _ _ _ h => h
        case ww63 => rfl
        case yy63 => intro W hW; go_simp <;> with_reducible rfl
        try simp only [Act.put, List.setIfInBounds_toArray, List.set_cons_zero, List.set_cons_succ]
        refine wpAnyH_take (i := 5) (oi := ?oo64) (v := ?vv64) ?ii64 (by kernel_rfl) ?ff64 (by kernel_rfl) ?qq64 (Or.inl ⟨?ww64, ?yy64⟩) hd0 ?rr64
        case ii64 => simp only [List.getElem?_toArray, List.getElem?_cons_succ, List.getElem?_cons_zero]; rfl
        case ff64 => kernel_rfl
        case qq64 => exact fun _ _ _ h => h
        case ww64 => rfl
        case yy64 => intro W hW; go_simp <;> with_reducible rfl
        try simp only [Act.put, List.setIfInBounds_toArray, List.set_cons_zero, List.set_cons_succ]
        refine wpAnyH_take (i := 6) (oi := ?oo65) (v := ?vv65) ?ii65 (by kernel_rfl) ?ff65 (by kernel_rfl) ?qq65 (Or.inl ⟨?ww65, ?yy65⟩) hd0 ?rr65
        case ii65 => simp only [List.getElem?_toArray, List.getElem?_cons_succ, List.getElem?_cons_zero]; rfl
        case ff65 => kernel_rfl
        case qq65 => exact fun _ _ _ h => h
        case ww65 => rfl
        case yy65 => intro W hW; go_simp <;> with_reducible rfl
        try simp only [Act.put, List.setIfInBounds_toArray, List.set_cons_zero, List.set_cons_succ]
        refine wpAnyH_take (i := 7) (oi := ?oo66) (v := ?vv66) ?ii66 (by kernel_rfl) ?ff66 (by kernel_rfl) ?qq66 (Or.inl ⟨?ww66, ?yy66⟩) hd0 ?rr66
        case ii66 => simp only [List.getElem?_toArray, List.getElem?_cons_succ, List.getElem?_cons_zero]; rfl
        case ff66 => kernel_rfl
        case qq66 => exact fun _ _ _ h => h
        case ww66 => rfl
        case yy66 => intro W hW; go_simp <;> with_reducible rfl
        try simp only [Act.put, List.setIfInBounds_toArray, List.set_cons_zero, List.set_cons_succ]
        refine wpAnyH_take (i := 8) (oi := ?oo67) (v := ?vv67) ?ii67 (by kernel_rfl) ?ff67 (by kernel_rfl) ?qq67 (Or.inl ⟨?ww67, ?yy67⟩) hd0 ?rr67
        case ii67 => simp only [List.getElem?_toArray, List.getElem?_cons_succ, List.getElem?_cons_zero]; rfl
        case ff67 => kernel_rfl
        case qq67 => exact fun _ _ _ h => h
        case ww67 => rfl
        case yy67 => intro W hW; go_simp <;> with_reducible rfl
        try simp only [Act.put, List.setIfInBounds_toArray, List.set_cons_zero, List.set_cons_succ]
        refine wpAnyH_done (by kernel_rfl) ?_ _
        clear hd0 ca cb
        go_wp2_with fail
        go_roundw
        case rel => exact HR.out
        case measure => simp [intOf]; omega
      have hkn : pn = k := by omega
      have HF := Lib.hid hSa.1.below
      clear hSa hSb
      subst hkn
      go_wp2_with fail
      go_ret
      exact ⟨rfl, HF.out⟩
end Go.Proofs.Ytpfhkcikjenjiaa
