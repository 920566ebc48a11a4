/- SoundWider: the walk of the law at tables in memory. Conditions: where their lists lie. -/
import Derived.Test.YtpfhkcikjenjiaaSndI
import Derived.Test.YtpfhkcikjenjiaaTbY
namespace Go.Proofs.Ytpfhkcikjenjiaa
open Go.RowKit
set_option maxRecDepth 100000

theorem at_in6 (a : Int) (n : Nat) (h1 : 0 < n) (hn : n ≤ 100000) : ∃ t : Nat, t < n ∧ wrap64 ((IntKind.u64.wrap a).tmod ((n : Nat) : Int)) = (t : Int) := by
  have e : IntKind.u64.wrap a = a % 18446744073709551616 := by simp [IntKind.wrap, IntKind.bits, IntKind.signed]
  rw [e]
  have h0 : 0 ≤ a % 18446744073709551616 := Int.emod_nonneg _ (by decide)
  generalize a % 18446744073709551616 = b at *
  rw [Int.tmod_eq_emod_of_nonneg h0]
  have h1 : 0 ≤ b % (n : Int) := Int.emod_nonneg _ (by omega)
  have h2 : b % (n : Int) < n := Int.emod_lt_of_pos _ (by omega)
  generalize b % (n : Int) = d at *
  refine ⟨d.toNat, by omega, ?_⟩
  rw [IntWalk.wrap64_in d ⟨by omega, by omega⟩]
  omega
theorem drift_mono {c d : TableP.Cfg} (h : c.nodes = d.nodes) (h1 : c.slot = d.slot) (h2 : c.gap = d.gap) (h3 : c.rho ≤ d.rho) (h4 : 0 ≤ c.nodes * c.slot + c.gap) : SndP.driftT c ≤ SndP.driftT d := by
  unfold SndP.driftT
  rw [← h, ← h1, ← h2]
  have h5 : 2 * c.rho * (c.nodes * c.slot + c.gap) ≤ 2 * d.rho * (c.nodes * c.slot + c.gap) := Int.mul_le_mul_of_nonneg_right (by omega) h4
  omega

theorem wider_works {x : CfgC} (h : SndP.Works x.plain) (t : Int) (ht : 0 ≤ t) (h1 : x.slot + 3 * t ≤ 16777216) (h2 : x.gap + 3 * t ≤ 16777216) (h3 : x.margin + t ≤ 16777216) :
    SndP.chk6 (CfgC.plain ⟨x.nodes, x.faulty, x.slot + 3 * t, x.gap + 3 * t, 0, x.dmin, x.dmax, x.margin + t, none, 0, 0, [], none, 0, 0, [], none, 0, 0, []⟩) = none := by
  have hn := SndP.nums_in h.allowed.head
  have hd := SndP.drift_in hn
  have a1 := h.nodes
  have a2 := h.margin
  have a3 := h.slot
  have a4 := h.gap
  obtain ⟨n1, n2, n3, n4, n5, n6, n7, n8, -, -⟩ := hn
  have hp : SndP.precT x.plain = 4 * (x.dmax - x.dmin) + 16 * SndP.driftT x.plain + 64 := rfl
  rw [hp] at a2 a3 a4
  generalize SndP.driftT x.plain = dr at *
  simp only [CfgC.plain] at a1 a2 a3 a4 n1 n2 n3 n4 n5 n6 n7 n8
  have e0 : SndP.driftT (CfgC.plain ⟨x.nodes, x.faulty, x.slot + 3 * t, x.gap + 3 * t, 0, x.dmin, x.dmax, x.margin + t, none, 0, 0, [], none, 0, 0, [], none, 0, 0, []⟩) = 2 := by
    simp [SndP.driftT, CfgC.plain]
  refine SndP.works_chk ⟨⟨by simp only [TableP.headOk, TableP.up, CfgC.plain]; omega, by simp [CfgC.plain], by simp [CfgC.plain], by simp [CfgC.plain], by simp [CfgC.plain], by simp [CfgC.plain], by simp [CfgC.plain]⟩, ?_, ?_, ?_, ?_, by simp [CfgC.plain], by simp [CfgC.plain]⟩
  · simp only [CfgC.plain]; omega
  · unfold SndP.precT; rw [e0]; simp only [CfgC.plain]; omega
  · unfold SndP.precT; rw [e0]; simp only [CfgC.plain]; omega
  · unfold SndP.precT; rw [e0]; simp only [CfgC.plain]; omega

set_option maxHeartbeats 2000000 in
theorem wider_law (x : CfgC) (n : Int) (w : World) (h : CfgIn w x) : Calls Try.prog 7 #[x.value, .int .i64 n] w (TruePost w) := by
  have HA := Lib.hid (fun W => awake6_any W)
  have HWk := Lib.hid (fun W (hW : BoxS w x W) => works_any x W (h.below hW.below))
  have HCf := Lib.hid (fun W (hW : BoxS w x W) => h.below hW.below)
  obtain ⟨L, hL⟩ : ∃ L, worksB x = L := ⟨_, rfl⟩
  simp only [hL] at HWk
  have HST := Lib.hid (BoxS.start w x)
  cases L with
  | false =>
    clear hL h HCf
    obtain ⟨nodes, faulty, slot, gap, rho, dmin, dmax, margin, PA, pn, pcap, parts, QA, qn, qcap, ports, RA, rn, rcap, routes⟩ := x
    have d0 := fun W (hW : BoxS w ⟨nodes, faulty, slot, gap, rho, dmin, dmax, margin, PA, pn, pcap, parts, QA, qn, qcap, ports, RA, rn, rcap, routes⟩ W) => hW.cells.c0
    have d1 := fun W (hW : BoxS w ⟨nodes, faulty, slot, gap, rho, dmin, dmax, margin, PA, pn, pcap, parts, QA, qn, qcap, ports, RA, rn, rcap, routes⟩ W) => hW.cells.c1
    have d2 := fun W (hW : BoxS w ⟨nodes, faulty, slot, gap, rho, dmin, dmax, margin, PA, pn, pcap, parts, QA, qn, qcap, ports, RA, rn, rcap, routes⟩ W) => hW.cells.c2
    have d3 := fun W (hW : BoxS w ⟨nodes, faulty, slot, gap, rho, dmin, dmax, margin, PA, pn, pcap, parts, QA, qn, qcap, ports, RA, rn, rcap, routes⟩ W) => hW.cells.c3
    have d4 := fun W (hW : BoxS w ⟨nodes, faulty, slot, gap, rho, dmin, dmax, margin, PA, pn, pcap, parts, QA, qn, qcap, ports, RA, rn, rcap, routes⟩ W) => hW.cells.c4
    have d5 := fun W (hW : BoxS w ⟨nodes, faulty, slot, gap, rho, dmin, dmax, margin, PA, pn, pcap, parts, QA, qn, qcap, ports, RA, rn, rcap, routes⟩ W) => hW.cells.c5
    have d6 := fun W (hW : BoxS w ⟨nodes, faulty, slot, gap, rho, dmin, dmax, margin, PA, pn, pcap, parts, QA, qn, qcap, ports, RA, rn, rcap, routes⟩ W) => hW.cells.c6
    have d7 := fun W (hW : BoxS w ⟨nodes, faulty, slot, gap, rho, dmin, dmax, margin, PA, pn, pcap, parts, QA, qn, qcap, ports, RA, rn, rcap, routes⟩ W) => hW.cells.c7
    have d8 := fun W (hW : BoxS w ⟨nodes, faulty, slot, gap, rho, dmin, dmax, margin, PA, pn, pcap, parts, QA, qn, qcap, ports, RA, rn, rcap, routes⟩ W) => hW.cells.c8
    have d9 := fun W (hW : BoxS w ⟨nodes, faulty, slot, gap, rho, dmin, dmax, margin, PA, pn, pcap, parts, QA, qn, qcap, ports, RA, rn, rcap, routes⟩ W) => hW.cells.c9
    have d10 := fun W (hW : BoxS w ⟨nodes, faulty, slot, gap, rho, dmin, dmax, margin, PA, pn, pcap, parts, QA, qn, qcap, ports, RA, rn, rcap, routes⟩ W) => hW.cells.c10
    simp only at d0 d1 d2 d3 d4 d5 d6 d7 d8 d9 d10
    simp only [CfgC.value] at HWk ⊢
    simp only [boxC, cfgCells] at HST
    go_enter Try.func7, Try.ntmps7
    go_wp2_with fail
    refine (HA.out _).mono ?_
    rintro e w1 ⟨rfl, hb1⟩
    have hd1 := HST.out.step hb1
    clear hb1 HA
    have k0 := d0 _ hd1
    have k1 := d1 _ hd1
    have k2 := d2 _ hd1
    have k3 := d3 _ hd1
    have k4 := d4 _ hd1
    have k5 := d5 _ hd1
    have k6 := d6 _ hd1
    have k7 := d7 _ hd1
    have k8 := d8 _ hd1
    have k9 := d9 _ hd1
    have k10 := d10 _ hd1
    have Hd1 := Lib.hid hd1
    clear hd1
    go_wp2_with fail
    refine (HWk.out _ Hd1.out).mono ?_
    rintro e w2 ⟨rfl, hb2⟩
    have hd2 := Hd1.out.step hb2
    clear hb2 Hd1 HWk k0 k1 k2 k3 k4 k5 k6 k7 k8 k9 k10
    have HF := Lib.hid hd2.below
    clear hd2
    go_wp2_with fail
    go_ret
    exact ⟨rfl, HF.out⟩
  | true =>
    obtain ⟨hWk, hl⟩ : SndP.Works x.plain ∧ longB6 x = false := by
      simp only [worksB, Bool.and_eq_true, Bool.not_eq_true', Option.isNone_iff_eq_none] at hL
      exact ⟨SndP.works hL.2, hL.1⟩
    have hl := longB6_no hl
    have HCp : Hid (∀ W, BoxS w x W → Calls Try.prog 14 #[x.value] W (CopiedPost x.plain W)) := Lib.hid fun W hW => copied_any x W (HCf.out W hW) (by omega) (by omega) (by omega)
    obtain ⟨t, ht, et⟩ := at_in6 n 1000 (by omega) (by omega)
    have hnum := SndP.nums_in hWk.allowed.head
    have HW := Lib.hid hWk
    clear hL h HCf hl hWk
    obtain ⟨nodes, faulty, slot, gap, rho, dmin, dmax, margin, PA, pn, pcap, parts, QA, qn, qcap, ports, RA, rn, rcap, routes⟩ := x
    have d0 := fun W (hW : BoxS w ⟨nodes, faulty, slot, gap, rho, dmin, dmax, margin, PA, pn, pcap, parts, QA, qn, qcap, ports, RA, rn, rcap, routes⟩ W) => hW.cells.c0
    have d1 := fun W (hW : BoxS w ⟨nodes, faulty, slot, gap, rho, dmin, dmax, margin, PA, pn, pcap, parts, QA, qn, qcap, ports, RA, rn, rcap, routes⟩ W) => hW.cells.c1
    have d2 := fun W (hW : BoxS w ⟨nodes, faulty, slot, gap, rho, dmin, dmax, margin, PA, pn, pcap, parts, QA, qn, qcap, ports, RA, rn, rcap, routes⟩ W) => hW.cells.c2
    have d3 := fun W (hW : BoxS w ⟨nodes, faulty, slot, gap, rho, dmin, dmax, margin, PA, pn, pcap, parts, QA, qn, qcap, ports, RA, rn, rcap, routes⟩ W) => hW.cells.c3
    have d4 := fun W (hW : BoxS w ⟨nodes, faulty, slot, gap, rho, dmin, dmax, margin, PA, pn, pcap, parts, QA, qn, qcap, ports, RA, rn, rcap, routes⟩ W) => hW.cells.c4
    have d5 := fun W (hW : BoxS w ⟨nodes, faulty, slot, gap, rho, dmin, dmax, margin, PA, pn, pcap, parts, QA, qn, qcap, ports, RA, rn, rcap, routes⟩ W) => hW.cells.c5
    have d6 := fun W (hW : BoxS w ⟨nodes, faulty, slot, gap, rho, dmin, dmax, margin, PA, pn, pcap, parts, QA, qn, qcap, ports, RA, rn, rcap, routes⟩ W) => hW.cells.c6
    have d7 := fun W (hW : BoxS w ⟨nodes, faulty, slot, gap, rho, dmin, dmax, margin, PA, pn, pcap, parts, QA, qn, qcap, ports, RA, rn, rcap, routes⟩ W) => hW.cells.c7
    have d8 := fun W (hW : BoxS w ⟨nodes, faulty, slot, gap, rho, dmin, dmax, margin, PA, pn, pcap, parts, QA, qn, qcap, ports, RA, rn, rcap, routes⟩ W) => hW.cells.c8
    have d9 := fun W (hW : BoxS w ⟨nodes, faulty, slot, gap, rho, dmin, dmax, margin, PA, pn, pcap, parts, QA, qn, qcap, ports, RA, rn, rcap, routes⟩ W) => hW.cells.c9
    have d10 := fun W (hW : BoxS w ⟨nodes, faulty, slot, gap, rho, dmin, dmax, margin, PA, pn, pcap, parts, QA, qn, qcap, ports, RA, rn, rcap, routes⟩ W) => hW.cells.c10
    simp only at d0 d1 d2 d3 d4 d5 d6 d7 d8 d9 d10
    obtain ⟨hn1, hn2, hn3, hn4, hn5, hn6, hn7, hn8, -, -⟩ := hnum
    simp only [CfgC.plain] at hn1 hn2 hn3 hn4 hn5 hn6 hn7 hn8
    simp only [CfgC.value] at HWk HCp ⊢
    simp only [boxC, cfgCells] at HST
    replace et : wrap64 ((IntKind.u64.wrap n).tmod 1000) = (t : Int) := et
    have em : Int.tmod (t : Int) 50 = ((t % 50 : Nat) : Int) := by rw [Int.tmod_eq_emod_of_nonneg (by omega)]; omega
    have ht2 : t % 50 < 50 := Nat.mod_lt _ (by omega)
    generalize t % 50 = t2 at *
    have e0 : IntKind.i64.wrap (t2 : Int) = (t2 : Int) := IntWalk.i64_in _ (by omega)
    have e1 : IntKind.i64.wrap (rho + (t2 : Int)) = rho + (t2 : Int) := IntWalk.i64_in _ (by omega)
    have e2 : IntKind.i64.wrap (dmax + (t : Int)) = dmax + (t : Int) := IntWalk.i64_in _ (by omega)
    go_enter Try.func7, Try.ntmps7
    go_wp2_with fail
    refine (HA.out _).mono ?_
    rintro e w1 ⟨rfl, hb1⟩
    have hd1 := HST.out.step hb1
    clear hb1 HA
    have k0 := d0 _ hd1
    have k1 := d1 _ hd1
    have k2 := d2 _ hd1
    have k3 := d3 _ hd1
    have k4 := d4 _ hd1
    have k5 := d5 _ hd1
    have k6 := d6 _ hd1
    have k7 := d7 _ hd1
    have k8 := d8 _ hd1
    have k9 := d9 _ hd1
    have k10 := d10 _ hd1
    have Hd1 := Lib.hid hd1
    clear hd1
    go_wp2_with fail
    refine (HWk.out _ Hd1.out).mono ?_
    rintro e w2 ⟨rfl, hb2⟩
    have hd2 := Hd1.out.step hb2
    clear hb2 Hd1 HWk k0 k1 k2 k3 k4 k5 k6 k7 k8 k9 k10
    have k0 := d0 _ hd2
    have k1 := d1 _ hd2
    have k2 := d2 _ hd2
    have k3 := d3 _ hd2
    have k4 := d4 _ hd2
    have k5 := d5 _ hd2
    have k6 := d6 _ hd2
    have k7 := d7 _ hd2
    have k8 := d8 _ hd2
    have k9 := d9 _ hd2
    have k10 := d10 _ hd2
    have Hd2 := Lib.hid hd2
    clear hd2
    go_wp2_with fail
    refine (HCp.out _ Hd2.out).mono ?_
    rintro e w3 ⟨v3, rfl, ⟨x3, rfl, hx3, hp3⟩, hb3⟩
    clear k0 k1 k2 k3 k4 k5 k6 k7 k8 k9 k10
    have hd3 := Hd2.out.step hb3
    clear hb3 Hd2
    have Hx3 := Lib.hid hx3
    obtain ⟨nodes3, faulty3, slot3, gap3, rho3, dmin3, dmax3, margin3, PA3, pn3, pcap3, parts3, QA3, qn3, qcap3, ports3, RA3, rn3, rcap3, routes3⟩ := x3
    replace hp3 := hp3.symm
    simp only [CfgC.plain, TableP.Cfg.mk.injEq] at hp3
    obtain ⟨rfl, rfl, rfl, rfl, rfl, rfl, rfl, rfl, rfl, rfl, rfl⟩ := hp3
    simp only [CfgC.value]
    have kb := fun o => hd3.alloc o
    have k0 := fun o => d0 _ (kb o)
    have k1 := fun o => d1 _ (kb o)
    have k2 := fun o => d2 _ (kb o)
    have k3 := fun o => d3 _ (kb o)
    have k4 := fun o => d4 _ (kb o)
    have k5 := fun o => d5 _ (kb o)
    have k6 := fun o => d6 _ (kb o)
    have k7 := fun o => d7 _ (kb o)
    have k8 := fun o => d8 _ (kb o)
    have k9 := fun o => d9 _ (kb o)
    have k10 := fun o => d10 _ (kb o)
    have Hd3 := Lib.hid hd3
    clear hd3 kb hx3
    go_upto_region 7 with (fail)
    go_cut [1] (fun v wx => v = .int .i64 (t : Int) ∧ ∃ r, rho ≤ r ∧ r ≤ 200 ∧ wx = w3.alloc (.cells #[.int .i64 nodes, .int .i64 faulty, .int .i64 slot, .int .i64 gap, .int .i64 r, .int .i64 dmin, .int .i64 dmax, .int .i64 margin, .slice PA3 pn3 pcap3, .slice QA3 qn3 qcap3, .slice RA3 rn3 rcap3] 26))
    case first =>
      clear HCp HW
      go_wp2_with fail
      all_goals
        go_meet
        exact ⟨rfl, _, by omega, by omega, rfl⟩
    case rest =>
    obtain ⟨rfl, r, hr1, hr2, rfl⟩ := hcut
    clear e1
    go_upto_region 8 with (fail)
    go_cut [] (fun wx => ∃ m, dmax ≤ m ∧ m ≤ 1048576 ∧ wx = w3.alloc (.cells #[.int .i64 nodes, .int .i64 faulty, .int .i64 slot, .int .i64 gap, .int .i64 r, .int .i64 dmin, .int .i64 m, .int .i64 margin, .slice PA3 pn3 pcap3, .slice QA3 qn3 qcap3, .slice RA3 rn3 rcap3] 26))
    case first =>
      clear HCp HW
      go_wp2_with fail
      all_goals
        go_meet
        exact ⟨_, by omega, by omega, rfl⟩
    case rest =>
    obtain ⟨m, hm1, hm2, rfl⟩ := hcut
    clear e0 e2 em
    go_wp2_with fail
    have hd4 := Hd3.out.alloc (.cells #[.int .i64 nodes, .int .i64 faulty, .int .i64 slot, .int .i64 gap, .int .i64 r, .int .i64 dmin, .int .i64 m, .int .i64 margin, .slice PA3 pn3 pcap3, .slice QA3 qn3 qcap3, .slice RA3 rn3 rcap3] 26)
    have HT5 : Hid ((w3.alloc (.cells #[.int .i64 nodes, .int .i64 faulty, .int .i64 slot, .int .i64 gap, .int .i64 r, .int .i64 dmin, .int .i64 m, .int .i64 margin, .slice PA3 pn3 pcap3, .slice QA3 qn3 qcap3, .slice RA3 rn3 rcap3] 26)).heap[w3.heap.size]? = some (.cells #[.int .i64 nodes, .int .i64 faulty, .int .i64 slot, .int .i64 gap, .int .i64 r, .int .i64 dmin, .int .i64 m, .int .i64 margin, .slice PA3 pn3 pcap3, .slice QA3 qn3 qcap3, .slice RA3 rn3 rcap3] 26 (0, 0))) := Lib.hid (heap_alloc_new w3 _)
    generalize hW4 : w3.alloc (.cells #[.int .i64 nodes, .int .i64 faulty, .int .i64 slot, .int .i64 gap, .int .i64 r, .int .i64 dmin, .int .i64 m, .int .i64 margin, .slice PA3 pn3 pcap3, .slice QA3 qn3 qcap3, .slice RA3 rn3 rcap3] 26) = w4 at *
    have Hlt5 := Lib.hid (lt_of_block HT5.out)
    generalize w3.heap.size = T5 at *
    refine (HCp.out _ hd4).mono ?_
    rintro e w5 ⟨v5, rfl, ⟨x5, rfl, hx5, hp5⟩, hb5⟩
    clear k0 k1 k2 k3 k4 k5 k6 k7 k8 k9 k10 hW4
    have Hd5 := Lib.hid (hd4.step hb5)
    have HT5b := Lib.hid ((hb5.block _ Hlt5.out).trans HT5.out)
    clear hb5 HT5 hd4 Hlt5 Hd3 HCp Hx3 hx5
    obtain ⟨nodes5, faulty5, slot5, gap5, rho5, dmin5, dmax5, margin5, PA5, pn5, pcap5, parts5, QA5, qn5, qcap5, ports5, RA5, rn5, rcap5, routes5⟩ := x5
    replace hp5 := hp5.symm
    simp only [CfgC.plain, TableP.Cfg.mk.injEq] at hp5
    obtain ⟨rfl, rfl, rfl, rfl, rfl, rfl, rfl, rfl, rfl, rfl, rfl⟩ := hp5
    simp only [CfgC.value]
    go_upto_region 10 with (fail)
    go_cut [] (fun wx => ∃ W6, wx = W6.alloc (.cells #[.int .i64 nodes, .int .i64 faulty, .int .i64 (slot + 3 * (t : Int)), .int .i64 (gap + 3 * (t : Int)), .int .i64 rho, .int .i64 dmin, .int .i64 dmax, .int .i64 (margin + (t : Int)), .slice PA5 pn5 pcap5, .slice QA5 qn5 qcap5, .slice RA5 rn5 rcap5] 26) ∧ W6.heap.size = w5.heap.size ∧ BoxS w ⟨nodes, faulty, slot, gap, rho, dmin, dmax, margin, PA, pn, pcap, parts, QA, qn, qcap, ports, RA, rn, rcap, routes⟩ W6 ∧ W6.heap[T5]? = some (.cells #[.int .i64 nodes, .int .i64 faulty, .int .i64 slot, .int .i64 gap, .int .i64 r, .int .i64 dmin, .int .i64 m, .int .i64 margin, .slice PA3 pn3 pcap3, .slice QA3 qn3 qcap3, .slice RA3 rn3 rcap3] 26 (0, 0)))
    case first =>
      clear HW
      have e1 : IntKind.i64.wrap (margin + (t : Int)) = margin + (t : Int) := IntWalk.i64_in _ (by omega)
      have e2 : IntKind.i64.wrap (3 * (t : Int)) = 3 * (t : Int) := IntWalk.i64_in _ (by omega)
      have e3 : IntKind.i64.wrap (slot + 3 * (t : Int)) = slot + 3 * (t : Int) := IntWalk.i64_in _ (by omega)
      have e4 : IntKind.i64.wrap (gap + 3 * (t : Int)) = gap + 3 * (t : Int) := IntWalk.i64_in _ (by omega)
      have hd0 := Hd5.out.alloc1 (.cells #[.int .i64 nodes, .int .i64 faulty, .int .i64 (slot), .int .i64 (gap), .int .i64 rho, .int .i64 dmin, .int .i64 dmax, .int .i64 (margin), .slice PA5 pn5 pcap5, .slice QA5 qn5 qcap5, .slice RA5 rn5 rcap5] 26)
      have HE : Hid (∃ W6, (w5.alloc (.cells #[.int .i64 nodes, .int .i64 faulty, .int .i64 (slot + 3 * (t : Int)), .int .i64 (gap + 3 * (t : Int)), .int .i64 rho, .int .i64 dmin, .int .i64 dmax, .int .i64 (margin + (t : Int)), .slice PA5 pn5 pcap5, .slice QA5 qn5 qcap5, .slice RA5 rn5 rcap5] 26)).drew = W6.alloc (.cells #[.int .i64 nodes, .int .i64 faulty, .int .i64 (slot + 3 * (t : Int)), .int .i64 (gap + 3 * (t : Int)), .int .i64 rho, .int .i64 dmin, .int .i64 dmax, .int .i64 (margin + (t : Int)), .slice PA5 pn5 pcap5, .slice QA5 qn5 qcap5, .slice RA5 rn5 rcap5] 26) ∧ W6.heap.size = w5.heap.size ∧ BoxS w ⟨nodes, faulty, slot, gap, rho, dmin, dmax, margin, PA, pn, pcap, parts, QA, qn, qcap, ports, RA, rn, rcap, routes⟩ W6 ∧ W6.heap[T5]? = some (.cells #[.int .i64 nodes, .int .i64 faulty, .int .i64 slot, .int .i64 gap, .int .i64 r, .int .i64 dmin, .int .i64 m, .int .i64 margin, .slice PA3 pn3 pcap3, .slice QA3 qn3 qcap3, .slice RA3 rn3 rcap3] 26 (0, 0))) := Lib.hid ⟨w5.drew, rfl, rfl, Hd5.out.drew, HT5b.out⟩
      clear hn1 hn2 hn3 hn4 hn5 hn6 hn7 hn8 ht ht2 hr1 hr2 hm1 hm2
      go_wp2_with fail
      refine wp_region_held_drew (S := fun W => BoxS w ⟨nodes, faulty, slot, gap, rho, dmin, dmax, margin, PA, pn, pcap, parts, QA, qn, qcap, ports, RA, rn, rcap, routes⟩ W) (by kernel_rfl) hd0 (fun _ => ?_)
      refine wpAnyH_take (i := 0) (oi := ?oo1) (v := ?vv1) ?ii1 (by kernel_rfl) ?ff1 (by kernel_rfl) ?qq1 (Or.inl ⟨?ww1, ?yy1⟩) hd0 ?rr1
      case ii1 => simp only [List.getElem?_toArray, List.getElem?_cons_zero]; rfl
      case ff1 => kernel_rfl
      case qq1 => exact fun _ _ _ h => h
      case ww1 => rfl
      case yy1 => intro W hW; go_simp <;> with_reducible rfl
      try simp only [Act.put, List.setIfInBounds_toArray, List.set_cons_zero, List.set_cons_succ]
      refine wpAnyH_take (i := 1) (oi := ?oo2) (v := ?vv2) ?ii2 (by kernel_rfl) ?ff2 (by kernel_rfl) ?qq2 (Or.inl ⟨?ww2, ?yy2⟩) hd0 ?rr2
      case ii2 => simp only [List.getElem?_toArray, List.getElem?_cons_succ, List.getElem?_cons_zero]; rfl
      case ff2 => kernel_rfl
      case qq2 => exact fun _ _ _ h => h
      case ww2 => rfl
      case yy2 => intro W hW; go_simp <;> with_reducible rfl
      try simp only [Act.put, List.setIfInBounds_toArray, List.set_cons_zero, List.set_cons_succ]
      refine wpAnyH_take (i := 2) (oi := ?oo3) (v := ?vv3) ?ii3 (by kernel_rfl) ?ff3 (by kernel_rfl) ?qq3 (Or.inl ⟨?ww3, ?yy3⟩) hd0 ?rr3
      case ii3 => simp only [List.getElem?_toArray, List.getElem?_cons_succ, List.getElem?_cons_zero]; rfl
      case ff3 => kernel_rfl
      case qq3 => exact fun _ _ _ h => h
      case ww3 => rfl
      case yy3 => intro W hW; go_simp <;> with_reducible rfl
      try simp only [Act.put, List.setIfInBounds_toArray, List.set_cons_zero, List.set_cons_succ]
      refine wpAnyH_take (i := 3) (oi := ?oo4) (v := ?vv4) ?ii4 (by kernel_rfl) ?ff4 (by kernel_rfl) ?qq4 (Or.inl ⟨?ww4, ?yy4⟩) hd0 ?rr4
      case ii4 => simp only [List.getElem?_toArray, List.getElem?_cons_succ, List.getElem?_cons_zero]; rfl
      case ff4 => kernel_rfl
      case qq4 => exact fun _ _ _ h => h
      case ww4 => rfl
      case yy4 => intro W hW; go_simp <;> with_reducible rfl
      try simp only [Act.put, List.setIfInBounds_toArray, List.set_cons_zero, List.set_cons_succ]
      refine wpAnyH_take (i := 4) (oi := ?oo5) (v := ?vv5) ?ii5 (by kernel_rfl) ?ff5 (by kernel_rfl) ?qq5 (Or.inl ⟨?ww5, ?yy5⟩) hd0 ?rr5
      case ii5 => simp only [List.getElem?_toArray, List.getElem?_cons_succ, List.getElem?_cons_zero]; rfl
      case ff5 => kernel_rfl
      case qq5 => exact fun _ _ _ h => h
      case ww5 => rfl
      case yy5 => intro W hW; go_simp <;> with_reducible rfl
      try simp only [Act.put, List.setIfInBounds_toArray, List.set_cons_zero, List.set_cons_succ]
      refine wpAnyH_take (i := 5) (oi := ?oo6) (v := ?vv6) ?ii6 (by kernel_rfl) ?ff6 (by kernel_rfl) ?qq6 (Or.inl ⟨?ww6, ?yy6⟩) hd0 ?rr6
      case ii6 => simp only [List.getElem?_toArray, List.getElem?_cons_succ, List.getElem?_cons_zero]; rfl
      case ff6 => kernel_rfl
      case qq6 => exact fun _ _ _ h => h
      case ww6 => rfl
      case yy6 => intro W hW; go_simp <;> with_reducible rfl
      try simp only [Act.put, List.setIfInBounds_toArray, List.set_cons_zero, List.set_cons_succ]
      refine wpAnyH_take (i := 6) (oi := ?oo7) (v := ?vv7) ?ii7 (by kernel_rfl) ?ff7 (by kernel_rfl) ?qq7 (Or.inl ⟨?ww7, ?yy7⟩) hd0 ?rr7
      case ii7 => simp only [List.getElem?_toArray, List.getElem?_cons_succ, List.getElem?_cons_zero]; rfl
      case ff7 => kernel_rfl
      case qq7 => exact fun _ _ _ h => h
      case ww7 => rfl
      case yy7 => intro W hW; go_simp <;> with_reducible rfl
      try simp only [Act.put, List.setIfInBounds_toArray, List.set_cons_zero, List.set_cons_succ]
      refine wpAnyH_take (i := 7) (oi := ?oo8) (v := ?vv8) ?ii8 (by kernel_rfl) ?ff8 (by kernel_rfl) ?qq8 (Or.inl ⟨?ww8, ?yy8⟩) hd0 ?rr8
      case ii8 => simp only [List.getElem?_toArray, List.getElem?_cons_succ, List.getElem?_cons_zero]; rfl
      case ff8 => kernel_rfl
      case qq8 => exact fun _ _ _ h => h
      case ww8 => rfl
      case yy8 => intro W hW; go_simp <;> with_reducible rfl
      try simp only [Act.put, List.setIfInBounds_toArray, List.set_cons_zero, List.set_cons_succ]
      refine wpAnyH_take (i := 8) (oi := ?oo9) (v := ?vv9) ?ii9 (by kernel_rfl) ?ff9 (by kernel_rfl) ?qq9 (Or.inl ⟨?ww9, ?yy9⟩) hd0 ?rr9
      case ii9 => simp only [List.getElem?_toArray, List.getElem?_cons_succ, List.getElem?_cons_zero]; rfl
      case ff9 => kernel_rfl
      case qq9 => exact fun _ _ _ h => h
      case ww9 => rfl
      case yy9 => intro W hW; go_simp <;> with_reducible rfl
      try simp only [Act.put, List.setIfInBounds_toArray, List.set_cons_zero, List.set_cons_succ]
      refine wpAnyH_take (i := 9) (oi := ?oo10) (v := ?vv10) ?ii10 (by kernel_rfl) ?ff10 (by kernel_rfl) ?qq10 (Or.inl ⟨?ww10, ?yy10⟩) hd0 ?rr10
      case ii10 => simp only [List.getElem?_toArray, List.getElem?_cons_succ, List.getElem?_cons_zero]; rfl
      case ff10 => kernel_rfl
      case qq10 => exact fun _ _ _ h => h
      case ww10 => rfl
      case yy10 => intro W hW; go_simp <;> with_reducible rfl
      try simp only [Act.put, List.setIfInBounds_toArray, List.set_cons_zero, List.set_cons_succ]
      refine wpAnyH_take (i := 10) (oi := ?oo11) (v := ?vv11) ?ii11 (by kernel_rfl) ?ff11 (by kernel_rfl) ?qq11 (Or.inl ⟨?ww11, ?yy11⟩) hd0 ?rr11
      case ii11 => simp only [List.getElem?_toArray, List.getElem?_cons_succ, List.getElem?_cons_zero]; rfl
      case ff11 => kernel_rfl
      case qq11 => exact fun _ _ _ h => h
      case ww11 => rfl
      case yy11 => intro W hW; go_simp <;> with_reducible rfl
      try simp only [Act.put, List.setIfInBounds_toArray, List.set_cons_zero, List.set_cons_succ]
      refine wpAnyH_take (i := 11) (oi := ?oo12) (v := ?vv12) ?ii12 (by kernel_rfl) ?ff12 (by kernel_rfl) ?qq12 (Or.inl ⟨?ww12, ?yy12⟩) hd0 ?rr12
      case ii12 => simp only [List.getElem?_toArray, List.getElem?_cons_succ, List.getElem?_cons_zero]; rfl
      case ff12 => kernel_rfl
      case qq12 => exact fun _ _ _ h => h
      case ww12 => rfl
      case yy12 => intro W hW; go_simp <;> with_reducible rfl
      try simp only [Act.put, List.setIfInBounds_toArray, List.set_cons_zero, List.set_cons_succ]
      refine wpAnyH_take (i := 12) (oi := ?oo13) (v := ?vv13) ?ii13 (by kernel_rfl) ?ff13 (by kernel_rfl) ?qq13 (Or.inl ⟨?ww13, ?yy13⟩) hd0 ?rr13
      case ii13 => simp only [List.getElem?_toArray, List.getElem?_cons_succ, List.getElem?_cons_zero]; rfl
      case ff13 => kernel_rfl
      case qq13 => exact fun _ _ _ h => h
      case ww13 => rfl
      case yy13 => intro W hW; go_simp <;> with_reducible rfl
      try simp only [Act.put, List.setIfInBounds_toArray, List.set_cons_zero, List.set_cons_succ]
      refine wpAnyH_take (i := 13) (oi := ?oo14) (v := ?vv14) ?ii14 (by kernel_rfl) ?ff14 (by kernel_rfl) ?qq14 (Or.inl ⟨?ww14, ?yy14⟩) hd0 ?rr14
      case ii14 => simp only [List.getElem?_toArray, List.getElem?_cons_succ, List.getElem?_cons_zero]; rfl
      case ff14 => kernel_rfl
      case qq14 => exact fun _ _ _ h => h
      case ww14 => rfl
      case yy14 => intro W hW; go_simp <;> with_reducible rfl
      try simp only [Act.put, List.setIfInBounds_toArray, List.set_cons_zero, List.set_cons_succ]
      refine wpAnyH_take (i := 14) (oi := ?oo15) (v := ?vv15) ?ii15 (by kernel_rfl) ?ff15 (by kernel_rfl) ?qq15 (Or.inl ⟨?ww15, ?yy15⟩) hd0 ?rr15
      case ii15 => simp only [List.getElem?_toArray, List.getElem?_cons_succ, List.getElem?_cons_zero]; rfl
      case ff15 => kernel_rfl
      case qq15 => exact fun _ _ _ h => h
      case ww15 => rfl
      case yy15 => intro W hW; go_simp <;> with_reducible rfl
      try simp only [Act.put, List.setIfInBounds_toArray, List.set_cons_zero, List.set_cons_succ]
      refine wpAnyH_ready (rs := [15]) (by kernel_rfl) (by simp) ?_
      refine AllReadyH.cons (o := ?os0) ?is0 (fun K hK => ?_) AllReadyH.nil
      case is0 => simp only [List.getElem?_toArray, List.getElem?_cons_succ, List.getElem?_cons_zero]; rfl
      go_simp
      refine hK.out _ _ ?hs0 (fun _ => ?_)
      case hs0 => exact Hd5.out.alloc1 _
      clear hK K
      refine wpAnyH_take (i := 16) (oi := ?oo16) (v := ?vv16) ?ii16 (by kernel_rfl) ?ff16 (by kernel_rfl) ?qq16 (Or.inl ⟨?ww16, ?yy16⟩) (Hd5.out.alloc1 _) ?rr16
      case ii16 => simp only [List.getElem?_toArray, List.getElem?_cons_succ, List.getElem?_cons_zero]; rfl
      case ff16 => kernel_rfl
      case qq16 => exact fun _ _ _ h => h
      case ww16 => rfl
      case yy16 => intro W hW; go_simp <;> with_reducible rfl
      try simp only [Act.put, List.setIfInBounds_toArray, List.set_cons_zero, List.set_cons_succ]
      refine wpAnyH_ready (rs := [17]) (by kernel_rfl) (by simp) ?_
      refine AllReadyH.cons (o := ?os1) ?is1 (fun K hK => ?_) AllReadyH.nil
      case is1 => simp only [List.getElem?_toArray, List.getElem?_cons_succ, List.getElem?_cons_zero]; rfl
      go_simp
      refine hK.out _ _ ?hs1 (fun _ => ?_)
      case hs1 => exact Hd5.out.alloc1 _
      clear hK K
      refine wpAnyH_take (i := 18) (oi := ?oo17) (v := ?vv17) ?ii17 (by kernel_rfl) ?ff17 (by kernel_rfl) ?qq17 (Or.inl ⟨?ww17, ?yy17⟩) (Hd5.out.alloc1 _) ?rr17
      case ii17 => simp only [List.getElem?_toArray, List.getElem?_cons_succ, List.getElem?_cons_zero]; rfl
      case ff17 => kernel_rfl
      case qq17 => exact fun _ _ _ h => h
      case ww17 => rfl
      case yy17 => intro W hW; go_simp <;> with_reducible rfl
      try simp only [Act.put, List.setIfInBounds_toArray, List.set_cons_zero, List.set_cons_succ]
      refine wpAnyH_ready (rs := [19]) (by kernel_rfl) (by simp) ?_
      refine AllReadyH.cons (o := ?os2) ?is2 (fun K hK => ?_) AllReadyH.nil
      case is2 => simp only [List.getElem?_toArray, List.getElem?_cons_succ, List.getElem?_cons_zero]; rfl
      go_simp
      refine hK.out _ _ ?hs2 (fun _ => ?_)
      case hs2 => exact Hd5.out.alloc1 _
      clear hK K
      refine wpAnyH_done (by kernel_rfl) ?_ _
      go_wp2_with fail
      go_meet
      exact HE.out
    case rest =>
    obtain ⟨W6, rfl, hs6, hd6, ht5⟩ := hcut
    rw [← hs6]
    have HT6 := Lib.hid ht5
    have Hd6 := Lib.hid hd6
    have Hlt6 := Lib.hid (lt_of_block ht5)
    clear hd6 ht5 Hd5 HT5b hs6
    by_cases h1 : slot + 3 * (t : Int) ≤ 16777216 ∧ gap + 3 * (t : Int) ≤ 16777216 ∧ margin + (t : Int) ≤ 16777216
    case neg =>
      clear HW hn1 hn2 hn5 hn6 hn7 hr1 hr2 hm1 hm2 HT6 Hlt6
      by_cases g1 : slot + 3 * (t : Int) ≤ 16777216
      case neg =>
        have q1 : decide (16777216 < slot + 3 * (t : Int)) = true := decide_eq_true (by omega)
        clear g1 h1
        go_wp2_with fail
        go_ret
        exact ⟨rfl, (Hd6.out.alloc _).below⟩
      have q1 : decide (16777216 < slot + 3 * (t : Int)) = false := decide_eq_false (by omega)
      by_cases g2 : gap + 3 * (t : Int) ≤ 16777216
      case neg =>
        have q2 : decide (16777216 < gap + 3 * (t : Int)) = true := decide_eq_true (by omega)
        clear g1 g2 h1
        go_wp2_with fail
        go_ret
        exact ⟨rfl, (Hd6.out.alloc _).below⟩
      have q2 : decide (16777216 < gap + 3 * (t : Int)) = false := decide_eq_false (by omega)
      have q3 : decide (16777216 < margin + (t : Int)) = true := decide_eq_true (by omega)
      clear g1 g2 h1
      go_wp2_with fail
      go_ret
      exact ⟨rfl, (Hd6.out.alloc _).below⟩
    obtain ⟨g1, g2, g3⟩ := h1
    have q1 : decide (16777216 < slot + 3 * (t : Int)) = false := decide_eq_false (by omega)
    have q2 : decide (16777216 < gap + 3 * (t : Int)) = false := decide_eq_false (by omega)
    have q3 : decide (16777216 < margin + (t : Int)) = false := decide_eq_false (by omega)
    have HE : Hid (∀ W, Calls Try.prog 13 #[.agg #[.int .i64 nodes, .int .i64 faulty, .int .i64 (slot + 3 * (t : Int)), .int .i64 (gap + 3 * (t : Int)), .int .i64 0, .int .i64 dmin, .int .i64 dmax, .int .i64 (margin + (t : Int)), .slice none 0 0, .slice none 0 0, .slice none 0 0]] W (CheckPost none W)) := Lib.hid fun W => by
      have h9 := scheck_any ⟨nodes, faulty, slot + 3 * (t : Int), gap + 3 * (t : Int), 0, dmin, dmax, margin + (t : Int), none, 0, 0, [], none, 0, 0, [], none, 0, 0, []⟩ W (flat_in _ ⟨rfl, rfl, rfl, rfl, rfl, rfl, rfl, rfl, rfl, rfl, rfl, rfl⟩ W)
      rwa [wider_works HW.out (t : Int) (by omega) g1 g2 g3] at h9
    have hDH : TableP.headOk (CfgC.plain ⟨nodes, faulty, slot, gap, r, dmin, m, margin, PA3, pn3, pcap3, parts, QA3, qn3, qcap3, ports, RA3, rn3, rcap3, routes⟩) := by
      simp only [TableP.headOk, TableP.up, CfgC.plain]; omega
    have HD := Lib.hid (fun W => prec_any _ W hDH)
    have HC := Lib.hid (fun W => prec_any _ W HW.out.allowed.head)
    have hge : SndP.precT (CfgC.plain ⟨nodes, faulty, slot, gap, rho, dmin, dmax, margin, PA, pn, pcap, parts, QA, qn, qcap, ports, RA, rn, rcap, routes⟩) ≤ SndP.precT (CfgC.plain ⟨nodes, faulty, slot, gap, r, dmin, m, margin, PA3, pn3, pcap3, parts, QA3, qn3, qcap3, ports, RA3, rn3, rcap3, routes⟩) := by
      have hm := drift_mono (c := CfgC.plain ⟨nodes, faulty, slot, gap, rho, dmin, dmax, margin, PA, pn, pcap, parts, QA, qn, qcap, ports, RA, rn, rcap, routes⟩) (d := CfgC.plain ⟨nodes, faulty, slot, gap, r, dmin, m, margin, PA3, pn3, pcap3, parts, QA3, qn3, qcap3, ports, RA3, rn3, rcap3, routes⟩) rfl rfl rfl hr1 (by
        have := (SndP.nums_in HW.out.allowed.head).slots
        simp only [CfgC.plain] at this ⊢
        omega)
      simp only [SndP.precT]
      simp only [CfgC.plain] at hm ⊢
      omega
    simp only [CfgC.value] at HD HC
    generalize SndP.precT (CfgC.plain ⟨nodes, faulty, slot, gap, rho, dmin, dmax, margin, PA, pn, pcap, parts, QA, qn, qcap, ports, RA, rn, rcap, routes⟩) = pc at *
    generalize SndP.precT (CfgC.plain ⟨nodes, faulty, slot, gap, r, dmin, m, margin, PA3, pn3, pcap3, parts, QA3, qn3, qcap3, ports, RA3, rn3, rcap3, routes⟩) = pd at *
    have q4 : decide (pc ≤ pd) = true := decide_eq_true hge
    clear hge HW hn1 hn2 hn3 hn4 hn5 hn6 hn7 hn8 hr1 hr2 hm1 hm2 g1 g2 g3 ht ht2 hDH
    go_upto_region 17 with (fail)
    have H7 := Lib.hid (Hd6.out.alloc (.cells #[.int .i64 nodes, .int .i64 faulty, .int .i64 (slot + 3 * (t : Int)), .int .i64 (gap + 3 * (t : Int)), .int .i64 0, .int .i64 dmin, .int .i64 dmax, .int .i64 (margin + (t : Int)), .slice none 0 0, .slice none 0 0, .slice none 0 0] 26))
    have HT5 : Hid ((W6.alloc (.cells #[.int .i64 nodes, .int .i64 faulty, .int .i64 (slot + 3 * (t : Int)), .int .i64 (gap + 3 * (t : Int)), .int .i64 0, .int .i64 dmin, .int .i64 dmax, .int .i64 (margin + (t : Int)), .slice none 0 0, .slice none 0 0, .slice none 0 0] 26)).heap[T5]? = some (.cells #[.int .i64 nodes, .int .i64 faulty, .int .i64 slot, .int .i64 gap, .int .i64 r, .int .i64 dmin, .int .i64 m, .int .i64 margin, .slice PA3 pn3 pcap3, .slice QA3 qn3 qcap3, .slice RA3 rn3 rcap3] 26 (0, 0))) := Lib.hid ((Below.heap_alloc _ _ _ Hlt6.out).trans HT6.out)
    have HT8 : Hid ((W6.alloc (.cells #[.int .i64 nodes, .int .i64 faulty, .int .i64 (slot + 3 * (t : Int)), .int .i64 (gap + 3 * (t : Int)), .int .i64 0, .int .i64 dmin, .int .i64 dmax, .int .i64 (margin + (t : Int)), .slice none 0 0, .slice none 0 0, .slice none 0 0] 26)).heap[W6.heap.size]? = some (.cells #[.int .i64 nodes, .int .i64 faulty, .int .i64 (slot + 3 * (t : Int)), .int .i64 (gap + 3 * (t : Int)), .int .i64 0, .int .i64 dmin, .int .i64 dmax, .int .i64 (margin + (t : Int)), .slice none 0 0, .slice none 0 0, .slice none 0 0] 26 (0, 0))) := Lib.hid (heap_alloc_new W6 _)
    clear HT6 Hlt6 Hd6
    generalize W6.alloc (.cells #[.int .i64 nodes, .int .i64 faulty, .int .i64 (slot + 3 * (t : Int)), .int .i64 (gap + 3 * (t : Int)), .int .i64 0, .int .i64 dmin, .int .i64 dmax, .int .i64 (margin + (t : Int)), .slice none 0 0, .slice none 0 0, .slice none 0 0] 26) = w7 at *
    generalize W6.heap.size = T6 at *
    have hd : Below w7.heap.size w7 w7.drew := (Below.refl _ _).drew
    have g0 := fun W (hW : Below w7.heap.size w7 W) => d0 W (H7.out.step hW)
    have p0 := fun W (hW : Below w7.heap.size w7 W) => cell_at ((hW.block T5 (lt_of_block HT5.out)).trans HT5.out) 0 rfl
    have q0 := fun W (hW : Below w7.heap.size w7 W) => cell_at ((hW.block T6 (lt_of_block HT8.out)).trans HT8.out) 0 rfl
    have g1 := fun W (hW : Below w7.heap.size w7 W) => d1 W (H7.out.step hW)
    have p1 := fun W (hW : Below w7.heap.size w7 W) => cell_at ((hW.block T5 (lt_of_block HT5.out)).trans HT5.out) 1 rfl
    have q1 := fun W (hW : Below w7.heap.size w7 W) => cell_at ((hW.block T6 (lt_of_block HT8.out)).trans HT8.out) 1 rfl
    have g2 := fun W (hW : Below w7.heap.size w7 W) => d2 W (H7.out.step hW)
    have p2 := fun W (hW : Below w7.heap.size w7 W) => cell_at ((hW.block T5 (lt_of_block HT5.out)).trans HT5.out) 2 rfl
    have q2 := fun W (hW : Below w7.heap.size w7 W) => cell_at ((hW.block T6 (lt_of_block HT8.out)).trans HT8.out) 2 rfl
    have g3 := fun W (hW : Below w7.heap.size w7 W) => d3 W (H7.out.step hW)
    have p3 := fun W (hW : Below w7.heap.size w7 W) => cell_at ((hW.block T5 (lt_of_block HT5.out)).trans HT5.out) 3 rfl
    have q3 := fun W (hW : Below w7.heap.size w7 W) => cell_at ((hW.block T6 (lt_of_block HT8.out)).trans HT8.out) 3 rfl
    have g4 := fun W (hW : Below w7.heap.size w7 W) => d4 W (H7.out.step hW)
    have p4 := fun W (hW : Below w7.heap.size w7 W) => cell_at ((hW.block T5 (lt_of_block HT5.out)).trans HT5.out) 4 rfl
    have q4 := fun W (hW : Below w7.heap.size w7 W) => cell_at ((hW.block T6 (lt_of_block HT8.out)).trans HT8.out) 4 rfl
    have g5 := fun W (hW : Below w7.heap.size w7 W) => d5 W (H7.out.step hW)
    have p5 := fun W (hW : Below w7.heap.size w7 W) => cell_at ((hW.block T5 (lt_of_block HT5.out)).trans HT5.out) 5 rfl
    have q5 := fun W (hW : Below w7.heap.size w7 W) => cell_at ((hW.block T6 (lt_of_block HT8.out)).trans HT8.out) 5 rfl
    have g6 := fun W (hW : Below w7.heap.size w7 W) => d6 W (H7.out.step hW)
    have p6 := fun W (hW : Below w7.heap.size w7 W) => cell_at ((hW.block T5 (lt_of_block HT5.out)).trans HT5.out) 6 rfl
    have q6 := fun W (hW : Below w7.heap.size w7 W) => cell_at ((hW.block T6 (lt_of_block HT8.out)).trans HT8.out) 6 rfl
    have g7 := fun W (hW : Below w7.heap.size w7 W) => d7 W (H7.out.step hW)
    have p7 := fun W (hW : Below w7.heap.size w7 W) => cell_at ((hW.block T5 (lt_of_block HT5.out)).trans HT5.out) 7 rfl
    have q7 := fun W (hW : Below w7.heap.size w7 W) => cell_at ((hW.block T6 (lt_of_block HT8.out)).trans HT8.out) 7 rfl
    have g8 := fun W (hW : Below w7.heap.size w7 W) => d8 W (H7.out.step hW)
    have p8 := fun W (hW : Below w7.heap.size w7 W) => cell_at ((hW.block T5 (lt_of_block HT5.out)).trans HT5.out) 8 rfl
    have q8 := fun W (hW : Below w7.heap.size w7 W) => cell_at ((hW.block T6 (lt_of_block HT8.out)).trans HT8.out) 8 rfl
    have g9 := fun W (hW : Below w7.heap.size w7 W) => d9 W (H7.out.step hW)
    have p9 := fun W (hW : Below w7.heap.size w7 W) => cell_at ((hW.block T5 (lt_of_block HT5.out)).trans HT5.out) 9 rfl
    have q9 := fun W (hW : Below w7.heap.size w7 W) => cell_at ((hW.block T6 (lt_of_block HT8.out)).trans HT8.out) 9 rfl
    have g10 := fun W (hW : Below w7.heap.size w7 W) => d10 W (H7.out.step hW)
    have p10 := fun W (hW : Below w7.heap.size w7 W) => cell_at ((hW.block T5 (lt_of_block HT5.out)).trans HT5.out) 10 rfl
    have q10 := fun W (hW : Below w7.heap.size w7 W) => cell_at ((hW.block T6 (lt_of_block HT8.out)).trans HT8.out) 10 rfl
    clear d0 d1 d2 d3 d4 d5 d6 d7 d8 d9 d10
    refine wp_region_held_drew (S := fun W => Below w7.heap.size w7 W) (by kernel_rfl) hd (fun _ => ?_)
    refine wpAnyH_take (i := 0) (oi := ?oo18) (v := ?vv18) ?ii18 (by kernel_rfl) ?ff18 (by kernel_rfl) ?qq18 (Or.inl ⟨?ww18, ?yy18⟩) hd ?rr18
    case ii18 => simp only [List.getElem?_toArray, List.getElem?_cons_zero]; rfl
    case ff18 => kernel_rfl
    case qq18 => exact fun _ _ _ h => h
    case ww18 => rfl
    case yy18 => intro W hW; go_simp <;> with_reducible rfl
    try simp only [Act.put, List.setIfInBounds_toArray, List.set_cons_zero, List.set_cons_succ]
    refine wpAnyH_take (i := 2) (oi := ?oo19) (v := ?vv19) ?ii19 (by kernel_rfl) ?ff19 (by kernel_rfl) ?qq19 (Or.inl ⟨?ww19, ?yy19⟩) hd ?rr19
    case ii19 => simp only [List.getElem?_toArray, List.getElem?_cons_succ, List.getElem?_cons_zero]; rfl
    case ff19 => kernel_rfl
    case qq19 => exact fun _ _ _ h => h
    case ww19 => rfl
    case yy19 => intro W hW; go_simp <;> with_reducible rfl
    try simp only [Act.put, List.setIfInBounds_toArray, List.set_cons_zero, List.set_cons_succ]
    refine wpAnyH_ready (rs := [1]) (by kernel_rfl) (by simp) ?_
    refine AllReadyH.cons (o := ?oo20) ?ii20 (fun K hK => ?_) AllReadyH.nil
    case ii20 => simp only [List.getElem?_toArray, List.getElem?_cons_succ, List.getElem?_cons_zero]; rfl
    go_simp
    refine (HD.out _).mono ?_
    rintro e w8 ⟨rfl, hb8⟩
    have hd8 := hd.trans (hb8.mono hd.size)
    clear hb8
    go_wp2_with fail
    refine hK.out _ _ hd8 (fun _ => ?_)
    clear hK K
    refine wpAnyH_ready (rs := [3]) (by kernel_rfl) (by simp) ?_
    refine AllReadyH.cons (o := ?oo21) ?ii21 (fun K hK => ?_) AllReadyH.nil
    case ii21 => simp only [List.getElem?_toArray, List.getElem?_cons_succ, List.getElem?_cons_zero]; rfl
    go_simp
    refine (HC.out _).mono ?_
    rintro e w9 ⟨rfl, hb9⟩
    have hd9 := hd8.trans (hb9.mono hd8.size)
    clear hb9
    go_wp2_with fail
    refine hK.out _ _ hd9 (fun _ => ?_)
    clear hK K
    refine wpAnyH_take (i := 4) (oi := ?oo22) (v := ?vv22) ?ii22 (by kernel_rfl) ?ff22 (by kernel_rfl) ?qq22 (Or.inl ⟨?ww22, ?yy22⟩) hd9 ?rr22
    case ii22 => simp only [List.getElem?_toArray, List.getElem?_cons_succ, List.getElem?_cons_zero]; rfl
    case ff22 => kernel_rfl
    case qq22 => exact fun _ _ _ h => h
    case ww22 => rfl
    case yy22 => intro W hW; go_simp <;> with_reducible rfl
    try simp only [Act.put, List.setIfInBounds_toArray, List.set_cons_zero, List.set_cons_succ]
    refine wpAnyH_take (i := 5) (oi := ?oo23) (v := ?vv23) ?ii23 (by kernel_rfl) ?ff23 (by kernel_rfl) ?qq23 (Or.inl ⟨?ww23, ?yy23⟩) hd9 ?rr23
    case ii23 => simp only [List.getElem?_toArray, List.getElem?_cons_succ, List.getElem?_cons_zero]; rfl
    case ff23 => kernel_rfl
    case qq23 => exact fun _ _ _ h => h
    case ww23 => rfl
    case yy23 => intro W hW; go_simp <;> with_reducible rfl
    try simp only [Act.put, List.setIfInBounds_toArray, List.set_cons_zero, List.set_cons_succ]
    refine wpAnyH_take (i := 6) (oi := ?oo24) (v := ?vv24) ?ii24 (by kernel_rfl) ?ff24 (by kernel_rfl) ?qq24 (Or.inl ⟨?ww24, ?yy24⟩) hd9 ?rr24
    case ii24 => simp only [List.getElem?_toArray, List.getElem?_cons_succ, List.getElem?_cons_zero]; rfl
    case ff24 => kernel_rfl
    case qq24 => exact fun _ _ _ h => h
    case ww24 => rfl
    case yy24 => intro W hW; go_simp <;> with_reducible rfl
    try simp only [Act.put, List.setIfInBounds_toArray, List.set_cons_zero, List.set_cons_succ]
    refine wpAnyH_ready (rs := [7]) (by kernel_rfl) (by simp) ?_
    refine AllReadyH.cons (o := ?oo25) ?ii25 (fun K hK => ?_) AllReadyH.nil
    case ii25 => simp only [List.getElem?_toArray, List.getElem?_cons_succ, List.getElem?_cons_zero]; rfl
    go_simp
    refine (HE.out _).mono ?_
    rintro e w10 ⟨v10, rfl, -, hv, hb10⟩
    obtain rfl : v10 = .nilIface := hv
    have hd10 := hd9.trans (hb10.mono hd9.size)
    clear hb10
    go_wp2_with fail
    refine hK.out _ _ hd10 (fun _ => ?_)
    clear hK K
    refine wpAnyH_take (i := 8) (oi := ?oo26) (v := ?vv26) ?ii26 (by kernel_rfl) ?ff26 (by kernel_rfl) ?qq26 (Or.inl ⟨?ww26, ?yy26⟩) hd10 ?rr26
    case ii26 => simp only [List.getElem?_toArray, List.getElem?_cons_succ, List.getElem?_cons_zero]; rfl
    case ff26 => kernel_rfl
    case qq26 => exact fun _ _ _ h => h
    case ww26 => rfl
    case yy26 => intro W hW; go_simp <;> with_reducible rfl
    try simp only [Act.put, List.setIfInBounds_toArray, List.set_cons_zero, List.set_cons_succ]
    refine wpAnyH_take (i := 9) (oi := ?oo27) (v := ?vv27) ?ii27 (by kernel_rfl) ?ff27 (by kernel_rfl) ?qq27 (Or.inl ⟨?ww27, ?yy27⟩) hd10 ?rr27
    case ii27 => simp only [List.getElem?_toArray, List.getElem?_cons_succ, List.getElem?_cons_zero]; rfl
    case ff27 => kernel_rfl
    case qq27 => exact fun _ _ _ h => h
    case ww27 => rfl
    case yy27 => intro W hW; go_simp <;> with_reducible rfl
    try simp only [Act.put, List.setIfInBounds_toArray, List.set_cons_zero, List.set_cons_succ]
    refine wpAnyH_take (i := 10) (oi := ?oo28) (v := ?vv28) ?ii28 (by kernel_rfl) ?ff28 (by kernel_rfl) ?qq28 (Or.inl ⟨?ww28, ?yy28⟩) hd10 ?rr28
    case ii28 => simp only [List.getElem?_toArray, List.getElem?_cons_succ, List.getElem?_cons_zero]; rfl
    case ff28 => kernel_rfl
    case qq28 => exact fun _ _ _ h => h
    case ww28 => rfl
    case yy28 => intro W hW; go_simp <;> with_reducible rfl
    try simp only [Act.put, List.setIfInBounds_toArray, List.set_cons_zero, List.set_cons_succ]
    refine wpAnyH_done (by kernel_rfl) ?_ _
    have HF := Lib.hid (H7.out.step hd10).below
    go_wp2_with fail
    go_ret
    exact ⟨rfl, HF.out⟩
end Go.Proofs.Ytpfhkcikjenjiaa
