/- SoundMore: the walk of the law at tables in memory. Conditions: where their lists lie. -/
import Derived.Test.YtpfhkcikjenjiaaSndMs
import Derived.Deep.DeepCutAuto
namespace Go.Proofs.Ytpfhkcikjenjiaa
open Go.RowKit
set_option maxRecDepth 100000

set_option maxHeartbeats 4000000 in
theorem more_law (x : CfgC) (n : Int) (w : World) (h : CfgIn w x) : Calls Try.prog 9 #[x.value, .int .i64 n] w (TruePost w) := by
  have HA := Lib.hid (fun W => awake6_any W)
  have HWk := Lib.hid (fun W (hW : BoxS w x W) => works_any x W (h.below hW.below))
  have HCf := Lib.hid (fun W (hW : BoxS w x W) => h.below hW.below)
  obtain ⟨L, hL⟩ : ∃ L, worksB x = L := ⟨_, rfl⟩
  simp only [hL] at HWk
  have HST := Lib.hid (BoxS.start w x)
  cases L with
  | false =>
    clear hL h HCf
    obtain ⟨nodes, faulty, slot, gap, rho, dmin, dmax, margin, PA, pn, pcap, parts, QA, qn, qcap, ports, RA, rn, rcap, routes⟩ := x
    have d0 := fun W (hW : BoxS w ⟨nodes, faulty, slot, gap, rho, dmin, dmax, margin, PA, pn, pcap, parts, QA, qn, qcap, ports, RA, rn, rcap, routes⟩ W) => hW.cells.c0
    have d1 := fun W (hW : BoxS w ⟨nodes, faulty, slot, gap, rho, dmin, dmax, margin, PA, pn, pcap, parts, QA, qn, qcap, ports, RA, rn, rcap, routes⟩ W) => hW.cells.c1
    have d2 := fun W (hW : BoxS w ⟨nodes, faulty, slot, gap, rho, dmin, dmax, margin, PA, pn, pcap, parts, QA, qn, qcap, ports, RA, rn, rcap, routes⟩ W) => hW.cells.c2
    have d3 := fun W (hW : BoxS w ⟨nodes, faulty, slot, gap, rho, dmin, dmax, margin, PA, pn, pcap, parts, QA, qn, qcap, ports, RA, rn, rcap, routes⟩ W) => hW.cells.c3
    have d4 := fun W (hW : BoxS w ⟨nodes, faulty, slot, gap, rho, dmin, dmax, margin, PA, pn, pcap, parts, QA, qn, qcap, ports, RA, rn, rcap, routes⟩ W) => hW.cells.c4
    have d5 := fun W (hW : BoxS w ⟨nodes, faulty, slot, gap, rho, dmin, dmax, margin, PA, pn, pcap, parts, QA, qn, qcap, ports, RA, rn, rcap, routes⟩ W) => hW.cells.c5
    have d6 := fun W (hW : BoxS w ⟨nodes, faulty, slot, gap, rho, dmin, dmax, margin, PA, pn, pcap, parts, QA, qn, qcap, ports, RA, rn, rcap, routes⟩ W) => hW.cells.c6
    have d7 := fun W (hW : BoxS w ⟨nodes, faulty, slot, gap, rho, dmin, dmax, margin, PA, pn, pcap, parts, QA, qn, qcap, ports, RA, rn, rcap, routes⟩ W) => hW.cells.c7
    have d8 := fun W (hW : BoxS w ⟨nodes, faulty, slot, gap, rho, dmin, dmax, margin, PA, pn, pcap, parts, QA, qn, qcap, ports, RA, rn, rcap, routes⟩ W) => hW.cells.c8
    have d9 := fun W (hW : BoxS w ⟨nodes, faulty, slot, gap, rho, dmin, dmax, margin, PA, pn, pcap, parts, QA, qn, qcap, ports, RA, rn, rcap, routes⟩ W) => hW.cells.c9
    have d10 := fun W (hW : BoxS w ⟨nodes, faulty, slot, gap, rho, dmin, dmax, margin, PA, pn, pcap, parts, QA, qn, qcap, ports, RA, rn, rcap, routes⟩ W) => hW.cells.c10
    simp only at d0 d1 d2 d3 d4 d5 d6 d7 d8 d9 d10
    simp only [CfgC.value] at HWk ⊢
    simp only [boxC, cfgCells] at HST
    go_enter Try.func9, Try.ntmps9
    go_wp2_with fail
    refine (HA.out _).mono ?_
    rintro e w1 ⟨rfl, hb1⟩
    have hd1 := HST.out.step hb1
    clear hb1 HA
    have k0 := d0 _ hd1
    have k1 := d1 _ hd1
    have k2 := d2 _ hd1
    have k3 := d3 _ hd1
    have k4 := d4 _ hd1
    have k5 := d5 _ hd1
    have k6 := d6 _ hd1
    have k7 := d7 _ hd1
    have k8 := d8 _ hd1
    have k9 := d9 _ hd1
    have k10 := d10 _ hd1
    have Hd1 := Lib.hid hd1
    clear hd1
    go_wp2_with fail
    refine (HWk.out _ Hd1.out).mono ?_
    rintro e w2 ⟨rfl, hb2⟩
    have hd2 := Hd1.out.step hb2
    clear hb2 Hd1 HWk k0 k1 k2 k3 k4 k5 k6 k7 k8 k9 k10
    have HF := Lib.hid hd2.below
    clear hd2
    go_wp2_with fail
    go_ret
    exact ⟨rfl, HF.out⟩
  | true =>
    obtain ⟨hWk, hl⟩ : SndP.Works x.plain ∧ longB6 x = false := by
      simp only [worksB, Bool.and_eq_true, Bool.not_eq_true', Option.isNone_iff_eq_none] at hL
      exact ⟨SndP.works hL.2, hL.1⟩
    have hl := longB6_no hl
    have HW := Lib.hid hWk
    have HCo : Hid (∀ W, BoxS w x W → Calls Try.prog 14 #[x.value] W (CopiedOwn x.plain W)) := Lib.hid fun W hW => copied_own x W (HCf.out W hW) (by omega) (by omega) (by omega)
    clear hL HCf hWk h
    obtain ⟨nodes, faulty, slot, gap, rho, dmin, dmax, margin, PA, pn, pcap, parts, QA, qn, qcap, ports, RA, rn, rcap, routes⟩ := x
    have d0 := fun W (hW : BoxS w ⟨nodes, faulty, slot, gap, rho, dmin, dmax, margin, PA, pn, pcap, parts, QA, qn, qcap, ports, RA, rn, rcap, routes⟩ W) => hW.cells.c0
    have d1 := fun W (hW : BoxS w ⟨nodes, faulty, slot, gap, rho, dmin, dmax, margin, PA, pn, pcap, parts, QA, qn, qcap, ports, RA, rn, rcap, routes⟩ W) => hW.cells.c1
    have d2 := fun W (hW : BoxS w ⟨nodes, faulty, slot, gap, rho, dmin, dmax, margin, PA, pn, pcap, parts, QA, qn, qcap, ports, RA, rn, rcap, routes⟩ W) => hW.cells.c2
    have d3 := fun W (hW : BoxS w ⟨nodes, faulty, slot, gap, rho, dmin, dmax, margin, PA, pn, pcap, parts, QA, qn, qcap, ports, RA, rn, rcap, routes⟩ W) => hW.cells.c3
    have d4 := fun W (hW : BoxS w ⟨nodes, faulty, slot, gap, rho, dmin, dmax, margin, PA, pn, pcap, parts, QA, qn, qcap, ports, RA, rn, rcap, routes⟩ W) => hW.cells.c4
    have d5 := fun W (hW : BoxS w ⟨nodes, faulty, slot, gap, rho, dmin, dmax, margin, PA, pn, pcap, parts, QA, qn, qcap, ports, RA, rn, rcap, routes⟩ W) => hW.cells.c5
    have d6 := fun W (hW : BoxS w ⟨nodes, faulty, slot, gap, rho, dmin, dmax, margin, PA, pn, pcap, parts, QA, qn, qcap, ports, RA, rn, rcap, routes⟩ W) => hW.cells.c6
    have d7 := fun W (hW : BoxS w ⟨nodes, faulty, slot, gap, rho, dmin, dmax, margin, PA, pn, pcap, parts, QA, qn, qcap, ports, RA, rn, rcap, routes⟩ W) => hW.cells.c7
    have d8 := fun W (hW : BoxS w ⟨nodes, faulty, slot, gap, rho, dmin, dmax, margin, PA, pn, pcap, parts, QA, qn, qcap, ports, RA, rn, rcap, routes⟩ W) => hW.cells.c8
    have d9 := fun W (hW : BoxS w ⟨nodes, faulty, slot, gap, rho, dmin, dmax, margin, PA, pn, pcap, parts, QA, qn, qcap, ports, RA, rn, rcap, routes⟩ W) => hW.cells.c9
    have d10 := fun W (hW : BoxS w ⟨nodes, faulty, slot, gap, rho, dmin, dmax, margin, PA, pn, pcap, parts, QA, qn, qcap, ports, RA, rn, rcap, routes⟩ W) => hW.cells.c10
    simp only at d0 d1 d2 d3 d4 d5 d6 d7 d8 d9 d10
    simp only [CfgC.value] at HWk HCo ⊢
    simp only [boxC, cfgCells] at HST
    go_enter Try.func9, Try.ntmps9
    go_wp2_with fail
    refine (HA.out _).mono ?_
    rintro e w1 ⟨rfl, hb1⟩
    have hd1 := HST.out.step hb1
    clear hb1 HA
    have k0 := d0 _ hd1
    have k1 := d1 _ hd1
    have k2 := d2 _ hd1
    have k3 := d3 _ hd1
    have k4 := d4 _ hd1
    have k5 := d5 _ hd1
    have k6 := d6 _ hd1
    have k7 := d7 _ hd1
    have k8 := d8 _ hd1
    have k9 := d9 _ hd1
    have k10 := d10 _ hd1
    have Hd1 := Lib.hid hd1
    clear hd1
    go_wp2_with fail
    refine (HWk.out _ Hd1.out).mono ?_
    rintro e w2 ⟨rfl, hb2⟩
    have hd2 := Hd1.out.step hb2
    clear hb2 Hd1 HWk k0 k1 k2 k3 k4 k5 k6 k7 k8 k9 k10
    have k0 := d0 _ hd2
    have k1 := d1 _ hd2
    have k2 := d2 _ hd2
    have k3 := d3 _ hd2
    have k4 := d4 _ hd2
    have k5 := d5 _ hd2
    have k6 := d6 _ hd2
    have k7 := d7 _ hd2
    have k8 := d8 _ hd2
    have k9 := d9 _ hd2
    have k10 := d10 _ hd2
    have Hd2 := Lib.hid hd2
    clear hd2
    have Hd2 := Hd2
    go_upto_region 5 with (fail)
    clear k0 k1 k2 k3 k4 k5 k6 k7 k8 k9 k10
    go_cut [5, 6] (fun v5 v6 wx => ∃ T5 T6 Bb ca cb, v5 = .pointer (some ⟨T5, 0, none⟩) ∧ v6 = .pointer (some ⟨T6, 0, none⟩) ∧ ca.plain = (CfgC.plain ⟨nodes, faulty, slot, gap, rho, dmin, dmax, margin, PA, pn, pcap, parts, QA, qn, qcap, ports, RA, rn, rcap, routes⟩) ∧ cb.plain = (CfgC.plain ⟨nodes, faulty, slot, gap, rho, dmin, dmax, margin, PA, pn, pcap, parts, QA, qn, qcap, ports, RA, rn, rcap, routes⟩) ∧ MoreS w ⟨nodes, faulty, slot, gap, rho, dmin, dmax, margin, PA, pn, pcap, parts, QA, qn, qcap, ports, RA, rn, rcap, routes⟩ (boxC w ⟨nodes, faulty, slot, gap, rho, dmin, dmax, margin, PA, pn, pcap, parts, QA, qn, qcap, ports, RA, rn, rcap, routes⟩).heap.size Bb ca cb T5 T6 wx)
    case first =>
      clear HW
      have hdd := BoxS.drew Hd2.out
      go_wp2_with fail
      refine wp_region_held_drew (S := fun W => BoxS w ⟨nodes, faulty, slot, gap, rho, dmin, dmax, margin, PA, pn, pcap, parts, QA, qn, qcap, ports, RA, rn, rcap, routes⟩ W) (by kernel_rfl) hdd (fun _ => ?_)
      refine wpAnyH_take (i := 0) (oi := ?oo1) (v := ?vv1) ?ii1 (by kernel_rfl) ?ff1 (by kernel_rfl) ?qq1 (Or.inl ⟨?ww1, ?yy1⟩) hdd ?rr1
      case ii1 => simp only [List.getElem?_toArray, List.getElem?_cons_zero]; rfl
      case ff1 => kernel_rfl
      case qq1 => exact fun _ _ _ h => h
      case ww1 => rfl
      case yy1 => intro W hW; go_simp <;> with_reducible rfl
      try simp only [Act.put, List.setIfInBounds_toArray, List.set_cons_zero, List.set_cons_succ]
      refine wpAnyH_take (i := 2) (oi := ?oo2) (v := ?vv2) ?ii2 (by kernel_rfl) ?ff2 (by kernel_rfl) ?qq2 (Or.inl ⟨?ww2, ?yy2⟩) hdd ?rr2
      case ii2 => simp only [List.getElem?_toArray, List.getElem?_cons_succ, List.getElem?_cons_zero]; rfl
      case ff2 => kernel_rfl
      case qq2 => exact fun _ _ _ h => h
      case ww2 => rfl
      case yy2 => intro W hW; go_simp <;> with_reducible rfl
      try simp only [Act.put, List.setIfInBounds_toArray, List.set_cons_zero, List.set_cons_succ]
      refine wpAnyH_gen (fun W0 hW0 => ?_)
      have hd0 : BoxS w ⟨nodes, faulty, slot, gap, rho, dmin, dmax, margin, PA, pn, pcap, parts, QA, qn, qcap, ports, RA, rn, rcap, routes⟩ W0 := by rw [hW0]; exact hdd
      clear hdd hW0
      refine wpAnyH_ready (rs := [1, 4, 5]) (by kernel_rfl) (by simp) ?_
      refine AllReadyH.cons (o := ?orx1) ?irx1 (fun K hK => ?_) (AllReadyH.cons (o := ?orx4) ?irx4 (fun K hK => ?_) (AllReadyH.cons (o := ?orx5) ?irx5 (fun K hK => ?_) AllReadyH.nil))
      case irx1 => simp only [List.getElem?_toArray, List.getElem?_cons_succ, List.getElem?_cons_zero]; rfl
      case irx4 => simp only [List.getElem?_toArray, List.getElem?_cons_succ, List.getElem?_cons_zero]; rfl
      case irx5 => simp only [List.getElem?_toArray, List.getElem?_cons_succ, List.getElem?_cons_zero]; rfl
      · go_simp
        refine (HCo.out _ hd0).mono ?_
        rintro e W1 ⟨ca, rfl, hca, hpa, o1a, o2a, o3a, hb1⟩
        have hd1 := hd0.step hb1
        have ha1 : CopyI (boxC w ⟨nodes, faulty, slot, gap, rho, dmin, dmax, margin, PA, pn, pcap, parts, QA, qn, qcap, ports, RA, rn, rcap, routes⟩).heap.size ca W1 := ⟨hca.plen, hca.qlen, hca.rlen, ⟨own_low o1a.own (by have := hd0.size; omega)⟩, ⟨own_low o2a.own (by have := hd0.size; omega)⟩, ⟨own_low o3a.own (by have := hd0.size; omega)⟩⟩
        clear o1a o2a o3a hca
        go_wp2_with fail
        refine hK.out _ _ hd1 (fun _ => ?_)
        clear hK K
        refine wpAnyH_ready (rs := [3, 4, 5]) (by kernel_rfl) (by simp) ?_
        refine AllReadyH.cons (o := ?or1x3) ?ir1x3 (fun K hK => ?_) (AllReadyH.cons (o := ?or1x4) ?ir1x4 (fun K hK => ?_) (AllReadyH.cons (o := ?or1x5) ?ir1x5 (fun K hK => ?_) AllReadyH.nil))
        case ir1x3 => simp only [List.getElem?_toArray, List.getElem?_cons_succ, List.getElem?_cons_zero]; rfl
        case ir1x4 => simp only [List.getElem?_toArray, List.getElem?_cons_succ, List.getElem?_cons_zero]; rfl
        case ir1x5 => simp only [List.getElem?_toArray, List.getElem?_cons_succ, List.getElem?_cons_zero]; rfl
        · go_simp
          refine (HCo.out _ hd1).mono ?_
          rintro e W13 ⟨cb, rfl, hcb, hpb, o1b, o2b, o3b, hb13⟩
          have hd13 := hd1.step hb13
          have ha13 := ha1.kept hb13
          have hp13 : OwnI partVals 9 47 W1.heap.size (.slice cb.PA cb.pn cb.pcap) cb.parts W13 := ⟨own_low o1b.own (by omega)⟩
          have hah13 : ∀ q, (Value.slice ca.PA ca.pn ca.pcap).ownBlock = some q → q < W1.heap.size := fun q hq => (ha1.parts.own.lt q hq).2
          have hbl13 := hcb.plen
          have hBb13 : (boxC w ⟨nodes, faulty, slot, gap, rho, dmin, dmax, margin, PA, pn, pcap, parts, QA, qn, qcap, ports, RA, rn, rcap, routes⟩).heap.size ≤ W1.heap.size := hd1.size
          have hz13 := hb13.size
          clear o1b o2b o3b hcb
          go_wp2_with fail
          refine hK.out _ _ hd13 (fun _ => ?_)
          clear hK K
          refine wpAnyH_ready (rs := [4, 5]) (by kernel_rfl) (by simp) ?_
          refine AllReadyH.cons (o := ?or13x4) ?ir13x4 (fun K hK => ?_) (AllReadyH.cons (o := ?or13x5) ?ir13x5 (fun K hK => ?_) AllReadyH.nil)
          case ir13x4 => simp only [List.getElem?_toArray, List.getElem?_cons_succ, List.getElem?_cons_zero]; rfl
          case ir13x5 => simp only [List.getElem?_toArray, List.getElem?_cons_succ, List.getElem?_cons_zero]; rfl
          · go_simp
            refine hK.out _ _ ?hh134 (fun _ => ?_)
            case hh134 => first | exact hd13.alloc _ | exact hd13.alloc1 _
            clear hK K
            refine wpAnyH_gen (fun W134 hW134 => ?_)
            have hb134 : Below W13.heap.size W13 W134 := by rw [hW134]; first | exact (Below.refl _ _).alloc (Nat.le_refl _) _ | exact ((Below.refl _ _).alloc (Nat.le_refl _) _).drew
            have hd134 := hd13.step hb134
            have t5134 : W134.heap[W13.heap.size]? = some (.cells zeroC 26 (0, 0)) := by rw [hW134]; exact heap_alloc_new W13 _
            have h5134 : (boxC w ⟨nodes, faulty, slot, gap, rho, dmin, dmax, margin, PA, pn, pcap, parts, QA, qn, qcap, ports, RA, rn, rcap, routes⟩).heap.size ≤ W13.heap.size := hd13.size
            have ha134 := ha13.kept hb134
            have hp134 := hp13.kept hb134
            have hz134 := Nat.le_trans hz13 hb134.size
            clear hW134
            refine wpAnyH_ready (rs := [5]) (by kernel_rfl) (by simp) ?_
            refine AllReadyH.cons (o := ?or134) ?ir134 (fun K hK => ?_) AllReadyH.nil
            case ir134 => simp only [List.getElem?_toArray, List.getElem?_cons_succ, List.getElem?_cons_zero]; rfl
            go_simp
            refine hK.out _ _ ?hh1345 (fun _ => ?_)
            case hh1345 => first | exact hd134.alloc _ | exact hd134.alloc1 _
            clear hK K
            refine wpAnyH_gen (fun W1345 hW1345 => ?_)
            have hb1345 : Below W134.heap.size W134 W1345 := by rw [hW1345]; first | exact (Below.refl _ _).alloc (Nat.le_refl _) _ | exact ((Below.refl _ _).alloc (Nat.le_refl _) _).drew
            have hd1345 := hd134.step hb1345
            have t61345 : W1345.heap[W134.heap.size]? = some (.cells zeroC 26 (0, 0)) := by rw [hW1345]; exact heap_alloc_new W134 _
            have h61345 : (boxC w ⟨nodes, faulty, slot, gap, rho, dmin, dmax, margin, PA, pn, pcap, parts, QA, qn, qcap, ports, RA, rn, rcap, routes⟩).heap.size ≤ W134.heap.size := hd134.size
            have hne1345 : W13.heap.size ≠ W134.heap.size := by have := lt_of_block t5134; omega
            have t51345 := (hb1345.block _ (lt_of_block t5134)).trans t5134
            have ha1345 := ha134.kept hb1345
            have hp1345 := hp134.kept hb1345
            have hz1345 := Nat.le_trans hz134 hb1345.size
            clear hW1345
            obtain ⟨hf1, hf2, hf3⟩ := more_fin hd1345 t51345 t61345 hne1345 ⟨Nat.le_refl _, h5134, h61345, hBb13, hz1345⟩ ha1345 hah13 hbl13 hp1345
            have hM0 : ∃ Bb, MoreS w ⟨nodes, faulty, slot, gap, rho, dmin, dmax, margin, PA, pn, pcap, parts, QA, qn, qcap, ports, RA, rn, rcap, routes⟩ (boxC w ⟨nodes, faulty, slot, gap, rho, dmin, dmax, margin, PA, pn, pcap, parts, QA, qn, qcap, ports, RA, rn, rcap, routes⟩).heap.size Bb ca cb W13.heap.size W134.heap.size (storeAll (storeAll W1345 W13.heap.size (cfgCells ca).toList 0) W134.heap.size (cfgCells cb).toList 0) := ⟨_, hf3⟩
            have k0 := cell_at t51345 0 rfl
            have k1 := cell_at t51345 1 rfl
            have k2 := cell_at t51345 2 rfl
            have k3 := cell_at t51345 3 rfl
            have k4 := cell_at t51345 4 rfl
            have k5 := cell_at t51345 5 rfl
            have k6 := cell_at t51345 6 rfl
            have k7 := cell_at t51345 7 rfl
            have k8 := cell_at t51345 8 rfl
            have k9 := cell_at t51345 9 rfl
            have k10 := cell_at t51345 10 rfl
            have fr := fun i => free_at t51345 i
            obtain ⟨q0a, q1a, q2a, q3a, q4a, q5a, q6a, q7a, PAa, pna, pcapa, partsa, QAa, qna, qcapa, portsa, RAa, rna, rcapa, routesa⟩ := ca
            obtain ⟨q0b, q1b, q2b, q3b, q4b, q5b, q6b, q7b, PAb, pnb, pcapb, partsb, QAb, qnb, qcapb, portsb, RAb, rnb, rcapb, routesb⟩ := cb
            simp only [CfgC.value]
            refine wpAnyH_ready (rs := [6]) (by kernel_rfl) (by simp) ?_
            refine AllReadyH.cons (o := ?o61345) ?i61345 (fun K hK => ?_) AllReadyH.nil
            case i61345 => simp only [List.getElem?_toArray, List.getElem?_cons_succ, List.getElem?_cons_zero]; rfl
            go_simp
            go_wp2_with fail
            refine hK.out _ _ ?h61345 (fun _ => ?_)
            case h61345 => exact hf1
            clear hK K
            refine wpAnyH_gen (fun W6 hW6 => ?_)
            have e6 : W6 = storeAll W1345 W13.heap.size (cfgCells ⟨q0a, q1a, q2a, q3a, q4a, q5a, q6a, q7a, PAa, pna, pcapa, partsa, QAa, qna, qcapa, portsa, RAa, rna, rcapa, routesa⟩).toList 0 := hW6
            rw [← e6] at hf2 hM0
            clear hW6 e6 hf1 hf3 fr k0 k1 k2 k3 k4 k5 k6 k7 k8 k9 k10
            have k0 := cell_at hf2 0 rfl
            have k1 := cell_at hf2 1 rfl
            have k2 := cell_at hf2 2 rfl
            have k3 := cell_at hf2 3 rfl
            have k4 := cell_at hf2 4 rfl
            have k5 := cell_at hf2 5 rfl
            have k6 := cell_at hf2 6 rfl
            have k7 := cell_at hf2 7 rfl
            have k8 := cell_at hf2 8 rfl
            have k9 := cell_at hf2 9 rfl
            have k10 := cell_at hf2 10 rfl
            have fr := fun i => free_at hf2 i
            obtain ⟨Bb, hM⟩ := hM0
            refine wpAnyH_ready (rs := [7]) (by kernel_rfl) (by simp) ?_
            refine AllReadyH.cons (o := ?o71345) ?i71345 (fun K hK => ?_) AllReadyH.nil
            case i71345 => simp only [List.getElem?_toArray, List.getElem?_cons_succ, List.getElem?_cons_zero]; rfl
            go_simp
            go_wp2_with fail
            refine hK.out _ _ ?h71345 (fun _ => ?_)
            case h71345 => exact hM.box
            clear hK K
            refine wpAnyH_done (by kernel_rfl) ?_ _
            clear fr k0 k1 k2 k3 k4 k5 k6 k7 k8 k9 k10
            go_wp2_with fail
            go_meet
            exact ⟨_, _, Bb, _, _, rfl, rfl, hpa, hpb, hM⟩
          · go_simp
            refine hK.out _ _ ?hh135 (fun _ => ?_)
            case hh135 => first | exact hd13.alloc _ | exact hd13.alloc1 _
            clear hK K
            refine wpAnyH_gen (fun W135 hW135 => ?_)
            have hb135 : Below W13.heap.size W13 W135 := by rw [hW135]; first | exact (Below.refl _ _).alloc (Nat.le_refl _) _ | exact ((Below.refl _ _).alloc (Nat.le_refl _) _).drew
            have hd135 := hd13.step hb135
            have t6135 : W135.heap[W13.heap.size]? = some (.cells zeroC 26 (0, 0)) := by rw [hW135]; exact heap_alloc_new W13 _
            have h6135 : (boxC w ⟨nodes, faulty, slot, gap, rho, dmin, dmax, margin, PA, pn, pcap, parts, QA, qn, qcap, ports, RA, rn, rcap, routes⟩).heap.size ≤ W13.heap.size := hd13.size
            have ha135 := ha13.kept hb135
            have hp135 := hp13.kept hb135
            have hz135 := Nat.le_trans hz13 hb135.size
            clear hW135
            refine wpAnyH_ready (rs := [4]) (by kernel_rfl) (by simp) ?_
            refine AllReadyH.cons (o := ?or135) ?ir135 (fun K hK => ?_) AllReadyH.nil
            case ir135 => simp only [List.getElem?_toArray, List.getElem?_cons_succ, List.getElem?_cons_zero]; rfl
            go_simp
            refine hK.out _ _ ?hh1354 (fun _ => ?_)
            case hh1354 => first | exact hd135.alloc _ | exact hd135.alloc1 _
            clear hK K
            refine wpAnyH_gen (fun W1354 hW1354 => ?_)
            have hb1354 : Below W135.heap.size W135 W1354 := by rw [hW1354]; first | exact (Below.refl _ _).alloc (Nat.le_refl _) _ | exact ((Below.refl _ _).alloc (Nat.le_refl _) _).drew
            have hd1354 := hd135.step hb1354
            have t51354 : W1354.heap[W135.heap.size]? = some (.cells zeroC 26 (0, 0)) := by rw [hW1354]; exact heap_alloc_new W135 _
            have h51354 : (boxC w ⟨nodes, faulty, slot, gap, rho, dmin, dmax, margin, PA, pn, pcap, parts, QA, qn, qcap, ports, RA, rn, rcap, routes⟩).heap.size ≤ W135.heap.size := hd135.size
            have hne1354 : W135.heap.size ≠ W13.heap.size := by have := lt_of_block t6135; omega
            have t61354 := (hb1354.block _ (lt_of_block t6135)).trans t6135
            have ha1354 := ha135.kept hb1354
            have hp1354 := hp135.kept hb1354
            have hz1354 := Nat.le_trans hz135 hb1354.size
            clear hW1354
            obtain ⟨hf1, hf2, hf3⟩ := more_fin hd1354 t51354 t61354 hne1354 ⟨Nat.le_refl _, h51354, h6135, hBb13, hz1354⟩ ha1354 hah13 hbl13 hp1354
            have hM0 : ∃ Bb, MoreS w ⟨nodes, faulty, slot, gap, rho, dmin, dmax, margin, PA, pn, pcap, parts, QA, qn, qcap, ports, RA, rn, rcap, routes⟩ (boxC w ⟨nodes, faulty, slot, gap, rho, dmin, dmax, margin, PA, pn, pcap, parts, QA, qn, qcap, ports, RA, rn, rcap, routes⟩).heap.size Bb ca cb W135.heap.size W13.heap.size (storeAll (storeAll W1354 W135.heap.size (cfgCells ca).toList 0) W13.heap.size (cfgCells cb).toList 0) := ⟨_, hf3⟩
            have k0 := cell_at t51354 0 rfl
            have k1 := cell_at t51354 1 rfl
            have k2 := cell_at t51354 2 rfl
            have k3 := cell_at t51354 3 rfl
            have k4 := cell_at t51354 4 rfl
            have k5 := cell_at t51354 5 rfl
            have k6 := cell_at t51354 6 rfl
            have k7 := cell_at t51354 7 rfl
            have k8 := cell_at t51354 8 rfl
            have k9 := cell_at t51354 9 rfl
            have k10 := cell_at t51354 10 rfl
            have fr := fun i => free_at t51354 i
            obtain ⟨q0a, q1a, q2a, q3a, q4a, q5a, q6a, q7a, PAa, pna, pcapa, partsa, QAa, qna, qcapa, portsa, RAa, rna, rcapa, routesa⟩ := ca
            obtain ⟨q0b, q1b, q2b, q3b, q4b, q5b, q6b, q7b, PAb, pnb, pcapb, partsb, QAb, qnb, qcapb, portsb, RAb, rnb, rcapb, routesb⟩ := cb
            simp only [CfgC.value]
            refine wpAnyH_ready (rs := [6]) (by kernel_rfl) (by simp) ?_
            refine AllReadyH.cons (o := ?o61354) ?i61354 (fun K hK => ?_) AllReadyH.nil
            case i61354 => simp only [List.getElem?_toArray, List.getElem?_cons_succ, List.getElem?_cons_zero]; rfl
            go_simp
            go_wp2_with fail
            refine hK.out _ _ ?h61354 (fun _ => ?_)
            case h61354 => exact hf1
            clear hK K
            refine wpAnyH_gen (fun W6 hW6 => ?_)
            have e6 : W6 = storeAll W1354 W135.heap.size (cfgCells ⟨q0a, q1a, q2a, q3a, q4a, q5a, q6a, q7a, PAa, pna, pcapa, partsa, QAa, qna, qcapa, portsa, RAa, rna, rcapa, routesa⟩).toList 0 := hW6
            rw [← e6] at hf2 hM0
            clear hW6 e6 hf1 hf3 fr k0 k1 k2 k3 k4 k5 k6 k7 k8 k9 k10
            have k0 := cell_at hf2 0 rfl
            have k1 := cell_at hf2 1 rfl
            have k2 := cell_at hf2 2 rfl
            have k3 := cell_at hf2 3 rfl
            have k4 := cell_at hf2 4 rfl
            have k5 := cell_at hf2 5 rfl
            have k6 := cell_at hf2 6 rfl
            have k7 := cell_at hf2 7 rfl
            have k8 := cell_at hf2 8 rfl
            have k9 := cell_at hf2 9 rfl
            have k10 := cell_at hf2 10 rfl
            have fr := fun i => free_at hf2 i
            obtain ⟨Bb, hM⟩ := hM0
            refine wpAnyH_ready (rs := [7]) (by kernel_rfl) (by simp) ?_
            refine AllReadyH.cons (o := ?o71354) ?i71354 (fun K hK => ?_) AllReadyH.nil
            case i71354 => simp only [List.getElem?_toArray, List.getElem?_cons_succ, List.getElem?_cons_zero]; rfl
            go_simp
            go_wp2_with fail
            refine hK.out _ _ ?h71354 (fun _ => ?_)
            case h71354 => exact hM.box
            clear hK K
            refine wpAnyH_done (by kernel_rfl) ?_ _
            clear fr k0 k1 k2 k3 k4 k5 k6 k7 k8 k9 k10
            go_wp2_with fail
            go_meet
            exact ⟨_, _, Bb, _, _, rfl, rfl, hpa, hpb, hM⟩
        · go_simp
          refine hK.out _ _ ?hh14 (fun _ => ?_)
          case hh14 => first | exact hd1.alloc _ | exact hd1.alloc1 _
          clear hK K
          refine wpAnyH_gen (fun W14 hW14 => ?_)
          have hb14 : Below W1.heap.size W1 W14 := by rw [hW14]; first | exact (Below.refl _ _).alloc (Nat.le_refl _) _ | exact ((Below.refl _ _).alloc (Nat.le_refl _) _).drew
          have hd14 := hd1.step hb14
          have t514 : W14.heap[W1.heap.size]? = some (.cells zeroC 26 (0, 0)) := by rw [hW14]; exact heap_alloc_new W1 _
          have h514 : (boxC w ⟨nodes, faulty, slot, gap, rho, dmin, dmax, margin, PA, pn, pcap, parts, QA, qn, qcap, ports, RA, rn, rcap, routes⟩).heap.size ≤ W1.heap.size := hd1.size
          have ha14 := ha1.kept hb14
          clear hW14
          refine wpAnyH_ready (rs := [3, 5]) (by kernel_rfl) (by simp) ?_
          refine AllReadyH.cons (o := ?or14x3) ?ir14x3 (fun K hK => ?_) (AllReadyH.cons (o := ?or14x5) ?ir14x5 (fun K hK => ?_) AllReadyH.nil)
          case ir14x3 => simp only [List.getElem?_toArray, List.getElem?_cons_succ, List.getElem?_cons_zero]; rfl
          case ir14x5 => simp only [List.getElem?_toArray, List.getElem?_cons_succ, List.getElem?_cons_zero]; rfl
          · go_simp
            refine (HCo.out _ hd14).mono ?_
            rintro e W143 ⟨cb, rfl, hcb, hpb, o1b, o2b, o3b, hb143⟩
            have hd143 := hd14.step hb143
            have t5143 := (hb143.block _ (lt_of_block t514)).trans t514
            have ha143 := ha14.kept hb143
            have hp143 : OwnI partVals 9 47 W14.heap.size (.slice cb.PA cb.pn cb.pcap) cb.parts W143 := ⟨own_low o1b.own (by omega)⟩
            have hah143 : ∀ q, (Value.slice ca.PA ca.pn ca.pcap).ownBlock = some q → q < W14.heap.size := fun q hq => (ha14.parts.own.lt q hq).2
            have hbl143 := hcb.plen
            have hBb143 : (boxC w ⟨nodes, faulty, slot, gap, rho, dmin, dmax, margin, PA, pn, pcap, parts, QA, qn, qcap, ports, RA, rn, rcap, routes⟩).heap.size ≤ W14.heap.size := hd14.size
            have hz143 := hb143.size
            clear o1b o2b o3b hcb
            go_wp2_with fail
            refine hK.out _ _ hd143 (fun _ => ?_)
            clear hK K
            refine wpAnyH_ready (rs := [5]) (by kernel_rfl) (by simp) ?_
            refine AllReadyH.cons (o := ?or143) ?ir143 (fun K hK => ?_) AllReadyH.nil
            case ir143 => simp only [List.getElem?_toArray, List.getElem?_cons_succ, List.getElem?_cons_zero]; rfl
            go_simp
            refine hK.out _ _ ?hh1435 (fun _ => ?_)
            case hh1435 => first | exact hd143.alloc _ | exact hd143.alloc1 _
            clear hK K
            refine wpAnyH_gen (fun W1435 hW1435 => ?_)
            have hb1435 : Below W143.heap.size W143 W1435 := by rw [hW1435]; first | exact (Below.refl _ _).alloc (Nat.le_refl _) _ | exact ((Below.refl _ _).alloc (Nat.le_refl _) _).drew
            have hd1435 := hd143.step hb1435
            have t61435 : W1435.heap[W143.heap.size]? = some (.cells zeroC 26 (0, 0)) := by rw [hW1435]; exact heap_alloc_new W143 _
            have h61435 : (boxC w ⟨nodes, faulty, slot, gap, rho, dmin, dmax, margin, PA, pn, pcap, parts, QA, qn, qcap, ports, RA, rn, rcap, routes⟩).heap.size ≤ W143.heap.size := hd143.size
            have hne1435 : W1.heap.size ≠ W143.heap.size := by have := lt_of_block t5143; omega
            have t51435 := (hb1435.block _ (lt_of_block t5143)).trans t5143
            have ha1435 := ha143.kept hb1435
            have hp1435 := hp143.kept hb1435
            have hz1435 := Nat.le_trans hz143 hb1435.size
            clear hW1435
            obtain ⟨hf1, hf2, hf3⟩ := more_fin hd1435 t51435 t61435 hne1435 ⟨Nat.le_refl _, h514, h61435, hBb143, hz1435⟩ ha1435 hah143 hbl143 hp1435
            have hM0 : ∃ Bb, MoreS w ⟨nodes, faulty, slot, gap, rho, dmin, dmax, margin, PA, pn, pcap, parts, QA, qn, qcap, ports, RA, rn, rcap, routes⟩ (boxC w ⟨nodes, faulty, slot, gap, rho, dmin, dmax, margin, PA, pn, pcap, parts, QA, qn, qcap, ports, RA, rn, rcap, routes⟩).heap.size Bb ca cb W1.heap.size W143.heap.size (storeAll (storeAll W1435 W1.heap.size (cfgCells ca).toList 0) W143.heap.size (cfgCells cb).toList 0) := ⟨_, hf3⟩
            have k0 := cell_at t51435 0 rfl
            have k1 := cell_at t51435 1 rfl
            have k2 := cell_at t51435 2 rfl
            have k3 := cell_at t51435 3 rfl
            have k4 := cell_at t51435 4 rfl
            have k5 := cell_at t51435 5 rfl
            have k6 := cell_at t51435 6 rfl
            have k7 := cell_at t51435 7 rfl
            have k8 := cell_at t51435 8 rfl
            have k9 := cell_at t51435 9 rfl
            have k10 := cell_at t51435 10 rfl
            have fr := fun i => free_at t51435 i
            obtain ⟨q0a, q1a, q2a, q3a, q4a, q5a, q6a, q7a, PAa, pna, pcapa, partsa, QAa, qna, qcapa, portsa, RAa, rna, rcapa, routesa⟩ := ca
            obtain ⟨q0b, q1b, q2b, q3b, q4b, q5b, q6b, q7b, PAb, pnb, pcapb, partsb, QAb, qnb, qcapb, portsb, RAb, rnb, rcapb, routesb⟩ := cb
            simp only [CfgC.value]
            refine wpAnyH_ready (rs := [6]) (by kernel_rfl) (by simp) ?_
            refine AllReadyH.cons (o := ?o61435) ?i61435 (fun K hK => ?_) AllReadyH.nil
            case i61435 => simp only [List.getElem?_toArray, List.getElem?_cons_succ, List.getElem?_cons_zero]; rfl
            go_simp
            go_wp2_with fail
            refine hK.out _ _ ?h61435 (fun _ => ?_)
            case h61435 => exact hf1
            clear hK K
            refine wpAnyH_gen (fun W6 hW6 => ?_)
            have e6 : W6 = storeAll W1435 W1.heap.size (cfgCells ⟨q0a, q1a, q2a, q3a, q4a, q5a, q6a, q7a, PAa, pna, pcapa, partsa, QAa, qna, qcapa, portsa, RAa, rna, rcapa, routesa⟩).toList 0 := hW6
            rw [← e6] at hf2 hM0
            clear hW6 e6 hf1 hf3 fr k0 k1 k2 k3 k4 k5 k6 k7 k8 k9 k10
            have k0 := cell_at hf2 0 rfl
            have k1 := cell_at hf2 1 rfl
            have k2 := cell_at hf2 2 rfl
            have k3 := cell_at hf2 3 rfl
            have k4 := cell_at hf2 4 rfl
            have k5 := cell_at hf2 5 rfl
            have k6 := cell_at hf2 6 rfl
            have k7 := cell_at hf2 7 rfl
            have k8 := cell_at hf2 8 rfl
            have k9 := cell_at hf2 9 rfl
            have k10 := cell_at hf2 10 rfl
            have fr := fun i => free_at hf2 i
            obtain ⟨Bb, hM⟩ := hM0
            refine wpAnyH_ready (rs := [7]) (by kernel_rfl) (by simp) ?_
            refine AllReadyH.cons (o := ?o71435) ?i71435 (fun K hK => ?_) AllReadyH.nil
            case i71435 => simp only [List.getElem?_toArray, List.getElem?_cons_succ, List.getElem?_cons_zero]; rfl
            go_simp
            go_wp2_with fail
            refine hK.out _ _ ?h71435 (fun _ => ?_)
            case h71435 => exact hM.box
            clear hK K
            refine wpAnyH_done (by kernel_rfl) ?_ _
            clear fr k0 k1 k2 k3 k4 k5 k6 k7 k8 k9 k10
            go_wp2_with fail
            go_meet
            exact ⟨_, _, Bb, _, _, rfl, rfl, hpa, hpb, hM⟩
          · go_simp
            refine hK.out _ _ ?hh145 (fun _ => ?_)
            case hh145 => first | exact hd14.alloc _ | exact hd14.alloc1 _
            clear hK K
            refine wpAnyH_gen (fun W145 hW145 => ?_)
            have hb145 : Below W14.heap.size W14 W145 := by rw [hW145]; first | exact (Below.refl _ _).alloc (Nat.le_refl _) _ | exact ((Below.refl _ _).alloc (Nat.le_refl _) _).drew
            have hd145 := hd14.step hb145
            have t6145 : W145.heap[W14.heap.size]? = some (.cells zeroC 26 (0, 0)) := by rw [hW145]; exact heap_alloc_new W14 _
            have h6145 : (boxC w ⟨nodes, faulty, slot, gap, rho, dmin, dmax, margin, PA, pn, pcap, parts, QA, qn, qcap, ports, RA, rn, rcap, routes⟩).heap.size ≤ W14.heap.size := hd14.size
            have hne145 : W1.heap.size ≠ W14.heap.size := by have := lt_of_block t514; omega
            have t5145 := (hb145.block _ (lt_of_block t514)).trans t514
            have ha145 := ha14.kept hb145
            clear hW145
            refine wpAnyH_ready (rs := [3]) (by kernel_rfl) (by simp) ?_
            refine AllReadyH.cons (o := ?or145) ?ir145 (fun K hK => ?_) AllReadyH.nil
            case ir145 => simp only [List.getElem?_toArray, List.getElem?_cons_succ, List.getElem?_cons_zero]; rfl
            go_simp
            refine (HCo.out _ hd145).mono ?_
            rintro e W1453 ⟨cb, rfl, hcb, hpb, o1b, o2b, o3b, hb1453⟩
            have hd1453 := hd145.step hb1453
            have t51453 := (hb1453.block _ (lt_of_block t5145)).trans t5145
            have t61453 := (hb1453.block _ (lt_of_block t6145)).trans t6145
            have ha1453 := ha145.kept hb1453
            have hp1453 : OwnI partVals 9 47 W145.heap.size (.slice cb.PA cb.pn cb.pcap) cb.parts W1453 := ⟨own_low o1b.own (by omega)⟩
            have hah1453 : ∀ q, (Value.slice ca.PA ca.pn ca.pcap).ownBlock = some q → q < W145.heap.size := fun q hq => (ha145.parts.own.lt q hq).2
            have hbl1453 := hcb.plen
            have hBb1453 : (boxC w ⟨nodes, faulty, slot, gap, rho, dmin, dmax, margin, PA, pn, pcap, parts, QA, qn, qcap, ports, RA, rn, rcap, routes⟩).heap.size ≤ W145.heap.size := hd145.size
            have hz1453 := hb1453.size
            clear o1b o2b o3b hcb
            go_wp2_with fail
            refine hK.out _ _ hd1453 (fun _ => ?_)
            clear hK K
            obtain ⟨hf1, hf2, hf3⟩ := more_fin hd1453 t51453 t61453 hne145 ⟨Nat.le_refl _, h514, h6145, hBb1453, hz1453⟩ ha1453 hah1453 hbl1453 hp1453
            have hM0 : ∃ Bb, MoreS w ⟨nodes, faulty, slot, gap, rho, dmin, dmax, margin, PA, pn, pcap, parts, QA, qn, qcap, ports, RA, rn, rcap, routes⟩ (boxC w ⟨nodes, faulty, slot, gap, rho, dmin, dmax, margin, PA, pn, pcap, parts, QA, qn, qcap, ports, RA, rn, rcap, routes⟩).heap.size Bb ca cb W1.heap.size W14.heap.size (storeAll (storeAll W1453 W1.heap.size (cfgCells ca).toList 0) W14.heap.size (cfgCells cb).toList 0) := ⟨_, hf3⟩
            have k0 := cell_at t51453 0 rfl
            have k1 := cell_at t51453 1 rfl
            have k2 := cell_at t51453 2 rfl
            have k3 := cell_at t51453 3 rfl
            have k4 := cell_at t51453 4 rfl
            have k5 := cell_at t51453 5 rfl
            have k6 := cell_at t51453 6 rfl
            have k7 := cell_at t51453 7 rfl
            have k8 := cell_at t51453 8 rfl
            have k9 := cell_at t51453 9 rfl
            have k10 := cell_at t51453 10 rfl
            have fr := fun i => free_at t51453 i
            obtain ⟨q0a, q1a, q2a, q3a, q4a, q5a, q6a, q7a, PAa, pna, pcapa, partsa, QAa, qna, qcapa, portsa, RAa, rna, rcapa, routesa⟩ := ca
            obtain ⟨q0b, q1b, q2b, q3b, q4b, q5b, q6b, q7b, PAb, pnb, pcapb, partsb, QAb, qnb, qcapb, portsb, RAb, rnb, rcapb, routesb⟩ := cb
            simp only [CfgC.value]
            refine wpAnyH_ready (rs := [6]) (by kernel_rfl) (by simp) ?_
            refine AllReadyH.cons (o := ?o61453) ?i61453 (fun K hK => ?_) AllReadyH.nil
            case i61453 => simp only [List.getElem?_toArray, List.getElem?_cons_succ, List.getElem?_cons_zero]; rfl
            go_simp
            go_wp2_with fail
            refine hK.out _ _ ?h61453 (fun _ => ?_)
            case h61453 => exact hf1
            clear hK K
            refine wpAnyH_gen (fun W6 hW6 => ?_)
            have e6 : W6 = storeAll W1453 W1.heap.size (cfgCells ⟨q0a, q1a, q2a, q3a, q4a, q5a, q6a, q7a, PAa, pna, pcapa, partsa, QAa, qna, qcapa, portsa, RAa, rna, rcapa, routesa⟩).toList 0 := hW6
            rw [← e6] at hf2 hM0
            clear hW6 e6 hf1 hf3 fr k0 k1 k2 k3 k4 k5 k6 k7 k8 k9 k10
            have k0 := cell_at hf2 0 rfl
            have k1 := cell_at hf2 1 rfl
            have k2 := cell_at hf2 2 rfl
            have k3 := cell_at hf2 3 rfl
            have k4 := cell_at hf2 4 rfl
            have k5 := cell_at hf2 5 rfl
            have k6 := cell_at hf2 6 rfl
            have k7 := cell_at hf2 7 rfl
            have k8 := cell_at hf2 8 rfl
            have k9 := cell_at hf2 9 rfl
            have k10 := cell_at hf2 10 rfl
            have fr := fun i => free_at hf2 i
            obtain ⟨Bb, hM⟩ := hM0
            refine wpAnyH_ready (rs := [7]) (by kernel_rfl) (by simp) ?_
            refine AllReadyH.cons (o := ?o71453) ?i71453 (fun K hK => ?_) AllReadyH.nil
            case i71453 => simp only [List.getElem?_toArray, List.getElem?_cons_succ, List.getElem?_cons_zero]; rfl
            go_simp
            go_wp2_with fail
            refine hK.out _ _ ?h71453 (fun _ => ?_)
            case h71453 => exact hM.box
            clear hK K
            refine wpAnyH_done (by kernel_rfl) ?_ _
            clear fr k0 k1 k2 k3 k4 k5 k6 k7 k8 k9 k10
            go_wp2_with fail
            go_meet
            exact ⟨_, _, Bb, _, _, rfl, rfl, hpa, hpb, hM⟩
        · go_simp
          refine hK.out _ _ ?hh15 (fun _ => ?_)
          case hh15 => first | exact hd1.alloc _ | exact hd1.alloc1 _
          clear hK K
          refine wpAnyH_gen (fun W15 hW15 => ?_)
          have hb15 : Below W1.heap.size W1 W15 := by rw [hW15]; first | exact (Below.refl _ _).alloc (Nat.le_refl _) _ | exact ((Below.refl _ _).alloc (Nat.le_refl _) _).drew
          have hd15 := hd1.step hb15
          have t615 : W15.heap[W1.heap.size]? = some (.cells zeroC 26 (0, 0)) := by rw [hW15]; exact heap_alloc_new W1 _
          have h615 : (boxC w ⟨nodes, faulty, slot, gap, rho, dmin, dmax, margin, PA, pn, pcap, parts, QA, qn, qcap, ports, RA, rn, rcap, routes⟩).heap.size ≤ W1.heap.size := hd1.size
          have ha15 := ha1.kept hb15
          clear hW15
          refine wpAnyH_ready (rs := [3, 4]) (by kernel_rfl) (by simp) ?_
          refine AllReadyH.cons (o := ?or15x3) ?ir15x3 (fun K hK => ?_) (AllReadyH.cons (o := ?or15x4) ?ir15x4 (fun K hK => ?_) AllReadyH.nil)
          case ir15x3 => simp only [List.getElem?_toArray, List.getElem?_cons_succ, List.getElem?_cons_zero]; rfl
          case ir15x4 => simp only [List.getElem?_toArray, List.getElem?_cons_succ, List.getElem?_cons_zero]; rfl
          · go_simp
            refine (HCo.out _ hd15).mono ?_
            rintro e W153 ⟨cb, rfl, hcb, hpb, o1b, o2b, o3b, hb153⟩
            have hd153 := hd15.step hb153
            have t6153 := (hb153.block _ (lt_of_block t615)).trans t615
            have ha153 := ha15.kept hb153
            have hp153 : OwnI partVals 9 47 W15.heap.size (.slice cb.PA cb.pn cb.pcap) cb.parts W153 := ⟨own_low o1b.own (by omega)⟩
            have hah153 : ∀ q, (Value.slice ca.PA ca.pn ca.pcap).ownBlock = some q → q < W15.heap.size := fun q hq => (ha15.parts.own.lt q hq).2
            have hbl153 := hcb.plen
            have hBb153 : (boxC w ⟨nodes, faulty, slot, gap, rho, dmin, dmax, margin, PA, pn, pcap, parts, QA, qn, qcap, ports, RA, rn, rcap, routes⟩).heap.size ≤ W15.heap.size := hd15.size
            have hz153 := hb153.size
            clear o1b o2b o3b hcb
            go_wp2_with fail
            refine hK.out _ _ hd153 (fun _ => ?_)
            clear hK K
            refine wpAnyH_ready (rs := [4]) (by kernel_rfl) (by simp) ?_
            refine AllReadyH.cons (o := ?or153) ?ir153 (fun K hK => ?_) AllReadyH.nil
            case ir153 => simp only [List.getElem?_toArray, List.getElem?_cons_succ, List.getElem?_cons_zero]; rfl
            go_simp
            refine hK.out _ _ ?hh1534 (fun _ => ?_)
            case hh1534 => first | exact hd153.alloc _ | exact hd153.alloc1 _
            clear hK K
            refine wpAnyH_gen (fun W1534 hW1534 => ?_)
            have hb1534 : Below W153.heap.size W153 W1534 := by rw [hW1534]; first | exact (Below.refl _ _).alloc (Nat.le_refl _) _ | exact ((Below.refl _ _).alloc (Nat.le_refl _) _).drew
            have hd1534 := hd153.step hb1534
            have t51534 : W1534.heap[W153.heap.size]? = some (.cells zeroC 26 (0, 0)) := by rw [hW1534]; exact heap_alloc_new W153 _
            have h51534 : (boxC w ⟨nodes, faulty, slot, gap, rho, dmin, dmax, margin, PA, pn, pcap, parts, QA, qn, qcap, ports, RA, rn, rcap, routes⟩).heap.size ≤ W153.heap.size := hd153.size
            have hne1534 : W153.heap.size ≠ W1.heap.size := by have := lt_of_block t6153; omega
            have t61534 := (hb1534.block _ (lt_of_block t6153)).trans t6153
            have ha1534 := ha153.kept hb1534
            have hp1534 := hp153.kept hb1534
            have hz1534 := Nat.le_trans hz153 hb1534.size
            clear hW1534
            obtain ⟨hf1, hf2, hf3⟩ := more_fin hd1534 t51534 t61534 hne1534 ⟨Nat.le_refl _, h51534, h615, hBb153, hz1534⟩ ha1534 hah153 hbl153 hp1534
            have hM0 : ∃ Bb, MoreS w ⟨nodes, faulty, slot, gap, rho, dmin, dmax, margin, PA, pn, pcap, parts, QA, qn, qcap, ports, RA, rn, rcap, routes⟩ (boxC w ⟨nodes, faulty, slot, gap, rho, dmin, dmax, margin, PA, pn, pcap, parts, QA, qn, qcap, ports, RA, rn, rcap, routes⟩).heap.size Bb ca cb W153.heap.size W1.heap.size (storeAll (storeAll W1534 W153.heap.size (cfgCells ca).toList 0) W1.heap.size (cfgCells cb).toList 0) := ⟨_, hf3⟩
            have k0 := cell_at t51534 0 rfl
            have k1 := cell_at t51534 1 rfl
            have k2 := cell_at t51534 2 rfl
            have k3 := cell_at t51534 3 rfl
            have k4 := cell_at t51534 4 rfl
            have k5 := cell_at t51534 5 rfl
            have k6 := cell_at t51534 6 rfl
            have k7 := cell_at t51534 7 rfl
            have k8 := cell_at t51534 8 rfl
            have k9 := cell_at t51534 9 rfl
            have k10 := cell_at t51534 10 rfl
            have fr := fun i => free_at t51534 i
            obtain ⟨q0a, q1a, q2a, q3a, q4a, q5a, q6a, q7a, PAa, pna, pcapa, partsa, QAa, qna, qcapa, portsa, RAa, rna, rcapa, routesa⟩ := ca
            obtain ⟨q0b, q1b, q2b, q3b, q4b, q5b, q6b, q7b, PAb, pnb, pcapb, partsb, QAb, qnb, qcapb, portsb, RAb, rnb, rcapb, routesb⟩ := cb
            simp only [CfgC.value]
            refine wpAnyH_ready (rs := [6]) (by kernel_rfl) (by simp) ?_
            refine AllReadyH.cons (o := ?o61534) ?i61534 (fun K hK => ?_) AllReadyH.nil
            case i61534 => simp only [List.getElem?_toArray, List.getElem?_cons_succ, List.getElem?_cons_zero]; rfl
            go_simp
            go_wp2_with fail
            refine hK.out _ _ ?h61534 (fun _ => ?_)
            case h61534 => exact hf1
            clear hK K
            refine wpAnyH_gen (fun W6 hW6 => ?_)
            have e6 : W6 = storeAll W1534 W153.heap.size (cfgCells ⟨q0a, q1a, q2a, q3a, q4a, q5a, q6a, q7a, PAa, pna, pcapa, partsa, QAa, qna, qcapa, portsa, RAa, rna, rcapa, routesa⟩).toList 0 := hW6
            rw [← e6] at hf2 hM0
            clear hW6 e6 hf1 hf3 fr k0 k1 k2 k3 k4 k5 k6 k7 k8 k9 k10
            have k0 := cell_at hf2 0 rfl
            have k1 := cell_at hf2 1 rfl
            have k2 := cell_at hf2 2 rfl
            have k3 := cell_at hf2 3 rfl
            have k4 := cell_at hf2 4 rfl
            have k5 := cell_at hf2 5 rfl
            have k6 := cell_at hf2 6 rfl
            have k7 := cell_at hf2 7 rfl
            have k8 := cell_at hf2 8 rfl
            have k9 := cell_at hf2 9 rfl
            have k10 := cell_at hf2 10 rfl
            have fr := fun i => free_at hf2 i
            obtain ⟨Bb, hM⟩ := hM0
            refine wpAnyH_ready (rs := [7]) (by kernel_rfl) (by simp) ?_
            refine AllReadyH.cons (o := ?o71534) ?i71534 (fun K hK => ?_) AllReadyH.nil
            case i71534 => simp only [List.getElem?_toArray, List.getElem?_cons_succ, List.getElem?_cons_zero]; rfl
            go_simp
            go_wp2_with fail
            refine hK.out _ _ ?h71534 (fun _ => ?_)
            case h71534 => exact hM.box
            clear hK K
            refine wpAnyH_done (by kernel_rfl) ?_ _
            clear fr k0 k1 k2 k3 k4 k5 k6 k7 k8 k9 k10
            go_wp2_with fail
            go_meet
            exact ⟨_, _, Bb, _, _, rfl, rfl, hpa, hpb, hM⟩
          · go_simp
            refine hK.out _ _ ?hh154 (fun _ => ?_)
            case hh154 => first | exact hd15.alloc _ | exact hd15.alloc1 _
            clear hK K
            refine wpAnyH_gen (fun W154 hW154 => ?_)
            have hb154 : Below W15.heap.size W15 W154 := by rw [hW154]; first | exact (Below.refl _ _).alloc (Nat.le_refl _) _ | exact ((Below.refl _ _).alloc (Nat.le_refl _) _).drew
            have hd154 := hd15.step hb154
            have t5154 : W154.heap[W15.heap.size]? = some (.cells zeroC 26 (0, 0)) := by rw [hW154]; exact heap_alloc_new W15 _
            have h5154 : (boxC w ⟨nodes, faulty, slot, gap, rho, dmin, dmax, margin, PA, pn, pcap, parts, QA, qn, qcap, ports, RA, rn, rcap, routes⟩).heap.size ≤ W15.heap.size := hd15.size
            have hne154 : W15.heap.size ≠ W1.heap.size := by have := lt_of_block t615; omega
            have t6154 := (hb154.block _ (lt_of_block t615)).trans t615
            have ha154 := ha15.kept hb154
            clear hW154
            refine wpAnyH_ready (rs := [3]) (by kernel_rfl) (by simp) ?_
            refine AllReadyH.cons (o := ?or154) ?ir154 (fun K hK => ?_) AllReadyH.nil
            case ir154 => simp only [List.getElem?_toArray, List.getElem?_cons_succ, List.getElem?_cons_zero]; rfl
            go_simp
            refine (HCo.out _ hd154).mono ?_
            rintro e W1543 ⟨cb, rfl, hcb, hpb, o1b, o2b, o3b, hb1543⟩
            have hd1543 := hd154.step hb1543
            have t51543 := (hb1543.block _ (lt_of_block t5154)).trans t5154
            have t61543 := (hb1543.block _ (lt_of_block t6154)).trans t6154
            have ha1543 := ha154.kept hb1543
            have hp1543 : OwnI partVals 9 47 W154.heap.size (.slice cb.PA cb.pn cb.pcap) cb.parts W1543 := ⟨own_low o1b.own (by omega)⟩
            have hah1543 : ∀ q, (Value.slice ca.PA ca.pn ca.pcap).ownBlock = some q → q < W154.heap.size := fun q hq => (ha154.parts.own.lt q hq).2
            have hbl1543 := hcb.plen
            have hBb1543 : (boxC w ⟨nodes, faulty, slot, gap, rho, dmin, dmax, margin, PA, pn, pcap, parts, QA, qn, qcap, ports, RA, rn, rcap, routes⟩).heap.size ≤ W154.heap.size := hd154.size
            have hz1543 := hb1543.size
            clear o1b o2b o3b hcb
            go_wp2_with fail
            refine hK.out _ _ hd1543 (fun _ => ?_)
            clear hK K
            obtain ⟨hf1, hf2, hf3⟩ := more_fin hd1543 t51543 t61543 hne154 ⟨Nat.le_refl _, h5154, h615, hBb1543, hz1543⟩ ha1543 hah1543 hbl1543 hp1543
            have hM0 : ∃ Bb, MoreS w ⟨nodes, faulty, slot, gap, rho, dmin, dmax, margin, PA, pn, pcap, parts, QA, qn, qcap, ports, RA, rn, rcap, routes⟩ (boxC w ⟨nodes, faulty, slot, gap, rho, dmin, dmax, margin, PA, pn, pcap, parts, QA, qn, qcap, ports, RA, rn, rcap, routes⟩).heap.size Bb ca cb W15.heap.size W1.heap.size (storeAll (storeAll W1543 W15.heap.size (cfgCells ca).toList 0) W1.heap.size (cfgCells cb).toList 0) := ⟨_, hf3⟩
            have k0 := cell_at t51543 0 rfl
            have k1 := cell_at t51543 1 rfl
            have k2 := cell_at t51543 2 rfl
            have k3 := cell_at t51543 3 rfl
            have k4 := cell_at t51543 4 rfl
            have k5 := cell_at t51543 5 rfl
            have k6 := cell_at t51543 6 rfl
            have k7 := cell_at t51543 7 rfl
            have k8 := cell_at t51543 8 rfl
            have k9 := cell_at t51543 9 rfl
            have k10 := cell_at t51543 10 rfl
            have fr := fun i => free_at t51543 i
            obtain ⟨q0a, q1a, q2a, q3a, q4a, q5a, q6a, q7a, PAa, pna, pcapa, partsa, QAa, qna, qcapa, portsa, RAa, rna, rcapa, routesa⟩ := ca
            obtain ⟨q0b, q1b, q2b, q3b, q4b, q5b, q6b, q7b, PAb, pnb, pcapb, partsb, QAb, qnb, qcapb, portsb, RAb, rnb, rcapb, routesb⟩ := cb
            simp only [CfgC.value]
            refine wpAnyH_ready (rs := [6]) (by kernel_rfl) (by simp) ?_
            refine AllReadyH.cons (o := ?o61543) ?i61543 (fun K hK => ?_) AllReadyH.nil
            case i61543 => simp only [List.getElem?_toArray, List.getElem?_cons_succ, List.getElem?_cons_zero]; rfl
            go_simp
            go_wp2_with fail
            refine hK.out _ _ ?h61543 (fun _ => ?_)
            case h61543 => exact hf1
            clear hK K
            refine wpAnyH_gen (fun W6 hW6 => ?_)
            have e6 : W6 = storeAll W1543 W15.heap.size (cfgCells ⟨q0a, q1a, q2a, q3a, q4a, q5a, q6a, q7a, PAa, pna, pcapa, partsa, QAa, qna, qcapa, portsa, RAa, rna, rcapa, routesa⟩).toList 0 := hW6
            rw [← e6] at hf2 hM0
            clear hW6 e6 hf1 hf3 fr k0 k1 k2 k3 k4 k5 k6 k7 k8 k9 k10
            have k0 := cell_at hf2 0 rfl
            have k1 := cell_at hf2 1 rfl
            have k2 := cell_at hf2 2 rfl
            have k3 := cell_at hf2 3 rfl
            have k4 := cell_at hf2 4 rfl
            have k5 := cell_at hf2 5 rfl
            have k6 := cell_at hf2 6 rfl
            have k7 := cell_at hf2 7 rfl
            have k8 := cell_at hf2 8 rfl
            have k9 := cell_at hf2 9 rfl
            have k10 := cell_at hf2 10 rfl
            have fr := fun i => free_at hf2 i
            obtain ⟨Bb, hM⟩ := hM0
            refine wpAnyH_ready (rs := [7]) (by kernel_rfl) (by simp) ?_
            refine AllReadyH.cons (o := ?o71543) ?i71543 (fun K hK => ?_) AllReadyH.nil
            case i71543 => simp only [List.getElem?_toArray, List.getElem?_cons_succ, List.getElem?_cons_zero]; rfl
            go_simp
            go_wp2_with fail
            refine hK.out _ _ ?h71543 (fun _ => ?_)
            case h71543 => exact hM.box
            clear hK K
            refine wpAnyH_done (by kernel_rfl) ?_ _
            clear fr k0 k1 k2 k3 k4 k5 k6 k7 k8 k9 k10
            go_wp2_with fail
            go_meet
            exact ⟨_, _, Bb, _, _, rfl, rfl, hpa, hpb, hM⟩
      · go_simp
        refine hK.out _ _ ?hh4 (fun _ => ?_)
        case hh4 => first | exact hd0.alloc _ | exact hd0.alloc1 _
        clear hK K
        refine wpAnyH_gen (fun W4 hW4 => ?_)
        have hb4 : Below W0.heap.size W0 W4 := by rw [hW4]; first | exact (Below.refl _ _).alloc (Nat.le_refl _) _ | exact ((Below.refl _ _).alloc (Nat.le_refl _) _).drew
        have hd4 := hd0.step hb4
        have t54 : W4.heap[W0.heap.size]? = some (.cells zeroC 26 (0, 0)) := by rw [hW4]; exact heap_alloc_new W0 _
        have h54 : (boxC w ⟨nodes, faulty, slot, gap, rho, dmin, dmax, margin, PA, pn, pcap, parts, QA, qn, qcap, ports, RA, rn, rcap, routes⟩).heap.size ≤ W0.heap.size := hd0.size
        clear hW4
        refine wpAnyH_ready (rs := [1, 5]) (by kernel_rfl) (by simp) ?_
        refine AllReadyH.cons (o := ?or4x1) ?ir4x1 (fun K hK => ?_) (AllReadyH.cons (o := ?or4x5) ?ir4x5 (fun K hK => ?_) AllReadyH.nil)
        case ir4x1 => simp only [List.getElem?_toArray, List.getElem?_cons_succ, List.getElem?_cons_zero]; rfl
        case ir4x5 => simp only [List.getElem?_toArray, List.getElem?_cons_succ, List.getElem?_cons_zero]; rfl
        · go_simp
          refine (HCo.out _ hd4).mono ?_
          rintro e W41 ⟨ca, rfl, hca, hpa, o1a, o2a, o3a, hb41⟩
          have hd41 := hd4.step hb41
          have t541 := (hb41.block _ (lt_of_block t54)).trans t54
          have ha41 : CopyI (boxC w ⟨nodes, faulty, slot, gap, rho, dmin, dmax, margin, PA, pn, pcap, parts, QA, qn, qcap, ports, RA, rn, rcap, routes⟩).heap.size ca W41 := ⟨hca.plen, hca.qlen, hca.rlen, ⟨own_low o1a.own (by have := hd4.size; omega)⟩, ⟨own_low o2a.own (by have := hd4.size; omega)⟩, ⟨own_low o3a.own (by have := hd4.size; omega)⟩⟩
          clear o1a o2a o3a hca
          go_wp2_with fail
          refine hK.out _ _ hd41 (fun _ => ?_)
          clear hK K
          refine wpAnyH_ready (rs := [3, 5]) (by kernel_rfl) (by simp) ?_
          refine AllReadyH.cons (o := ?or41x3) ?ir41x3 (fun K hK => ?_) (AllReadyH.cons (o := ?or41x5) ?ir41x5 (fun K hK => ?_) AllReadyH.nil)
          case ir41x3 => simp only [List.getElem?_toArray, List.getElem?_cons_succ, List.getElem?_cons_zero]; rfl
          case ir41x5 => simp only [List.getElem?_toArray, List.getElem?_cons_succ, List.getElem?_cons_zero]; rfl
          · go_simp
            refine (HCo.out _ hd41).mono ?_
            rintro e W413 ⟨cb, rfl, hcb, hpb, o1b, o2b, o3b, hb413⟩
            have hd413 := hd41.step hb413
            have t5413 := (hb413.block _ (lt_of_block t541)).trans t541
            have ha413 := ha41.kept hb413
            have hp413 : OwnI partVals 9 47 W41.heap.size (.slice cb.PA cb.pn cb.pcap) cb.parts W413 := ⟨own_low o1b.own (by omega)⟩
            have hah413 : ∀ q, (Value.slice ca.PA ca.pn ca.pcap).ownBlock = some q → q < W41.heap.size := fun q hq => (ha41.parts.own.lt q hq).2
            have hbl413 := hcb.plen
            have hBb413 : (boxC w ⟨nodes, faulty, slot, gap, rho, dmin, dmax, margin, PA, pn, pcap, parts, QA, qn, qcap, ports, RA, rn, rcap, routes⟩).heap.size ≤ W41.heap.size := hd41.size
            have hz413 := hb413.size
            clear o1b o2b o3b hcb
            go_wp2_with fail
            refine hK.out _ _ hd413 (fun _ => ?_)
            clear hK K
            refine wpAnyH_ready (rs := [5]) (by kernel_rfl) (by simp) ?_
            refine AllReadyH.cons (o := ?or413) ?ir413 (fun K hK => ?_) AllReadyH.nil
            case ir413 => simp only [List.getElem?_toArray, List.getElem?_cons_succ, List.getElem?_cons_zero]; rfl
            go_simp
            refine hK.out _ _ ?hh4135 (fun _ => ?_)
            case hh4135 => first | exact hd413.alloc _ | exact hd413.alloc1 _
            clear hK K
            refine wpAnyH_gen (fun W4135 hW4135 => ?_)
            have hb4135 : Below W413.heap.size W413 W4135 := by rw [hW4135]; first | exact (Below.refl _ _).alloc (Nat.le_refl _) _ | exact ((Below.refl _ _).alloc (Nat.le_refl _) _).drew
            have hd4135 := hd413.step hb4135
            have t64135 : W4135.heap[W413.heap.size]? = some (.cells zeroC 26 (0, 0)) := by rw [hW4135]; exact heap_alloc_new W413 _
            have h64135 : (boxC w ⟨nodes, faulty, slot, gap, rho, dmin, dmax, margin, PA, pn, pcap, parts, QA, qn, qcap, ports, RA, rn, rcap, routes⟩).heap.size ≤ W413.heap.size := hd413.size
            have hne4135 : W0.heap.size ≠ W413.heap.size := by have := lt_of_block t5413; omega
            have t54135 := (hb4135.block _ (lt_of_block t5413)).trans t5413
            have ha4135 := ha413.kept hb4135
            have hp4135 := hp413.kept hb4135
            have hz4135 := Nat.le_trans hz413 hb4135.size
            clear hW4135
            obtain ⟨hf1, hf2, hf3⟩ := more_fin hd4135 t54135 t64135 hne4135 ⟨Nat.le_refl _, h54, h64135, hBb413, hz4135⟩ ha4135 hah413 hbl413 hp4135
            have hM0 : ∃ Bb, MoreS w ⟨nodes, faulty, slot, gap, rho, dmin, dmax, margin, PA, pn, pcap, parts, QA, qn, qcap, ports, RA, rn, rcap, routes⟩ (boxC w ⟨nodes, faulty, slot, gap, rho, dmin, dmax, margin, PA, pn, pcap, parts, QA, qn, qcap, ports, RA, rn, rcap, routes⟩).heap.size Bb ca cb W0.heap.size W413.heap.size (storeAll (storeAll W4135 W0.heap.size (cfgCells ca).toList 0) W413.heap.size (cfgCells cb).toList 0) := ⟨_, hf3⟩
            have k0 := cell_at t54135 0 rfl
            have k1 := cell_at t54135 1 rfl
            have k2 := cell_at t54135 2 rfl
            have k3 := cell_at t54135 3 rfl
            have k4 := cell_at t54135 4 rfl
            have k5 := cell_at t54135 5 rfl
            have k6 := cell_at t54135 6 rfl
            have k7 := cell_at t54135 7 rfl
            have k8 := cell_at t54135 8 rfl
            have k9 := cell_at t54135 9 rfl
            have k10 := cell_at t54135 10 rfl
            have fr := fun i => free_at t54135 i
            obtain ⟨q0a, q1a, q2a, q3a, q4a, q5a, q6a, q7a, PAa, pna, pcapa, partsa, QAa, qna, qcapa, portsa, RAa, rna, rcapa, routesa⟩ := ca
            obtain ⟨q0b, q1b, q2b, q3b, q4b, q5b, q6b, q7b, PAb, pnb, pcapb, partsb, QAb, qnb, qcapb, portsb, RAb, rnb, rcapb, routesb⟩ := cb
            simp only [CfgC.value]
            refine wpAnyH_ready (rs := [6]) (by kernel_rfl) (by simp) ?_
            refine AllReadyH.cons (o := ?o64135) ?i64135 (fun K hK => ?_) AllReadyH.nil
            case i64135 => simp only [List.getElem?_toArray, List.getElem?_cons_succ, List.getElem?_cons_zero]; rfl
            go_simp
            go_wp2_with fail
            refine hK.out _ _ ?h64135 (fun _ => ?_)
            case h64135 => exact hf1
            clear hK K
            refine wpAnyH_gen (fun W6 hW6 => ?_)
            have e6 : W6 = storeAll W4135 W0.heap.size (cfgCells ⟨q0a, q1a, q2a, q3a, q4a, q5a, q6a, q7a, PAa, pna, pcapa, partsa, QAa, qna, qcapa, portsa, RAa, rna, rcapa, routesa⟩).toList 0 := hW6
            rw [← e6] at hf2 hM0
            clear hW6 e6 hf1 hf3 fr k0 k1 k2 k3 k4 k5 k6 k7 k8 k9 k10
            have k0 := cell_at hf2 0 rfl
            have k1 := cell_at hf2 1 rfl
            have k2 := cell_at hf2 2 rfl
            have k3 := cell_at hf2 3 rfl
            have k4 := cell_at hf2 4 rfl
            have k5 := cell_at hf2 5 rfl
            have k6 := cell_at hf2 6 rfl
            have k7 := cell_at hf2 7 rfl
            have k8 := cell_at hf2 8 rfl
            have k9 := cell_at hf2 9 rfl
            have k10 := cell_at hf2 10 rfl
            have fr := fun i => free_at hf2 i
            obtain ⟨Bb, hM⟩ := hM0
            refine wpAnyH_ready (rs := [7]) (by kernel_rfl) (by simp) ?_
            refine AllReadyH.cons (o := ?o74135) ?i74135 (fun K hK => ?_) AllReadyH.nil
            case i74135 => simp only [List.getElem?_toArray, List.getElem?_cons_succ, List.getElem?_cons_zero]; rfl
            go_simp
            go_wp2_with fail
            refine hK.out _ _ ?h74135 (fun _ => ?_)
            case h74135 => exact hM.box
            clear hK K
            refine wpAnyH_done (by kernel_rfl) ?_ _
            clear fr k0 k1 k2 k3 k4 k5 k6 k7 k8 k9 k10
            go_wp2_with fail
            go_meet
            exact ⟨_, _, Bb, _, _, rfl, rfl, hpa, hpb, hM⟩
          · go_simp
            refine hK.out _ _ ?hh415 (fun _ => ?_)
            case hh415 => first | exact hd41.alloc _ | exact hd41.alloc1 _
            clear hK K
            refine wpAnyH_gen (fun W415 hW415 => ?_)
            have hb415 : Below W41.heap.size W41 W415 := by rw [hW415]; first | exact (Below.refl _ _).alloc (Nat.le_refl _) _ | exact ((Below.refl _ _).alloc (Nat.le_refl _) _).drew
            have hd415 := hd41.step hb415
            have t6415 : W415.heap[W41.heap.size]? = some (.cells zeroC 26 (0, 0)) := by rw [hW415]; exact heap_alloc_new W41 _
            have h6415 : (boxC w ⟨nodes, faulty, slot, gap, rho, dmin, dmax, margin, PA, pn, pcap, parts, QA, qn, qcap, ports, RA, rn, rcap, routes⟩).heap.size ≤ W41.heap.size := hd41.size
            have hne415 : W0.heap.size ≠ W41.heap.size := by have := lt_of_block t541; omega
            have t5415 := (hb415.block _ (lt_of_block t541)).trans t541
            have ha415 := ha41.kept hb415
            clear hW415
            refine wpAnyH_ready (rs := [3]) (by kernel_rfl) (by simp) ?_
            refine AllReadyH.cons (o := ?or415) ?ir415 (fun K hK => ?_) AllReadyH.nil
            case ir415 => simp only [List.getElem?_toArray, List.getElem?_cons_succ, List.getElem?_cons_zero]; rfl
            go_simp
            refine (HCo.out _ hd415).mono ?_
            rintro e W4153 ⟨cb, rfl, hcb, hpb, o1b, o2b, o3b, hb4153⟩
            have hd4153 := hd415.step hb4153
            have t54153 := (hb4153.block _ (lt_of_block t5415)).trans t5415
            have t64153 := (hb4153.block _ (lt_of_block t6415)).trans t6415
            have ha4153 := ha415.kept hb4153
            have hp4153 : OwnI partVals 9 47 W415.heap.size (.slice cb.PA cb.pn cb.pcap) cb.parts W4153 := ⟨own_low o1b.own (by omega)⟩
            have hah4153 : ∀ q, (Value.slice ca.PA ca.pn ca.pcap).ownBlock = some q → q < W415.heap.size := fun q hq => (ha415.parts.own.lt q hq).2
            have hbl4153 := hcb.plen
            have hBb4153 : (boxC w ⟨nodes, faulty, slot, gap, rho, dmin, dmax, margin, PA, pn, pcap, parts, QA, qn, qcap, ports, RA, rn, rcap, routes⟩).heap.size ≤ W415.heap.size := hd415.size
            have hz4153 := hb4153.size
            clear o1b o2b o3b hcb
            go_wp2_with fail
            refine hK.out _ _ hd4153 (fun _ => ?_)
            clear hK K
            obtain ⟨hf1, hf2, hf3⟩ := more_fin hd4153 t54153 t64153 hne415 ⟨Nat.le_refl _, h54, h6415, hBb4153, hz4153⟩ ha4153 hah4153 hbl4153 hp4153
            have hM0 : ∃ Bb, MoreS w ⟨nodes, faulty, slot, gap, rho, dmin, dmax, margin, PA, pn, pcap, parts, QA, qn, qcap, ports, RA, rn, rcap, routes⟩ (boxC w ⟨nodes, faulty, slot, gap, rho, dmin, dmax, margin, PA, pn, pcap, parts, QA, qn, qcap, ports, RA, rn, rcap, routes⟩).heap.size Bb ca cb W0.heap.size W41.heap.size (storeAll (storeAll W4153 W0.heap.size (cfgCells ca).toList 0) W41.heap.size (cfgCells cb).toList 0) := ⟨_, hf3⟩
            have k0 := cell_at t54153 0 rfl
            have k1 := cell_at t54153 1 rfl
            have k2 := cell_at t54153 2 rfl
            have k3 := cell_at t54153 3 rfl
            have k4 := cell_at t54153 4 rfl
            have k5 := cell_at t54153 5 rfl
            have k6 := cell_at t54153 6 rfl
            have k7 := cell_at t54153 7 rfl
            have k8 := cell_at t54153 8 rfl
            have k9 := cell_at t54153 9 rfl
            have k10 := cell_at t54153 10 rfl
            have fr := fun i => free_at t54153 i
            obtain ⟨q0a, q1a, q2a, q3a, q4a, q5a, q6a, q7a, PAa, pna, pcapa, partsa, QAa, qna, qcapa, portsa, RAa, rna, rcapa, routesa⟩ := ca
            obtain ⟨q0b, q1b, q2b, q3b, q4b, q5b, q6b, q7b, PAb, pnb, pcapb, partsb, QAb, qnb, qcapb, portsb, RAb, rnb, rcapb, routesb⟩ := cb
            simp only [CfgC.value]
            refine wpAnyH_ready (rs := [6]) (by kernel_rfl) (by simp) ?_
            refine AllReadyH.cons (o := ?o64153) ?i64153 (fun K hK => ?_) AllReadyH.nil
            case i64153 => simp only [List.getElem?_toArray, List.getElem?_cons_succ, List.getElem?_cons_zero]; rfl
            go_simp
            go_wp2_with fail
            refine hK.out _ _ ?h64153 (fun _ => ?_)
            case h64153 => exact hf1
            clear hK K
            refine wpAnyH_gen (fun W6 hW6 => ?_)
            have e6 : W6 = storeAll W4153 W0.heap.size (cfgCells ⟨q0a, q1a, q2a, q3a, q4a, q5a, q6a, q7a, PAa, pna, pcapa, partsa, QAa, qna, qcapa, portsa, RAa, rna, rcapa, routesa⟩).toList 0 := hW6
            rw [← e6] at hf2 hM0
            clear hW6 e6 hf1 hf3 fr k0 k1 k2 k3 k4 k5 k6 k7 k8 k9 k10
            have k0 := cell_at hf2 0 rfl
            have k1 := cell_at hf2 1 rfl
            have k2 := cell_at hf2 2 rfl
            have k3 := cell_at hf2 3 rfl
            have k4 := cell_at hf2 4 rfl
            have k5 := cell_at hf2 5 rfl
            have k6 := cell_at hf2 6 rfl
            have k7 := cell_at hf2 7 rfl
            have k8 := cell_at hf2 8 rfl
            have k9 := cell_at hf2 9 rfl
            have k10 := cell_at hf2 10 rfl
            have fr := fun i => free_at hf2 i
            obtain ⟨Bb, hM⟩ := hM0
            refine wpAnyH_ready (rs := [7]) (by kernel_rfl) (by simp) ?_
            refine AllReadyH.cons (o := ?o74153) ?i74153 (fun K hK => ?_) AllReadyH.nil
            case i74153 => simp only [List.getElem?_toArray, List.getElem?_cons_succ, List.getElem?_cons_zero]; rfl
            go_simp
            go_wp2_with fail
            refine hK.out _ _ ?h74153 (fun _ => ?_)
            case h74153 => exact hM.box
            clear hK K
            refine wpAnyH_done (by kernel_rfl) ?_ _
            clear fr k0 k1 k2 k3 k4 k5 k6 k7 k8 k9 k10
            go_wp2_with fail
            go_meet
            exact ⟨_, _, Bb, _, _, rfl, rfl, hpa, hpb, hM⟩
        · go_simp
          refine hK.out _ _ ?hh45 (fun _ => ?_)
          case hh45 => first | exact hd4.alloc _ | exact hd4.alloc1 _
          clear hK K
          refine wpAnyH_gen (fun W45 hW45 => ?_)
          have hb45 : Below W4.heap.size W4 W45 := by rw [hW45]; first | exact (Below.refl _ _).alloc (Nat.le_refl _) _ | exact ((Below.refl _ _).alloc (Nat.le_refl _) _).drew
          have hd45 := hd4.step hb45
          have t645 : W45.heap[W4.heap.size]? = some (.cells zeroC 26 (0, 0)) := by rw [hW45]; exact heap_alloc_new W4 _
          have h645 : (boxC w ⟨nodes, faulty, slot, gap, rho, dmin, dmax, margin, PA, pn, pcap, parts, QA, qn, qcap, ports, RA, rn, rcap, routes⟩).heap.size ≤ W4.heap.size := hd4.size
          have hne45 : W0.heap.size ≠ W4.heap.size := by have := lt_of_block t54; omega
          have t545 := (hb45.block _ (lt_of_block t54)).trans t54
          clear hW45
          refine wpAnyH_ready (rs := [1]) (by kernel_rfl) (by simp) ?_
          refine AllReadyH.cons (o := ?or45) ?ir45 (fun K hK => ?_) AllReadyH.nil
          case ir45 => simp only [List.getElem?_toArray, List.getElem?_cons_succ, List.getElem?_cons_zero]; rfl
          go_simp
          refine (HCo.out _ hd45).mono ?_
          rintro e W451 ⟨ca, rfl, hca, hpa, o1a, o2a, o3a, hb451⟩
          have hd451 := hd45.step hb451
          have t5451 := (hb451.block _ (lt_of_block t545)).trans t545
          have t6451 := (hb451.block _ (lt_of_block t645)).trans t645
          have ha451 : CopyI (boxC w ⟨nodes, faulty, slot, gap, rho, dmin, dmax, margin, PA, pn, pcap, parts, QA, qn, qcap, ports, RA, rn, rcap, routes⟩).heap.size ca W451 := ⟨hca.plen, hca.qlen, hca.rlen, ⟨own_low o1a.own (by have := hd45.size; omega)⟩, ⟨own_low o2a.own (by have := hd45.size; omega)⟩, ⟨own_low o3a.own (by have := hd45.size; omega)⟩⟩
          clear o1a o2a o3a hca
          go_wp2_with fail
          refine hK.out _ _ hd451 (fun _ => ?_)
          clear hK K
          refine wpAnyH_ready (rs := [3]) (by kernel_rfl) (by simp) ?_
          refine AllReadyH.cons (o := ?or451) ?ir451 (fun K hK => ?_) AllReadyH.nil
          case ir451 => simp only [List.getElem?_toArray, List.getElem?_cons_succ, List.getElem?_cons_zero]; rfl
          go_simp
          refine (HCo.out _ hd451).mono ?_
          rintro e W4513 ⟨cb, rfl, hcb, hpb, o1b, o2b, o3b, hb4513⟩
          have hd4513 := hd451.step hb4513
          have t54513 := (hb4513.block _ (lt_of_block t5451)).trans t5451
          have t64513 := (hb4513.block _ (lt_of_block t6451)).trans t6451
          have ha4513 := ha451.kept hb4513
          have hp4513 : OwnI partVals 9 47 W451.heap.size (.slice cb.PA cb.pn cb.pcap) cb.parts W4513 := ⟨own_low o1b.own (by omega)⟩
          have hah4513 : ∀ q, (Value.slice ca.PA ca.pn ca.pcap).ownBlock = some q → q < W451.heap.size := fun q hq => (ha451.parts.own.lt q hq).2
          have hbl4513 := hcb.plen
          have hBb4513 : (boxC w ⟨nodes, faulty, slot, gap, rho, dmin, dmax, margin, PA, pn, pcap, parts, QA, qn, qcap, ports, RA, rn, rcap, routes⟩).heap.size ≤ W451.heap.size := hd451.size
          have hz4513 := hb4513.size
          clear o1b o2b o3b hcb
          go_wp2_with fail
          refine hK.out _ _ hd4513 (fun _ => ?_)
          clear hK K
          obtain ⟨hf1, hf2, hf3⟩ := more_fin hd4513 t54513 t64513 hne45 ⟨Nat.le_refl _, h54, h645, hBb4513, hz4513⟩ ha4513 hah4513 hbl4513 hp4513
          have hM0 : ∃ Bb, MoreS w ⟨nodes, faulty, slot, gap, rho, dmin, dmax, margin, PA, pn, pcap, parts, QA, qn, qcap, ports, RA, rn, rcap, routes⟩ (boxC w ⟨nodes, faulty, slot, gap, rho, dmin, dmax, margin, PA, pn, pcap, parts, QA, qn, qcap, ports, RA, rn, rcap, routes⟩).heap.size Bb ca cb W0.heap.size W4.heap.size (storeAll (storeAll W4513 W0.heap.size (cfgCells ca).toList 0) W4.heap.size (cfgCells cb).toList 0) := ⟨_, hf3⟩
          have k0 := cell_at t54513 0 rfl
          have k1 := cell_at t54513 1 rfl
          have k2 := cell_at t54513 2 rfl
          have k3 := cell_at t54513 3 rfl
          have k4 := cell_at t54513 4 rfl
          have k5 := cell_at t54513 5 rfl
          have k6 := cell_at t54513 6 rfl
          have k7 := cell_at t54513 7 rfl
          have k8 := cell_at t54513 8 rfl
          have k9 := cell_at t54513 9 rfl
          have k10 := cell_at t54513 10 rfl
          have fr := fun i => free_at t54513 i
          obtain ⟨q0a, q1a, q2a, q3a, q4a, q5a, q6a, q7a, PAa, pna, pcapa, partsa, QAa, qna, qcapa, portsa, RAa, rna, rcapa, routesa⟩ := ca
          obtain ⟨q0b, q1b, q2b, q3b, q4b, q5b, q6b, q7b, PAb, pnb, pcapb, partsb, QAb, qnb, qcapb, portsb, RAb, rnb, rcapb, routesb⟩ := cb
          simp only [CfgC.value]
          refine wpAnyH_ready (rs := [6]) (by kernel_rfl) (by simp) ?_
          refine AllReadyH.cons (o := ?o64513) ?i64513 (fun K hK => ?_) AllReadyH.nil
          case i64513 => simp only [List.getElem?_toArray, List.getElem?_cons_succ, List.getElem?_cons_zero]; rfl
          go_simp
          go_wp2_with fail
          refine hK.out _ _ ?h64513 (fun _ => ?_)
          case h64513 => exact hf1
          clear hK K
          refine wpAnyH_gen (fun W6 hW6 => ?_)
          have e6 : W6 = storeAll W4513 W0.heap.size (cfgCells ⟨q0a, q1a, q2a, q3a, q4a, q5a, q6a, q7a, PAa, pna, pcapa, partsa, QAa, qna, qcapa, portsa, RAa, rna, rcapa, routesa⟩).toList 0 := hW6
          rw [← e6] at hf2 hM0
          clear hW6 e6 hf1 hf3 fr k0 k1 k2 k3 k4 k5 k6 k7 k8 k9 k10
          have k0 := cell_at hf2 0 rfl
          have k1 := cell_at hf2 1 rfl
          have k2 := cell_at hf2 2 rfl
          have k3 := cell_at hf2 3 rfl
          have k4 := cell_at hf2 4 rfl
          have k5 := cell_at hf2 5 rfl
          have k6 := cell_at hf2 6 rfl
          have k7 := cell_at hf2 7 rfl
          have k8 := cell_at hf2 8 rfl
          have k9 := cell_at hf2 9 rfl
          have k10 := cell_at hf2 10 rfl
          have fr := fun i => free_at hf2 i
          obtain ⟨Bb, hM⟩ := hM0
          refine wpAnyH_ready (rs := [7]) (by kernel_rfl) (by simp) ?_
          refine AllReadyH.cons (o := ?o74513) ?i74513 (fun K hK => ?_) AllReadyH.nil
          case i74513 => simp only [List.getElem?_toArray, List.getElem?_cons_succ, List.getElem?_cons_zero]; rfl
          go_simp
          go_wp2_with fail
          refine hK.out _ _ ?h74513 (fun _ => ?_)
          case h74513 => exact hM.box
          clear hK K
          refine wpAnyH_done (by kernel_rfl) ?_ _
          clear fr k0 k1 k2 k3 k4 k5 k6 k7 k8 k9 k10
          go_wp2_with fail
          go_meet
          exact ⟨_, _, Bb, _, _, rfl, rfl, hpa, hpb, hM⟩
      · go_simp
        refine hK.out _ _ ?hh5 (fun _ => ?_)
        case hh5 => first | exact hd0.alloc _ | exact hd0.alloc1 _
        clear hK K
        refine wpAnyH_gen (fun W5 hW5 => ?_)
        have hb5 : Below W0.heap.size W0 W5 := by rw [hW5]; first | exact (Below.refl _ _).alloc (Nat.le_refl _) _ | exact ((Below.refl _ _).alloc (Nat.le_refl _) _).drew
        have hd5 := hd0.step hb5
        have t65 : W5.heap[W0.heap.size]? = some (.cells zeroC 26 (0, 0)) := by rw [hW5]; exact heap_alloc_new W0 _
        have h65 : (boxC w ⟨nodes, faulty, slot, gap, rho, dmin, dmax, margin, PA, pn, pcap, parts, QA, qn, qcap, ports, RA, rn, rcap, routes⟩).heap.size ≤ W0.heap.size := hd0.size
        clear hW5
        refine wpAnyH_ready (rs := [1, 4]) (by kernel_rfl) (by simp) ?_
        refine AllReadyH.cons (o := ?or5x1) ?ir5x1 (fun K hK => ?_) (AllReadyH.cons (o := ?or5x4) ?ir5x4 (fun K hK => ?_) AllReadyH.nil)
        case ir5x1 => simp only [List.getElem?_toArray, List.getElem?_cons_succ, List.getElem?_cons_zero]; rfl
        case ir5x4 => simp only [List.getElem?_toArray, List.getElem?_cons_succ, List.getElem?_cons_zero]; rfl
        · go_simp
          refine (HCo.out _ hd5).mono ?_
          rintro e W51 ⟨ca, rfl, hca, hpa, o1a, o2a, o3a, hb51⟩
          have hd51 := hd5.step hb51
          have t651 := (hb51.block _ (lt_of_block t65)).trans t65
          have ha51 : CopyI (boxC w ⟨nodes, faulty, slot, gap, rho, dmin, dmax, margin, PA, pn, pcap, parts, QA, qn, qcap, ports, RA, rn, rcap, routes⟩).heap.size ca W51 := ⟨hca.plen, hca.qlen, hca.rlen, ⟨own_low o1a.own (by have := hd5.size; omega)⟩, ⟨own_low o2a.own (by have := hd5.size; omega)⟩, ⟨own_low o3a.own (by have := hd5.size; omega)⟩⟩
          clear o1a o2a o3a hca
          go_wp2_with fail
          refine hK.out _ _ hd51 (fun _ => ?_)
          clear hK K
          refine wpAnyH_ready (rs := [3, 4]) (by kernel_rfl) (by simp) ?_
          refine AllReadyH.cons (o := ?or51x3) ?ir51x3 (fun K hK => ?_) (AllReadyH.cons (o := ?or51x4) ?ir51x4 (fun K hK => ?_) AllReadyH.nil)
          case ir51x3 => simp only [List.getElem?_toArray, List.getElem?_cons_succ, List.getElem?_cons_zero]; rfl
          case ir51x4 => simp only [List.getElem?_toArray, List.getElem?_cons_succ, List.getElem?_cons_zero]; rfl
          · go_simp
            refine (HCo.out _ hd51).mono ?_
            rintro e W513 ⟨cb, rfl, hcb, hpb, o1b, o2b, o3b, hb513⟩
            have hd513 := hd51.step hb513
            have t6513 := (hb513.block _ (lt_of_block t651)).trans t651
            have ha513 := ha51.kept hb513
            have hp513 : OwnI partVals 9 47 W51.heap.size (.slice cb.PA cb.pn cb.pcap) cb.parts W513 := ⟨own_low o1b.own (by omega)⟩
            have hah513 : ∀ q, (Value.slice ca.PA ca.pn ca.pcap).ownBlock = some q → q < W51.heap.size := fun q hq => (ha51.parts.own.lt q hq).2
            have hbl513 := hcb.plen
            have hBb513 : (boxC w ⟨nodes, faulty, slot, gap, rho, dmin, dmax, margin, PA, pn, pcap, parts, QA, qn, qcap, ports, RA, rn, rcap, routes⟩).heap.size ≤ W51.heap.size := hd51.size
            have hz513 := hb513.size
            clear o1b o2b o3b hcb
            go_wp2_with fail
            refine hK.out _ _ hd513 (fun _ => ?_)
            clear hK K
            refine wpAnyH_ready (rs := [4]) (by kernel_rfl) (by simp) ?_
            refine AllReadyH.cons (o := ?or513) ?ir513 (fun K hK => ?_) AllReadyH.nil
            case ir513 => simp only [List.getElem?_toArray, List.getElem?_cons_succ, List.getElem?_cons_zero]; rfl
            go_simp
            refine hK.out _ _ ?hh5134 (fun _ => ?_)
            case hh5134 => first | exact hd513.alloc _ | exact hd513.alloc1 _
            clear hK K
            refine wpAnyH_gen (fun W5134 hW5134 => ?_)
            have hb5134 : Below W513.heap.size W513 W5134 := by rw [hW5134]; first | exact (Below.refl _ _).alloc (Nat.le_refl _) _ | exact ((Below.refl _ _).alloc (Nat.le_refl _) _).drew
            have hd5134 := hd513.step hb5134
            have t55134 : W5134.heap[W513.heap.size]? = some (.cells zeroC 26 (0, 0)) := by rw [hW5134]; exact heap_alloc_new W513 _
            have h55134 : (boxC w ⟨nodes, faulty, slot, gap, rho, dmin, dmax, margin, PA, pn, pcap, parts, QA, qn, qcap, ports, RA, rn, rcap, routes⟩).heap.size ≤ W513.heap.size := hd513.size
            have hne5134 : W513.heap.size ≠ W0.heap.size := by have := lt_of_block t6513; omega
            have t65134 := (hb5134.block _ (lt_of_block t6513)).trans t6513
            have ha5134 := ha513.kept hb5134
            have hp5134 := hp513.kept hb5134
            have hz5134 := Nat.le_trans hz513 hb5134.size
            clear hW5134
            obtain ⟨hf1, hf2, hf3⟩ := more_fin hd5134 t55134 t65134 hne5134 ⟨Nat.le_refl _, h55134, h65, hBb513, hz5134⟩ ha5134 hah513 hbl513 hp5134
            have hM0 : ∃ Bb, MoreS w ⟨nodes, faulty, slot, gap, rho, dmin, dmax, margin, PA, pn, pcap, parts, QA, qn, qcap, ports, RA, rn, rcap, routes⟩ (boxC w ⟨nodes, faulty, slot, gap, rho, dmin, dmax, margin, PA, pn, pcap, parts, QA, qn, qcap, ports, RA, rn, rcap, routes⟩).heap.size Bb ca cb W513.heap.size W0.heap.size (storeAll (storeAll W5134 W513.heap.size (cfgCells ca).toList 0) W0.heap.size (cfgCells cb).toList 0) := ⟨_, hf3⟩
            have k0 := cell_at t55134 0 rfl
            have k1 := cell_at t55134 1 rfl
            have k2 := cell_at t55134 2 rfl
            have k3 := cell_at t55134 3 rfl
            have k4 := cell_at t55134 4 rfl
            have k5 := cell_at t55134 5 rfl
            have k6 := cell_at t55134 6 rfl
            have k7 := cell_at t55134 7 rfl
            have k8 := cell_at t55134 8 rfl
            have k9 := cell_at t55134 9 rfl
            have k10 := cell_at t55134 10 rfl
            have fr := fun i => free_at t55134 i
            obtain ⟨q0a, q1a, q2a, q3a, q4a, q5a, q6a, q7a, PAa, pna, pcapa, partsa, QAa, qna, qcapa, portsa, RAa, rna, rcapa, routesa⟩ := ca
            obtain ⟨q0b, q1b, q2b, q3b, q4b, q5b, q6b, q7b, PAb, pnb, pcapb, partsb, QAb, qnb, qcapb, portsb, RAb, rnb, rcapb, routesb⟩ := cb
            simp only [CfgC.value]
            refine wpAnyH_ready (rs := [6]) (by kernel_rfl) (by simp) ?_
            refine AllReadyH.cons (o := ?o65134) ?i65134 (fun K hK => ?_) AllReadyH.nil
            case i65134 => simp only [List.getElem?_toArray, List.getElem?_cons_succ, List.getElem?_cons_zero]; rfl
            go_simp
            go_wp2_with fail
            refine hK.out _ _ ?h65134 (fun _ => ?_)
            case h65134 => exact hf1
            clear hK K
            refine wpAnyH_gen (fun W6 hW6 => ?_)
            have e6 : W6 = storeAll W5134 W513.heap.size (cfgCells ⟨q0a, q1a, q2a, q3a, q4a, q5a, q6a, q7a, PAa, pna, pcapa, partsa, QAa, qna, qcapa, portsa, RAa, rna, rcapa, routesa⟩).toList 0 := hW6
            rw [← e6] at hf2 hM0
            clear hW6 e6 hf1 hf3 fr k0 k1 k2 k3 k4 k5 k6 k7 k8 k9 k10
            have k0 := cell_at hf2 0 rfl
            have k1 := cell_at hf2 1 rfl
            have k2 := cell_at hf2 2 rfl
            have k3 := cell_at hf2 3 rfl
            have k4 := cell_at hf2 4 rfl
            have k5 := cell_at hf2 5 rfl
            have k6 := cell_at hf2 6 rfl
            have k7 := cell_at hf2 7 rfl
            have k8 := cell_at hf2 8 rfl
            have k9 := cell_at hf2 9 rfl
            have k10 := cell_at hf2 10 rfl
            have fr := fun i => free_at hf2 i
            obtain ⟨Bb, hM⟩ := hM0
            refine wpAnyH_ready (rs := [7]) (by kernel_rfl) (by simp) ?_
            refine AllReadyH.cons (o := ?o75134) ?i75134 (fun K hK => ?_) AllReadyH.nil
            case i75134 => simp only [List.getElem?_toArray, List.getElem?_cons_succ, List.getElem?_cons_zero]; rfl
            go_simp
            go_wp2_with fail
            refine hK.out _ _ ?h75134 (fun _ => ?_)
            case h75134 => exact hM.box
            clear hK K
            refine wpAnyH_done (by kernel_rfl) ?_ _
            clear fr k0 k1 k2 k3 k4 k5 k6 k7 k8 k9 k10
            go_wp2_with fail
            go_meet
            exact ⟨_, _, Bb, _, _, rfl, rfl, hpa, hpb, hM⟩
          · go_simp
            refine hK.out _ _ ?hh514 (fun _ => ?_)
            case hh514 => first | exact hd51.alloc _ | exact hd51.alloc1 _
            clear hK K
            refine wpAnyH_gen (fun W514 hW514 => ?_)
            have hb514 : Below W51.heap.size W51 W514 := by rw [hW514]; first | exact (Below.refl _ _).alloc (Nat.le_refl _) _ | exact ((Below.refl _ _).alloc (Nat.le_refl _) _).drew
            have hd514 := hd51.step hb514
            have t5514 : W514.heap[W51.heap.size]? = some (.cells zeroC 26 (0, 0)) := by rw [hW514]; exact heap_alloc_new W51 _
            have h5514 : (boxC w ⟨nodes, faulty, slot, gap, rho, dmin, dmax, margin, PA, pn, pcap, parts, QA, qn, qcap, ports, RA, rn, rcap, routes⟩).heap.size ≤ W51.heap.size := hd51.size
            have hne514 : W51.heap.size ≠ W0.heap.size := by have := lt_of_block t651; omega
            have t6514 := (hb514.block _ (lt_of_block t651)).trans t651
            have ha514 := ha51.kept hb514
            clear hW514
            refine wpAnyH_ready (rs := [3]) (by kernel_rfl) (by simp) ?_
            refine AllReadyH.cons (o := ?or514) ?ir514 (fun K hK => ?_) AllReadyH.nil
            case ir514 => simp only [List.getElem?_toArray, List.getElem?_cons_succ, List.getElem?_cons_zero]; rfl
            go_simp
            refine (HCo.out _ hd514).mono ?_
            rintro e W5143 ⟨cb, rfl, hcb, hpb, o1b, o2b, o3b, hb5143⟩
            have hd5143 := hd514.step hb5143
            have t55143 := (hb5143.block _ (lt_of_block t5514)).trans t5514
            have t65143 := (hb5143.block _ (lt_of_block t6514)).trans t6514
            have ha5143 := ha514.kept hb5143
            have hp5143 : OwnI partVals 9 47 W514.heap.size (.slice cb.PA cb.pn cb.pcap) cb.parts W5143 := ⟨own_low o1b.own (by omega)⟩
            have hah5143 : ∀ q, (Value.slice ca.PA ca.pn ca.pcap).ownBlock = some q → q < W514.heap.size := fun q hq => (ha514.parts.own.lt q hq).2
            have hbl5143 := hcb.plen
            have hBb5143 : (boxC w ⟨nodes, faulty, slot, gap, rho, dmin, dmax, margin, PA, pn, pcap, parts, QA, qn, qcap, ports, RA, rn, rcap, routes⟩).heap.size ≤ W514.heap.size := hd514.size
            have hz5143 := hb5143.size
            clear o1b o2b o3b hcb
            go_wp2_with fail
            refine hK.out _ _ hd5143 (fun _ => ?_)
            clear hK K
            obtain ⟨hf1, hf2, hf3⟩ := more_fin hd5143 t55143 t65143 hne514 ⟨Nat.le_refl _, h5514, h65, hBb5143, hz5143⟩ ha5143 hah5143 hbl5143 hp5143
            have hM0 : ∃ Bb, MoreS w ⟨nodes, faulty, slot, gap, rho, dmin, dmax, margin, PA, pn, pcap, parts, QA, qn, qcap, ports, RA, rn, rcap, routes⟩ (boxC w ⟨nodes, faulty, slot, gap, rho, dmin, dmax, margin, PA, pn, pcap, parts, QA, qn, qcap, ports, RA, rn, rcap, routes⟩).heap.size Bb ca cb W51.heap.size W0.heap.size (storeAll (storeAll W5143 W51.heap.size (cfgCells ca).toList 0) W0.heap.size (cfgCells cb).toList 0) := ⟨_, hf3⟩
            have k0 := cell_at t55143 0 rfl
            have k1 := cell_at t55143 1 rfl
            have k2 := cell_at t55143 2 rfl
            have k3 := cell_at t55143 3 rfl
            have k4 := cell_at t55143 4 rfl
            have k5 := cell_at t55143 5 rfl
            have k6 := cell_at t55143 6 rfl
            have k7 := cell_at t55143 7 rfl
            have k8 := cell_at t55143 8 rfl
            have k9 := cell_at t55143 9 rfl
            have k10 := cell_at t55143 10 rfl
            have fr := fun i => free_at t55143 i
            obtain ⟨q0a, q1a, q2a, q3a, q4a, q5a, q6a, q7a, PAa, pna, pcapa, partsa, QAa, qna, qcapa, portsa, RAa, rna, rcapa, routesa⟩ := ca
            obtain ⟨q0b, q1b, q2b, q3b, q4b, q5b, q6b, q7b, PAb, pnb, pcapb, partsb, QAb, qnb, qcapb, portsb, RAb, rnb, rcapb, routesb⟩ := cb
            simp only [CfgC.value]
            refine wpAnyH_ready (rs := [6]) (by kernel_rfl) (by simp) ?_
            refine AllReadyH.cons (o := ?o65143) ?i65143 (fun K hK => ?_) AllReadyH.nil
            case i65143 => simp only [List.getElem?_toArray, List.getElem?_cons_succ, List.getElem?_cons_zero]; rfl
            go_simp
            go_wp2_with fail
            refine hK.out _ _ ?h65143 (fun _ => ?_)
            case h65143 => exact hf1
            clear hK K
            refine wpAnyH_gen (fun W6 hW6 => ?_)
            have e6 : W6 = storeAll W5143 W51.heap.size (cfgCells ⟨q0a, q1a, q2a, q3a, q4a, q5a, q6a, q7a, PAa, pna, pcapa, partsa, QAa, qna, qcapa, portsa, RAa, rna, rcapa, routesa⟩).toList 0 := hW6
            rw [← e6] at hf2 hM0
            clear hW6 e6 hf1 hf3 fr k0 k1 k2 k3 k4 k5 k6 k7 k8 k9 k10
            have k0 := cell_at hf2 0 rfl
            have k1 := cell_at hf2 1 rfl
            have k2 := cell_at hf2 2 rfl
            have k3 := cell_at hf2 3 rfl
            have k4 := cell_at hf2 4 rfl
            have k5 := cell_at hf2 5 rfl
            have k6 := cell_at hf2 6 rfl
            have k7 := cell_at hf2 7 rfl
            have k8 := cell_at hf2 8 rfl
            have k9 := cell_at hf2 9 rfl
            have k10 := cell_at hf2 10 rfl
            have fr := fun i => free_at hf2 i
            obtain ⟨Bb, hM⟩ := hM0
            refine wpAnyH_ready (rs := [7]) (by kernel_rfl) (by simp) ?_
            refine AllReadyH.cons (o := ?o75143) ?i75143 (fun K hK => ?_) AllReadyH.nil
            case i75143 => simp only [List.getElem?_toArray, List.getElem?_cons_succ, List.getElem?_cons_zero]; rfl
            go_simp
            go_wp2_with fail
            refine hK.out _ _ ?h75143 (fun _ => ?_)
            case h75143 => exact hM.box
            clear hK K
            refine wpAnyH_done (by kernel_rfl) ?_ _
            clear fr k0 k1 k2 k3 k4 k5 k6 k7 k8 k9 k10
            go_wp2_with fail
            go_meet
            exact ⟨_, _, Bb, _, _, rfl, rfl, hpa, hpb, hM⟩
        · go_simp
          refine hK.out _ _ ?hh54 (fun _ => ?_)
          case hh54 => first | exact hd5.alloc _ | exact hd5.alloc1 _
          clear hK K
          refine wpAnyH_gen (fun W54 hW54 => ?_)
          have hb54 : Below W5.heap.size W5 W54 := by rw [hW54]; first | exact (Below.refl _ _).alloc (Nat.le_refl _) _ | exact ((Below.refl _ _).alloc (Nat.le_refl _) _).drew
          have hd54 := hd5.step hb54
          have t554 : W54.heap[W5.heap.size]? = some (.cells zeroC 26 (0, 0)) := by rw [hW54]; exact heap_alloc_new W5 _
          have h554 : (boxC w ⟨nodes, faulty, slot, gap, rho, dmin, dmax, margin, PA, pn, pcap, parts, QA, qn, qcap, ports, RA, rn, rcap, routes⟩).heap.size ≤ W5.heap.size := hd5.size
          have hne54 : W5.heap.size ≠ W0.heap.size := by have := lt_of_block t65; omega
          have t654 := (hb54.block _ (lt_of_block t65)).trans t65
          clear hW54
          refine wpAnyH_ready (rs := [1]) (by kernel_rfl) (by simp) ?_
          refine AllReadyH.cons (o := ?or54) ?ir54 (fun K hK => ?_) AllReadyH.nil
          case ir54 => simp only [List.getElem?_toArray, List.getElem?_cons_succ, List.getElem?_cons_zero]; rfl
          go_simp
          refine (HCo.out _ hd54).mono ?_
          rintro e W541 ⟨ca, rfl, hca, hpa, o1a, o2a, o3a, hb541⟩
          have hd541 := hd54.step hb541
          have t5541 := (hb541.block _ (lt_of_block t554)).trans t554
          have t6541 := (hb541.block _ (lt_of_block t654)).trans t654
          have ha541 : CopyI (boxC w ⟨nodes, faulty, slot, gap, rho, dmin, dmax, margin, PA, pn, pcap, parts, QA, qn, qcap, ports, RA, rn, rcap, routes⟩).heap.size ca W541 := ⟨hca.plen, hca.qlen, hca.rlen, ⟨own_low o1a.own (by have := hd54.size; omega)⟩, ⟨own_low o2a.own (by have := hd54.size; omega)⟩, ⟨own_low o3a.own (by have := hd54.size; omega)⟩⟩
          clear o1a o2a o3a hca
          go_wp2_with fail
          refine hK.out _ _ hd541 (fun _ => ?_)
          clear hK K
          refine wpAnyH_ready (rs := [3]) (by kernel_rfl) (by simp) ?_
          refine AllReadyH.cons (o := ?or541) ?ir541 (fun K hK => ?_) AllReadyH.nil
          case ir541 => simp only [List.getElem?_toArray, List.getElem?_cons_succ, List.getElem?_cons_zero]; rfl
          go_simp
          refine (HCo.out _ hd541).mono ?_
          rintro e W5413 ⟨cb, rfl, hcb, hpb, o1b, o2b, o3b, hb5413⟩
          have hd5413 := hd541.step hb5413
          have t55413 := (hb5413.block _ (lt_of_block t5541)).trans t5541
          have t65413 := (hb5413.block _ (lt_of_block t6541)).trans t6541
          have ha5413 := ha541.kept hb5413
          have hp5413 : OwnI partVals 9 47 W541.heap.size (.slice cb.PA cb.pn cb.pcap) cb.parts W5413 := ⟨own_low o1b.own (by omega)⟩
          have hah5413 : ∀ q, (Value.slice ca.PA ca.pn ca.pcap).ownBlock = some q → q < W541.heap.size := fun q hq => (ha541.parts.own.lt q hq).2
          have hbl5413 := hcb.plen
          have hBb5413 : (boxC w ⟨nodes, faulty, slot, gap, rho, dmin, dmax, margin, PA, pn, pcap, parts, QA, qn, qcap, ports, RA, rn, rcap, routes⟩).heap.size ≤ W541.heap.size := hd541.size
          have hz5413 := hb5413.size
          clear o1b o2b o3b hcb
          go_wp2_with fail
          refine hK.out _ _ hd5413 (fun _ => ?_)
          clear hK K
          obtain ⟨hf1, hf2, hf3⟩ := more_fin hd5413 t55413 t65413 hne54 ⟨Nat.le_refl _, h554, h65, hBb5413, hz5413⟩ ha5413 hah5413 hbl5413 hp5413
          have hM0 : ∃ Bb, MoreS w ⟨nodes, faulty, slot, gap, rho, dmin, dmax, margin, PA, pn, pcap, parts, QA, qn, qcap, ports, RA, rn, rcap, routes⟩ (boxC w ⟨nodes, faulty, slot, gap, rho, dmin, dmax, margin, PA, pn, pcap, parts, QA, qn, qcap, ports, RA, rn, rcap, routes⟩).heap.size Bb ca cb W5.heap.size W0.heap.size (storeAll (storeAll W5413 W5.heap.size (cfgCells ca).toList 0) W0.heap.size (cfgCells cb).toList 0) := ⟨_, hf3⟩
          have k0 := cell_at t55413 0 rfl
          have k1 := cell_at t55413 1 rfl
          have k2 := cell_at t55413 2 rfl
          have k3 := cell_at t55413 3 rfl
          have k4 := cell_at t55413 4 rfl
          have k5 := cell_at t55413 5 rfl
          have k6 := cell_at t55413 6 rfl
          have k7 := cell_at t55413 7 rfl
          have k8 := cell_at t55413 8 rfl
          have k9 := cell_at t55413 9 rfl
          have k10 := cell_at t55413 10 rfl
          have fr := fun i => free_at t55413 i
          obtain ⟨q0a, q1a, q2a, q3a, q4a, q5a, q6a, q7a, PAa, pna, pcapa, partsa, QAa, qna, qcapa, portsa, RAa, rna, rcapa, routesa⟩ := ca
          obtain ⟨q0b, q1b, q2b, q3b, q4b, q5b, q6b, q7b, PAb, pnb, pcapb, partsb, QAb, qnb, qcapb, portsb, RAb, rnb, rcapb, routesb⟩ := cb
          simp only [CfgC.value]
          refine wpAnyH_ready (rs := [6]) (by kernel_rfl) (by simp) ?_
          refine AllReadyH.cons (o := ?o65413) ?i65413 (fun K hK => ?_) AllReadyH.nil
          case i65413 => simp only [List.getElem?_toArray, List.getElem?_cons_succ, List.getElem?_cons_zero]; rfl
          go_simp
          go_wp2_with fail
          refine hK.out _ _ ?h65413 (fun _ => ?_)
          case h65413 => exact hf1
          clear hK K
          refine wpAnyH_gen (fun W6 hW6 => ?_)
          have e6 : W6 = storeAll W5413 W5.heap.size (cfgCells ⟨q0a, q1a, q2a, q3a, q4a, q5a, q6a, q7a, PAa, pna, pcapa, partsa, QAa, qna, qcapa, portsa, RAa, rna, rcapa, routesa⟩).toList 0 := hW6
          rw [← e6] at hf2 hM0
          clear hW6 e6 hf1 hf3 fr k0 k1 k2 k3 k4 k5 k6 k7 k8 k9 k10
          have k0 := cell_at hf2 0 rfl
          have k1 := cell_at hf2 1 rfl
          have k2 := cell_at hf2 2 rfl
          have k3 := cell_at hf2 3 rfl
          have k4 := cell_at hf2 4 rfl
          have k5 := cell_at hf2 5 rfl
          have k6 := cell_at hf2 6 rfl
          have k7 := cell_at hf2 7 rfl
          have k8 := cell_at hf2 8 rfl
          have k9 := cell_at hf2 9 rfl
          have k10 := cell_at hf2 10 rfl
          have fr := fun i => free_at hf2 i
          obtain ⟨Bb, hM⟩ := hM0
          refine wpAnyH_ready (rs := [7]) (by kernel_rfl) (by simp) ?_
          refine AllReadyH.cons (o := ?o75413) ?i75413 (fun K hK => ?_) AllReadyH.nil
          case i75413 => simp only [List.getElem?_toArray, List.getElem?_cons_succ, List.getElem?_cons_zero]; rfl
          go_simp
          go_wp2_with fail
          refine hK.out _ _ ?h75413 (fun _ => ?_)
          case h75413 => exact hM.box
          clear hK K
          refine wpAnyH_done (by kernel_rfl) ?_ _
          clear fr k0 k1 k2 k3 k4 k5 k6 k7 k8 k9 k10
          go_wp2_with fail
          go_meet
          exact ⟨_, _, Bb, _, _, rfl, rfl, hpa, hpb, hM⟩
    case rest =>
    obtain ⟨T5, T6, Bb, ca, cb, rfl, rfl, hpa, hpb, hM⟩ := hcut
    have HM := Lib.hid hM
    have Hd9 := Lib.hid hM.box
    clear hM Hd2 HCo d0 d1 d2 d3 d4 d5 d6 d7 d8 d9 d10
    obtain ⟨q0a, q1a, q2a, q3a, q4a, q5a, q6a, q7a, PAa, pna, pcapa, partsa, QAa, qna, qcapa, portsa, RAa, rna, rcapa, routesa⟩ := ca
    obtain ⟨q0b, q1b, q2b, q3b, q4b, q5b, q6b, q7b, PAb, pnb, pcapb, partsb, QAb, qnb, qcapb, portsb, RAb, rnb, rcapb, routesb⟩ := cb
    replace hpa := hpa.symm
    replace hpb := hpb.symm
    simp only [CfgC.plain, TableP.Cfg.mk.injEq] at hpa hpb
    obtain ⟨rfl, rfl, rfl, rfl, rfl, rfl, rfl, rfl, rfl, rfl, rfl⟩ := hpa
    obtain ⟨rfl, rfl, rfl, rfl, rfl, rfl, rfl, rfl, rfl, rfl, rfl⟩ := hpb
    have hp12 : parts.length ≤ 12 := HW.out.allowed.parts
    have hq24 : ports.length ≤ 24 := HW.out.allowed.ports
    have hr24 : routes.length ≤ 24 := HW.out.allowed.routes
    have hla := HM.out.a.rlen
    have hlp := HM.out.a.plen
    have hlq := HM.out.a.qlen
    have hlb := HM.out.blen
    simp only at hla hlp hlq hlb
    have h5 := HM.out.t5
    simp only [cfgCells] at h5
    have k0 := cell_at h5 0 rfl
    have k1 := cell_at h5 1 rfl
    have k2 := cell_at h5 2 rfl
    have k3 := cell_at h5 3 rfl
    have k4 := cell_at h5 4 rfl
    have k5 := cell_at h5 5 rfl
    have k6 := cell_at h5 6 rfl
    have k7 := cell_at h5 7 rfl
    have k8 := cell_at h5 8 rfl
    have k9 := cell_at h5 9 rfl
    have k10 := cell_at h5 10 rfl
    go_upto_if 24 with (fail)
    go_cut [] (fun wx => ∃ ca2 : CfgC, SndP.Works ca2.plain ∧ (ca2.pn ≤ 1000 ∧ ca2.qn ≤ 1000 ∧ ca2.rn ≤ 1000) ∧ MoreS w ⟨nodes, faulty, slot, gap, rho, dmin, dmax, margin, PA, pn, pcap, parts, QA, qn, qcap, ports, RA, rn, rcap, routes⟩ (boxC w ⟨nodes, faulty, slot, gap, rho, dmin, dmax, margin, PA, pn, pcap, parts, QA, qn, qcap, ports, RA, rn, rcap, routes⟩).heap.size Bb ca2 ⟨nodes, faulty, slot, gap, rho, dmin, dmax, margin, PAb, pnb, pcapb, parts, QAb, qnb, qcapb, ports, RAb, rnb, rcapb, routes⟩ T5 T6 wx)
    case first =>
      clear k0 k1 k2 k3 k4 k5 k6 k7 k8 k9 k10
      by_cases h0 : rna = 0
      case pos =>
        have q0 : decide ((0 : Int) < (rna : Int)) = false := decide_eq_false (by omega)
        have q0n : decide (0 < rna) = false := decide_eq_false (by omega)
        have HF : Hid (∃ ca2 : CfgC, SndP.Works ca2.plain ∧ (ca2.pn ≤ 1000 ∧ ca2.qn ≤ 1000 ∧ ca2.rn ≤ 1000) ∧ MoreS w ⟨nodes, faulty, slot, gap, rho, dmin, dmax, margin, PA, pn, pcap, parts, QA, qn, qcap, ports, RA, rn, rcap, routes⟩ (boxC w ⟨nodes, faulty, slot, gap, rho, dmin, dmax, margin, PA, pn, pcap, parts, QA, qn, qcap, ports, RA, rn, rcap, routes⟩).heap.size Bb ca2 ⟨nodes, faulty, slot, gap, rho, dmin, dmax, margin, PAb, pnb, pcapb, parts, QAb, qnb, qcapb, ports, RAb, rnb, rcapb, routes⟩ T5 T6 wc) := Lib.hid ⟨⟨nodes, faulty, slot, gap, rho, dmin, dmax, margin, PAa, pna, pcapa, parts, QAa, qna, qcapa, ports, RAa, rna, rcapa, routes⟩, HW.out, by simp only; omega, HM.out⟩
        clear HM HW h5
        go_wp2_with fail
        go_meet
        exact HF.out
      have q0 : decide ((0 : Int) < (rna : Int)) = true := decide_eq_true (by omega)
      have q0n : decide (0 < rna) = true := decide_eq_true (by omega)
      obtain ⟨t, ht, et⟩ := at_in6 n rna (by omega) (by omega)
      have eU : IntKind.u64.wrap (rna : Int) = (rna : Int) := by simp [IntKind.wrap, IntKind.bits, IntKind.signed]; omega
      have hz : (rna : Int) ≠ 0 := by omega
      go_upto_region 9 with (fail)
      have HMd := Lib.hid (HM.out.kept (Below.refl wc.heap.size wc).drew)
      have ho0 := HMd.out.a.routes.own
      simp only at ho0
      rw [hla] at ho0
      obtain ⟨g, cg, hRA, -, -⟩ := ho0.form (by omega)
      simp only [Value.slice.injEq, true_and] at hRA
      obtain ⟨rfl, rfl⟩ := hRA
      have ho1 := own_cut ho0 (k := t) (by omega)
      rw [items_take routeVals_len] at ho1
      have hcap : rna ≤ rcapa := by obtain ⟨A9, c9, e9, h9⟩ := own_slice ho0; cases e9; exact h9
      have Hnews := Lib.hid (tail_cells routeVals_len ho0 (k := t) (by omega) hcap)
      have hsl1 := fun W => run_slice_tos (P := Try.prog) W 24 50 2 Try.underlying24 (fun w => by kernel_rfl) (some ⟨g, 0, none⟩) rna rcapa (t : Int) (by omega) (by omega)
      simp only [Int.toNat_natCast] at hsl1
      have hsl2 := fun W => run_slice_froms (P := Try.prog) W 24 50 2 Try.underlying24 (fun w => by kernel_rfl) g 0 rna rcapa ((t : Int) + 1) (t + 1) (by omega) (by omega)
      simp only [Nat.zero_add] at hsl2
      generalize (if rcapa = t + 1 then (⟨g, 0, none⟩ : Addr) else ⟨g, (t + 1) * 2, none⟩) = ad2 at *
      have eT : IntKind.i64.wrap ((t : Int) + 1) = (t : Int) + 1 := IntWalk.i64_in _ (by omega)
      have HW2 := Lib.hid (SndP.works_route HW.out (k := t) (by simp only [CfgC.plain]; omega))
      have hlen := SndP.less_length (l := routes) (k := t) (by omega)
      have hld : (itemsV routeVals (routes.drop (t + 1))).length = (rna - (t + 1)) * 2 := by rw [itemsV_length routeVals_len, List.length_drop]; omega
      have hd0 : wc.drew.heap[T5]? = some (.cells #[.int .i64 nodes, .int .i64 faulty, .int .i64 slot, .int .i64 gap, .int .i64 rho, .int .i64 dmin, .int .i64 dmax, .int .i64 margin, .slice PAa pna pcapa, .slice QAa qna qcapa, .slice (some ⟨g, 0, none⟩) rna rcapa] 26 (0, 0)) := h5
      have g10 := fun (W : World) (hW : W.heap[T5]? = some (.cells #[.int .i64 nodes, .int .i64 faulty, .int .i64 slot, .int .i64 gap, .int .i64 rho, .int .i64 dmin, .int .i64 dmax, .int .i64 margin, .slice PAa pna pcapa, .slice QAa qna qcapa, .slice (some ⟨g, 0, none⟩) rna rcapa] 26 (0, 0))) => cell_at hW 10 rfl
      clear HM HW h5 Hd9
      go_wp2_with fail
      refine wp_region_L_drew (st := 11) (S := fun W : World => W.heap[T5]? = some (.cells #[.int .i64 nodes, .int .i64 faulty, .int .i64 slot, .int .i64 gap, .int .i64 rho, .int .i64 dmin, .int .i64 dmax, .int .i64 margin, .slice PAa pna pcapa, .slice QAa qna qcapa, .slice (some ⟨g, 0, none⟩) rna rcapa] 26 (0, 0))) (by kernel_rfl) hd0 (fun _ => ?_)
      refine wpAnyL_take (i := 0) (f := 12) (oi := ?oo3) (v := ?vv3) ?ii3 (by kernel_rfl) ?ff3 (by kernel_rfl) ?pp3 ?qq3 (Or.inl ⟨?ww3, ?yy3⟩) hd0 ?rr3
      case ii3 => simp only [List.getElem?_toArray, List.getElem?_cons_zero]; rfl
      case ff3 => kernel_rfl
      case pp3 => kernel_rfl
      case qq3 => exact fun _ _ _ h => h
      case ww3 => rfl
      case yy3 => intro W hW; go_simp <;> with_reducible rfl
      try simp only [Act.put, List.setIfInBounds_toArray, List.set_cons_zero, List.set_cons_succ]
      refine wpAnyL_take (i := 1) (f := 12) (oi := ?oo4) (v := ?vv4) ?ii4 (by kernel_rfl) ?ff4 (by kernel_rfl) ?pp4 ?qq4 (Or.inl ⟨?ww4, ?yy4⟩) hd0 ?rr4
      case ii4 => simp only [List.getElem?_toArray, List.getElem?_cons_succ, List.getElem?_cons_zero]; rfl
      case ff4 => kernel_rfl
      case pp4 => kernel_rfl
      case qq4 => exact fun _ _ _ h => h
      case ww4 => rfl
      case yy4 => intro W hW; go_simp <;> with_reducible rfl
      try simp only [Act.put, List.setIfInBounds_toArray, List.set_cons_zero, List.set_cons_succ]
      refine wpAnyL_take (i := 2) (f := 12) (oi := ?oo5) (v := ?vv5) ?ii5 (by kernel_rfl) ?ff5 (by kernel_rfl) ?pp5 ?qq5 (Or.inl ⟨?ww5, ?yy5⟩) hd0 ?rr5
      case ii5 => simp only [List.getElem?_toArray, List.getElem?_cons_succ, List.getElem?_cons_zero]; rfl
      case ff5 => kernel_rfl
      case pp5 => kernel_rfl
      case qq5 => exact fun _ _ _ h => h
      case ww5 => rfl
      case yy5 => intro W hW; go_simp <;> with_reducible rfl
      try simp only [Act.put, List.setIfInBounds_toArray, List.set_cons_zero, List.set_cons_succ]
      refine wpAnyL_take (i := 3) (f := 12) (oi := ?oo6) (v := ?vv6) ?ii6 (by kernel_rfl) ?ff6 (by kernel_rfl) ?pp6 ?qq6 (Or.inl ⟨?ww6, ?yy6⟩) hd0 ?rr6
      case ii6 => simp only [List.getElem?_toArray, List.getElem?_cons_succ, List.getElem?_cons_zero]; rfl
      case ff6 => kernel_rfl
      case pp6 => kernel_rfl
      case qq6 => exact fun _ _ _ h => h
      case ww6 => rfl
      case yy6 => intro W hW; go_simp <;> with_reducible rfl
      try simp only [Act.put, List.setIfInBounds_toArray, List.set_cons_zero, List.set_cons_succ]
      refine wpAnyL_take (i := 4) (f := 12) (oi := ?oo7) (v := ?vv7) ?ii7 (by kernel_rfl) ?ff7 (by kernel_rfl) ?pp7 ?qq7 (Or.inl ⟨?ww7, ?yy7⟩) hd0 ?rr7
      case ii7 => simp only [List.getElem?_toArray, List.getElem?_cons_succ, List.getElem?_cons_zero]; rfl
      case ff7 => kernel_rfl
      case pp7 => kernel_rfl
      case qq7 => exact fun _ _ _ h => h
      case ww7 => rfl
      case yy7 => intro W hW; go_simp <;> with_reducible rfl
      try simp only [Act.put, List.setIfInBounds_toArray, List.set_cons_zero, List.set_cons_succ]
      refine wpAnyL_take (i := 5) (f := 12) (oi := ?oo8) (v := ?vv8) ?ii8 (by kernel_rfl) ?ff8 (by kernel_rfl) ?pp8 ?qq8 (Or.inl ⟨?ww8, ?yy8⟩) hd0 ?rr8
      case ii8 => simp only [List.getElem?_toArray, List.getElem?_cons_succ, List.getElem?_cons_zero]; rfl
      case ff8 => kernel_rfl
      case pp8 => kernel_rfl
      case qq8 => exact fun _ _ _ h => h
      case ww8 => rfl
      case yy8 => intro W hW; go_simp <;> with_reducible rfl
      try simp only [Act.put, List.setIfInBounds_toArray, List.set_cons_zero, List.set_cons_succ]
      refine wpAnyL_take (i := 6) (f := 12) (oi := ?oo9) (v := ?vv9) ?ii9 (by kernel_rfl) ?ff9 (by kernel_rfl) ?pp9 ?qq9 (Or.inl ⟨?ww9, ?yy9⟩) hd0 ?rr9
      case ii9 => simp only [List.getElem?_toArray, List.getElem?_cons_succ, List.getElem?_cons_zero]; rfl
      case ff9 => kernel_rfl
      case pp9 => kernel_rfl
      case qq9 => exact fun _ _ _ h => h
      case ww9 => rfl
      case yy9 => intro W hW; go_simp <;> with_reducible rfl
      try simp only [Act.put, List.setIfInBounds_toArray, List.set_cons_zero, List.set_cons_succ]
      refine wpAnyL_take (i := 7) (f := 12) (oi := ?oo10) (v := ?vv10) ?ii10 (by kernel_rfl) ?ff10 (by kernel_rfl) ?pp10 ?qq10 (Or.inl ⟨?ww10, ?yy10⟩) hd0 ?rr10
      case ii10 => simp only [List.getElem?_toArray, List.getElem?_cons_succ, List.getElem?_cons_zero]; rfl
      case ff10 => kernel_rfl
      case pp10 => kernel_rfl
      case qq10 => exact fun _ _ _ h => h
      case ww10 => rfl
      case yy10 => intro W hW; go_simp <;> with_reducible rfl
      try simp only [Act.put, List.setIfInBounds_toArray, List.set_cons_zero, List.set_cons_succ]
      refine wpAnyL_take (i := 8) (f := 12) (oi := ?oo11) (v := ?vv11) ?ii11 (by kernel_rfl) ?ff11 (by kernel_rfl) ?pp11 ?qq11 (Or.inl ⟨?ww11, ?yy11⟩) hd0 ?rr11
      case ii11 => simp only [List.getElem?_toArray, List.getElem?_cons_succ, List.getElem?_cons_zero]; rfl
      case ff11 => kernel_rfl
      case pp11 => kernel_rfl
      case qq11 => exact fun _ _ _ h => h
      case ww11 => rfl
      case yy11 => intro W hW; go_simp <;> with_reducible rfl
      try simp only [Act.put, List.setIfInBounds_toArray, List.set_cons_zero, List.set_cons_succ]
      refine wpAnyL_one (k := 9) (o := ?oo12) (by kernel_rfl) ?ii12 (fun K hK => ?_)
      case ii12 => simp only [List.getElem?_toArray, List.getElem?_cons_succ, List.getElem?_cons_zero]; rfl
      refine step_append_m rfl (.tmp 34) (.tmp 39) _ rfl (boxC w ⟨nodes, faulty, slot, gap, rho, dmin, dmax, margin, PA, pn, pcap, parts, QA, qn, qcap, ports, RA, rn, rcap, routes⟩).heap.size 50 _ 2 16 Try.underlying24 infoR rfl (by omega) _ t _ rfl ho1 _ (rna - (t + 1)) _ (itemsV routeVals (routes.drop (t + 1))) rfl hld Hnews.out (itemsV_oneCell routeVals_one _) (by unfold maxLen; omega) (by omega) (Nat.le_trans HMd.out.hi.1 (Nat.le_trans HMd.out.hi.2.2.2.1 HMd.out.hi.2.2.2.2)) ?_
      intro v1 w1 ho2 ha1 _
      obtain ⟨A1, c1, hv1, -⟩ := own_slice ho2
      subst hv1
      rw [← itemsV_append] at ho2
      have hS1 := more_mid HMd.out ha1
      have HM2 := Lib.hid (more_route HMd.out ha1 (l' := SndP.less routes t) (by rw [hlen]; omega) ho2)
      simp only [cfgCells] at hS1
      have kk10 := cell_at hS1 10 rfl
      have f10 := free_at hS1 10
      clear ho2 ha1 hsl1 hsl2 ho0 ho1
      go_wp2_with fail
      refine hK.out _ _ (fun _ => hS1) ?_
      clear hK K
      refine wpAnyL_take (i := 10) (f := 12) (oi := ?oo13) (v := ?vv13) ?ii13 (by kernel_rfl) ?ff13 (by kernel_rfl) ?pp13 ?qq13 (Or.inl ⟨?ww13, ?yy13⟩) hS1 ?rr13
      case ii13 => simp only [List.getElem?_toArray, List.getElem?_cons_succ, List.getElem?_cons_zero]; rfl
      case ff13 => kernel_rfl
      case pp13 => kernel_rfl
      case qq13 => exact fun _ _ _ h => h
      case ww13 => rfl
      case yy13 => intro W hW; go_simp <;> with_reducible rfl
      try simp only [Act.put, List.setIfInBounds_toArray, List.set_cons_zero, List.set_cons_succ]
      refine wpAnyL_last (k := 11) (o := ?oo14) (by kernel_rfl) ?ii14 (fun K hK => ?_)
      case ii14 => simp only [List.getElem?_toArray, List.getElem?_cons_succ, List.getElem?_cons_zero]; rfl
      go_simp
      go_wp2_with fail
      refine hK.out _ _ ?_
      clear hK K
      refine wpAnyL_done (by kernel_rfl) ?_ _
      have HF : Hid (∃ ca2 : CfgC, SndP.Works ca2.plain ∧ (ca2.pn ≤ 1000 ∧ ca2.qn ≤ 1000 ∧ ca2.rn ≤ 1000) ∧ MoreS w ⟨nodes, faulty, slot, gap, rho, dmin, dmax, margin, PA, pn, pcap, parts, QA, qn, qcap, ports, RA, rn, rcap, routes⟩ (boxC w ⟨nodes, faulty, slot, gap, rho, dmin, dmax, margin, PA, pn, pcap, parts, QA, qn, qcap, ports, RA, rn, rcap, routes⟩).heap.size Bb ca2 ⟨nodes, faulty, slot, gap, rho, dmin, dmax, margin, PAb, pnb, pcapb, parts, QAb, qnb, qcapb, ports, RAb, rnb, rcapb, routes⟩ T5 T6 (w1.setCell ⟨T5, 10, none⟩ (.slice A1 (t + (rna - (t + 1))) c1))) := Lib.hid ⟨_, HW2.out, by simp only; omega, HM2.out⟩
      clear HM2 HW2 HMd hS1 kk10 f10
      go_wp2_with fail
      go_meet
      exact HF.out
    case rest =>
    obtain ⟨ca, hWa, hba, hM⟩ := hcut
    have HM := Lib.hid hM
    have HWa := Lib.hid hWa
    clear hM hWa k0 k1 k2 k3 k4 k5 k6 k7 k8 k9 k10 h5 hla hlp hlq
    have h6 := HM.out.t6
    simp only [cfgCells] at h6
    have k9 := cell_at h6 9 rfl
    have k10 := cell_at h6 10 rfl
    have fr := fun i => free_at h6 i
    go_upto_region 10 with (fail)
    go_cut [] (fun wx => MoreS w ⟨nodes, faulty, slot, gap, rho, dmin, dmax, margin, PA, pn, pcap, parts, QA, qn, qcap, ports, RA, rn, rcap, routes⟩ (boxC w ⟨nodes, faulty, slot, gap, rho, dmin, dmax, margin, PA, pn, pcap, parts, QA, qn, qcap, ports, RA, rn, rcap, routes⟩).heap.size Bb ca ⟨nodes, faulty, slot, gap, rho, dmin, dmax, margin, PAb, pnb, pcapb, parts, none, 0, 0, [], none, 0, 0, []⟩ T5 T6 wx)
    case first =>
      have HN := Lib.hid (more_nil HM.out)
      clear HM HWa HW Hd9 h6
      go_wp2_with fail
      go_meet
      exact HN.out
    case rest =>
    clear HM h6 k9 k10 fr
    have HM := Lib.hid hcut
    clear hcut
    have h6 := HM.out.t6
    simp only [cfgCells] at h6
    have k0 := cell_at h6 0 rfl
    have k1 := cell_at h6 1 rfl
    have k2 := cell_at h6 2 rfl
    have k3 := cell_at h6 3 rfl
    have k4 := cell_at h6 4 rfl
    have k5 := cell_at h6 5 rfl
    have k6 := cell_at h6 6 rfl
    have k7 := cell_at h6 7 rfl
    have k8 := cell_at h6 8 rfl
    have k9 := cell_at h6 9 rfl
    have k10 := cell_at h6 10 rfl
    go_upto_if 48 with (fail)
    go_cut [] (fun wx => ∃ cb2 : CfgC, SndP.Works cb2.plain ∧ cb2.pn ≤ 1000 ∧ (cb2.qn = 0 ∧ cb2.qcap = 0 ∧ cb2.ports = [] ∧ cb2.QA = none) ∧ (cb2.rn = 0 ∧ cb2.rcap = 0 ∧ cb2.routes = [] ∧ cb2.RA = none) ∧ MoreS w ⟨nodes, faulty, slot, gap, rho, dmin, dmax, margin, PA, pn, pcap, parts, QA, qn, qcap, ports, RA, rn, rcap, routes⟩ (boxC w ⟨nodes, faulty, slot, gap, rho, dmin, dmax, margin, PA, pn, pcap, parts, QA, qn, qcap, ports, RA, rn, rcap, routes⟩).heap.size Bb ca cb2 T5 T6 wx)
    case first =>
      clear k0 k1 k2 k3 k4 k5 k6 k7 k8 k9 k10
      by_cases h0 : pnb = 0
      case pos =>
        have q0 : decide ((0 : Int) < (pnb : Int)) = false := decide_eq_false (by omega)
        have q0n : decide (0 < pnb) = false := decide_eq_false (by omega)
        have HF : Hid (∃ cb2 : CfgC, SndP.Works cb2.plain ∧ cb2.pn ≤ 1000 ∧ (cb2.qn = 0 ∧ cb2.qcap = 0 ∧ cb2.ports = [] ∧ cb2.QA = none) ∧ (cb2.rn = 0 ∧ cb2.rcap = 0 ∧ cb2.routes = [] ∧ cb2.RA = none) ∧ MoreS w ⟨nodes, faulty, slot, gap, rho, dmin, dmax, margin, PA, pn, pcap, parts, QA, qn, qcap, ports, RA, rn, rcap, routes⟩ (boxC w ⟨nodes, faulty, slot, gap, rho, dmin, dmax, margin, PA, pn, pcap, parts, QA, qn, qcap, ports, RA, rn, rcap, routes⟩).heap.size Bb ca cb2 T5 T6 wc) := Lib.hid ⟨⟨nodes, faulty, slot, gap, rho, dmin, dmax, margin, PAb, pnb, pcapb, parts, none, 0, 0, [], none, 0, 0, []⟩, SndP.works_bare HW.out, by simp only; omega, ⟨rfl, rfl, rfl, rfl⟩, ⟨rfl, rfl, rfl, rfl⟩, HM.out⟩
        clear HM HW HWa h6 Hd9
        go_wp2_with fail
        go_meet
        exact HF.out
      have q0 : decide ((0 : Int) < (pnb : Int)) = true := decide_eq_true (by omega)
      have q0n : decide (0 < pnb) = true := decide_eq_true (by omega)
      obtain ⟨t, ht, et⟩ := at_in6 n pnb (by omega) (by omega)
      have eU : IntKind.u64.wrap (pnb : Int) = (pnb : Int) := by simp [IntKind.wrap, IntKind.bits, IntKind.signed]; omega
      have hz : (pnb : Int) ≠ 0 := by omega
      go_upto_region 14 with (fail)
      have HMd := Lib.hid (HM.out.kept (Below.refl wc.heap.size wc).drew)
      have ho0 := HMd.out.b.own
      simp only at ho0
      rw [hlb] at ho0
      obtain ⟨g, cg, hRA, -, -⟩ := ho0.form (by omega)
      simp only [Value.slice.injEq, true_and] at hRA
      obtain ⟨rfl, rfl⟩ := hRA
      have ho1 := own_cut ho0 (k := t) (by omega)
      rw [items_take partVals_len] at ho1
      have hcap : pnb ≤ pcapb := by obtain ⟨A9, c9, e9, h9⟩ := own_slice ho0; cases e9; exact h9
      have Hnews := Lib.hid (tail_cells partVals_len ho0 (k := t) (by omega) hcap)
      have hsl1 := fun W => run_slice_tos (P := Try.prog) W 22 47 9 Try.underlying22 (fun w => by kernel_rfl) (some ⟨g, 0, none⟩) pnb pcapb (t : Int) (by omega) (by omega)
      simp only [Int.toNat_natCast] at hsl1
      have hsl2 := fun W => run_slice_froms (P := Try.prog) W 22 47 9 Try.underlying22 (fun w => by kernel_rfl) g 0 pnb pcapb ((t : Int) + 1) (t + 1) (by omega) (by omega)
      simp only [Nat.zero_add] at hsl2
      generalize (if pcapb = t + 1 then (⟨g, 0, none⟩ : Addr) else ⟨g, (t + 1) * 9, none⟩) = ad2 at *
      have eT : IntKind.i64.wrap ((t : Int) + 1) = (t : Int) + 1 := IntWalk.i64_in _ (by omega)
      have HW2 := Lib.hid (SndP.works_part HW.out (k := t) (by simp only [CfgC.plain]; omega))
      have hlen := SndP.less_length (l := parts) (k := t) (by omega)
      have hld : (itemsV partVals (parts.drop (t + 1))).length = (pnb - (t + 1)) * 9 := by rw [itemsV_length partVals_len, List.length_drop]; omega
      have hd0 : wc.drew.heap[T6]? = some (.cells #[.int .i64 nodes, .int .i64 faulty, .int .i64 slot, .int .i64 gap, .int .i64 rho, .int .i64 dmin, .int .i64 dmax, .int .i64 margin, .slice (some ⟨g, 0, none⟩) pnb pcapb, .slice none 0 0, .slice none 0 0] 26 (0, 0)) := h6
      have g8 := fun (W : World) (hW : W.heap[T6]? = some (.cells #[.int .i64 nodes, .int .i64 faulty, .int .i64 slot, .int .i64 gap, .int .i64 rho, .int .i64 dmin, .int .i64 dmax, .int .i64 margin, .slice (some ⟨g, 0, none⟩) pnb pcapb, .slice none 0 0, .slice none 0 0] 26 (0, 0))) => cell_at hW 8 rfl
      clear HM HW HWa h6 Hd9
      go_wp2_with fail
      refine wp_region_L_drew (st := 11) (S := fun W : World => W.heap[T6]? = some (.cells #[.int .i64 nodes, .int .i64 faulty, .int .i64 slot, .int .i64 gap, .int .i64 rho, .int .i64 dmin, .int .i64 dmax, .int .i64 margin, .slice (some ⟨g, 0, none⟩) pnb pcapb, .slice none 0 0, .slice none 0 0] 26 (0, 0))) (by kernel_rfl) hd0 (fun _ => ?_)
      refine wpAnyL_take (i := 0) (f := 12) (oi := ?oo15) (v := ?vv15) ?ii15 (by kernel_rfl) ?ff15 (by kernel_rfl) ?pp15 ?qq15 (Or.inl ⟨?ww15, ?yy15⟩) hd0 ?rr15
      case ii15 => simp only [List.getElem?_toArray, List.getElem?_cons_zero]; rfl
      case ff15 => kernel_rfl
      case pp15 => kernel_rfl
      case qq15 => exact fun _ _ _ h => h
      case ww15 => rfl
      case yy15 => intro W hW; go_simp <;> with_reducible rfl
      try simp only [Act.put, List.setIfInBounds_toArray, List.set_cons_zero, List.set_cons_succ]
      refine wpAnyL_take (i := 1) (f := 12) (oi := ?oo16) (v := ?vv16) ?ii16 (by kernel_rfl) ?ff16 (by kernel_rfl) ?pp16 ?qq16 (Or.inl ⟨?ww16, ?yy16⟩) hd0 ?rr16
      case ii16 => simp only [List.getElem?_toArray, List.getElem?_cons_succ, List.getElem?_cons_zero]; rfl
      case ff16 => kernel_rfl
      case pp16 => kernel_rfl
      case qq16 => exact fun _ _ _ h => h
      case ww16 => rfl
      case yy16 => intro W hW; go_simp <;> with_reducible rfl
      try simp only [Act.put, List.setIfInBounds_toArray, List.set_cons_zero, List.set_cons_succ]
      refine wpAnyL_take (i := 2) (f := 12) (oi := ?oo17) (v := ?vv17) ?ii17 (by kernel_rfl) ?ff17 (by kernel_rfl) ?pp17 ?qq17 (Or.inl ⟨?ww17, ?yy17⟩) hd0 ?rr17
      case ii17 => simp only [List.getElem?_toArray, List.getElem?_cons_succ, List.getElem?_cons_zero]; rfl
      case ff17 => kernel_rfl
      case pp17 => kernel_rfl
      case qq17 => exact fun _ _ _ h => h
      case ww17 => rfl
      case yy17 => intro W hW; go_simp <;> with_reducible rfl
      try simp only [Act.put, List.setIfInBounds_toArray, List.set_cons_zero, List.set_cons_succ]
      refine wpAnyL_take (i := 3) (f := 12) (oi := ?oo18) (v := ?vv18) ?ii18 (by kernel_rfl) ?ff18 (by kernel_rfl) ?pp18 ?qq18 (Or.inl ⟨?ww18, ?yy18⟩) hd0 ?rr18
      case ii18 => simp only [List.getElem?_toArray, List.getElem?_cons_succ, List.getElem?_cons_zero]; rfl
      case ff18 => kernel_rfl
      case pp18 => kernel_rfl
      case qq18 => exact fun _ _ _ h => h
      case ww18 => rfl
      case yy18 => intro W hW; go_simp <;> with_reducible rfl
      try simp only [Act.put, List.setIfInBounds_toArray, List.set_cons_zero, List.set_cons_succ]
      refine wpAnyL_take (i := 4) (f := 12) (oi := ?oo19) (v := ?vv19) ?ii19 (by kernel_rfl) ?ff19 (by kernel_rfl) ?pp19 ?qq19 (Or.inl ⟨?ww19, ?yy19⟩) hd0 ?rr19
      case ii19 => simp only [List.getElem?_toArray, List.getElem?_cons_succ, List.getElem?_cons_zero]; rfl
      case ff19 => kernel_rfl
      case pp19 => kernel_rfl
      case qq19 => exact fun _ _ _ h => h
      case ww19 => rfl
      case yy19 => intro W hW; go_simp <;> with_reducible rfl
      try simp only [Act.put, List.setIfInBounds_toArray, List.set_cons_zero, List.set_cons_succ]
      refine wpAnyL_take (i := 5) (f := 12) (oi := ?oo20) (v := ?vv20) ?ii20 (by kernel_rfl) ?ff20 (by kernel_rfl) ?pp20 ?qq20 (Or.inl ⟨?ww20, ?yy20⟩) hd0 ?rr20
      case ii20 => simp only [List.getElem?_toArray, List.getElem?_cons_succ, List.getElem?_cons_zero]; rfl
      case ff20 => kernel_rfl
      case pp20 => kernel_rfl
      case qq20 => exact fun _ _ _ h => h
      case ww20 => rfl
      case yy20 => intro W hW; go_simp <;> with_reducible rfl
      try simp only [Act.put, List.setIfInBounds_toArray, List.set_cons_zero, List.set_cons_succ]
      refine wpAnyL_take (i := 6) (f := 12) (oi := ?oo21) (v := ?vv21) ?ii21 (by kernel_rfl) ?ff21 (by kernel_rfl) ?pp21 ?qq21 (Or.inl ⟨?ww21, ?yy21⟩) hd0 ?rr21
      case ii21 => simp only [List.getElem?_toArray, List.getElem?_cons_succ, List.getElem?_cons_zero]; rfl
      case ff21 => kernel_rfl
      case pp21 => kernel_rfl
      case qq21 => exact fun _ _ _ h => h
      case ww21 => rfl
      case yy21 => intro W hW; go_simp <;> with_reducible rfl
      try simp only [Act.put, List.setIfInBounds_toArray, List.set_cons_zero, List.set_cons_succ]
      refine wpAnyL_take (i := 7) (f := 12) (oi := ?oo22) (v := ?vv22) ?ii22 (by kernel_rfl) ?ff22 (by kernel_rfl) ?pp22 ?qq22 (Or.inl ⟨?ww22, ?yy22⟩) hd0 ?rr22
      case ii22 => simp only [List.getElem?_toArray, List.getElem?_cons_succ, List.getElem?_cons_zero]; rfl
      case ff22 => kernel_rfl
      case pp22 => kernel_rfl
      case qq22 => exact fun _ _ _ h => h
      case ww22 => rfl
      case yy22 => intro W hW; go_simp <;> with_reducible rfl
      try simp only [Act.put, List.setIfInBounds_toArray, List.set_cons_zero, List.set_cons_succ]
      refine wpAnyL_take (i := 8) (f := 12) (oi := ?oo23) (v := ?vv23) ?ii23 (by kernel_rfl) ?ff23 (by kernel_rfl) ?pp23 ?qq23 (Or.inl ⟨?ww23, ?yy23⟩) hd0 ?rr23
      case ii23 => simp only [List.getElem?_toArray, List.getElem?_cons_succ, List.getElem?_cons_zero]; rfl
      case ff23 => kernel_rfl
      case pp23 => kernel_rfl
      case qq23 => exact fun _ _ _ h => h
      case ww23 => rfl
      case yy23 => intro W hW; go_simp <;> with_reducible rfl
      try simp only [Act.put, List.setIfInBounds_toArray, List.set_cons_zero, List.set_cons_succ]
      refine wpAnyL_one (k := 9) (o := ?oo24) (by kernel_rfl) ?ii24 (fun K hK => ?_)
      case ii24 => simp only [List.getElem?_toArray, List.getElem?_cons_succ, List.getElem?_cons_zero]; rfl
      refine step_append_m rfl (.tmp 58) (.tmp 63) _ rfl Bb 47 _ 9 48 Try.underlying22 infoP rfl (by omega) _ t _ rfl ho1 _ (pnb - (t + 1)) _ (itemsV partVals (parts.drop (t + 1))) rfl hld Hnews.out (itemsV_oneCell partVals_one _) (by unfold maxLen; omega) (by omega) HMd.out.hi.2.2.2.2 ?_
      intro v1 w1 ho2 ha1 _
      obtain ⟨A1, c1, hv1, -⟩ := own_slice ho2
      subst hv1
      rw [← itemsV_append] at ho2
      have hS1 := more_mid6 HMd.out ha1
      have HM2 := Lib.hid (more_part HMd.out ha1 (l' := SndP.less parts t) (by rw [hlen]; omega) ho2)
      simp only [cfgCells] at hS1
      have kk8 := cell_at hS1 8 rfl
      have f8 := free_at hS1 8
      clear ho2 ha1 hsl1 hsl2 ho0 ho1
      go_wp2_with fail
      refine hK.out _ _ (fun _ => hS1) ?_
      clear hK K
      refine wpAnyL_take (i := 10) (f := 12) (oi := ?oo25) (v := ?vv25) ?ii25 (by kernel_rfl) ?ff25 (by kernel_rfl) ?pp25 ?qq25 (Or.inl ⟨?ww25, ?yy25⟩) hS1 ?rr25
      case ii25 => simp only [List.getElem?_toArray, List.getElem?_cons_succ, List.getElem?_cons_zero]; rfl
      case ff25 => kernel_rfl
      case pp25 => kernel_rfl
      case qq25 => exact fun _ _ _ h => h
      case ww25 => rfl
      case yy25 => intro W hW; go_simp <;> with_reducible rfl
      try simp only [Act.put, List.setIfInBounds_toArray, List.set_cons_zero, List.set_cons_succ]
      refine wpAnyL_last (k := 11) (o := ?oo26) (by kernel_rfl) ?ii26 (fun K hK => ?_)
      case ii26 => simp only [List.getElem?_toArray, List.getElem?_cons_succ, List.getElem?_cons_zero]; rfl
      go_simp
      go_wp2_with fail
      refine hK.out _ _ ?_
      clear hK K
      refine wpAnyL_done (by kernel_rfl) ?_ _
      have HF : Hid (∃ cb2 : CfgC, SndP.Works cb2.plain ∧ cb2.pn ≤ 1000 ∧ (cb2.qn = 0 ∧ cb2.qcap = 0 ∧ cb2.ports = [] ∧ cb2.QA = none) ∧ (cb2.rn = 0 ∧ cb2.rcap = 0 ∧ cb2.routes = [] ∧ cb2.RA = none) ∧ MoreS w ⟨nodes, faulty, slot, gap, rho, dmin, dmax, margin, PA, pn, pcap, parts, QA, qn, qcap, ports, RA, rn, rcap, routes⟩ (boxC w ⟨nodes, faulty, slot, gap, rho, dmin, dmax, margin, PA, pn, pcap, parts, QA, qn, qcap, ports, RA, rn, rcap, routes⟩).heap.size Bb ca cb2 T5 T6 (w1.setCell ⟨T6, 8, none⟩ (.slice A1 (t + (pnb - (t + 1))) c1))) := Lib.hid ⟨_, HW2.out, by simp only; omega, ⟨rfl, rfl, rfl, rfl⟩, ⟨rfl, rfl, rfl, rfl⟩, HM2.out⟩
      clear HM2 HW2 HMd hS1 kk8 f8
      go_wp2_with fail
      go_meet
      exact HF.out
    case rest =>
    clear HM h6 k0 k1 k2 k3 k4 k5 k6 k7 k8 k9 k10
    obtain ⟨cb, hWb, hbb, hq0, hr0, hM⟩ := hcut
    have HM := Lib.hid hM
    have HCa : Hid (∀ W, CfgIn W ca → Calls Try.prog 13 #[ca.value] W (CheckPost none W)) := Lib.hid fun W hW => by
      have h9 := scheck_any ca W hW
      rwa [SndP.works_chk HWa.out] at h9
    have HCb : Hid (∀ W, CfgIn W cb → Calls Try.prog 13 #[cb.value] W (CheckPost none W)) := Lib.hid fun W hW => by
      have h9 := scheck_any cb W hW
      rwa [SndP.works_chk hWb] at h9
    have hca := HM.out.a.cfg hba.1 hba.2.1 hba.2.2
    have HC1 := Lib.hid (HCa.out _ hca)
    have Hq0 := Lib.hid (And.intro hbb (And.intro hq0 hr0))
    have h5 := HM.out.t5
    clear hM hWb hbb hq0 hr0 hca HCa hba HWa HW
    obtain ⟨q0c, q1c, q2c, q3c, q4c, q5c, q6c, q7c, PAc, pnc, pcapc, partsc, QAc, qnc, qcapc, portsc, RAc, rnc, rcapc, routesc⟩ := ca
    obtain ⟨q0d, q1d, q2d, q3d, q4d, q5d, q6d, q7d, PAd, pnd, pcapd, partsd, QAd, qnd, qcapd, portsd, RAd, rnd, rcapd, routesd⟩ := cb
    simp only [cfgCells] at h5
    simp only [CfgC.value] at HC1 HCb
    have k0 := cell_at h5 0 rfl
    have k1 := cell_at h5 1 rfl
    have k2 := cell_at h5 2 rfl
    have k3 := cell_at h5 3 rfl
    have k4 := cell_at h5 4 rfl
    have k5 := cell_at h5 5 rfl
    have k6 := cell_at h5 6 rfl
    have k7 := cell_at h5 7 rfl
    have k8 := cell_at h5 8 rfl
    have k9 := cell_at h5 9 rfl
    have k10 := cell_at h5 10 rfl
    clear h5
    go_wp2_with fail
    refine HC1.out.mono ?_
    rintro e w4 ⟨v4, rfl, -, hv4, hb4⟩
    obtain rfl : v4 = .nilIface := hv4
    have HM4 := Lib.hid (HM.out.kept hb4)
    have HC2 := Lib.hid (HCb.out _ (more_cfg HM4.out Hq0.out.1 Hq0.out.2.1 Hq0.out.2.2))
    have h6 := HM4.out.t6
    simp only [cfgCells] at h6
    clear hb4 HM HC1 HCb k0 k1 k2 k3 k4 k5 k6 k7 k8 k9 k10
    have k0 := cell_at h6 0 rfl
    have k1 := cell_at h6 1 rfl
    have k2 := cell_at h6 2 rfl
    have k3 := cell_at h6 3 rfl
    have k4 := cell_at h6 4 rfl
    have k5 := cell_at h6 5 rfl
    have k6 := cell_at h6 6 rfl
    have k7 := cell_at h6 7 rfl
    have k8 := cell_at h6 8 rfl
    have k9 := cell_at h6 9 rfl
    have k10 := cell_at h6 10 rfl
    clear h6
    go_wp2_with fail
    refine HC2.out.mono ?_
    rintro e w5 ⟨v5, rfl, -, hv5, hb5⟩
    obtain rfl : v5 = .nilIface := hv5
    have HF := Lib.hid (HM4.out.box.step hb5).below
    clear hb5 HM4 HC2 k0 k1 k2 k3 k4 k5 k6 k7 k8 k9 k10
    go_wp2_with fail
    go_ret
    exact ⟨rfl, HF.out⟩
end Go.Proofs.Ytpfhkcikjenjiaa
