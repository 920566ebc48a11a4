/- ApexNews: every input is answered with true. Conditions: where the tables lie; errors.errorType holds the type error. -/
import Derived.Test.YtemcgegickpdbaaGreatDoorSl24
import Derived.Test.YtemcgegickpdbaaGreatDoorSl11
namespace Go.Proofs.YtemcgegickpdbaaGreatDoor
open Go.RowKit
set_option maxRecDepth 100000

theorem run_nil16 (a b : Value) (w : World) : Calls Tryz.prog 17 #[.pointer none, .agg #[.pointer none, .pointer none, .pointer none, .pointer none], a, b] w (fun e w' => e = .returned (.tuple #[.slice none 0 0, .int .u8 0, .int .i64 0]) ∧ Below w.heap.size w w') := by
  have HB := Lib.hid (fun o => (Below.refl w.heap.size w).alloc (Nat.le_refl _) o)
  go_enter Tryz.func17, Tryz.ntmps17
  go_wp2_with fail
  refine bodyPost_ret (v := .tuple #[.slice none 0 0, .int .u8 0, .int .i64 0]) (by simp [results, Tryz.results17, go_sem]) rfl ?_
  exact ⟨rfl, HB.out _⟩
theorem read_range16 (w : World) : Calls Tryz.prog 31 #[.iface 88 (.int .i64 2)] w (fun e w' => e = .returned (strV (numN 2)) ∧ Below w.heap.size w w') :=
  ErrText.read ⟨[], some 2, rfl, by decide, trivial, ⟨fun n hn => absurd hn (by simp), fun m hm => by obtain rfl := Option.some.inj hm; decide⟩, by simp [sufT, sep]⟩
set_option maxHeartbeats 8000000 in
theorem news_law (x : CfgC) (part : Int) (hlo : -9223372036854775808 ≤ part) (hhi : part ≤ 9223372036854775807) (w : World) (hg : HasType w) (hx : CfgIn w x) : Calls Tryz.prog 6 #[x.value, .int .i64 part] w (HTrue w) := by
  have HG := Lib.hid hg
  have HAw := Lib.hid (fun W (hW : Below w.heap.size w W) => awake16_any W (hg.keep (hW.block 0 hg.pos)))
  have HRn := Lib.hid (fun a b W => run_nil16 a b W)
  have HCn := Lib.hid clear_nil
  have HMn := Lib.hid memory_nil
  have HWk := Lib.hid (fun W (hW : BoxS w x W) => works_any x W (hx.below hW.below))
  have HST := Lib.hid (BoxS.start w x)
  have Hb0 := Lib.hid (boxC_below w x)
  have HX := Lib.hid hx
  obtain ⟨L, hL⟩ : ∃ L, worksB x = L := ⟨_, rfl⟩
  rw [hL] at HWk
  have Hc : Hid (L = true → SndP.chk6 x.plain = none) := Lib.hid fun h => by
    rw [h] at hL
    unfold worksB at hL
    simp only [Bool.and_eq_true, Option.isNone_iff_eq_none] at hL
    exact hL.2
  clear hL hx hg
  obtain ⟨nodes, faulty, slot, gap, rho, dmin, dmax, margin, PA, pn, pcap, parts, QA, qn, qcap, ports, RA, rn, rcap, routes⟩ := x
  obtain ⟨d0, d1, d2, d3, d4, d5, d6, d7, d8, d9, d10⟩ := cfgFacts (fun W (hW : BoxS w ⟨nodes, faulty, slot, gap, rho, dmin, dmax, margin, PA, pn, pcap, parts, QA, qn, qcap, ports, RA, rn, rcap, routes⟩ W) => hW.cells)
  simp only at d0 d1 d2 d3 d4 d5 d6 d7 d8 d9 d10
  simp only [CfgC.value] at HWk ⊢
  simp only [boxC, cfgCells] at HST Hb0
  go_enter Tryz.func6, Tryz.ntmps6
  go_wp2_with fail
  refine (HAw.out _ Hb0.out).mono ?_
  rintro e w1 ⟨rfl, hb1⟩
  have Hd1 := Lib.hid (HST.out.step hb1)
  have Hb1 := Lib.hid (Hb0.out.trans (hb1.mono Hb0.out.size))
  clear hb1 HAw HST Hb0
  go_upto_region 4 with (fail)
  have HopL : Hid (∀ o, Below w1.heap.size w1 (w1.alloc o)) := Lib.hid fun o => (Below.refl _ _).alloc (Nat.le_refl _) _
  go_wp2_with fail
  refine (HRn.out _ _ _).mono ?_
  rintro e w2 ⟨rfl, hb2⟩
  have hb12 := (HopL.out _).trans (hb2.mono (HopL.out _).size)
  have Hd2 := Lib.hid (Hd1.out.step hb12)
  have Hb2 := Lib.hid (Hb1.out.trans (hb12.mono Hb1.out.size))
  clear hb2 hb12 HopL Hd1 HRn
  go_wp2_with fail
  refine (HCn.out _).mono ?_
  rintro e w3 ⟨rfl, rfl⟩
  go_wp2_with fail
  refine (HMn.out _).mono ?_
  rintro e w4 ⟨rfl, rfl⟩
  obtain ⟨k0, k1, k2, k3, k4, k5, k6, k7, k8, k9, k10⟩ := eleven Hd2.out d0 d1 d2 d3 d4 d5 d6 d7 d8 d9 d10
  go_wp2_with fail
  clear k0 k1 k2 k3 k4 k5 k6 k7 k8 k9 k10
  refine (HWk.out _ Hd2.out).mono ?_
  rintro e w5 ⟨rfl, hb5⟩
  have Hd5 := Lib.hid (Hd2.out.step hb5)
  have Hb5 := Lib.hid (Hb2.out.trans (hb5.mono Hb2.out.size))
  clear hb5 HWk HMn HCn Hd2 Hb2 Hb1
  cases L with
  | false =>
    go_wp2_with fail
    go_ret
    exact ⟨rfl, Hb5.out⟩
  | true =>
    have hchk := Hc.out rfl
    have hal := (SndP.works hchk).allowed
    have hpn : pn ≤ 12 := by have := hal.parts; rw [show ((⟨nodes, faulty, slot, gap, rho, dmin, dmax, margin, PA, pn, pcap, parts, QA, qn, qcap, ports, RA, rn, rcap, routes⟩ : CfgC)).plain.parts.length = pn from HX.out.plen] at this; exact this
    have hqn : qn ≤ 24 := by have := hal.ports; rw [show ((⟨nodes, faulty, slot, gap, rho, dmin, dmax, margin, PA, pn, pcap, parts, QA, qn, qcap, ports, RA, rn, rcap, routes⟩ : CfgC)).plain.ports.length = qn from HX.out.qlen] at this; exact this
    have hrn : rn ≤ 24 := by have := hal.routes; rw [show ((⟨nodes, faulty, slot, gap, rho, dmin, dmax, margin, PA, pn, pcap, parts, QA, qn, qcap, ports, RA, rn, rcap, routes⟩ : CfgC)).plain.routes.length = rn from HX.out.rlen] at this; exact this
    have hpo : ∀ p ∈ parts, 0 ≤ p.words ∧ p.words ≤ 16 := fun p hp => by
      have := (hal.part p hp).2.2.2.2.1
      unfold TableP.up at this
      exact this
    have hplen : parts.length = pn := HX.out.plen
    have HPo := Lib.hid hpo
    have HPn := Lib.hid hpn
    have HPl := Lib.hid hplen
    have HCp : Hid (∀ W, Below w.heap.size w W → Calls Tryz.prog 15 #[(⟨nodes, faulty, slot, gap, rho, dmin, dmax, margin, PA, pn, pcap, parts, QA, qn, qcap, ports, RA, rn, rcap, routes⟩ : CfgC).value] W (fun e w' => ∃ y : CfgC, e = .returned y.value ∧ Below W.heap.size W w' ∧ Calls Tryz.prog 14 #[y.value, .int .i64 part] w' (NewA16 w' parts part))) := Lib.hid fun W hW => by
      refine (copied_any _ W (HX.out.below hW) (by show pn ≤ _; omega) (by show qn ≤ _; omega) (by show rn ≤ _; omega)).mono ?_
      rintro e w' ⟨_, rfl, ⟨y, rfl, h1, h2⟩, h3⟩
      have h4 : y.parts = parts := congrArg TableP.Cfg.parts h2
      have h5 : y.parts.length = y.pn := h1.plen
      refine ⟨y, rfl, h3, ?_⟩
      have h6 := new_any16 y w' h1 part hlo hhi (by rw [← h5, h4, hplen]; omega) (fun p hp => by rw [h4] at hp; have := hpo p hp; omega)
      rw [h4] at h6
      exact h6
    clear hal hpn hqn hrn hpo hplen Hc hchk
    simp only [CfgC.value] at HCp
    obtain ⟨k0, k1, k2, k3, k4, k5, k6, k7, k8, k9, k10⟩ := eleven Hd5.out d0 d1 d2 d3 d4 d5 d6 d7 d8 d9 d10
    go_wp2_with fail
    clear k0 k1 k2 k3 k4 k5 k6 k7 k8 k9 k10
    refine (HCp.out _ Hb5.out).mono ?_
    rintro e w6 ⟨⟨ynodes, yfaulty, yslot, ygap, yrho, ydmin, ydmax, ymargin, yPA, ypn, ypcap, yparts, yQA, yqn, yqcap, yports, yRA, yrn, yrcap, yroutes⟩, rfl, hb6, hnw⟩
    have Hd6 := Lib.hid (Hd5.out.step hb6)
    have Hb6 := Lib.hid (Hb5.out.trans (hb6.mono Hb5.out.size))
    simp only at hnw
    have HNw := Lib.hid hnw
    clear hb6 hnw HCp Hd5 Hb5
    go_wp2_with fail
    refine HNw.out.mono ?_
    intro e w7 hq
    unfold NewA16 at hq
    by_cases h0 : part < 0
    · rw [if_pos h0] at hq
      obtain ⟨rfl, hb7⟩ := hq
      have q1 : decide (part < 0) = true := decide_eq_true h0
      have Hb7 := Lib.hid (Hb6.out.trans (hb7.mono Hb6.out.size))
      clear hb7 h0 HNw
      have HRd := Lib.hid (read_range16 w7)
      go_wp2_with fail
      refine HRd.out.mono ?_
      rintro e w8 ⟨rfl, hb8⟩
      have HE := Lib.hid (e_any 2 w8 (by omega))
      have Hb8 := Lib.hid (Hb7.out.trans (hb8.mono Hb7.out.size))
      clear hb8 HRd
      unfold strV at *
      generalize numN 2 = t2 at *
      go_wp2_with fail
      refine HE.out.mono ?_
      rintro e w9 ⟨rfl, hb9⟩
      have Hb9 := Lib.hid (Hb8.out.trans (hb9.mono Hb8.out.size))
      clear hb9 HE
      go_wp2_with fail
      go_ret
      exact ⟨rfl, Hb9.out⟩
    · rw [if_neg h0] at hq
      have q1 : decide (part < 0) = false := decide_eq_false h0
      obtain ⟨k, rfl⟩ := Int.eq_ofNat_of_zero_le (show 0 ≤ part by omega)
      rw [Int.toNat_natCast] at hq
      have hPl := HPl.out
      by_cases h1 : pn ≤ k
      · rw [List.getElem?_eq_none (by omega)] at hq
        obtain ⟨rfl, hb7⟩ := hq
        have q2 : decide ((pn : Int) ≤ (k : Int)) = true := decide_eq_true (by omega)
        have q3 : decide (pn ≤ k) = true := decide_eq_true h1
        have hd7 := Hd6.out.step hb7
        have k8 := d8 _ hd7
        have Hb7 := Lib.hid (Hb6.out.trans (hb7.mono Hb6.out.size))
        clear hb7 h0 h1 HNw hd7 hPl
        have HRd := Lib.hid (read_range16 w7)
        go_wp2_with fail
        refine HRd.out.mono ?_
        rintro e w8 ⟨rfl, hb8⟩
        have HE := Lib.hid (e_any 2 w8 (by omega))
        have Hb8 := Lib.hid (Hb7.out.trans (hb8.mono Hb7.out.size))
        clear hb8 HRd
        unfold strV at *
        generalize numN 2 = t2 at *
        go_wp2_with fail
        refine HE.out.mono ?_
        rintro e w9 ⟨rfl, hb9⟩
        have Hb9 := Lib.hid (Hb8.out.trans (hb9.mono Hb8.out.size))
        clear hb9 HE
        go_wp2_with fail
        go_ret
        exact ⟨rfl, Hb9.out⟩
      · have q2 : decide ((pn : Int) ≤ (k : Int)) = false := decide_eq_false (by omega)
        have q3 : decide (pn ≤ k) = false := decide_eq_false h1
        obtain ⟨p, hp⟩ : ∃ p, parts[k]? = some p := ⟨_, List.getElem?_eq_getElem (by omega)⟩
        have hpw := HPo.out p (List.mem_of_getElem? hp)
        rw [hp] at hq
        simp only at hq
        rw [if_neg (by omega)] at hq
        obtain ⟨pb, wv, rfl, hpin, hb7⟩ := hq
        have hd7 := Hd6.out.step hb7
        have k8 := d8 _ hd7
        have Hb7 := Lib.hid (Hb6.out.trans (hb7.mono Hb6.out.size))
        obtain ⟨n, hn⟩ : ∃ n : Nat, p.words = n := Int.eq_ofNat_of_zero_le hpw.1
        rw [hn, Int.toNat_natCast] at hpin
        obtain ⟨b, off, rfl, hbl, hcell⟩ := HX.out.parts (by show 0 < parts.length; omega)
        have kw0 : w.cell? ⟨b, off + k * 9 + 4, none⟩ = some (.int .i64 (n : Nat)) := by
          have := hcell k p hp 4 (.int .i64 p.words) rfl
          rw [this, hn]
        have kw : ∀ W, Below w.heap.size w W → W.cell? ⟨b, off + k * 9 + 4, none⟩ = some (.int .i64 (n : Nat)) := fun W hW => (hW.cell (p := ⟨b, _, none⟩) hbl).trans kw0
        have hn16 : n ≤ 16 := by omega
        have hlt : k < pn := by omega
        have hlt' : (k : Int) < (pn : Int) := by omega
        have HMem : Hid (∀ W, Below w7.heap.size w7 W → Calls Tryz.prog 22 #[.pointer (some ⟨pb, 0, none⟩)] W (fun e w' => ∃ A cap, e = .returned (.slice A n cap) ∧ WIn w' A (List.replicate n 0) ∧ Below W.heap.size W w')) := Lib.hid fun W hW => by
          refine (memory_any (hpin.below hW)).mono ?_
          rintro e w' ⟨v, rfl, h1, h2⟩
          rw [List.length_replicate] at h1
          obtain ⟨A, cap, rfl, h3⟩ := own_words h1 (List.length_replicate ..)
          exact ⟨A, cap, rfl, h3, h2⟩
        have hmk := make_words n (by omega)
        have HMk : Hid (∀ W : World, WIn (W.alloc (.cells (wordV (List.replicate n 0)).toArray 42)) (some ⟨W.heap.size, 0, none⟩) (List.replicate n 0)) := Lib.hid fun W => by
          obtain ⟨A, cap, e, h3⟩ := own_words (words_made (w := W) (B := W.heap.size) (n := n) (Nat.le_refl _) (by unfold maxLen; omega)) (List.length_replicate ..)
          injection e with e1
          rw [e1]; exact h3
        have HSm : Hid (∀ A1 c1 A2 c2 W, WIn W A1 (List.replicate n 0) → WIn W A2 (List.replicate n 0) → Calls Tryz.prog 21 #[.slice A1 n c1, .slice A2 n c2] W (SameP true W)) := Lib.hid fun A1 c1 A2 c2 W g1 g2 => by
          have h1 := sameWords_any A1 n c1 (List.replicate n 0) (List.length_replicate ..) A2 n c2 (List.replicate n 0) (List.length_replicate ..) (by omega) W g1 g2
          rwa [decide_eq_true rfl] at h1
        have HKw := Lib.hid kw
        have Hd7 := Lib.hid hd7
        have Hb07 := Lib.hid (Below.refl w7.heap.size w7)
        clear hcell hpin hp hpw hn h0 h1 hbl kw0 kw hd7 hb7 HNw hPl
        go_upto_region 13 with (fail)
        have hd0 : BoxS w ⟨nodes, faulty, slot, gap, rho, dmin, dmax, margin, some ⟨b, off, none⟩, pn, pcap, parts, QA, qn, qcap, ports, RA, rn, rcap, routes⟩ w7.drew := Hd7.out.drew
        have kwS : ∀ W, BoxS w ⟨nodes, faulty, slot, gap, rho, dmin, dmax, margin, some ⟨b, off, none⟩, pn, pcap, parts, QA, qn, qcap, ports, RA, rn, rcap, routes⟩ W → W.cell? ⟨b, off + k * 9 + 4, none⟩ = some (.int .i64 (n : Nat)) := fun W hW => HKw.out W hW.below
        have hbd : Below w7.heap.size w7 w7.drew := (Below.refl _ _).drew
        clear k8
        refine wp_region_held_drew (S := fun W => BoxS w ⟨nodes, faulty, slot, gap, rho, dmin, dmax, margin, some ⟨b, off, none⟩, pn, pcap, parts, QA, qn, qcap, ports, RA, rn, rcap, routes⟩ W) (by kernel_rfl) hd0 (fun _ => ?_)
        generalize w7.drew = wq at *
        refine tkH 0 (by simp only [tkA]; rfl) (by kernel_rfl) (by exact fun _ _ _ h => h) (by rfl) (by intro W hW; go_simp <;> with_reducible rfl) hd0 ?_
        try simp only [Act.put, tkT, tk0, tkS]
        refine tkH 1 (by simp only [tkA, tkG]; rfl) (by kernel_rfl) (by exact fun _ _ _ h => h) (by rfl) (by intro W hW; go_simp <;> with_reducible rfl) hd0 ?_
        try simp only [Act.put, tkT, tk0, tkS]
        refine tkH 2 (by simp only [tkA, tkG]; rfl) (by kernel_rfl) (by exact fun _ _ _ h => h) (by rfl) (by intro W hW; go_simp <;> with_reducible rfl) hd0 ?_
        try simp only [Act.put, tkT, tk0, tkS]
        refine tkH 3 (by simp only [tkA, tkG]; rfl) (by kernel_rfl) (by exact fun _ _ _ h => h) (by rfl) (by intro W hW; go_simp <;> with_reducible rfl) hd0 ?_
        try simp only [Act.put, tkT, tk0, tkS]
        refine tkH 5 (by simp only [tkA, tkG]; rfl) (by kernel_rfl) (by exact fun _ _ _ h => h) (by rfl) (by intro W hW; go_simp <;> with_reducible rfl) hd0 ?_
        try simp only [Act.put, tkT, tk0, tkS]
        refine tkH 6 (by simp only [tkA, tkG]; rfl) (by kernel_rfl) (by exact fun _ _ _ h => h) (by rfl) (by intro W hW; go_simp <;> with_reducible rfl) hd0 ?_
        try simp only [Act.put, tkT, tk0, tkS]
        refine tkH 7 (by simp only [tkA, tkG]; rfl) (by kernel_rfl) (by exact fun _ _ _ h => h) (by rfl) (by intro W hW; go_simp <;> with_reducible rfl) hd0 ?_
        try simp only [Act.put, tkT, tk0, tkS]
        refine tkH 8 (by simp only [tkA, tkG]; rfl) (by kernel_rfl) (by exact fun _ _ _ h => h) (by rfl) (by intro W hW; go_simp <;> with_reducible rfl) hd0 ?_
        try simp only [Act.put, tkT, tk0, tkS]
        refine tkH 9 (by simp only [tkA, tkG]; rfl) (by kernel_rfl) (by exact fun _ _ _ h => h) (by rfl) (by intro W hW; go_simp <;> with_reducible rfl) hd0 ?_
        try simp only [Act.put, tkT, tk0, tkS]
        refine tkH 10 (by simp only [tkA, tkG]; rfl) (by kernel_rfl) (by exact fun _ _ _ h => h) (by rfl) (by intro W hW; go_simp <;> with_reducible rfl) hd0 ?_
        try simp only [Act.put, tkT, tk0, tkS]
        refine wpAnyH_ready (rs := [4, 11]) (by kernel_rfl) (by simp) (AllReadyH.cons (by simp only [tkA, tkG]; rfl) (fun K hK => ?_) (AllReadyH.cons (by simp only [tkA, tkG]; rfl) (fun K hK => ?_) AllReadyH.nil))
        · go_simp
          refine (HMem.out _ hbd).mono ?_
          rintro e w8 ⟨A8, c8, rfl, g8, hb8⟩
          have hd8 := hd0.step hb8
          have hba : Below w8.heap.size w8 (w8.alloc (.cells (wordV (List.replicate n 0)).toArray 42)) := (Below.refl _ _).alloc (Nat.le_refl _) _
          have HS := Lib.hid (HSm.out A8 c8 (some ⟨w8.heap.size, 0, none⟩) n _ (g8.below hba) (HMk.out w8))
          have hd9 := hd8.step hba
          clear g8 hb8 hba HMem HSm HMk
          go_wp2_with fail
          refine hK.out _ _ hd8 (fun _ => ?_)
          clear hK K
          refine clH 11 (by kernel_rfl) (by simp only [tkA, tkG]; rfl) (fun K hK => ?_)
          go_simp
          go_wp2_with fail
          refine hK.out _ _ hd9 (fun _ => ?_)
          clear hK K
          refine clH 12 (by kernel_rfl) (by simp only [tkA, tkG]; rfl) (fun K hK => ?_)
          go_simp
          refine HS.out.mono ?_
          rintro e w10 ⟨rfl, hb10⟩
          have hd10 := hd9.step hb10
          have HF := Lib.hid hd10.below
          go_wp2_with fail
          refine hK.out _ _ hd10 (fun _ => ?_)
          clear hK K
          refine tkH 13 (by simp only [tkA, tkG]; rfl) (by kernel_rfl) (by exact fun _ _ _ h => h) (by rfl) (by intro W hW; go_simp <;> with_reducible rfl) hd10 ?_
          try simp only [Act.put, tkT, tk0, tkS]
          refine tkH 14 (by simp only [tkA, tkG]; rfl) (by kernel_rfl) (by exact fun _ _ _ h => h) (by rfl) (by intro W hW; go_simp <;> with_reducible rfl) hd10 ?_
          try simp only [Act.put, tkT, tk0, tkS]
          refine wpAnyH_done (by kernel_rfl) ?_ _
          go_wp2_with fail
          go_ret
          exact ⟨rfl, HF.out⟩
        · go_simp
          have hba : Below wq.heap.size wq (wq.alloc (.cells (wordV (List.replicate n 0)).toArray 42)) := (Below.refl _ _).alloc (Nat.le_refl _) _
          have hd8 := hd0.step hba
          go_wp2_with fail
          refine hK.out _ _ hd8 (fun _ => ?_)
          clear hK K
          refine clH 4 (by kernel_rfl) (by simp only [tkA, tkG]; rfl) (fun K hK => ?_)
          go_simp
          refine (HMem.out _ (hbd.trans (hba.mono hbd.size))).mono ?_
          rintro e w8 ⟨A8, c8, rfl, g8, hb8⟩
          have hd9 := hd8.step hb8
          have HS := Lib.hid (HSm.out A8 c8 (some ⟨wq.heap.size, 0, none⟩) n _ g8 ((HMk.out wq).below hb8))
          clear g8 hb8 hba HMem HSm HMk
          go_wp2_with fail
          refine hK.out _ _ hd9 (fun _ => ?_)
          clear hK K
          refine clH 12 (by kernel_rfl) (by simp only [tkA, tkG]; rfl) (fun K hK => ?_)
          go_simp
          refine HS.out.mono ?_
          rintro e w10 ⟨rfl, hb10⟩
          have hd10 := hd9.step hb10
          have HF := Lib.hid hd10.below
          go_wp2_with fail
          refine hK.out _ _ hd10 (fun _ => ?_)
          clear hK K
          refine tkH 13 (by simp only [tkA, tkG]; rfl) (by kernel_rfl) (by exact fun _ _ _ h => h) (by rfl) (by intro W hW; go_simp <;> with_reducible rfl) hd10 ?_
          try simp only [Act.put, tkT, tk0, tkS]
          refine tkH 14 (by simp only [tkA, tkG]; rfl) (by kernel_rfl) (by exact fun _ _ _ h => h) (by rfl) (by intro W hW; go_simp <;> with_reducible rfl) hd10 ?_
          try simp only [Act.put, tkT, tk0, tkS]
          refine wpAnyH_done (by kernel_rfl) ?_ _
          go_wp2_with fail
          go_ret
          exact ⟨rfl, HF.out⟩
end Go.Proofs.YtemcgegickpdbaaGreatDoor
