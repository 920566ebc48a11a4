/- Contract of sound's Check at tables in memory. Conditions: where their lists lie. -/
import Derived.Test.YtodkcenoljpgoaaSndD
namespace Go.Proofs.Ytodkcenoljpgoaa
open Go.RowKit
set_option maxRecDepth 100000

def RelI {α : Type} (ok : Nat → α → Bool) (code : Nat) (l : List α) (n : Nat) (P : World → Prop) (i : Value) (wr : World) : Prop :=
  ∃ k, k ≤ n ∧ i = .int .i64 (k : Nat) ∧ SndP.firstI ok code k (l.drop k) = SndP.firstI ok code 0 l ∧ P wr

theorem scheck_head (x : CfgC) (w : World) (h : CfgIn w x) (f : FrameP.Wrong) (hc : TableP.chk x.plain = some f) :
    Calls Try.prog 21 #[x.value] w (CheckPost (SndP.chk6 x.plain) w) := by
  have e : SndP.chk6 x.plain = some f := by unfold SndP.chk6; rw [hc]
  have HC := Lib.hid (check_any x (boxC w x) (h.below (boxC_below w x)))
  rw [hc] at HC
  rw [e]
  have HB := Lib.hid (boxC_below w x)
  have HS := Lib.hid (boxC_size w x)
  clear h hc e
  obtain ⟨nodes, faulty, slot, gap, rho, dmin, dmax, margin, PA, pn, pcap, parts, QA, qn, qcap, ports, RA, rn, rcap, routes⟩ := x
  simp only [CfgC.value, boxC, cfgCells] at HC HB HS ⊢
  go_enter Try.func21, Try.ntmps21
  go_wp2_with fail
  refine HC.out.mono ?_
  rintro e w1 ⟨v, rfl, h1, ⟨b, rfl⟩, h3⟩
  have HF : Hid (CheckPost (some f) w (.returned (.iface 79 (.pointer (some ⟨b, 0, none⟩)))) w1) := Lib.hid (ErrPost.of_below ⟨_, rfl, h1, ⟨b, rfl⟩, h3⟩ HB.out)
  clear h1 h3 HC
  go_wp2_with fail
  go_ret
  exact HF.out

set_option maxHeartbeats 4000000 in
theorem scheck_rest (x : CfgC) (w : World) (h : CfgIn w x) (hc : TableP.chk x.plain = none) :
    Calls Try.prog 21 #[x.value] w (CheckPost (SndP.chk6 x.plain) w) := by
  have e : SndP.chk6 x.plain = SndP.late x.plain := by unfold SndP.chk6; rw [hc]
  have HC := Lib.hid (check_any x (boxC w x) (h.below (boxC_below w x)))
  rw [hc] at HC
  rw [e]
  have ha := SndP.allowed hc
  have hn := SndP.nums_in ha.head
  have C1 := Lib.hid (fun W => prec_any x W ha.head)
  have C2 := Lib.hid (fun W => spread_any x W ha.head)
  have C3 := Lib.hid (fun W => drift_any x W ha.head)
  have hpr := SndP.prec_in hn
  have hdr := SndP.drift_in hn
  obtain ⟨hn1, hn2, hn3, hn4, hn5, hn6, hn7, hn8, -, -⟩ := hn
  have HF1 := Lib.hid (fun W (hW : BoxS w x W) k p hk => fits_any x W (h.below hW.below) ha k p hk)
  have HJ1 := Lib.hid (fun W (hW : BoxS w x W) k p hk => joins_any x W (h.below hW.below) ha k p hk)
  have HL : Hid (SndP.late x.plain = if x.nodes < 3 * x.faulty + 1 then some (70, -1) else if x.margin < SndP.precT x.plain + (x.dmax - x.dmin) + SndP.driftT x.plain then some (74, -1)
      else if x.slot < 2 * x.margin + x.dmax + SndP.precT x.plain then some (73, -1) else if x.gap < 2 * (x.margin + SndP.precT x.plain) then some (75, -1)
      else match SndP.firstI (SndP.fitB x.plain) 71 0 x.parts with
        | some e => some e
        | none => SndP.firstI (SndP.joinB x.plain) 72 0 x.routes) := Lib.hid rfl
  have hpl := h.plen
  have hrl := h.rlen
  have hp12 : x.pn ≤ 12 := by have h1 : x.parts.length ≤ 12 := ha.parts; omega
  have hr24 : x.rn ≤ 24 := by have h1 : x.routes.length ≤ 24 := ha.routes; omega
  have HEP := Lib.hid (fun c p W N hN hc hp => errpost_at w W c p N hN hc hp)
  have HB := Lib.hid (boxC_below w x)
  generalize SndP.late x.plain = R at *
  generalize SndP.precT x.plain = pr at *
  generalize SndP.driftT x.plain = dr at *
  generalize SndP.fitB x.plain = fb at *
  generalize SndP.joinB x.plain = jb at *
  clear h ha hc e
  have hst := BoxS.start w x
  obtain ⟨nodes, faulty, slot, gap, rho, dmin, dmax, margin, PA, pn, pcap, parts, QA, qn, qcap, ports, RA, rn, rcap, routes⟩ := x
  have d0 := fun W (hW : BoxS w ⟨nodes, faulty, slot, gap, rho, dmin, dmax, margin, PA, pn, pcap, parts, QA, qn, qcap, ports, RA, rn, rcap, routes⟩ W) => hW.cells.c0
  have d1 := fun W (hW : BoxS w ⟨nodes, faulty, slot, gap, rho, dmin, dmax, margin, PA, pn, pcap, parts, QA, qn, qcap, ports, RA, rn, rcap, routes⟩ W) => hW.cells.c1
  have d2 := fun W (hW : BoxS w ⟨nodes, faulty, slot, gap, rho, dmin, dmax, margin, PA, pn, pcap, parts, QA, qn, qcap, ports, RA, rn, rcap, routes⟩ W) => hW.cells.c2
  have d3 := fun W (hW : BoxS w ⟨nodes, faulty, slot, gap, rho, dmin, dmax, margin, PA, pn, pcap, parts, QA, qn, qcap, ports, RA, rn, rcap, routes⟩ W) => hW.cells.c3
  have d4 := fun W (hW : BoxS w ⟨nodes, faulty, slot, gap, rho, dmin, dmax, margin, PA, pn, pcap, parts, QA, qn, qcap, ports, RA, rn, rcap, routes⟩ W) => hW.cells.c4
  have d5 := fun W (hW : BoxS w ⟨nodes, faulty, slot, gap, rho, dmin, dmax, margin, PA, pn, pcap, parts, QA, qn, qcap, ports, RA, rn, rcap, routes⟩ W) => hW.cells.c5
  have d6 := fun W (hW : BoxS w ⟨nodes, faulty, slot, gap, rho, dmin, dmax, margin, PA, pn, pcap, parts, QA, qn, qcap, ports, RA, rn, rcap, routes⟩ W) => hW.cells.c6
  have d7 := fun W (hW : BoxS w ⟨nodes, faulty, slot, gap, rho, dmin, dmax, margin, PA, pn, pcap, parts, QA, qn, qcap, ports, RA, rn, rcap, routes⟩ W) => hW.cells.c7
  have d8 := fun W (hW : BoxS w ⟨nodes, faulty, slot, gap, rho, dmin, dmax, margin, PA, pn, pcap, parts, QA, qn, qcap, ports, RA, rn, rcap, routes⟩ W) => hW.cells.c8
  have d9 := fun W (hW : BoxS w ⟨nodes, faulty, slot, gap, rho, dmin, dmax, margin, PA, pn, pcap, parts, QA, qn, qcap, ports, RA, rn, rcap, routes⟩ W) => hW.cells.c9
  have d10 := fun W (hW : BoxS w ⟨nodes, faulty, slot, gap, rho, dmin, dmax, margin, PA, pn, pcap, parts, QA, qn, qcap, ports, RA, rn, rcap, routes⟩ W) => hW.cells.c10
  simp only [CfgC.value, CfgC.plain, SndP.spreadT] at HC C1 C2 C3 HF1 HJ1 hn1 hn2 hn3 hn4 hn5 hn6 hn7 hn8 ⊢
  simp only at d0 d1 d2 d3 d4 d5 d6 d7 d8 d9 d10 HL hpl hrl hp12 hr24
  have HST := Lib.hid hst
  have HN := fun c W => Lib.hid (new_some c (-1) W)
  have e1 : IntKind.i64.wrap (3 * faulty) = 3 * faulty := IntWalk.i64_in _ (by omega)
  have e2 : IntKind.i64.wrap (3 * faulty + 1) = 3 * faulty + 1 := IntWalk.i64_in _ (by omega)
  have e3 : IntKind.i64.wrap (pr + (dmax - dmin)) = pr + (dmax - dmin) := IntWalk.i64_in _ (by omega)
  have e4 : IntKind.i64.wrap (pr + (dmax - dmin) + dr) = pr + (dmax - dmin) + dr := IntWalk.i64_in _ (by omega)
  have e5 : IntKind.i64.wrap (2 * margin) = 2 * margin := IntWalk.i64_in _ (by omega)
  have e6 : IntKind.i64.wrap (2 * margin + dmax) = 2 * margin + dmax := IntWalk.i64_in _ (by omega)
  have e7 : IntKind.i64.wrap (2 * margin + dmax + pr) = 2 * margin + dmax + pr := IntWalk.i64_in _ (by omega)
  have e8 : IntKind.i64.wrap (margin + pr) = margin + pr := IntWalk.i64_in _ (by omega)
  have e9 : IntKind.i64.wrap (2 * (margin + pr)) = 2 * (margin + pr) := IntWalk.i64_in _ (by omega)
  have N0 := Lib.hid (fun W => new_some 70 (-1) W rfl)
  have N1 := Lib.hid (fun W => new_some 74 (-1) W rfl)
  have N2 := Lib.hid (fun W => new_some 73 (-1) W rfl)
  have N3 := Lib.hid (fun W => new_some 75 (-1) W rfl)
  rw [place_of (-1) (by omega)] at N0 N1 N2 N3
  clear hst HN hn1 hn2 hn3 hn4 hn5 hn6 hn7 hn8 hpr hdr
  simp only [boxC, cfgCells] at HC HB
  go_enter Try.func21, Try.ntmps21
  go_wp2_with fail
  refine HC.out.mono ?_
  rintro e w1 ⟨v, rfl, h1, hv, h3⟩
  obtain rfl : v = .nilIface := hv
  have hd1 := HST.out.step h3
  clear h1 h3 HC HST HB
  have k0 := d0 _ hd1
  have k1 := d1 _ hd1
  have k2 := d2 _ hd1
  have k3 := d3 _ hd1
  have k4 := d4 _ hd1
  have k5 := d5 _ hd1
  have k6 := d6 _ hd1
  have k7 := d7 _ hd1
  have k8 := d8 _ hd1
  have k9 := d9 _ hd1
  have k10 := d10 _ hd1
  have Hd1 := Lib.hid hd1
  clear hd1
  go_wp2_with fail
  refine (C1.out _).mono ?_
  rintro e w2 ⟨rfl, hb2⟩
  have hd2 := Hd1.out.step hb2
  clear hb2 Hd1 C1
  clear k0 k1 k2 k3 k4 k5 k6 k7 k8 k9 k10
  have k0 := d0 _ hd2
  have k1 := d1 _ hd2
  have k2 := d2 _ hd2
  have k3 := d3 _ hd2
  have k4 := d4 _ hd2
  have k5 := d5 _ hd2
  have k6 := d6 _ hd2
  have k7 := d7 _ hd2
  have k8 := d8 _ hd2
  have k9 := d9 _ hd2
  have k10 := d10 _ hd2
  have Hd2 := Lib.hid hd2
  clear hd2
  by_cases h1 : nodes < 3 * faulty + 1
  case pos =>
    have HR : R = some (70, -1) := by rw [HL.out, if_pos h1]
    subst HR
    have q1 : decide (nodes < 3 * faulty + 1) = true := decide_eq_true h1
    clear HL h1 HF1 HJ1
    go_wp2_with fail
    refine (N0.out _).mono ?_
    rintro e w3 ⟨rfl, rfl⟩
    go_wp2_with fail
    go_ret
    exact HEP.out 70 (-1) _ _ rfl (by omega) (by omega) Hd2.out.below
  have q1 : decide (nodes < 3 * faulty + 1) = false := decide_eq_false h1
  rw [if_neg h1] at HL
  clear h1
  go_upto_region 7 with (fail)
  go_cut [23] (fun v wx => v = .bool (decide (margin < pr + (dmax - dmin) + dr)) ∧ BoxS w ⟨nodes, faulty, slot, gap, rho, dmin, dmax, margin, PA, pn, pcap, parts, QA, qn, qcap, ports, RA, rn, rcap, routes⟩ wx)
  case first =>
    have hd0 := Hd2.out.drew
    clear HL HF1 HJ1 N0 N1 N2 N3 HEP Hd2
    go_wp2_with fail
    refine wp_region_held_drew (S := fun W => BoxS w ⟨nodes, faulty, slot, gap, rho, dmin, dmax, margin, PA, pn, pcap, parts, QA, qn, qcap, ports, RA, rn, rcap, routes⟩ W) (by kernel_rfl) hd0 (fun _ => ?_)
    refine wpAnyH_take (i := 0) (oi := ?oo1) (v := ?vv1) ?ii1 (by kernel_rfl) ?ff1 (by kernel_rfl) ?qq1 (Or.inl ⟨?ww1, ?yy1⟩) hd0 ?rr1
    case ii1 => simp only [List.getElem?_toArray, List.getElem?_cons_zero]; rfl
    case ff1 => kernel_rfl
    case qq1 => exact fun _ _ _ h => h
    case ww1 => rfl
    case yy1 => intro W hW; go_simp <;> with_reducible rfl
    try simp only [Act.put, List.setIfInBounds_toArray, List.set_cons_zero, List.set_cons_succ]
    refine wpAnyH_take (i := 1) (oi := ?oo2) (v := ?vv2) ?ii2 (by kernel_rfl) ?ff2 (by kernel_rfl) ?qq2 (Or.inl ⟨?ww2, ?yy2⟩) hd0 ?rr2
    case ii2 => simp only [List.getElem?_toArray, List.getElem?_cons_succ, List.getElem?_cons_zero]; rfl
    case ff2 => kernel_rfl
    case qq2 => exact fun _ _ _ h => h
    case ww2 => rfl
    case yy2 => intro W hW; go_simp <;> with_reducible rfl
    try simp only [Act.put, List.setIfInBounds_toArray, List.set_cons_zero, List.set_cons_succ]
    refine wpAnyH_take (i := 2) (oi := ?oo3) (v := ?vv3) ?ii3 (by kernel_rfl) ?ff3 (by kernel_rfl) ?qq3 (Or.inl ⟨?ww3, ?yy3⟩) hd0 ?rr3
    case ii3 => simp only [List.getElem?_toArray, List.getElem?_cons_succ, List.getElem?_cons_zero]; rfl
    case ff3 => kernel_rfl
    case qq3 => exact fun _ _ _ h => h
    case ww3 => rfl
    case yy3 => intro W hW; go_simp <;> with_reducible rfl
    try simp only [Act.put, List.setIfInBounds_toArray, List.set_cons_zero, List.set_cons_succ]
    refine wpAnyH_take (i := 3) (oi := ?oo4) (v := ?vv4) ?ii4 (by kernel_rfl) ?ff4 (by kernel_rfl) ?qq4 (Or.inl ⟨?ww4, ?yy4⟩) hd0 ?rr4
    case ii4 => simp only [List.getElem?_toArray, List.getElem?_cons_succ, List.getElem?_cons_zero]; rfl
    case ff4 => kernel_rfl
    case qq4 => exact fun _ _ _ h => h
    case ww4 => rfl
    case yy4 => intro W hW; go_simp <;> with_reducible rfl
    try simp only [Act.put, List.setIfInBounds_toArray, List.set_cons_zero, List.set_cons_succ]
    refine wpAnyH_take (i := 6) (oi := ?oo5) (v := ?vv5) ?ii5 (by kernel_rfl) ?ff5 (by kernel_rfl) ?qq5 (Or.inl ⟨?ww5, ?yy5⟩) hd0 ?rr5
    case ii5 => simp only [List.getElem?_toArray, List.getElem?_cons_succ, List.getElem?_cons_zero]; rfl
    case ff5 => kernel_rfl
    case qq5 => exact fun _ _ _ h => h
    case ww5 => rfl
    case yy5 => intro W hW; go_simp <;> with_reducible rfl
    try simp only [Act.put, List.setIfInBounds_toArray, List.set_cons_zero, List.set_cons_succ]
    refine wpAnyH_ready (rs := [4]) (by kernel_rfl) (by simp) ?_
    refine AllReadyH.cons (o := ?oo6) ?ii6 (fun K hK => ?_) AllReadyH.nil
    case ii6 => simp only [List.getElem?_toArray, List.getElem?_cons_succ, List.getElem?_cons_zero]; rfl
    go_simp
    refine (C2.out _).mono ?_
    rintro e w3 ⟨rfl, hb3⟩
    have hd3 := hd0.step hb3
    go_wp2_with fail
    refine hK.out _ _ hd3 (fun _ => ?_)
    clear hK K
    refine wpAnyH_take (i := 5) (oi := ?oo7) (v := ?vv7) ?ii7 (by kernel_rfl) ?ff7 (by kernel_rfl) ?qq7 (Or.inl ⟨?ww7, ?yy7⟩) hd3 ?rr7
    case ii7 => simp only [List.getElem?_toArray, List.getElem?_cons_succ, List.getElem?_cons_zero]; rfl
    case ff7 => kernel_rfl
    case qq7 => exact fun _ _ _ h => h
    case ww7 => rfl
    case yy7 => intro W hW; go_simp <;> with_reducible rfl
    try simp only [Act.put, List.setIfInBounds_toArray, List.set_cons_zero, List.set_cons_succ]
    refine wpAnyH_ready (rs := [7]) (by kernel_rfl) (by simp) ?_
    refine AllReadyH.cons (o := ?oo8) ?ii8 (fun K hK => ?_) AllReadyH.nil
    case ii8 => simp only [List.getElem?_toArray, List.getElem?_cons_succ, List.getElem?_cons_zero]; rfl
    go_simp
    refine (C3.out _).mono ?_
    rintro e w4 ⟨rfl, hb4⟩
    have hd4 := hd3.step hb4
    go_wp2_with fail
    refine hK.out _ _ hd4 (fun _ => ?_)
    clear hK K
    refine wpAnyH_take (i := 8) (oi := ?oo9) (v := ?vv9) ?ii9 (by kernel_rfl) ?ff9 (by kernel_rfl) ?qq9 (Or.inl ⟨?ww9, ?yy9⟩) hd4 ?rr9
    case ii9 => simp only [List.getElem?_toArray, List.getElem?_cons_succ, List.getElem?_cons_zero]; rfl
    case ff9 => kernel_rfl
    case qq9 => exact fun _ _ _ h => h
    case ww9 => rfl
    case yy9 => intro W hW; go_simp <;> with_reducible rfl
    try simp only [Act.put, List.setIfInBounds_toArray, List.set_cons_zero, List.set_cons_succ]
    refine wpAnyH_take (i := 9) (oi := ?oo10) (v := ?vv10) ?ii10 (by kernel_rfl) ?ff10 (by kernel_rfl) ?qq10 (Or.inl ⟨?ww10, ?yy10⟩) hd4 ?rr10
    case ii10 => simp only [List.getElem?_toArray, List.getElem?_cons_succ, List.getElem?_cons_zero]; rfl
    case ff10 => kernel_rfl
    case qq10 => exact fun _ _ _ h => h
    case ww10 => rfl
    case yy10 => intro W hW; go_simp <;> with_reducible rfl
    try simp only [Act.put, List.setIfInBounds_toArray, List.set_cons_zero, List.set_cons_succ]
    refine wpAnyH_take (i := 10) (oi := ?oo11) (v := ?vv11) ?ii11 (by kernel_rfl) ?ff11 (by kernel_rfl) ?qq11 (Or.inl ⟨?ww11, ?yy11⟩) hd4 ?rr11
    case ii11 => simp only [List.getElem?_toArray, List.getElem?_cons_succ, List.getElem?_cons_zero]; rfl
    case ff11 => kernel_rfl
    case qq11 => exact fun _ _ _ h => h
    case ww11 => rfl
    case yy11 => intro W hW; go_simp <;> with_reducible rfl
    try simp only [Act.put, List.setIfInBounds_toArray, List.set_cons_zero, List.set_cons_succ]
    refine wpAnyH_done (by kernel_rfl) ?_ _
    go_wp2_with fail
    go_meet
    exact ⟨rfl, hd4⟩
  case rest =>
  obtain ⟨rfl, hd2b⟩ := hcut
  clear k0 k1 k2 k3 k4 k5 k6 k7 k8 k9 k10
  clear Hd2 C2 C3 N0
  have k0 := d0 _ hd2b
  have k1 := d1 _ hd2b
  have k2 := d2 _ hd2b
  have k3 := d3 _ hd2b
  have k4 := d4 _ hd2b
  have k5 := d5 _ hd2b
  have k6 := d6 _ hd2b
  have k7 := d7 _ hd2b
  have k8 := d8 _ hd2b
  have k9 := d9 _ hd2b
  have k10 := d10 _ hd2b
  have Hd2 := Lib.hid hd2b
  clear hd2b
  by_cases h2 : margin < pr + (dmax - dmin) + dr
  case pos =>
    have HR : R = some (74, -1) := by rw [HL.out, if_pos h2]
    subst HR
    rw [decide_eq_true h2]
    clear HL h2 HF1 HJ1
    go_wp2_with fail
    refine (N1.out _).mono ?_
    rintro e w3 ⟨rfl, rfl⟩
    go_wp2_with fail
    go_ret
    exact HEP.out 74 (-1) _ _ rfl (by omega) (by omega) Hd2.out.below
  rw [decide_eq_false h2]
  rw [if_neg h2] at HL
  clear h2
  by_cases h3 : slot < 2 * margin + dmax + pr
  case pos =>
    have HR : R = some (73, -1) := by rw [HL.out, if_pos h3]
    subst HR
    have q3 : decide (slot < 2 * margin + dmax + pr) = true := decide_eq_true h3
    clear HL h3 HF1 HJ1
    go_wp2_with fail
    refine (N2.out _).mono ?_
    rintro e w3 ⟨rfl, rfl⟩
    go_wp2_with fail
    go_ret
    exact HEP.out 73 (-1) _ _ rfl (by omega) (by omega) Hd2.out.below
  have q3 : decide (slot < 2 * margin + dmax + pr) = false := decide_eq_false h3
  rw [if_neg h3] at HL
  clear h3
  by_cases h4 : gap < 2 * (margin + pr)
  case pos =>
    have HR : R = some (75, -1) := by rw [HL.out, if_pos h4]
    subst HR
    have q4 : decide (gap < 2 * (margin + pr)) = true := decide_eq_true h4
    clear HL h4 HF1 HJ1
    go_wp2_with fail
    refine (N3.out _).mono ?_
    rintro e w3 ⟨rfl, rfl⟩
    go_wp2_with fail
    go_ret
    exact HEP.out 75 (-1) _ _ rfl (by omega) (by omega) Hd2.out.below
  have q4 : decide (gap < 2 * (margin + pr)) = false := decide_eq_false h4
  rw [if_neg h4] at HL
  clear h4 N1 N2 N3
  go_wp2_with fail
  clear k0 k1 k2 k3 k4 k5 k6 k7 k8 k9 k10
  clear q1 q3 q4 e1 e2 e3 e4 e5 e6 e7 e8 e9
  go_loopw [61] (RelI fb 71 parts pn (BoxS w ⟨nodes, faulty, slot, gap, rho, dmin, dmax, margin, PA, pn, pcap, parts, QA, qn, qcap, ports, RA, rn, rcap, routes⟩)) (fun i _ => (pn + 1 - intOf i).toNat)
  case atStart => exact ⟨0, Nat.zero_le _, rfl, rfl, Hd2.out⟩
  case round =>
    clear Hd2
    obtain ⟨k, hk, rfl, hck, hb⟩ := hrel
    have Hb := Lib.hid hb
    have Hck := Lib.hid hck
    have k0 := d0 _ hb
    have k1 := d1 _ hb
    have k2 := d2 _ hb
    have k3 := d3 _ hb
    have k4 := d4 _ hb
    have k5 := d5 _ hb
    have k6 := d6 _ hb
    have k7 := d7 _ hb
    have k8 := d8 _ hb
    have k9 := d9 _ hb
    have k10 := d10 _ hb
    clear hb hck
    by_cases hlt : k < pn
    · obtain ⟨y, hmk⟩ : ∃ y, parts[k]? = some y := ⟨_, List.getElem?_eq_getElem (by omega)⟩
      have Hst := Lib.hid (SndP.firstI_step (ok := fb) (code := 71) hmk)
      have HP := Lib.hid (HF1.out wr Hb.out k y hmk)
      clear hmk
      by_cases hy : fb k y = true
      case pos =>
        have HR0 : Hid (∀ W, Below wr.heap.size wr W → RelI fb 71 parts pn (BoxS w ⟨nodes, faulty, slot, gap, rho, dmin, dmax, margin, PA, pn, pcap, parts, QA, qn, qcap, ports, RA, rn, rcap, routes⟩) (.int .i64 ((k : Int) + 1)) W) := Lib.hid fun W hW => by
          refine ⟨k + 1, by omega, by go_num, ?_, Hb.out.step hW⟩
          rw [← Hck.out, Hst.out, if_pos hy]
        rw [hy] at HP
        clear hy Hst
        go_wp2_with fail
        refine HP.out.mono ?_
        rintro e w1 ⟨rfl, hb1⟩
        have HR1 := Lib.hid (HR0.out _ hb1)
        clear hb1 HR0
        go_wp2_with fail
        go_roundw
        case rel => exact HR1.out
        case measure => simp [intOf]; omega
      have hy2 : fb k y = false := by simpa using hy
      have HR : R = some (71, (k : Int)) := by
        have h0 := Hck.out
        rw [Hst.out, if_neg hy] at h0
        rw [HL.out, ← h0]
      subst HR
      rw [hy2] at HP
      have HN := Lib.hid (fun W => new_some 71 (k : Int) W rfl)
      rw [place_of (k : Int) (by omega)] at HN
      clear hy hy2 Hst HL
      go_wp2_with fail
      refine HP.out.mono ?_
      rintro e w1 ⟨rfl, hb1⟩
      have HB1 := Lib.hid (Hb.out.step hb1).below
      clear hb1
      go_wp2_with fail
      refine (HN.out _).mono ?_
      rintro e w2 ⟨rfl, rfl⟩
      go_wp2_with fail
      go_ret
      exact HEP.out 71 k _ _ rfl (by omega) (by omega) HB1.out
    have hkn : pn = k := by omega
    have hnone : SndP.firstI fb 71 0 parts = none := by rw [← Hck.out]; exact SndP.firstI_end (by omega)
    rw [hnone] at HL
    simp only at HL
    have Hd2 := Lib.hid Hb.out
    clear Hck Hb hnone
    subst hkn
    go_wp2_with fail
    clear k0 k1 k2 k3 k4 k5 k6 k7 k8 k9 k10
    go_loopw [74] (RelI jb 72 routes rn (BoxS w ⟨nodes, faulty, slot, gap, rho, dmin, dmax, margin, PA, pn, pcap, parts, QA, qn, qcap, ports, RA, rn, rcap, routes⟩)) (fun i _ => (rn + 1 - intOf i).toNat)
    case atStart => exact ⟨0, Nat.zero_le _, rfl, rfl, Hd2.out⟩
    case round =>
      clear Hd2
      obtain ⟨k, hk, rfl, hck, hb⟩ := hrel
      have Hb := Lib.hid hb
      have Hck := Lib.hid hck
      have k0 := d0 _ hb
      have k1 := d1 _ hb
      have k2 := d2 _ hb
      have k3 := d3 _ hb
      have k4 := d4 _ hb
      have k5 := d5 _ hb
      have k6 := d6 _ hb
      have k7 := d7 _ hb
      have k8 := d8 _ hb
      have k9 := d9 _ hb
      have k10 := d10 _ hb
      clear hb hck
      by_cases hlt : k < rn
      · obtain ⟨y, hmk⟩ : ∃ y, routes[k]? = some y := ⟨_, List.getElem?_eq_getElem (by omega)⟩
        have Hst := Lib.hid (SndP.firstI_step (ok := jb) (code := 72) hmk)
        have HP := Lib.hid (HJ1.out wr Hb.out k y hmk)
        clear hmk
        by_cases hy : jb k y = true
        case pos =>
          have HR0 : Hid (∀ W, Below wr.heap.size wr W → RelI jb 72 routes rn (BoxS w ⟨nodes, faulty, slot, gap, rho, dmin, dmax, margin, PA, pn, pcap, parts, QA, qn, qcap, ports, RA, rn, rcap, routes⟩) (.int .i64 ((k : Int) + 1)) W) := Lib.hid fun W hW => by
            refine ⟨k + 1, by omega, by go_num, ?_, Hb.out.step hW⟩
            rw [← Hck.out, Hst.out, if_pos hy]
          rw [hy] at HP
          clear hy Hst
          go_wp2_with fail
          refine HP.out.mono ?_
          rintro e w1 ⟨rfl, hb1⟩
          have HR1 := Lib.hid (HR0.out _ hb1)
          clear hb1 HR0
          go_wp2_with fail
          go_roundw
          case rel => exact HR1.out
          case measure => simp [intOf]; omega
        have hy2 : jb k y = false := by simpa using hy
        have HR : R = some (72, (k : Int)) := by
          have h0 := Hck.out
          rw [Hst.out, if_neg hy] at h0
          rw [HL.out, ← h0]
        subst HR
        rw [hy2] at HP
        have HN := Lib.hid (fun W => new_some 72 (k : Int) W rfl)
        rw [place_of (k : Int) (by omega)] at HN
        clear hy hy2 Hst HL
        go_wp2_with fail
        refine HP.out.mono ?_
        rintro e w1 ⟨rfl, hb1⟩
        have HB1 := Lib.hid (Hb.out.step hb1).below
        clear hb1
        go_wp2_with fail
        refine (HN.out _).mono ?_
        rintro e w2 ⟨rfl, rfl⟩
        go_wp2_with fail
        go_ret
        exact HEP.out 72 k _ _ rfl (by omega) (by omega) HB1.out
      have hkn : rn = k := by omega
      have hnone : SndP.firstI jb 72 0 routes = none := by rw [← Hck.out]; exact SndP.firstI_end (by omega)
      have HF : Hid (CheckPost R w (.returned .nilIface) wr) := Lib.hid (by rw [HL.out, hnone]; exact ErrPost.ok Hb.out.below)
      clear hnone
      subst hkn
      go_wp2_with fail
      go_ret
      exact HF.out

/-- Check: of any tables. -/
theorem scheck_any (x : CfgC) (w : World) (h : CfgIn w x) :
    Calls Try.prog 21 #[x.value] w (CheckPost (SndP.chk6 x.plain) w) := by
  cases hc : TableP.chk x.plain with
  | some f => exact scheck_head x w h f hc
  | none => exact scheck_rest x w h hc
end Go.Proofs.Ytodkcenoljpgoaa
