/- PaceTurns: the walk of the law at tables in memory, a beginning and comings. Conditions: where they lie. -/
import Derived.Test.YthhbdnjihhpalaaPacH
import Derived.Test.YthhbdnjihhpalaaTbCp
namespace Go.Proofs.Ythhbdnjihhpalaa
open Go.RowKit
set_option maxRecDepth 100000

set_option maxHeartbeats 1000000 in
theorem pturns_long (x : CfgC) (me since rate : Int) (cold : Bool) (A : Option Addr) (n cap : Nat) (hL : longB6 x = true) (w : World) : Calls Try.prog 3 #[x.value, .agg #[.int .i64 me, .int .i64 since, .int .i64 rate, .bool cold], .slice A n cap] w (TruePost w) := by
  have HA := Lib.hid (fun W => awake11_any W)
  have HLg := Lib.hid (fun W => long6_any x W)
  rw [hL] at HLg
  have HST := Lib.hid (BoxWS.start w x me since rate cold)
  clear hL
  obtain ⟨nodes, faulty, slot, gap, rho, dmin, dmax, margin, PA, pn, pcap, parts, QA, qn, qcap, ports, RA, rn, rcap, routes⟩ := x
  have d0 := fun W (hW : BoxWS w ⟨nodes, faulty, slot, gap, rho, dmin, dmax, margin, PA, pn, pcap, parts, QA, qn, qcap, ports, RA, rn, rcap, routes⟩ me since rate cold W) => hW.cells.c0
  have d1 := fun W (hW : BoxWS w ⟨nodes, faulty, slot, gap, rho, dmin, dmax, margin, PA, pn, pcap, parts, QA, qn, qcap, ports, RA, rn, rcap, routes⟩ me since rate cold W) => hW.cells.c1
  have d2 := fun W (hW : BoxWS w ⟨nodes, faulty, slot, gap, rho, dmin, dmax, margin, PA, pn, pcap, parts, QA, qn, qcap, ports, RA, rn, rcap, routes⟩ me since rate cold W) => hW.cells.c2
  have d3 := fun W (hW : BoxWS w ⟨nodes, faulty, slot, gap, rho, dmin, dmax, margin, PA, pn, pcap, parts, QA, qn, qcap, ports, RA, rn, rcap, routes⟩ me since rate cold W) => hW.cells.c3
  have d4 := fun W (hW : BoxWS w ⟨nodes, faulty, slot, gap, rho, dmin, dmax, margin, PA, pn, pcap, parts, QA, qn, qcap, ports, RA, rn, rcap, routes⟩ me since rate cold W) => hW.cells.c4
  have d5 := fun W (hW : BoxWS w ⟨nodes, faulty, slot, gap, rho, dmin, dmax, margin, PA, pn, pcap, parts, QA, qn, qcap, ports, RA, rn, rcap, routes⟩ me since rate cold W) => hW.cells.c5
  have d6 := fun W (hW : BoxWS w ⟨nodes, faulty, slot, gap, rho, dmin, dmax, margin, PA, pn, pcap, parts, QA, qn, qcap, ports, RA, rn, rcap, routes⟩ me since rate cold W) => hW.cells.c6
  have d7 := fun W (hW : BoxWS w ⟨nodes, faulty, slot, gap, rho, dmin, dmax, margin, PA, pn, pcap, parts, QA, qn, qcap, ports, RA, rn, rcap, routes⟩ me since rate cold W) => hW.cells.c7
  have d8 := fun W (hW : BoxWS w ⟨nodes, faulty, slot, gap, rho, dmin, dmax, margin, PA, pn, pcap, parts, QA, qn, qcap, ports, RA, rn, rcap, routes⟩ me since rate cold W) => hW.cells.c8
  have d9 := fun W (hW : BoxWS w ⟨nodes, faulty, slot, gap, rho, dmin, dmax, margin, PA, pn, pcap, parts, QA, qn, qcap, ports, RA, rn, rcap, routes⟩ me since rate cold W) => hW.cells.c9
  have d10 := fun W (hW : BoxWS w ⟨nodes, faulty, slot, gap, rho, dmin, dmax, margin, PA, pn, pcap, parts, QA, qn, qcap, ports, RA, rn, rcap, routes⟩ me since rate cold W) => hW.cells.c10
  have e0 : ∀ W, BoxWS w ⟨nodes, faulty, slot, gap, rho, dmin, dmax, margin, PA, pn, pcap, parts, QA, qn, qcap, ports, RA, rn, rcap, routes⟩ me since rate cold W → W.cell? ⟨w.heap.size + 1, 0, none⟩ = some (.int .i64 me) := fun W hW => hW.w0
  have e1 : ∀ W, BoxWS w ⟨nodes, faulty, slot, gap, rho, dmin, dmax, margin, PA, pn, pcap, parts, QA, qn, qcap, ports, RA, rn, rcap, routes⟩ me since rate cold W → W.cell? ⟨w.heap.size + 1, 1, none⟩ = some (.int .i64 since) := fun W hW => hW.w1
  have e2 : ∀ W, BoxWS w ⟨nodes, faulty, slot, gap, rho, dmin, dmax, margin, PA, pn, pcap, parts, QA, qn, qcap, ports, RA, rn, rcap, routes⟩ me since rate cold W → W.cell? ⟨w.heap.size + 1, 2, none⟩ = some (.int .i64 rate) := fun W hW => hW.w2
  have e3 : ∀ W, BoxWS w ⟨nodes, faulty, slot, gap, rho, dmin, dmax, margin, PA, pn, pcap, parts, QA, qn, qcap, ports, RA, rn, rcap, routes⟩ me since rate cold W → W.cell? ⟨w.heap.size + 1, 3, none⟩ = some (.bool cold) := fun W hW => hW.w3
  simp only at d0 d1 d2 d3 d4 d5 d6 d7 d8 d9 d10
  simp only [CfgC.value] at HLg ⊢
  simp only [boxW, boxC, cfgCells, whoCells] at HST
  go_enter Try.func3, Try.ntmps3
  go_wp2_with fail
  refine (HA.out _).mono ?_
  rintro e w1 ⟨rfl, hb1⟩
  have hd1 := HST.out.step hb1
  clear hb1 HA
  have k0 := d0 _ hd1
  have k1 := d1 _ hd1
  have k2 := d2 _ hd1
  have k3 := d3 _ hd1
  have k4 := d4 _ hd1
  have k5 := d5 _ hd1
  have k6 := d6 _ hd1
  have k7 := d7 _ hd1
  have k8 := d8 _ hd1
  have k9 := d9 _ hd1
  have k10 := d10 _ hd1
  have j0 := e0 _ hd1
  have j1 := e1 _ hd1
  have j2 := e2 _ hd1
  have j3 := e3 _ hd1
  have Hd1 := Lib.hid hd1
  clear hd1
  go_wp2_with fail
  refine (HLg.out _).mono ?_
  rintro e w2 ⟨rfl, hb2⟩
  have hd2 := Hd1.out.step hb2
  clear hb2 Hd1 HLg k0 k1 k2 k3 k4 k5 k6 k7 k8 k9 k10 j0 j1 j2 j3
  have HF := Lib.hid hd2.below
  clear hd2
  go_wp2_with fail
  go_ret
  exact ⟨rfl, HF.out⟩

set_option maxHeartbeats 2000000 in
theorem pturns_bad (x : CfgC) (me since rate : Int) (cold : Bool) (A : Option Addr) (n cap : Nat) (f : FrameP.Wrong) (hf : SndP.chk6 x.plain = some f) (hL : longB6 x = false) (w : World) (h : CfgIn w x) : Calls Try.prog 3 #[x.value, .agg #[.int .i64 me, .int .i64 since, .int .i64 rate, .bool cold], .slice A n cap] w (TruePost w) := by
  have HA := Lib.hid (fun W => awake11_any W)
  have HLg := Lib.hid (fun W => long6_any x W)
  rw [hL] at HLg
  have HST := Lib.hid (BoxWS.start w x me since rate cold)
  have HRc := Lib.hid (fun W (hW : BoxWS w x me since rate cold W) => rcheck_any x W (h.below hW.below))
  have HCp : Hid (∀ W, BoxWS w x me since rate cold W → Calls Try.prog 9 #[x.value] W (CopiedPost x.plain W)) := Lib.hid fun W hW => by
    have := longB6_no hL
    exact copied_any x W (h.below hW.below) (by omega) (by omega) (by omega)
  have HE1 : Hid (∀ W, Calls Try.prog 11 #[.int .i64 1] W fun e w' => e = .returned (.string ⟨#[49]⟩) ∧ Below W.heap.size W w') := Lib.hid (fun W => by have := e_any 1 W (by omega); rw [numN1] at this; exact this)
  have HN : Hid (∀ y W, CfgIn W y → y.plain = x.plain → Calls Try.prog 8 #[y.value, .int .i64 me, .int .i64 since, .int .i64 rate, .bool cold] W (NoPace (wrongT (some f)) W)) := Lib.hid fun y W hy e => pnew_bad y me since rate cold W hy f (by rw [e]; exact hf)
  rw [hf] at HRc
  have hne := wrongS_ne f
  unfold RefChkPost at HRc
  generalize wrongT (some f) = t at *
  cases t with
  | nil => exact absurd rfl hne
  | cons u r =>
  clear hne hf hL h
  obtain ⟨nodes, faulty, slot, gap, rho, dmin, dmax, margin, PA, pn, pcap, parts, QA, qn, qcap, ports, RA, rn, rcap, routes⟩ := x
  have d0 := fun W (hW : BoxWS w ⟨nodes, faulty, slot, gap, rho, dmin, dmax, margin, PA, pn, pcap, parts, QA, qn, qcap, ports, RA, rn, rcap, routes⟩ me since rate cold W) => hW.cells.c0
  have d1 := fun W (hW : BoxWS w ⟨nodes, faulty, slot, gap, rho, dmin, dmax, margin, PA, pn, pcap, parts, QA, qn, qcap, ports, RA, rn, rcap, routes⟩ me since rate cold W) => hW.cells.c1
  have d2 := fun W (hW : BoxWS w ⟨nodes, faulty, slot, gap, rho, dmin, dmax, margin, PA, pn, pcap, parts, QA, qn, qcap, ports, RA, rn, rcap, routes⟩ me since rate cold W) => hW.cells.c2
  have d3 := fun W (hW : BoxWS w ⟨nodes, faulty, slot, gap, rho, dmin, dmax, margin, PA, pn, pcap, parts, QA, qn, qcap, ports, RA, rn, rcap, routes⟩ me since rate cold W) => hW.cells.c3
  have d4 := fun W (hW : BoxWS w ⟨nodes, faulty, slot, gap, rho, dmin, dmax, margin, PA, pn, pcap, parts, QA, qn, qcap, ports, RA, rn, rcap, routes⟩ me since rate cold W) => hW.cells.c4
  have d5 := fun W (hW : BoxWS w ⟨nodes, faulty, slot, gap, rho, dmin, dmax, margin, PA, pn, pcap, parts, QA, qn, qcap, ports, RA, rn, rcap, routes⟩ me since rate cold W) => hW.cells.c5
  have d6 := fun W (hW : BoxWS w ⟨nodes, faulty, slot, gap, rho, dmin, dmax, margin, PA, pn, pcap, parts, QA, qn, qcap, ports, RA, rn, rcap, routes⟩ me since rate cold W) => hW.cells.c6
  have d7 := fun W (hW : BoxWS w ⟨nodes, faulty, slot, gap, rho, dmin, dmax, margin, PA, pn, pcap, parts, QA, qn, qcap, ports, RA, rn, rcap, routes⟩ me since rate cold W) => hW.cells.c7
  have d8 := fun W (hW : BoxWS w ⟨nodes, faulty, slot, gap, rho, dmin, dmax, margin, PA, pn, pcap, parts, QA, qn, qcap, ports, RA, rn, rcap, routes⟩ me since rate cold W) => hW.cells.c8
  have d9 := fun W (hW : BoxWS w ⟨nodes, faulty, slot, gap, rho, dmin, dmax, margin, PA, pn, pcap, parts, QA, qn, qcap, ports, RA, rn, rcap, routes⟩ me since rate cold W) => hW.cells.c9
  have d10 := fun W (hW : BoxWS w ⟨nodes, faulty, slot, gap, rho, dmin, dmax, margin, PA, pn, pcap, parts, QA, qn, qcap, ports, RA, rn, rcap, routes⟩ me since rate cold W) => hW.cells.c10
  have e0 : ∀ W, BoxWS w ⟨nodes, faulty, slot, gap, rho, dmin, dmax, margin, PA, pn, pcap, parts, QA, qn, qcap, ports, RA, rn, rcap, routes⟩ me since rate cold W → W.cell? ⟨w.heap.size + 1, 0, none⟩ = some (.int .i64 me) := fun W hW => hW.w0
  have e1 : ∀ W, BoxWS w ⟨nodes, faulty, slot, gap, rho, dmin, dmax, margin, PA, pn, pcap, parts, QA, qn, qcap, ports, RA, rn, rcap, routes⟩ me since rate cold W → W.cell? ⟨w.heap.size + 1, 1, none⟩ = some (.int .i64 since) := fun W hW => hW.w1
  have e2 : ∀ W, BoxWS w ⟨nodes, faulty, slot, gap, rho, dmin, dmax, margin, PA, pn, pcap, parts, QA, qn, qcap, ports, RA, rn, rcap, routes⟩ me since rate cold W → W.cell? ⟨w.heap.size + 1, 2, none⟩ = some (.int .i64 rate) := fun W hW => hW.w2
  have e3 : ∀ W, BoxWS w ⟨nodes, faulty, slot, gap, rho, dmin, dmax, margin, PA, pn, pcap, parts, QA, qn, qcap, ports, RA, rn, rcap, routes⟩ me since rate cold W → W.cell? ⟨w.heap.size + 1, 3, none⟩ = some (.bool cold) := fun W hW => hW.w3
  simp only at d0 d1 d2 d3 d4 d5 d6 d7 d8 d9 d10
  simp only [CfgC.value] at HLg HRc HCp ⊢
  simp only [boxW, boxC, cfgCells, whoCells] at HST
  go_enter Try.func3, Try.ntmps3
  go_wp2_with fail
  refine (HA.out _).mono ?_
  rintro e w1 ⟨rfl, hb1⟩
  have hd1 := HST.out.step hb1
  clear hb1 HA
  have k0 := d0 _ hd1
  have k1 := d1 _ hd1
  have k2 := d2 _ hd1
  have k3 := d3 _ hd1
  have k4 := d4 _ hd1
  have k5 := d5 _ hd1
  have k6 := d6 _ hd1
  have k7 := d7 _ hd1
  have k8 := d8 _ hd1
  have k9 := d9 _ hd1
  have k10 := d10 _ hd1
  have j0 := e0 _ hd1
  have j1 := e1 _ hd1
  have j2 := e2 _ hd1
  have j3 := e3 _ hd1
  have Hd1 := Lib.hid hd1
  clear hd1
  go_wp2_with fail
  refine (HLg.out _).mono ?_
  rintro e w2 ⟨rfl, hb2⟩
  have hd2 := Hd1.out.step hb2
  clear hb2 Hd1 HLg k0 k1 k2 k3 k4 k5 k6 k7 k8 k9 k10 j0 j1 j2 j3
  go_wp2_with fail
  refine wp_region_held_drew (S := fun W => BoxWS w ⟨nodes, faulty, slot, gap, rho, dmin, dmax, margin, PA, pn, pcap, parts, QA, qn, qcap, ports, RA, rn, rcap, routes⟩ me since rate cold W) (by kernel_rfl) hd2.drew (fun _ => ?_)
  refine wpAnyH_take (i := 0) (oi := ?oo1) (v := ?vv1) ?ii1 (by kernel_rfl) ?ff1 (by kernel_rfl) ?qq1 (Or.inl ⟨?ww1, ?yy1⟩) hd2.drew ?rr1
  case ii1 => simp only [List.getElem?_toArray, List.getElem?_cons_zero]; rfl
  case ff1 => kernel_rfl
  case qq1 => exact fun _ _ _ h => h
  case ww1 => rfl
  case yy1 => intro W hW; go_simp <;> with_reducible rfl
  try simp only [Act.put, List.setIfInBounds_toArray, List.set_cons_zero, List.set_cons_succ]
  refine wpAnyH_take (i := 2) (oi := ?oo2) (v := ?vv2) ?ii2 (by kernel_rfl) ?ff2 (by kernel_rfl) ?qq2 (Or.inl ⟨?ww2, ?yy2⟩) hd2.drew ?rr2
  case ii2 => simp only [List.getElem?_toArray, List.getElem?_cons_succ, List.getElem?_cons_zero]; rfl
  case ff2 => kernel_rfl
  case qq2 => exact fun _ _ _ h => h
  case ww2 => rfl
  case yy2 => intro W hW; go_simp <;> with_reducible rfl
  try simp only [Act.put, List.setIfInBounds_toArray, List.set_cons_zero, List.set_cons_succ]
  refine wpAnyH_take (i := 3) (oi := ?oo3) (v := ?vv3) ?ii3 (by kernel_rfl) ?ff3 (by kernel_rfl) ?qq3 (Or.inl ⟨?ww3, ?yy3⟩) hd2.drew ?rr3
  case ii3 => simp only [List.getElem?_toArray, List.getElem?_cons_succ, List.getElem?_cons_zero]; rfl
  case ff3 => kernel_rfl
  case qq3 => exact fun _ _ _ h => h
  case ww3 => rfl
  case yy3 => intro W hW; go_simp <;> with_reducible rfl
  try simp only [Act.put, List.setIfInBounds_toArray, List.set_cons_zero, List.set_cons_succ]
  refine wpAnyH_take (i := 4) (oi := ?oo4) (v := ?vv4) ?ii4 (by kernel_rfl) ?ff4 (by kernel_rfl) ?qq4 (Or.inl ⟨?ww4, ?yy4⟩) hd2.drew ?rr4
  case ii4 => simp only [List.getElem?_toArray, List.getElem?_cons_succ, List.getElem?_cons_zero]; rfl
  case ff4 => kernel_rfl
  case qq4 => exact fun _ _ _ h => h
  case ww4 => rfl
  case yy4 => intro W hW; go_simp <;> with_reducible rfl
  try simp only [Act.put, List.setIfInBounds_toArray, List.set_cons_zero, List.set_cons_succ]
  refine wpAnyH_take (i := 5) (oi := ?oo5) (v := ?vv5) ?ii5 (by kernel_rfl) ?ff5 (by kernel_rfl) ?qq5 (Or.inl ⟨?ww5, ?yy5⟩) hd2.drew ?rr5
  case ii5 => simp only [List.getElem?_toArray, List.getElem?_cons_succ, List.getElem?_cons_zero]; rfl
  case ff5 => kernel_rfl
  case qq5 => exact fun _ _ _ h => h
  case ww5 => rfl
  case yy5 => intro W hW; go_simp <;> with_reducible rfl
  try simp only [Act.put, List.setIfInBounds_toArray, List.set_cons_zero, List.set_cons_succ]
  refine wpAnyH_take (i := 6) (oi := ?oo6) (v := ?vv6) ?ii6 (by kernel_rfl) ?ff6 (by kernel_rfl) ?qq6 (Or.inl ⟨?ww6, ?yy6⟩) hd2.drew ?rr6
  case ii6 => simp only [List.getElem?_toArray, List.getElem?_cons_succ, List.getElem?_cons_zero]; rfl
  case ff6 => kernel_rfl
  case qq6 => exact fun _ _ _ h => h
  case ww6 => rfl
  case yy6 => intro W hW; go_simp <;> with_reducible rfl
  try simp only [Act.put, List.setIfInBounds_toArray, List.set_cons_zero, List.set_cons_succ]
  refine wpAnyH_take (i := 7) (oi := ?oo7) (v := ?vv7) ?ii7 (by kernel_rfl) ?ff7 (by kernel_rfl) ?qq7 (Or.inl ⟨?ww7, ?yy7⟩) hd2.drew ?rr7
  case ii7 => simp only [List.getElem?_toArray, List.getElem?_cons_succ, List.getElem?_cons_zero]; rfl
  case ff7 => kernel_rfl
  case qq7 => exact fun _ _ _ h => h
  case ww7 => rfl
  case yy7 => intro W hW; go_simp <;> with_reducible rfl
  try simp only [Act.put, List.setIfInBounds_toArray, List.set_cons_zero, List.set_cons_succ]
  refine wpAnyH_take (i := 8) (oi := ?oo8) (v := ?vv8) ?ii8 (by kernel_rfl) ?ff8 (by kernel_rfl) ?qq8 (Or.inl ⟨?ww8, ?yy8⟩) hd2.drew ?rr8
  case ii8 => simp only [List.getElem?_toArray, List.getElem?_cons_succ, List.getElem?_cons_zero]; rfl
  case ff8 => kernel_rfl
  case qq8 => exact fun _ _ _ h => h
  case ww8 => rfl
  case yy8 => intro W hW; go_simp <;> with_reducible rfl
  try simp only [Act.put, List.setIfInBounds_toArray, List.set_cons_zero, List.set_cons_succ]
  refine wpAnyH_take (i := 9) (oi := ?oo9) (v := ?vv9) ?ii9 (by kernel_rfl) ?ff9 (by kernel_rfl) ?qq9 (Or.inl ⟨?ww9, ?yy9⟩) hd2.drew ?rr9
  case ii9 => simp only [List.getElem?_toArray, List.getElem?_cons_succ, List.getElem?_cons_zero]; rfl
  case ff9 => kernel_rfl
  case qq9 => exact fun _ _ _ h => h
  case ww9 => rfl
  case yy9 => intro W hW; go_simp <;> with_reducible rfl
  try simp only [Act.put, List.setIfInBounds_toArray, List.set_cons_zero, List.set_cons_succ]
  refine wpAnyH_ready (rs := [1]) (by kernel_rfl) (by simp) ?_
  refine AllReadyH.cons (o := ?oo10) ?ii10 (fun K hK => ?_) AllReadyH.nil
  case ii10 => simp only [List.getElem?_toArray, List.getElem?_cons_succ, List.getElem?_cons_zero]; rfl
  go_simp
  refine (HCp.out _ hd2.drew).mono ?_
  rintro e w3 ⟨v3, rfl, ⟨y, rfl, hx3, hp3⟩, hb3⟩
  have hd3 := hd2.drew.step hb3
  have HN3 := Lib.hid (HN.out y _ hx3 hp3)
  clear hx3 hp3 hb3 hd2 HN HCp
  go_wp2_with fail
  refine hK.out _ _ hd3 (fun _ => ?_)
  clear hK K
  refine wpAnyH_ready (rs := [10]) (by kernel_rfl) (by simp) ?_
  refine AllReadyH.cons (o := ?oo11) ?ii11 (fun K hK => ?_) AllReadyH.nil
  case ii11 => simp only [List.getElem?_toArray, List.getElem?_cons_succ, List.getElem?_cons_zero]; rfl
  go_simp
  refine HN3.out.mono ?_
  rintro e w4 ⟨b4, rfl, hx4, hb4⟩
  have hd4 := hd3.step hb4
  have HX4 := Lib.hid hx4
  clear hx4 hb4 HN3 hd3
  go_wp2_with fail
  refine hK.out _ _ hd4 (fun _ => ?_)
  clear hK K
  refine wpAnyH_take (i := 11) (oi := ?oo12) (v := ?vv12) ?ii12 (by kernel_rfl) ?ff12 (by kernel_rfl) ?qq12 (Or.inl ⟨?ww12, ?yy12⟩) hd4 ?rr12
  case ii12 => simp only [List.getElem?_toArray, List.getElem?_cons_succ, List.getElem?_cons_zero]; rfl
  case ff12 => kernel_rfl
  case qq12 => exact fun _ _ _ h => h
  case ww12 => rfl
  case yy12 => intro W hW; go_simp <;> with_reducible rfl
  try simp only [Act.put, List.setIfInBounds_toArray, List.set_cons_zero, List.set_cons_succ]
  refine wpAnyH_take (i := 12) (oi := ?oo13) (v := ?vv13) ?ii13 (by kernel_rfl) ?ff13 (by kernel_rfl) ?qq13 (Or.inl ⟨?ww13, ?yy13⟩) hd4 ?rr13
  case ii13 => simp only [List.getElem?_toArray, List.getElem?_cons_succ, List.getElem?_cons_zero]; rfl
  case ff13 => kernel_rfl
  case qq13 => exact fun _ _ _ h => h
  case ww13 => rfl
  case yy13 => intro W hW; go_simp <;> with_reducible rfl
  try simp only [Act.put, List.setIfInBounds_toArray, List.set_cons_zero, List.set_cons_succ]
  refine wpAnyH_take (i := 13) (oi := ?oo14) (v := ?vv14) ?ii14 (by kernel_rfl) ?ff14 (by kernel_rfl) ?qq14 (Or.inl ⟨?ww14, ?yy14⟩) hd4 ?rr14
  case ii14 => simp only [List.getElem?_toArray, List.getElem?_cons_succ, List.getElem?_cons_zero]; rfl
  case ff14 => kernel_rfl
  case qq14 => exact fun _ _ _ h => h
  case ww14 => rfl
  case yy14 => intro W hW; go_simp <;> with_reducible rfl
  try simp only [Act.put, List.setIfInBounds_toArray, List.set_cons_zero, List.set_cons_succ]
  refine wpAnyH_take (i := 14) (oi := ?oo15) (v := ?vv15) ?ii15 (by kernel_rfl) ?ff15 (by kernel_rfl) ?qq15 (Or.inl ⟨?ww15, ?yy15⟩) hd4 ?rr15
  case ii15 => simp only [List.getElem?_toArray, List.getElem?_cons_succ, List.getElem?_cons_zero]; rfl
  case ff15 => kernel_rfl
  case qq15 => exact fun _ _ _ h => h
  case ww15 => rfl
  case yy15 => intro W hW; go_simp <;> with_reducible rfl
  try simp only [Act.put, List.setIfInBounds_toArray, List.set_cons_zero, List.set_cons_succ]
  refine wpAnyH_take (i := 15) (oi := ?oo16) (v := ?vv16) ?ii16 (by kernel_rfl) ?ff16 (by kernel_rfl) ?qq16 (Or.inl ⟨?ww16, ?yy16⟩) hd4 ?rr16
  case ii16 => simp only [List.getElem?_toArray, List.getElem?_cons_succ, List.getElem?_cons_zero]; rfl
  case ff16 => kernel_rfl
  case qq16 => exact fun _ _ _ h => h
  case ww16 => rfl
  case yy16 => intro W hW; go_simp <;> with_reducible rfl
  try simp only [Act.put, List.setIfInBounds_toArray, List.set_cons_zero, List.set_cons_succ]
  refine wpAnyH_done (by kernel_rfl) ?_ _
  have k0 := d0 _ hd4
  have k1 := d1 _ hd4
  have k2 := d2 _ hd4
  have k3 := d3 _ hd4
  have k4 := d4 _ hd4
  have k5 := d5 _ hd4
  have k6 := d6 _ hd4
  have k7 := d7 _ hd4
  have k8 := d8 _ hd4
  have k9 := d9 _ hd4
  have k10 := d10 _ hd4
  have j0 := e0 _ hd4
  have j1 := e1 _ hd4
  have j2 := e2 _ hd4
  have j3 := e3 _ hd4
  have Hd4 := Lib.hid hd4
  clear hd4
  go_wp2_with fail
  refine (HRc.out _ Hd4.out).mono ?_
  rintro e w5 ⟨rfl, hb5⟩
  have HX5 := Lib.hid (ErrText.read (HX4.out.below hb5))
  have Hd5 := Lib.hid (Hd4.out.step hb5)
  clear hb5 HX4 Hd4 HRc k0 k1 k2 k3 k4 k5 k6 k7 k8 k9 k10 j0 j1 j2 j3
  unfold strV at *
  go_wp2_with fail
  refine HX5.out.mono ?_
  rintro e w6 ⟨rfl, hb6⟩
  have HF := Lib.hid (Hd5.out.step hb6).below
  clear hb6 Hd5 HX5
  go_wp2_with fail
  refine (pturn_nil _).mono ?_
  rintro e w7 ⟨rfl, m7, rfl⟩
  go_wp2_with fail
  refine (read_one11 _).mono ?_
  rintro e w8 ⟨rfl, hb8⟩
  have HF8 := Lib.hid ((below_drewNc HF.out m7).trans (hb8.mono (below_drewNc HF.out m7).size))
  clear hb8 HF
  go_wp2_with fail
  refine (HE1.out _).mono ?_
  rintro e w9 ⟨rfl, hb9⟩
  have HF9 := Lib.hid (HF8.out.trans (hb9.mono HF8.out.size))
  clear hb9 HF8
  go_wp2_with fail
  refine (phear_nil _ _ _).mono ?_
  rintro e w10 ⟨rfl, m10, rfl⟩
  go_wp2_with fail
  refine (preal_nil _ _).mono ?_
  rintro e w11 ⟨rfl, m11, rfl⟩
  go_wp2_with fail
  refine (plocal_nil _ _).mono ?_
  rintro e w12 ⟨rfl, m12, rfl⟩
  go_wp2_with fail
  go_ret
  exact ⟨rfl, below_drewNc HF9.out _⟩

set_option maxHeartbeats 2000000 in
theorem pturns_range0 (x : CfgC) (me since rate : Int) (cold : Bool) (A : Option Addr) (n cap : Nat) (hf : SndP.chk6 x.plain = none) (hL : longB6 x = false) (hq : me < -1) (w : World) (h : CfgIn w x) : Calls Try.prog 3 #[x.value, .agg #[.int .i64 me, .int .i64 since, .int .i64 rate, .bool cold], .slice A n cap] w (TruePost w) := by
  have HA := Lib.hid (fun W => awake11_any W)
  have HLg := Lib.hid (fun W => long6_any x W)
  rw [hL] at HLg
  have HST := Lib.hid (BoxWS.start w x me since rate cold)
  have HRc := Lib.hid (fun W (hW : BoxWS w x me since rate cold W) => rcheck_any x W (h.below hW.below))
  rw [hf] at HRc
  unfold RefChkPost strV at HRc
  simp only [wrongT] at HRc
  have HCp : Hid (∀ W, BoxWS w x me since rate cold W → Calls Try.prog 9 #[x.value] W (CopiedPost x.plain W)) := Lib.hid fun W hW => by
    have := longB6_no hL
    exact copied_any x W (h.below hW.below) (by omega) (by omega) (by omega)
  have HE1 : Hid (∀ W, Calls Try.prog 11 #[.int .i64 1] W fun e w' => e = .returned (.string ⟨#[49]⟩) ∧ Below W.heap.size W w') := Lib.hid (fun W => by have := e_any 1 W (by omega); rw [numN1] at this; exact this)
  have HE2 : Hid (∀ W, Calls Try.prog 11 #[.int .i64 2] W fun e w' => e = .returned (.string ⟨#[50]⟩) ∧ Below W.heap.size W w') := Lib.hid (fun W => by have := e_any 2 W (by omega); rw [numN2] at this; exact this)
  have HN : Hid (∀ y W, CfgIn W y → y.plain = x.plain → Calls Try.prog 8 #[y.value, .int .i64 me, .int .i64 since, .int .i64 rate, .bool cold] W (NoPace2 W)) := Lib.hid fun y W hy e => pnew_range y me since rate cold W hy (by rw [e]; exact hf) (by have : y.nodes = x.nodes := congrArg TableP.Cfg.nodes e; omega)
  clear hf hL h
  obtain ⟨nodes, faulty, slot, gap, rho, dmin, dmax, margin, PA, pn, pcap, parts, QA, qn, qcap, ports, RA, rn, rcap, routes⟩ := x
  have d0 := fun W (hW : BoxWS w ⟨nodes, faulty, slot, gap, rho, dmin, dmax, margin, PA, pn, pcap, parts, QA, qn, qcap, ports, RA, rn, rcap, routes⟩ me since rate cold W) => hW.cells.c0
  have d1 := fun W (hW : BoxWS w ⟨nodes, faulty, slot, gap, rho, dmin, dmax, margin, PA, pn, pcap, parts, QA, qn, qcap, ports, RA, rn, rcap, routes⟩ me since rate cold W) => hW.cells.c1
  have d2 := fun W (hW : BoxWS w ⟨nodes, faulty, slot, gap, rho, dmin, dmax, margin, PA, pn, pcap, parts, QA, qn, qcap, ports, RA, rn, rcap, routes⟩ me since rate cold W) => hW.cells.c2
  have d3 := fun W (hW : BoxWS w ⟨nodes, faulty, slot, gap, rho, dmin, dmax, margin, PA, pn, pcap, parts, QA, qn, qcap, ports, RA, rn, rcap, routes⟩ me since rate cold W) => hW.cells.c3
  have d4 := fun W (hW : BoxWS w ⟨nodes, faulty, slot, gap, rho, dmin, dmax, margin, PA, pn, pcap, parts, QA, qn, qcap, ports, RA, rn, rcap, routes⟩ me since rate cold W) => hW.cells.c4
  have d5 := fun W (hW : BoxWS w ⟨nodes, faulty, slot, gap, rho, dmin, dmax, margin, PA, pn, pcap, parts, QA, qn, qcap, ports, RA, rn, rcap, routes⟩ me since rate cold W) => hW.cells.c5
  have d6 := fun W (hW : BoxWS w ⟨nodes, faulty, slot, gap, rho, dmin, dmax, margin, PA, pn, pcap, parts, QA, qn, qcap, ports, RA, rn, rcap, routes⟩ me since rate cold W) => hW.cells.c6
  have d7 := fun W (hW : BoxWS w ⟨nodes, faulty, slot, gap, rho, dmin, dmax, margin, PA, pn, pcap, parts, QA, qn, qcap, ports, RA, rn, rcap, routes⟩ me since rate cold W) => hW.cells.c7
  have d8 := fun W (hW : BoxWS w ⟨nodes, faulty, slot, gap, rho, dmin, dmax, margin, PA, pn, pcap, parts, QA, qn, qcap, ports, RA, rn, rcap, routes⟩ me since rate cold W) => hW.cells.c8
  have d9 := fun W (hW : BoxWS w ⟨nodes, faulty, slot, gap, rho, dmin, dmax, margin, PA, pn, pcap, parts, QA, qn, qcap, ports, RA, rn, rcap, routes⟩ me since rate cold W) => hW.cells.c9
  have d10 := fun W (hW : BoxWS w ⟨nodes, faulty, slot, gap, rho, dmin, dmax, margin, PA, pn, pcap, parts, QA, qn, qcap, ports, RA, rn, rcap, routes⟩ me since rate cold W) => hW.cells.c10
  have e0 : ∀ W, BoxWS w ⟨nodes, faulty, slot, gap, rho, dmin, dmax, margin, PA, pn, pcap, parts, QA, qn, qcap, ports, RA, rn, rcap, routes⟩ me since rate cold W → W.cell? ⟨w.heap.size + 1, 0, none⟩ = some (.int .i64 me) := fun W hW => hW.w0
  have e1 : ∀ W, BoxWS w ⟨nodes, faulty, slot, gap, rho, dmin, dmax, margin, PA, pn, pcap, parts, QA, qn, qcap, ports, RA, rn, rcap, routes⟩ me since rate cold W → W.cell? ⟨w.heap.size + 1, 1, none⟩ = some (.int .i64 since) := fun W hW => hW.w1
  have e2 : ∀ W, BoxWS w ⟨nodes, faulty, slot, gap, rho, dmin, dmax, margin, PA, pn, pcap, parts, QA, qn, qcap, ports, RA, rn, rcap, routes⟩ me since rate cold W → W.cell? ⟨w.heap.size + 1, 2, none⟩ = some (.int .i64 rate) := fun W hW => hW.w2
  have e3 : ∀ W, BoxWS w ⟨nodes, faulty, slot, gap, rho, dmin, dmax, margin, PA, pn, pcap, parts, QA, qn, qcap, ports, RA, rn, rcap, routes⟩ me since rate cold W → W.cell? ⟨w.heap.size + 1, 3, none⟩ = some (.bool cold) := fun W hW => hW.w3
  simp only at d0 d1 d2 d3 d4 d5 d6 d7 d8 d9 d10 hq
  have q0 : decide (me < -1) = true := decide_eq_true (by omega)
  clear hq
  simp only [CfgC.value] at HLg HRc HCp ⊢
  simp only [boxW, boxC, cfgCells, whoCells] at HST
  go_enter Try.func3, Try.ntmps3
  go_wp2_with fail
  refine (HA.out _).mono ?_
  rintro e w1 ⟨rfl, hb1⟩
  have hd1 := HST.out.step hb1
  clear hb1 HA
  have k0 := d0 _ hd1
  have k1 := d1 _ hd1
  have k2 := d2 _ hd1
  have k3 := d3 _ hd1
  have k4 := d4 _ hd1
  have k5 := d5 _ hd1
  have k6 := d6 _ hd1
  have k7 := d7 _ hd1
  have k8 := d8 _ hd1
  have k9 := d9 _ hd1
  have k10 := d10 _ hd1
  have j0 := e0 _ hd1
  have j1 := e1 _ hd1
  have j2 := e2 _ hd1
  have j3 := e3 _ hd1
  have Hd1 := Lib.hid hd1
  clear hd1
  go_wp2_with fail
  refine (HLg.out _).mono ?_
  rintro e w2 ⟨rfl, hb2⟩
  have hd2 := Hd1.out.step hb2
  clear hb2 Hd1 HLg k0 k1 k2 k3 k4 k5 k6 k7 k8 k9 k10 j0 j1 j2 j3
  go_wp2_with fail
  refine wp_region_held_drew (S := fun W => BoxWS w ⟨nodes, faulty, slot, gap, rho, dmin, dmax, margin, PA, pn, pcap, parts, QA, qn, qcap, ports, RA, rn, rcap, routes⟩ me since rate cold W) (by kernel_rfl) hd2.drew (fun _ => ?_)
  refine wpAnyH_take (i := 0) (oi := ?oo17) (v := ?vv17) ?ii17 (by kernel_rfl) ?ff17 (by kernel_rfl) ?qq17 (Or.inl ⟨?ww17, ?yy17⟩) hd2.drew ?rr17
  case ii17 => simp only [List.getElem?_toArray, List.getElem?_cons_zero]; rfl
  case ff17 => kernel_rfl
  case qq17 => exact fun _ _ _ h => h
  case ww17 => rfl
  case yy17 => intro W hW; go_simp <;> with_reducible rfl
  try simp only [Act.put, List.setIfInBounds_toArray, List.set_cons_zero, List.set_cons_succ]
  refine wpAnyH_take (i := 2) (oi := ?oo18) (v := ?vv18) ?ii18 (by kernel_rfl) ?ff18 (by kernel_rfl) ?qq18 (Or.inl ⟨?ww18, ?yy18⟩) hd2.drew ?rr18
  case ii18 => simp only [List.getElem?_toArray, List.getElem?_cons_succ, List.getElem?_cons_zero]; rfl
  case ff18 => kernel_rfl
  case qq18 => exact fun _ _ _ h => h
  case ww18 => rfl
  case yy18 => intro W hW; go_simp <;> with_reducible rfl
  try simp only [Act.put, List.setIfInBounds_toArray, List.set_cons_zero, List.set_cons_succ]
  refine wpAnyH_take (i := 3) (oi := ?oo19) (v := ?vv19) ?ii19 (by kernel_rfl) ?ff19 (by kernel_rfl) ?qq19 (Or.inl ⟨?ww19, ?yy19⟩) hd2.drew ?rr19
  case ii19 => simp only [List.getElem?_toArray, List.getElem?_cons_succ, List.getElem?_cons_zero]; rfl
  case ff19 => kernel_rfl
  case qq19 => exact fun _ _ _ h => h
  case ww19 => rfl
  case yy19 => intro W hW; go_simp <;> with_reducible rfl
  try simp only [Act.put, List.setIfInBounds_toArray, List.set_cons_zero, List.set_cons_succ]
  refine wpAnyH_take (i := 4) (oi := ?oo20) (v := ?vv20) ?ii20 (by kernel_rfl) ?ff20 (by kernel_rfl) ?qq20 (Or.inl ⟨?ww20, ?yy20⟩) hd2.drew ?rr20
  case ii20 => simp only [List.getElem?_toArray, List.getElem?_cons_succ, List.getElem?_cons_zero]; rfl
  case ff20 => kernel_rfl
  case qq20 => exact fun _ _ _ h => h
  case ww20 => rfl
  case yy20 => intro W hW; go_simp <;> with_reducible rfl
  try simp only [Act.put, List.setIfInBounds_toArray, List.set_cons_zero, List.set_cons_succ]
  refine wpAnyH_take (i := 5) (oi := ?oo21) (v := ?vv21) ?ii21 (by kernel_rfl) ?ff21 (by kernel_rfl) ?qq21 (Or.inl ⟨?ww21, ?yy21⟩) hd2.drew ?rr21
  case ii21 => simp only [List.getElem?_toArray, List.getElem?_cons_succ, List.getElem?_cons_zero]; rfl
  case ff21 => kernel_rfl
  case qq21 => exact fun _ _ _ h => h
  case ww21 => rfl
  case yy21 => intro W hW; go_simp <;> with_reducible rfl
  try simp only [Act.put, List.setIfInBounds_toArray, List.set_cons_zero, List.set_cons_succ]
  refine wpAnyH_take (i := 6) (oi := ?oo22) (v := ?vv22) ?ii22 (by kernel_rfl) ?ff22 (by kernel_rfl) ?qq22 (Or.inl ⟨?ww22, ?yy22⟩) hd2.drew ?rr22
  case ii22 => simp only [List.getElem?_toArray, List.getElem?_cons_succ, List.getElem?_cons_zero]; rfl
  case ff22 => kernel_rfl
  case qq22 => exact fun _ _ _ h => h
  case ww22 => rfl
  case yy22 => intro W hW; go_simp <;> with_reducible rfl
  try simp only [Act.put, List.setIfInBounds_toArray, List.set_cons_zero, List.set_cons_succ]
  refine wpAnyH_take (i := 7) (oi := ?oo23) (v := ?vv23) ?ii23 (by kernel_rfl) ?ff23 (by kernel_rfl) ?qq23 (Or.inl ⟨?ww23, ?yy23⟩) hd2.drew ?rr23
  case ii23 => simp only [List.getElem?_toArray, List.getElem?_cons_succ, List.getElem?_cons_zero]; rfl
  case ff23 => kernel_rfl
  case qq23 => exact fun _ _ _ h => h
  case ww23 => rfl
  case yy23 => intro W hW; go_simp <;> with_reducible rfl
  try simp only [Act.put, List.setIfInBounds_toArray, List.set_cons_zero, List.set_cons_succ]
  refine wpAnyH_take (i := 8) (oi := ?oo24) (v := ?vv24) ?ii24 (by kernel_rfl) ?ff24 (by kernel_rfl) ?qq24 (Or.inl ⟨?ww24, ?yy24⟩) hd2.drew ?rr24
  case ii24 => simp only [List.getElem?_toArray, List.getElem?_cons_succ, List.getElem?_cons_zero]; rfl
  case ff24 => kernel_rfl
  case qq24 => exact fun _ _ _ h => h
  case ww24 => rfl
  case yy24 => intro W hW; go_simp <;> with_reducible rfl
  try simp only [Act.put, List.setIfInBounds_toArray, List.set_cons_zero, List.set_cons_succ]
  refine wpAnyH_take (i := 9) (oi := ?oo25) (v := ?vv25) ?ii25 (by kernel_rfl) ?ff25 (by kernel_rfl) ?qq25 (Or.inl ⟨?ww25, ?yy25⟩) hd2.drew ?rr25
  case ii25 => simp only [List.getElem?_toArray, List.getElem?_cons_succ, List.getElem?_cons_zero]; rfl
  case ff25 => kernel_rfl
  case qq25 => exact fun _ _ _ h => h
  case ww25 => rfl
  case yy25 => intro W hW; go_simp <;> with_reducible rfl
  try simp only [Act.put, List.setIfInBounds_toArray, List.set_cons_zero, List.set_cons_succ]
  refine wpAnyH_ready (rs := [1]) (by kernel_rfl) (by simp) ?_
  refine AllReadyH.cons (o := ?oo26) ?ii26 (fun K hK => ?_) AllReadyH.nil
  case ii26 => simp only [List.getElem?_toArray, List.getElem?_cons_succ, List.getElem?_cons_zero]; rfl
  go_simp
  refine (HCp.out _ hd2.drew).mono ?_
  rintro e w3 ⟨v3, rfl, ⟨y, rfl, hx3, hp3⟩, hb3⟩
  have hd3 := hd2.drew.step hb3
  have HN3 := Lib.hid (HN.out y _ hx3 hp3)
  clear hx3 hp3 hb3 hd2 HN HCp
  go_wp2_with fail
  refine hK.out _ _ hd3 (fun _ => ?_)
  clear hK K
  refine wpAnyH_ready (rs := [10]) (by kernel_rfl) (by simp) ?_
  refine AllReadyH.cons (o := ?oo27) ?ii27 (fun K hK => ?_) AllReadyH.nil
  case ii27 => simp only [List.getElem?_toArray, List.getElem?_cons_succ, List.getElem?_cons_zero]; rfl
  go_simp
  refine HN3.out.mono ?_
  rintro e w4 ⟨rfl, hb4⟩
  have hd4 := hd3.step hb4
  clear hb4 HN3 hd3
  go_wp2_with fail
  refine hK.out _ _ hd4 (fun _ => ?_)
  clear hK K
  refine wpAnyH_take (i := 11) (oi := ?oo28) (v := ?vv28) ?ii28 (by kernel_rfl) ?ff28 (by kernel_rfl) ?qq28 (Or.inl ⟨?ww28, ?yy28⟩) hd4 ?rr28
  case ii28 => simp only [List.getElem?_toArray, List.getElem?_cons_succ, List.getElem?_cons_zero]; rfl
  case ff28 => kernel_rfl
  case qq28 => exact fun _ _ _ h => h
  case ww28 => rfl
  case yy28 => intro W hW; go_simp <;> with_reducible rfl
  try simp only [Act.put, List.setIfInBounds_toArray, List.set_cons_zero, List.set_cons_succ]
  refine wpAnyH_take (i := 12) (oi := ?oo29) (v := ?vv29) ?ii29 (by kernel_rfl) ?ff29 (by kernel_rfl) ?qq29 (Or.inl ⟨?ww29, ?yy29⟩) hd4 ?rr29
  case ii29 => simp only [List.getElem?_toArray, List.getElem?_cons_succ, List.getElem?_cons_zero]; rfl
  case ff29 => kernel_rfl
  case qq29 => exact fun _ _ _ h => h
  case ww29 => rfl
  case yy29 => intro W hW; go_simp <;> with_reducible rfl
  try simp only [Act.put, List.setIfInBounds_toArray, List.set_cons_zero, List.set_cons_succ]
  refine wpAnyH_take (i := 13) (oi := ?oo30) (v := ?vv30) ?ii30 (by kernel_rfl) ?ff30 (by kernel_rfl) ?qq30 (Or.inl ⟨?ww30, ?yy30⟩) hd4 ?rr30
  case ii30 => simp only [List.getElem?_toArray, List.getElem?_cons_succ, List.getElem?_cons_zero]; rfl
  case ff30 => kernel_rfl
  case qq30 => exact fun _ _ _ h => h
  case ww30 => rfl
  case yy30 => intro W hW; go_simp <;> with_reducible rfl
  try simp only [Act.put, List.setIfInBounds_toArray, List.set_cons_zero, List.set_cons_succ]
  refine wpAnyH_take (i := 14) (oi := ?oo31) (v := ?vv31) ?ii31 (by kernel_rfl) ?ff31 (by kernel_rfl) ?qq31 (Or.inl ⟨?ww31, ?yy31⟩) hd4 ?rr31
  case ii31 => simp only [List.getElem?_toArray, List.getElem?_cons_succ, List.getElem?_cons_zero]; rfl
  case ff31 => kernel_rfl
  case qq31 => exact fun _ _ _ h => h
  case ww31 => rfl
  case yy31 => intro W hW; go_simp <;> with_reducible rfl
  try simp only [Act.put, List.setIfInBounds_toArray, List.set_cons_zero, List.set_cons_succ]
  refine wpAnyH_take (i := 15) (oi := ?oo32) (v := ?vv32) ?ii32 (by kernel_rfl) ?ff32 (by kernel_rfl) ?qq32 (Or.inl ⟨?ww32, ?yy32⟩) hd4 ?rr32
  case ii32 => simp only [List.getElem?_toArray, List.getElem?_cons_succ, List.getElem?_cons_zero]; rfl
  case ff32 => kernel_rfl
  case qq32 => exact fun _ _ _ h => h
  case ww32 => rfl
  case yy32 => intro W hW; go_simp <;> with_reducible rfl
  try simp only [Act.put, List.setIfInBounds_toArray, List.set_cons_zero, List.set_cons_succ]
  refine wpAnyH_done (by kernel_rfl) ?_ _
  have k0 := d0 _ hd4
  have k1 := d1 _ hd4
  have k2 := d2 _ hd4
  have k3 := d3 _ hd4
  have k4 := d4 _ hd4
  have k5 := d5 _ hd4
  have k6 := d6 _ hd4
  have k7 := d7 _ hd4
  have k8 := d8 _ hd4
  have k9 := d9 _ hd4
  have k10 := d10 _ hd4
  have j0 := e0 _ hd4
  have j1 := e1 _ hd4
  have j2 := e2 _ hd4
  have j3 := e3 _ hd4
  have Hd4 := Lib.hid hd4
  clear hd4
  go_wp2_with fail
  refine (HRc.out _ Hd4.out).mono ?_
  rintro e w5 ⟨rfl, hb5⟩
  have hd5 := Hd4.out.step hb5
  clear hb5 Hd4 HRc k0 k1 k2 k3 k4 k5 k6 k7 k8 k9 k10 j0 j1 j2 j3
  have k0 := d0 _ hd5
  have k1 := d1 _ hd5
  have k2 := d2 _ hd5
  have k3 := d3 _ hd5
  have k4 := d4 _ hd5
  have k5 := d5 _ hd5
  have k6 := d6 _ hd5
  have k7 := d7 _ hd5
  have k8 := d8 _ hd5
  have k9 := d9 _ hd5
  have k10 := d10 _ hd5
  have j0 := e0 _ hd5
  have j1 := e1 _ hd5
  have j2 := e2 _ hd5
  have j3 := e3 _ hd5
  have Hd5 := Lib.hid hd5
  clear hd5
  go_wp2_with fail
  refine (HE2.out _).mono ?_
  rintro e w51 ⟨rfl, hb51⟩
  have Hd51 := Lib.hid (Hd5.out.step hb51)
  clear hb51 Hd5 k0 k1 k2 k3 k4 k5 k6 k7 k8 k9 k10 j0 j1 j2 j3
  go_wp2_with fail
  refine (read_two11 _).mono ?_
  rintro e w6 ⟨rfl, hb6⟩
  have HF := Lib.hid (Hd51.out.step hb6).below
  clear hb6 Hd51
  go_wp2_with fail
  refine (pturn_nil _).mono ?_
  rintro e w7 ⟨rfl, m7, rfl⟩
  go_wp2_with fail
  refine (read_one11 _).mono ?_
  rintro e w8 ⟨rfl, hb8⟩
  have HF8 := Lib.hid ((below_drewNc HF.out m7).trans (hb8.mono (below_drewNc HF.out m7).size))
  clear hb8 HF
  go_wp2_with fail
  refine (HE1.out _).mono ?_
  rintro e w9 ⟨rfl, hb9⟩
  have HF9 := Lib.hid (HF8.out.trans (hb9.mono HF8.out.size))
  clear hb9 HF8
  go_wp2_with fail
  refine (phear_nil _ _ _).mono ?_
  rintro e w10 ⟨rfl, m10, rfl⟩
  go_wp2_with fail
  refine (preal_nil _ _).mono ?_
  rintro e w11 ⟨rfl, m11, rfl⟩
  go_wp2_with fail
  refine (plocal_nil _ _).mono ?_
  rintro e w12 ⟨rfl, m12, rfl⟩
  go_wp2_with fail
  go_ret
  exact ⟨rfl, below_drewNc HF9.out _⟩

set_option maxHeartbeats 2000000 in
theorem pturns_range1 (x : CfgC) (me since rate : Int) (cold : Bool) (A : Option Addr) (n cap : Nat) (hf : SndP.chk6 x.plain = none) (hL : longB6 x = false) (hq : -1 ≤ me ∧ x.nodes ≤ me) (w : World) (h : CfgIn w x) : Calls Try.prog 3 #[x.value, .agg #[.int .i64 me, .int .i64 since, .int .i64 rate, .bool cold], .slice A n cap] w (TruePost w) := by
  have HA := Lib.hid (fun W => awake11_any W)
  have HLg := Lib.hid (fun W => long6_any x W)
  rw [hL] at HLg
  have HST := Lib.hid (BoxWS.start w x me since rate cold)
  have HRc := Lib.hid (fun W (hW : BoxWS w x me since rate cold W) => rcheck_any x W (h.below hW.below))
  rw [hf] at HRc
  unfold RefChkPost strV at HRc
  simp only [wrongT] at HRc
  have HCp : Hid (∀ W, BoxWS w x me since rate cold W → Calls Try.prog 9 #[x.value] W (CopiedPost x.plain W)) := Lib.hid fun W hW => by
    have := longB6_no hL
    exact copied_any x W (h.below hW.below) (by omega) (by omega) (by omega)
  have HE1 : Hid (∀ W, Calls Try.prog 11 #[.int .i64 1] W fun e w' => e = .returned (.string ⟨#[49]⟩) ∧ Below W.heap.size W w') := Lib.hid (fun W => by have := e_any 1 W (by omega); rw [numN1] at this; exact this)
  have HE2 : Hid (∀ W, Calls Try.prog 11 #[.int .i64 2] W fun e w' => e = .returned (.string ⟨#[50]⟩) ∧ Below W.heap.size W w') := Lib.hid (fun W => by have := e_any 2 W (by omega); rw [numN2] at this; exact this)
  have HN : Hid (∀ y W, CfgIn W y → y.plain = x.plain → Calls Try.prog 8 #[y.value, .int .i64 me, .int .i64 since, .int .i64 rate, .bool cold] W (NoPace2 W)) := Lib.hid fun y W hy e => pnew_range y me since rate cold W hy (by rw [e]; exact hf) (by have : y.nodes = x.nodes := congrArg TableP.Cfg.nodes e; omega)
  clear hf hL h
  obtain ⟨nodes, faulty, slot, gap, rho, dmin, dmax, margin, PA, pn, pcap, parts, QA, qn, qcap, ports, RA, rn, rcap, routes⟩ := x
  have d0 := fun W (hW : BoxWS w ⟨nodes, faulty, slot, gap, rho, dmin, dmax, margin, PA, pn, pcap, parts, QA, qn, qcap, ports, RA, rn, rcap, routes⟩ me since rate cold W) => hW.cells.c0
  have d1 := fun W (hW : BoxWS w ⟨nodes, faulty, slot, gap, rho, dmin, dmax, margin, PA, pn, pcap, parts, QA, qn, qcap, ports, RA, rn, rcap, routes⟩ me since rate cold W) => hW.cells.c1
  have d2 := fun W (hW : BoxWS w ⟨nodes, faulty, slot, gap, rho, dmin, dmax, margin, PA, pn, pcap, parts, QA, qn, qcap, ports, RA, rn, rcap, routes⟩ me since rate cold W) => hW.cells.c2
  have d3 := fun W (hW : BoxWS w ⟨nodes, faulty, slot, gap, rho, dmin, dmax, margin, PA, pn, pcap, parts, QA, qn, qcap, ports, RA, rn, rcap, routes⟩ me since rate cold W) => hW.cells.c3
  have d4 := fun W (hW : BoxWS w ⟨nodes, faulty, slot, gap, rho, dmin, dmax, margin, PA, pn, pcap, parts, QA, qn, qcap, ports, RA, rn, rcap, routes⟩ me since rate cold W) => hW.cells.c4
  have d5 := fun W (hW : BoxWS w ⟨nodes, faulty, slot, gap, rho, dmin, dmax, margin, PA, pn, pcap, parts, QA, qn, qcap, ports, RA, rn, rcap, routes⟩ me since rate cold W) => hW.cells.c5
  have d6 := fun W (hW : BoxWS w ⟨nodes, faulty, slot, gap, rho, dmin, dmax, margin, PA, pn, pcap, parts, QA, qn, qcap, ports, RA, rn, rcap, routes⟩ me since rate cold W) => hW.cells.c6
  have d7 := fun W (hW : BoxWS w ⟨nodes, faulty, slot, gap, rho, dmin, dmax, margin, PA, pn, pcap, parts, QA, qn, qcap, ports, RA, rn, rcap, routes⟩ me since rate cold W) => hW.cells.c7
  have d8 := fun W (hW : BoxWS w ⟨nodes, faulty, slot, gap, rho, dmin, dmax, margin, PA, pn, pcap, parts, QA, qn, qcap, ports, RA, rn, rcap, routes⟩ me since rate cold W) => hW.cells.c8
  have d9 := fun W (hW : BoxWS w ⟨nodes, faulty, slot, gap, rho, dmin, dmax, margin, PA, pn, pcap, parts, QA, qn, qcap, ports, RA, rn, rcap, routes⟩ me since rate cold W) => hW.cells.c9
  have d10 := fun W (hW : BoxWS w ⟨nodes, faulty, slot, gap, rho, dmin, dmax, margin, PA, pn, pcap, parts, QA, qn, qcap, ports, RA, rn, rcap, routes⟩ me since rate cold W) => hW.cells.c10
  have e0 : ∀ W, BoxWS w ⟨nodes, faulty, slot, gap, rho, dmin, dmax, margin, PA, pn, pcap, parts, QA, qn, qcap, ports, RA, rn, rcap, routes⟩ me since rate cold W → W.cell? ⟨w.heap.size + 1, 0, none⟩ = some (.int .i64 me) := fun W hW => hW.w0
  have e1 : ∀ W, BoxWS w ⟨nodes, faulty, slot, gap, rho, dmin, dmax, margin, PA, pn, pcap, parts, QA, qn, qcap, ports, RA, rn, rcap, routes⟩ me since rate cold W → W.cell? ⟨w.heap.size + 1, 1, none⟩ = some (.int .i64 since) := fun W hW => hW.w1
  have e2 : ∀ W, BoxWS w ⟨nodes, faulty, slot, gap, rho, dmin, dmax, margin, PA, pn, pcap, parts, QA, qn, qcap, ports, RA, rn, rcap, routes⟩ me since rate cold W → W.cell? ⟨w.heap.size + 1, 2, none⟩ = some (.int .i64 rate) := fun W hW => hW.w2
  have e3 : ∀ W, BoxWS w ⟨nodes, faulty, slot, gap, rho, dmin, dmax, margin, PA, pn, pcap, parts, QA, qn, qcap, ports, RA, rn, rcap, routes⟩ me since rate cold W → W.cell? ⟨w.heap.size + 1, 3, none⟩ = some (.bool cold) := fun W hW => hW.w3
  simp only at d0 d1 d2 d3 d4 d5 d6 d7 d8 d9 d10 hq
  have q0 : decide (me < -1) = false := decide_eq_false (by omega)
  have q1 : decide (nodes ≤ me) = true := decide_eq_true (by omega)
  clear hq
  simp only [CfgC.value] at HLg HRc HCp ⊢
  simp only [boxW, boxC, cfgCells, whoCells] at HST
  go_enter Try.func3, Try.ntmps3
  go_wp2_with fail
  refine (HA.out _).mono ?_
  rintro e w1 ⟨rfl, hb1⟩
  have hd1 := HST.out.step hb1
  clear hb1 HA
  have k0 := d0 _ hd1
  have k1 := d1 _ hd1
  have k2 := d2 _ hd1
  have k3 := d3 _ hd1
  have k4 := d4 _ hd1
  have k5 := d5 _ hd1
  have k6 := d6 _ hd1
  have k7 := d7 _ hd1
  have k8 := d8 _ hd1
  have k9 := d9 _ hd1
  have k10 := d10 _ hd1
  have j0 := e0 _ hd1
  have j1 := e1 _ hd1
  have j2 := e2 _ hd1
  have j3 := e3 _ hd1
  have Hd1 := Lib.hid hd1
  clear hd1
  go_wp2_with fail
  refine (HLg.out _).mono ?_
  rintro e w2 ⟨rfl, hb2⟩
  have hd2 := Hd1.out.step hb2
  clear hb2 Hd1 HLg k0 k1 k2 k3 k4 k5 k6 k7 k8 k9 k10 j0 j1 j2 j3
  go_wp2_with fail
  refine wp_region_held_drew (S := fun W => BoxWS w ⟨nodes, faulty, slot, gap, rho, dmin, dmax, margin, PA, pn, pcap, parts, QA, qn, qcap, ports, RA, rn, rcap, routes⟩ me since rate cold W) (by kernel_rfl) hd2.drew (fun _ => ?_)
  refine wpAnyH_take (i := 0) (oi := ?oo33) (v := ?vv33) ?ii33 (by kernel_rfl) ?ff33 (by kernel_rfl) ?qq33 (Or.inl ⟨?ww33, ?yy33⟩) hd2.drew ?rr33
  case ii33 => simp only [List.getElem?_toArray, List.getElem?_cons_zero]; rfl
  case ff33 => kernel_rfl
  case qq33 => exact fun _ _ _ h => h
  case ww33 => rfl
  case yy33 => intro W hW; go_simp <;> with_reducible rfl
  try simp only [Act.put, List.setIfInBounds_toArray, List.set_cons_zero, List.set_cons_succ]
  refine wpAnyH_take (i := 2) (oi := ?oo34) (v := ?vv34) ?ii34 (by kernel_rfl) ?ff34 (by kernel_rfl) ?qq34 (Or.inl ⟨?ww34, ?yy34⟩) hd2.drew ?rr34
  case ii34 => simp only [List.getElem?_toArray, List.getElem?_cons_succ, List.getElem?_cons_zero]; rfl
  case ff34 => kernel_rfl
  case qq34 => exact fun _ _ _ h => h
  case ww34 => rfl
  case yy34 => intro W hW; go_simp <;> with_reducible rfl
  try simp only [Act.put, List.setIfInBounds_toArray, List.set_cons_zero, List.set_cons_succ]
  refine wpAnyH_take (i := 3) (oi := ?oo35) (v := ?vv35) ?ii35 (by kernel_rfl) ?ff35 (by kernel_rfl) ?qq35 (Or.inl ⟨?ww35, ?yy35⟩) hd2.drew ?rr35
  case ii35 => simp only [List.getElem?_toArray, List.getElem?_cons_succ, List.getElem?_cons_zero]; rfl
  case ff35 => kernel_rfl
  case qq35 => exact fun _ _ _ h => h
  case ww35 => rfl
  case yy35 => intro W hW; go_simp <;> with_reducible rfl
  try simp only [Act.put, List.setIfInBounds_toArray, List.set_cons_zero, List.set_cons_succ]
  refine wpAnyH_take (i := 4) (oi := ?oo36) (v := ?vv36) ?ii36 (by kernel_rfl) ?ff36 (by kernel_rfl) ?qq36 (Or.inl ⟨?ww36, ?yy36⟩) hd2.drew ?rr36
  case ii36 => simp only [List.getElem?_toArray, List.getElem?_cons_succ, List.getElem?_cons_zero]; rfl
  case ff36 => kernel_rfl
  case qq36 => exact fun _ _ _ h => h
  case ww36 => rfl
  case yy36 => intro W hW; go_simp <;> with_reducible rfl
  try simp only [Act.put, List.setIfInBounds_toArray, List.set_cons_zero, List.set_cons_succ]
  refine wpAnyH_take (i := 5) (oi := ?oo37) (v := ?vv37) ?ii37 (by kernel_rfl) ?ff37 (by kernel_rfl) ?qq37 (Or.inl ⟨?ww37, ?yy37⟩) hd2.drew ?rr37
  case ii37 => simp only [List.getElem?_toArray, List.getElem?_cons_succ, List.getElem?_cons_zero]; rfl
  case ff37 => kernel_rfl
  case qq37 => exact fun _ _ _ h => h
  case ww37 => rfl
  case yy37 => intro W hW; go_simp <;> with_reducible rfl
  try simp only [Act.put, List.setIfInBounds_toArray, List.set_cons_zero, List.set_cons_succ]
  refine wpAnyH_take (i := 6) (oi := ?oo38) (v := ?vv38) ?ii38 (by kernel_rfl) ?ff38 (by kernel_rfl) ?qq38 (Or.inl ⟨?ww38, ?yy38⟩) hd2.drew ?rr38
  case ii38 => simp only [List.getElem?_toArray, List.getElem?_cons_succ, List.getElem?_cons_zero]; rfl
  case ff38 => kernel_rfl
  case qq38 => exact fun _ _ _ h => h
  case ww38 => rfl
  case yy38 => intro W hW; go_simp <;> with_reducible rfl
  try simp only [Act.put, List.setIfInBounds_toArray, List.set_cons_zero, List.set_cons_succ]
  refine wpAnyH_take (i := 7) (oi := ?oo39) (v := ?vv39) ?ii39 (by kernel_rfl) ?ff39 (by kernel_rfl) ?qq39 (Or.inl ⟨?ww39, ?yy39⟩) hd2.drew ?rr39
  case ii39 => simp only [List.getElem?_toArray, List.getElem?_cons_succ, List.getElem?_cons_zero]; rfl
  case ff39 => kernel_rfl
  case qq39 => exact fun _ _ _ h => h
  case ww39 => rfl
  case yy39 => intro W hW; go_simp <;> with_reducible rfl
  try simp only [Act.put, List.setIfInBounds_toArray, List.set_cons_zero, List.set_cons_succ]
  refine wpAnyH_take (i := 8) (oi := ?oo40) (v := ?vv40) ?ii40 (by kernel_rfl) ?ff40 (by kernel_rfl) ?qq40 (Or.inl ⟨?ww40, ?yy40⟩) hd2.drew ?rr40
  case ii40 => simp only [List.getElem?_toArray, List.getElem?_cons_succ, List.getElem?_cons_zero]; rfl
  case ff40 => kernel_rfl
  case qq40 => exact fun _ _ _ h => h
  case ww40 => rfl
  case yy40 => intro W hW; go_simp <;> with_reducible rfl
  try simp only [Act.put, List.setIfInBounds_toArray, List.set_cons_zero, List.set_cons_succ]
  refine wpAnyH_take (i := 9) (oi := ?oo41) (v := ?vv41) ?ii41 (by kernel_rfl) ?ff41 (by kernel_rfl) ?qq41 (Or.inl ⟨?ww41, ?yy41⟩) hd2.drew ?rr41
  case ii41 => simp only [List.getElem?_toArray, List.getElem?_cons_succ, List.getElem?_cons_zero]; rfl
  case ff41 => kernel_rfl
  case qq41 => exact fun _ _ _ h => h
  case ww41 => rfl
  case yy41 => intro W hW; go_simp <;> with_reducible rfl
  try simp only [Act.put, List.setIfInBounds_toArray, List.set_cons_zero, List.set_cons_succ]
  refine wpAnyH_ready (rs := [1]) (by kernel_rfl) (by simp) ?_
  refine AllReadyH.cons (o := ?oo42) ?ii42 (fun K hK => ?_) AllReadyH.nil
  case ii42 => simp only [List.getElem?_toArray, List.getElem?_cons_succ, List.getElem?_cons_zero]; rfl
  go_simp
  refine (HCp.out _ hd2.drew).mono ?_
  rintro e w3 ⟨v3, rfl, ⟨y, rfl, hx3, hp3⟩, hb3⟩
  have hd3 := hd2.drew.step hb3
  have HN3 := Lib.hid (HN.out y _ hx3 hp3)
  clear hx3 hp3 hb3 hd2 HN HCp
  go_wp2_with fail
  refine hK.out _ _ hd3 (fun _ => ?_)
  clear hK K
  refine wpAnyH_ready (rs := [10]) (by kernel_rfl) (by simp) ?_
  refine AllReadyH.cons (o := ?oo43) ?ii43 (fun K hK => ?_) AllReadyH.nil
  case ii43 => simp only [List.getElem?_toArray, List.getElem?_cons_succ, List.getElem?_cons_zero]; rfl
  go_simp
  refine HN3.out.mono ?_
  rintro e w4 ⟨rfl, hb4⟩
  have hd4 := hd3.step hb4
  clear hb4 HN3 hd3
  go_wp2_with fail
  refine hK.out _ _ hd4 (fun _ => ?_)
  clear hK K
  refine wpAnyH_take (i := 11) (oi := ?oo44) (v := ?vv44) ?ii44 (by kernel_rfl) ?ff44 (by kernel_rfl) ?qq44 (Or.inl ⟨?ww44, ?yy44⟩) hd4 ?rr44
  case ii44 => simp only [List.getElem?_toArray, List.getElem?_cons_succ, List.getElem?_cons_zero]; rfl
  case ff44 => kernel_rfl
  case qq44 => exact fun _ _ _ h => h
  case ww44 => rfl
  case yy44 => intro W hW; go_simp <;> with_reducible rfl
  try simp only [Act.put, List.setIfInBounds_toArray, List.set_cons_zero, List.set_cons_succ]
  refine wpAnyH_take (i := 12) (oi := ?oo45) (v := ?vv45) ?ii45 (by kernel_rfl) ?ff45 (by kernel_rfl) ?qq45 (Or.inl ⟨?ww45, ?yy45⟩) hd4 ?rr45
  case ii45 => simp only [List.getElem?_toArray, List.getElem?_cons_succ, List.getElem?_cons_zero]; rfl
  case ff45 => kernel_rfl
  case qq45 => exact fun _ _ _ h => h
  case ww45 => rfl
  case yy45 => intro W hW; go_simp <;> with_reducible rfl
  try simp only [Act.put, List.setIfInBounds_toArray, List.set_cons_zero, List.set_cons_succ]
  refine wpAnyH_take (i := 13) (oi := ?oo46) (v := ?vv46) ?ii46 (by kernel_rfl) ?ff46 (by kernel_rfl) ?qq46 (Or.inl ⟨?ww46, ?yy46⟩) hd4 ?rr46
  case ii46 => simp only [List.getElem?_toArray, List.getElem?_cons_succ, List.getElem?_cons_zero]; rfl
  case ff46 => kernel_rfl
  case qq46 => exact fun _ _ _ h => h
  case ww46 => rfl
  case yy46 => intro W hW; go_simp <;> with_reducible rfl
  try simp only [Act.put, List.setIfInBounds_toArray, List.set_cons_zero, List.set_cons_succ]
  refine wpAnyH_take (i := 14) (oi := ?oo47) (v := ?vv47) ?ii47 (by kernel_rfl) ?ff47 (by kernel_rfl) ?qq47 (Or.inl ⟨?ww47, ?yy47⟩) hd4 ?rr47
  case ii47 => simp only [List.getElem?_toArray, List.getElem?_cons_succ, List.getElem?_cons_zero]; rfl
  case ff47 => kernel_rfl
  case qq47 => exact fun _ _ _ h => h
  case ww47 => rfl
  case yy47 => intro W hW; go_simp <;> with_reducible rfl
  try simp only [Act.put, List.setIfInBounds_toArray, List.set_cons_zero, List.set_cons_succ]
  refine wpAnyH_take (i := 15) (oi := ?oo48) (v := ?vv48) ?ii48 (by kernel_rfl) ?ff48 (by kernel_rfl) ?qq48 (Or.inl ⟨?ww48, ?yy48⟩) hd4 ?rr48
  case ii48 => simp only [List.getElem?_toArray, List.getElem?_cons_succ, List.getElem?_cons_zero]; rfl
  case ff48 => kernel_rfl
  case qq48 => exact fun _ _ _ h => h
  case ww48 => rfl
  case yy48 => intro W hW; go_simp <;> with_reducible rfl
  try simp only [Act.put, List.setIfInBounds_toArray, List.set_cons_zero, List.set_cons_succ]
  refine wpAnyH_done (by kernel_rfl) ?_ _
  have k0 := d0 _ hd4
  have k1 := d1 _ hd4
  have k2 := d2 _ hd4
  have k3 := d3 _ hd4
  have k4 := d4 _ hd4
  have k5 := d5 _ hd4
  have k6 := d6 _ hd4
  have k7 := d7 _ hd4
  have k8 := d8 _ hd4
  have k9 := d9 _ hd4
  have k10 := d10 _ hd4
  have j0 := e0 _ hd4
  have j1 := e1 _ hd4
  have j2 := e2 _ hd4
  have j3 := e3 _ hd4
  have Hd4 := Lib.hid hd4
  clear hd4
  go_wp2_with fail
  refine (HRc.out _ Hd4.out).mono ?_
  rintro e w5 ⟨rfl, hb5⟩
  have hd5 := Hd4.out.step hb5
  clear hb5 Hd4 HRc k0 k1 k2 k3 k4 k5 k6 k7 k8 k9 k10 j0 j1 j2 j3
  have k0 := d0 _ hd5
  have k1 := d1 _ hd5
  have k2 := d2 _ hd5
  have k3 := d3 _ hd5
  have k4 := d4 _ hd5
  have k5 := d5 _ hd5
  have k6 := d6 _ hd5
  have k7 := d7 _ hd5
  have k8 := d8 _ hd5
  have k9 := d9 _ hd5
  have k10 := d10 _ hd5
  have j0 := e0 _ hd5
  have j1 := e1 _ hd5
  have j2 := e2 _ hd5
  have j3 := e3 _ hd5
  have Hd5 := Lib.hid hd5
  clear hd5
  go_wp2_with fail
  refine (HE2.out _).mono ?_
  rintro e w51 ⟨rfl, hb51⟩
  have Hd51 := Lib.hid (Hd5.out.step hb51)
  clear hb51 Hd5 k0 k1 k2 k3 k4 k5 k6 k7 k8 k9 k10 j0 j1 j2 j3
  go_wp2_with fail
  refine (read_two11 _).mono ?_
  rintro e w6 ⟨rfl, hb6⟩
  have HF := Lib.hid (Hd51.out.step hb6).below
  clear hb6 Hd51
  go_wp2_with fail
  refine (pturn_nil _).mono ?_
  rintro e w7 ⟨rfl, m7, rfl⟩
  go_wp2_with fail
  refine (read_one11 _).mono ?_
  rintro e w8 ⟨rfl, hb8⟩
  have HF8 := Lib.hid ((below_drewNc HF.out m7).trans (hb8.mono (below_drewNc HF.out m7).size))
  clear hb8 HF
  go_wp2_with fail
  refine (HE1.out _).mono ?_
  rintro e w9 ⟨rfl, hb9⟩
  have HF9 := Lib.hid (HF8.out.trans (hb9.mono HF8.out.size))
  clear hb9 HF8
  go_wp2_with fail
  refine (phear_nil _ _ _).mono ?_
  rintro e w10 ⟨rfl, m10, rfl⟩
  go_wp2_with fail
  refine (preal_nil _ _).mono ?_
  rintro e w11 ⟨rfl, m11, rfl⟩
  go_wp2_with fail
  refine (plocal_nil _ _).mono ?_
  rintro e w12 ⟨rfl, m12, rfl⟩
  go_wp2_with fail
  go_ret
  exact ⟨rfl, below_drewNc HF9.out _⟩

set_option maxHeartbeats 2000000 in
theorem pturns_range2 (x : CfgC) (me since rate : Int) (cold : Bool) (A : Option Addr) (n cap : Nat) (hf : SndP.chk6 x.plain = none) (hL : longB6 x = false) (hq : (-1 ≤ me ∧ me < x.nodes) ∧ since < 0) (w : World) (h : CfgIn w x) : Calls Try.prog 3 #[x.value, .agg #[.int .i64 me, .int .i64 since, .int .i64 rate, .bool cold], .slice A n cap] w (TruePost w) := by
  have HA := Lib.hid (fun W => awake11_any W)
  have HLg := Lib.hid (fun W => long6_any x W)
  rw [hL] at HLg
  have HST := Lib.hid (BoxWS.start w x me since rate cold)
  have HRc := Lib.hid (fun W (hW : BoxWS w x me since rate cold W) => rcheck_any x W (h.below hW.below))
  rw [hf] at HRc
  unfold RefChkPost strV at HRc
  simp only [wrongT] at HRc
  have HCp : Hid (∀ W, BoxWS w x me since rate cold W → Calls Try.prog 9 #[x.value] W (CopiedPost x.plain W)) := Lib.hid fun W hW => by
    have := longB6_no hL
    exact copied_any x W (h.below hW.below) (by omega) (by omega) (by omega)
  have HE1 : Hid (∀ W, Calls Try.prog 11 #[.int .i64 1] W fun e w' => e = .returned (.string ⟨#[49]⟩) ∧ Below W.heap.size W w') := Lib.hid (fun W => by have := e_any 1 W (by omega); rw [numN1] at this; exact this)
  have HE2 : Hid (∀ W, Calls Try.prog 11 #[.int .i64 2] W fun e w' => e = .returned (.string ⟨#[50]⟩) ∧ Below W.heap.size W w') := Lib.hid (fun W => by have := e_any 2 W (by omega); rw [numN2] at this; exact this)
  have HN : Hid (∀ y W, CfgIn W y → y.plain = x.plain → Calls Try.prog 8 #[y.value, .int .i64 me, .int .i64 since, .int .i64 rate, .bool cold] W (NoPace2 W)) := Lib.hid fun y W hy e => pnew_clock y me since rate cold W hy (by rw [e]; exact hf) (by have : y.nodes = x.nodes := congrArg TableP.Cfg.nodes e; omega) (by unfold LawfulIn; omega)
  clear hf hL h
  obtain ⟨nodes, faulty, slot, gap, rho, dmin, dmax, margin, PA, pn, pcap, parts, QA, qn, qcap, ports, RA, rn, rcap, routes⟩ := x
  have d0 := fun W (hW : BoxWS w ⟨nodes, faulty, slot, gap, rho, dmin, dmax, margin, PA, pn, pcap, parts, QA, qn, qcap, ports, RA, rn, rcap, routes⟩ me since rate cold W) => hW.cells.c0
  have d1 := fun W (hW : BoxWS w ⟨nodes, faulty, slot, gap, rho, dmin, dmax, margin, PA, pn, pcap, parts, QA, qn, qcap, ports, RA, rn, rcap, routes⟩ me since rate cold W) => hW.cells.c1
  have d2 := fun W (hW : BoxWS w ⟨nodes, faulty, slot, gap, rho, dmin, dmax, margin, PA, pn, pcap, parts, QA, qn, qcap, ports, RA, rn, rcap, routes⟩ me since rate cold W) => hW.cells.c2
  have d3 := fun W (hW : BoxWS w ⟨nodes, faulty, slot, gap, rho, dmin, dmax, margin, PA, pn, pcap, parts, QA, qn, qcap, ports, RA, rn, rcap, routes⟩ me since rate cold W) => hW.cells.c3
  have d4 := fun W (hW : BoxWS w ⟨nodes, faulty, slot, gap, rho, dmin, dmax, margin, PA, pn, pcap, parts, QA, qn, qcap, ports, RA, rn, rcap, routes⟩ me since rate cold W) => hW.cells.c4
  have d5 := fun W (hW : BoxWS w ⟨nodes, faulty, slot, gap, rho, dmin, dmax, margin, PA, pn, pcap, parts, QA, qn, qcap, ports, RA, rn, rcap, routes⟩ me since rate cold W) => hW.cells.c5
  have d6 := fun W (hW : BoxWS w ⟨nodes, faulty, slot, gap, rho, dmin, dmax, margin, PA, pn, pcap, parts, QA, qn, qcap, ports, RA, rn, rcap, routes⟩ me since rate cold W) => hW.cells.c6
  have d7 := fun W (hW : BoxWS w ⟨nodes, faulty, slot, gap, rho, dmin, dmax, margin, PA, pn, pcap, parts, QA, qn, qcap, ports, RA, rn, rcap, routes⟩ me since rate cold W) => hW.cells.c7
  have d8 := fun W (hW : BoxWS w ⟨nodes, faulty, slot, gap, rho, dmin, dmax, margin, PA, pn, pcap, parts, QA, qn, qcap, ports, RA, rn, rcap, routes⟩ me since rate cold W) => hW.cells.c8
  have d9 := fun W (hW : BoxWS w ⟨nodes, faulty, slot, gap, rho, dmin, dmax, margin, PA, pn, pcap, parts, QA, qn, qcap, ports, RA, rn, rcap, routes⟩ me since rate cold W) => hW.cells.c9
  have d10 := fun W (hW : BoxWS w ⟨nodes, faulty, slot, gap, rho, dmin, dmax, margin, PA, pn, pcap, parts, QA, qn, qcap, ports, RA, rn, rcap, routes⟩ me since rate cold W) => hW.cells.c10
  have e0 : ∀ W, BoxWS w ⟨nodes, faulty, slot, gap, rho, dmin, dmax, margin, PA, pn, pcap, parts, QA, qn, qcap, ports, RA, rn, rcap, routes⟩ me since rate cold W → W.cell? ⟨w.heap.size + 1, 0, none⟩ = some (.int .i64 me) := fun W hW => hW.w0
  have e1 : ∀ W, BoxWS w ⟨nodes, faulty, slot, gap, rho, dmin, dmax, margin, PA, pn, pcap, parts, QA, qn, qcap, ports, RA, rn, rcap, routes⟩ me since rate cold W → W.cell? ⟨w.heap.size + 1, 1, none⟩ = some (.int .i64 since) := fun W hW => hW.w1
  have e2 : ∀ W, BoxWS w ⟨nodes, faulty, slot, gap, rho, dmin, dmax, margin, PA, pn, pcap, parts, QA, qn, qcap, ports, RA, rn, rcap, routes⟩ me since rate cold W → W.cell? ⟨w.heap.size + 1, 2, none⟩ = some (.int .i64 rate) := fun W hW => hW.w2
  have e3 : ∀ W, BoxWS w ⟨nodes, faulty, slot, gap, rho, dmin, dmax, margin, PA, pn, pcap, parts, QA, qn, qcap, ports, RA, rn, rcap, routes⟩ me since rate cold W → W.cell? ⟨w.heap.size + 1, 3, none⟩ = some (.bool cold) := fun W hW => hW.w3
  simp only at d0 d1 d2 d3 d4 d5 d6 d7 d8 d9 d10 hq
  have q0 : decide (me < -1) = false := decide_eq_false (by omega)
  have q1 : decide (nodes ≤ me) = false := decide_eq_false (by omega)
  have q2 : decide (since < 0) = true := decide_eq_true (by omega)
  clear hq
  simp only [CfgC.value] at HLg HRc HCp ⊢
  simp only [boxW, boxC, cfgCells, whoCells] at HST
  go_enter Try.func3, Try.ntmps3
  go_wp2_with fail
  refine (HA.out _).mono ?_
  rintro e w1 ⟨rfl, hb1⟩
  have hd1 := HST.out.step hb1
  clear hb1 HA
  have k0 := d0 _ hd1
  have k1 := d1 _ hd1
  have k2 := d2 _ hd1
  have k3 := d3 _ hd1
  have k4 := d4 _ hd1
  have k5 := d5 _ hd1
  have k6 := d6 _ hd1
  have k7 := d7 _ hd1
  have k8 := d8 _ hd1
  have k9 := d9 _ hd1
  have k10 := d10 _ hd1
  have j0 := e0 _ hd1
  have j1 := e1 _ hd1
  have j2 := e2 _ hd1
  have j3 := e3 _ hd1
  have Hd1 := Lib.hid hd1
  clear hd1
  go_wp2_with fail
  refine (HLg.out _).mono ?_
  rintro e w2 ⟨rfl, hb2⟩
  have hd2 := Hd1.out.step hb2
  clear hb2 Hd1 HLg k0 k1 k2 k3 k4 k5 k6 k7 k8 k9 k10 j0 j1 j2 j3
  go_wp2_with fail
  refine wp_region_held_drew (S := fun W => BoxWS w ⟨nodes, faulty, slot, gap, rho, dmin, dmax, margin, PA, pn, pcap, parts, QA, qn, qcap, ports, RA, rn, rcap, routes⟩ me since rate cold W) (by kernel_rfl) hd2.drew (fun _ => ?_)
  refine wpAnyH_take (i := 0) (oi := ?oo49) (v := ?vv49) ?ii49 (by kernel_rfl) ?ff49 (by kernel_rfl) ?qq49 (Or.inl ⟨?ww49, ?yy49⟩) hd2.drew ?rr49
  case ii49 => simp only [List.getElem?_toArray, List.getElem?_cons_zero]; rfl
  case ff49 => kernel_rfl
  case qq49 => exact fun _ _ _ h => h
  case ww49 => rfl
  case yy49 => intro W hW; go_simp <;> with_reducible rfl
  try simp only [Act.put, List.setIfInBounds_toArray, List.set_cons_zero, List.set_cons_succ]
  refine wpAnyH_take (i := 2) (oi := ?oo50) (v := ?vv50) ?ii50 (by kernel_rfl) ?ff50 (by kernel_rfl) ?qq50 (Or.inl ⟨?ww50, ?yy50⟩) hd2.drew ?rr50
  case ii50 => simp only [List.getElem?_toArray, List.getElem?_cons_succ, List.getElem?_cons_zero]; rfl
  case ff50 => kernel_rfl
  case qq50 => exact fun _ _ _ h => h
  case ww50 => rfl
  case yy50 => intro W hW; go_simp <;> with_reducible rfl
  try simp only [Act.put, List.setIfInBounds_toArray, List.set_cons_zero, List.set_cons_succ]
  refine wpAnyH_take (i := 3) (oi := ?oo51) (v := ?vv51) ?ii51 (by kernel_rfl) ?ff51 (by kernel_rfl) ?qq51 (Or.inl ⟨?ww51, ?yy51⟩) hd2.drew ?rr51
  case ii51 => simp only [List.getElem?_toArray, List.getElem?_cons_succ, List.getElem?_cons_zero]; rfl
  case ff51 => kernel_rfl
  case qq51 => exact fun _ _ _ h => h
  case ww51 => rfl
  case yy51 => intro W hW; go_simp <;> with_reducible rfl
  try simp only [Act.put, List.setIfInBounds_toArray, List.set_cons_zero, List.set_cons_succ]
  refine wpAnyH_take (i := 4) (oi := ?oo52) (v := ?vv52) ?ii52 (by kernel_rfl) ?ff52 (by kernel_rfl) ?qq52 (Or.inl ⟨?ww52, ?yy52⟩) hd2.drew ?rr52
  case ii52 => simp only [List.getElem?_toArray, List.getElem?_cons_succ, List.getElem?_cons_zero]; rfl
  case ff52 => kernel_rfl
  case qq52 => exact fun _ _ _ h => h
  case ww52 => rfl
  case yy52 => intro W hW; go_simp <;> with_reducible rfl
  try simp only [Act.put, List.setIfInBounds_toArray, List.set_cons_zero, List.set_cons_succ]
  refine wpAnyH_take (i := 5) (oi := ?oo53) (v := ?vv53) ?ii53 (by kernel_rfl) ?ff53 (by kernel_rfl) ?qq53 (Or.inl ⟨?ww53, ?yy53⟩) hd2.drew ?rr53
  case ii53 => simp only [List.getElem?_toArray, List.getElem?_cons_succ, List.getElem?_cons_zero]; rfl
  case ff53 => kernel_rfl
  case qq53 => exact fun _ _ _ h => h
  case ww53 => rfl
  case yy53 => intro W hW; go_simp <;> with_reducible rfl
  try simp only [Act.put, List.setIfInBounds_toArray, List.set_cons_zero, List.set_cons_succ]
  refine wpAnyH_take (i := 6) (oi := ?oo54) (v := ?vv54) ?ii54 (by kernel_rfl) ?ff54 (by kernel_rfl) ?qq54 (Or.inl ⟨?ww54, ?yy54⟩) hd2.drew ?rr54
  case ii54 => simp only [List.getElem?_toArray, List.getElem?_cons_succ, List.getElem?_cons_zero]; rfl
  case ff54 => kernel_rfl
  case qq54 => exact fun _ _ _ h => h
  case ww54 => rfl
  case yy54 => intro W hW; go_simp <;> with_reducible rfl
  try simp only [Act.put, List.setIfInBounds_toArray, List.set_cons_zero, List.set_cons_succ]
  refine wpAnyH_take (i := 7) (oi := ?oo55) (v := ?vv55) ?ii55 (by kernel_rfl) ?ff55 (by kernel_rfl) ?qq55 (Or.inl ⟨?ww55, ?yy55⟩) hd2.drew ?rr55
  case ii55 => simp only [List.getElem?_toArray, List.getElem?_cons_succ, List.getElem?_cons_zero]; rfl
  case ff55 => kernel_rfl
  case qq55 => exact fun _ _ _ h => h
  case ww55 => rfl
  case yy55 => intro W hW; go_simp <;> with_reducible rfl
  try simp only [Act.put, List.setIfInBounds_toArray, List.set_cons_zero, List.set_cons_succ]
  refine wpAnyH_take (i := 8) (oi := ?oo56) (v := ?vv56) ?ii56 (by kernel_rfl) ?ff56 (by kernel_rfl) ?qq56 (Or.inl ⟨?ww56, ?yy56⟩) hd2.drew ?rr56
  case ii56 => simp only [List.getElem?_toArray, List.getElem?_cons_succ, List.getElem?_cons_zero]; rfl
  case ff56 => kernel_rfl
  case qq56 => exact fun _ _ _ h => h
  case ww56 => rfl
  case yy56 => intro W hW; go_simp <;> with_reducible rfl
  try simp only [Act.put, List.setIfInBounds_toArray, List.set_cons_zero, List.set_cons_succ]
  refine wpAnyH_take (i := 9) (oi := ?oo57) (v := ?vv57) ?ii57 (by kernel_rfl) ?ff57 (by kernel_rfl) ?qq57 (Or.inl ⟨?ww57, ?yy57⟩) hd2.drew ?rr57
  case ii57 => simp only [List.getElem?_toArray, List.getElem?_cons_succ, List.getElem?_cons_zero]; rfl
  case ff57 => kernel_rfl
  case qq57 => exact fun _ _ _ h => h
  case ww57 => rfl
  case yy57 => intro W hW; go_simp <;> with_reducible rfl
  try simp only [Act.put, List.setIfInBounds_toArray, List.set_cons_zero, List.set_cons_succ]
  refine wpAnyH_ready (rs := [1]) (by kernel_rfl) (by simp) ?_
  refine AllReadyH.cons (o := ?oo58) ?ii58 (fun K hK => ?_) AllReadyH.nil
  case ii58 => simp only [List.getElem?_toArray, List.getElem?_cons_succ, List.getElem?_cons_zero]; rfl
  go_simp
  refine (HCp.out _ hd2.drew).mono ?_
  rintro e w3 ⟨v3, rfl, ⟨y, rfl, hx3, hp3⟩, hb3⟩
  have hd3 := hd2.drew.step hb3
  have HN3 := Lib.hid (HN.out y _ hx3 hp3)
  clear hx3 hp3 hb3 hd2 HN HCp
  go_wp2_with fail
  refine hK.out _ _ hd3 (fun _ => ?_)
  clear hK K
  refine wpAnyH_ready (rs := [10]) (by kernel_rfl) (by simp) ?_
  refine AllReadyH.cons (o := ?oo59) ?ii59 (fun K hK => ?_) AllReadyH.nil
  case ii59 => simp only [List.getElem?_toArray, List.getElem?_cons_succ, List.getElem?_cons_zero]; rfl
  go_simp
  refine HN3.out.mono ?_
  rintro e w4 ⟨rfl, hb4⟩
  have hd4 := hd3.step hb4
  clear hb4 HN3 hd3
  go_wp2_with fail
  refine hK.out _ _ hd4 (fun _ => ?_)
  clear hK K
  refine wpAnyH_take (i := 11) (oi := ?oo60) (v := ?vv60) ?ii60 (by kernel_rfl) ?ff60 (by kernel_rfl) ?qq60 (Or.inl ⟨?ww60, ?yy60⟩) hd4 ?rr60
  case ii60 => simp only [List.getElem?_toArray, List.getElem?_cons_succ, List.getElem?_cons_zero]; rfl
  case ff60 => kernel_rfl
  case qq60 => exact fun _ _ _ h => h
  case ww60 => rfl
  case yy60 => intro W hW; go_simp <;> with_reducible rfl
  try simp only [Act.put, List.setIfInBounds_toArray, List.set_cons_zero, List.set_cons_succ]
  refine wpAnyH_take (i := 12) (oi := ?oo61) (v := ?vv61) ?ii61 (by kernel_rfl) ?ff61 (by kernel_rfl) ?qq61 (Or.inl ⟨?ww61, ?yy61⟩) hd4 ?rr61
  case ii61 => simp only [List.getElem?_toArray, List.getElem?_cons_succ, List.getElem?_cons_zero]; rfl
  case ff61 => kernel_rfl
  case qq61 => exact fun _ _ _ h => h
  case ww61 => rfl
  case yy61 => intro W hW; go_simp <;> with_reducible rfl
  try simp only [Act.put, List.setIfInBounds_toArray, List.set_cons_zero, List.set_cons_succ]
  refine wpAnyH_take (i := 13) (oi := ?oo62) (v := ?vv62) ?ii62 (by kernel_rfl) ?ff62 (by kernel_rfl) ?qq62 (Or.inl ⟨?ww62, ?yy62⟩) hd4 ?rr62
  case ii62 => simp only [List.getElem?_toArray, List.getElem?_cons_succ, List.getElem?_cons_zero]; rfl
  case ff62 => kernel_rfl
  case qq62 => exact fun _ _ _ h => h
  case ww62 => rfl
  case yy62 => intro W hW; go_simp <;> with_reducible rfl
  try simp only [Act.put, List.setIfInBounds_toArray, List.set_cons_zero, List.set_cons_succ]
  refine wpAnyH_take (i := 14) (oi := ?oo63) (v := ?vv63) ?ii63 (by kernel_rfl) ?ff63 (by kernel_rfl) ?qq63 (Or.inl ⟨?ww63, ?yy63⟩) hd4 ?rr63
  case ii63 => simp only [List.getElem?_toArray, List.getElem?_cons_succ, List.getElem?_cons_zero]; rfl
  case ff63 => kernel_rfl
  case qq63 => exact fun _ _ _ h => h
  case ww63 => rfl
  case yy63 => intro W hW; go_simp <;> with_reducible rfl
  try simp only [Act.put, List.setIfInBounds_toArray, List.set_cons_zero, List.set_cons_succ]
  refine wpAnyH_take (i := 15) (oi := ?oo64) (v := ?vv64) ?ii64 (by kernel_rfl) ?ff64 (by kernel_rfl) ?qq64 (Or.inl ⟨?ww64, ?yy64⟩) hd4 ?rr64
  case ii64 => simp only [List.getElem?_toArray, List.getElem?_cons_succ, List.getElem?_cons_zero]; rfl
  case ff64 => kernel_rfl
  case qq64 => exact fun _ _ _ h => h
  case ww64 => rfl
  case yy64 => intro W hW; go_simp <;> with_reducible rfl
  try simp only [Act.put, List.setIfInBounds_toArray, List.set_cons_zero, List.set_cons_succ]
  refine wpAnyH_done (by kernel_rfl) ?_ _
  have k0 := d0 _ hd4
  have k1 := d1 _ hd4
  have k2 := d2 _ hd4
  have k3 := d3 _ hd4
  have k4 := d4 _ hd4
  have k5 := d5 _ hd4
  have k6 := d6 _ hd4
  have k7 := d7 _ hd4
  have k8 := d8 _ hd4
  have k9 := d9 _ hd4
  have k10 := d10 _ hd4
  have j0 := e0 _ hd4
  have j1 := e1 _ hd4
  have j2 := e2 _ hd4
  have j3 := e3 _ hd4
  have Hd4 := Lib.hid hd4
  clear hd4
  go_wp2_with fail
  refine (HRc.out _ Hd4.out).mono ?_
  rintro e w5 ⟨rfl, hb5⟩
  have hd5 := Hd4.out.step hb5
  clear hb5 Hd4 HRc k0 k1 k2 k3 k4 k5 k6 k7 k8 k9 k10 j0 j1 j2 j3
  have k0 := d0 _ hd5
  have k1 := d1 _ hd5
  have k2 := d2 _ hd5
  have k3 := d3 _ hd5
  have k4 := d4 _ hd5
  have k5 := d5 _ hd5
  have k6 := d6 _ hd5
  have k7 := d7 _ hd5
  have k8 := d8 _ hd5
  have k9 := d9 _ hd5
  have k10 := d10 _ hd5
  have j0 := e0 _ hd5
  have j1 := e1 _ hd5
  have j2 := e2 _ hd5
  have j3 := e3 _ hd5
  have Hd5 := Lib.hid hd5
  clear hd5
  go_wp2_with fail
  refine (HE2.out _).mono ?_
  rintro e w51 ⟨rfl, hb51⟩
  have Hd51 := Lib.hid (Hd5.out.step hb51)
  clear hb51 Hd5 k0 k1 k2 k3 k4 k5 k6 k7 k8 k9 k10 j0 j1 j2 j3
  go_wp2_with fail
  refine (read_two11 _).mono ?_
  rintro e w6 ⟨rfl, hb6⟩
  have HF := Lib.hid (Hd51.out.step hb6).below
  clear hb6 Hd51
  go_wp2_with fail
  refine (pturn_nil _).mono ?_
  rintro e w7 ⟨rfl, m7, rfl⟩
  go_wp2_with fail
  refine (read_one11 _).mono ?_
  rintro e w8 ⟨rfl, hb8⟩
  have HF8 := Lib.hid ((below_drewNc HF.out m7).trans (hb8.mono (below_drewNc HF.out m7).size))
  clear hb8 HF
  go_wp2_with fail
  refine (HE1.out _).mono ?_
  rintro e w9 ⟨rfl, hb9⟩
  have HF9 := Lib.hid (HF8.out.trans (hb9.mono HF8.out.size))
  clear hb9 HF8
  go_wp2_with fail
  refine (phear_nil _ _ _).mono ?_
  rintro e w10 ⟨rfl, m10, rfl⟩
  go_wp2_with fail
  refine (preal_nil _ _).mono ?_
  rintro e w11 ⟨rfl, m11, rfl⟩
  go_wp2_with fail
  refine (plocal_nil _ _).mono ?_
  rintro e w12 ⟨rfl, m12, rfl⟩
  go_wp2_with fail
  go_ret
  exact ⟨rfl, below_drewNc HF9.out _⟩

set_option maxHeartbeats 2000000 in
theorem pturns_range3 (x : CfgC) (me since rate : Int) (cold : Bool) (A : Option Addr) (n cap : Nat) (hf : SndP.chk6 x.plain = none) (hL : longB6 x = false) (hq : (-1 ≤ me ∧ me < x.nodes) ∧ 0 ≤ since ∧ 1125899906842624 < since) (w : World) (h : CfgIn w x) : Calls Try.prog 3 #[x.value, .agg #[.int .i64 me, .int .i64 since, .int .i64 rate, .bool cold], .slice A n cap] w (TruePost w) := by
  have HA := Lib.hid (fun W => awake11_any W)
  have HLg := Lib.hid (fun W => long6_any x W)
  rw [hL] at HLg
  have HST := Lib.hid (BoxWS.start w x me since rate cold)
  have HRc := Lib.hid (fun W (hW : BoxWS w x me since rate cold W) => rcheck_any x W (h.below hW.below))
  rw [hf] at HRc
  unfold RefChkPost strV at HRc
  simp only [wrongT] at HRc
  have HCp : Hid (∀ W, BoxWS w x me since rate cold W → Calls Try.prog 9 #[x.value] W (CopiedPost x.plain W)) := Lib.hid fun W hW => by
    have := longB6_no hL
    exact copied_any x W (h.below hW.below) (by omega) (by omega) (by omega)
  have HE1 : Hid (∀ W, Calls Try.prog 11 #[.int .i64 1] W fun e w' => e = .returned (.string ⟨#[49]⟩) ∧ Below W.heap.size W w') := Lib.hid (fun W => by have := e_any 1 W (by omega); rw [numN1] at this; exact this)
  have HE2 : Hid (∀ W, Calls Try.prog 11 #[.int .i64 2] W fun e w' => e = .returned (.string ⟨#[50]⟩) ∧ Below W.heap.size W w') := Lib.hid (fun W => by have := e_any 2 W (by omega); rw [numN2] at this; exact this)
  have HN : Hid (∀ y W, CfgIn W y → y.plain = x.plain → Calls Try.prog 8 #[y.value, .int .i64 me, .int .i64 since, .int .i64 rate, .bool cold] W (NoPace2 W)) := Lib.hid fun y W hy e => pnew_clock y me since rate cold W hy (by rw [e]; exact hf) (by have : y.nodes = x.nodes := congrArg TableP.Cfg.nodes e; omega) (by unfold LawfulIn; omega)
  clear hf hL h
  obtain ⟨nodes, faulty, slot, gap, rho, dmin, dmax, margin, PA, pn, pcap, parts, QA, qn, qcap, ports, RA, rn, rcap, routes⟩ := x
  have d0 := fun W (hW : BoxWS w ⟨nodes, faulty, slot, gap, rho, dmin, dmax, margin, PA, pn, pcap, parts, QA, qn, qcap, ports, RA, rn, rcap, routes⟩ me since rate cold W) => hW.cells.c0
  have d1 := fun W (hW : BoxWS w ⟨nodes, faulty, slot, gap, rho, dmin, dmax, margin, PA, pn, pcap, parts, QA, qn, qcap, ports, RA, rn, rcap, routes⟩ me since rate cold W) => hW.cells.c1
  have d2 := fun W (hW : BoxWS w ⟨nodes, faulty, slot, gap, rho, dmin, dmax, margin, PA, pn, pcap, parts, QA, qn, qcap, ports, RA, rn, rcap, routes⟩ me since rate cold W) => hW.cells.c2
  have d3 := fun W (hW : BoxWS w ⟨nodes, faulty, slot, gap, rho, dmin, dmax, margin, PA, pn, pcap, parts, QA, qn, qcap, ports, RA, rn, rcap, routes⟩ me since rate cold W) => hW.cells.c3
  have d4 := fun W (hW : BoxWS w ⟨nodes, faulty, slot, gap, rho, dmin, dmax, margin, PA, pn, pcap, parts, QA, qn, qcap, ports, RA, rn, rcap, routes⟩ me since rate cold W) => hW.cells.c4
  have d5 := fun W (hW : BoxWS w ⟨nodes, faulty, slot, gap, rho, dmin, dmax, margin, PA, pn, pcap, parts, QA, qn, qcap, ports, RA, rn, rcap, routes⟩ me since rate cold W) => hW.cells.c5
  have d6 := fun W (hW : BoxWS w ⟨nodes, faulty, slot, gap, rho, dmin, dmax, margin, PA, pn, pcap, parts, QA, qn, qcap, ports, RA, rn, rcap, routes⟩ me since rate cold W) => hW.cells.c6
  have d7 := fun W (hW : BoxWS w ⟨nodes, faulty, slot, gap, rho, dmin, dmax, margin, PA, pn, pcap, parts, QA, qn, qcap, ports, RA, rn, rcap, routes⟩ me since rate cold W) => hW.cells.c7
  have d8 := fun W (hW : BoxWS w ⟨nodes, faulty, slot, gap, rho, dmin, dmax, margin, PA, pn, pcap, parts, QA, qn, qcap, ports, RA, rn, rcap, routes⟩ me since rate cold W) => hW.cells.c8
  have d9 := fun W (hW : BoxWS w ⟨nodes, faulty, slot, gap, rho, dmin, dmax, margin, PA, pn, pcap, parts, QA, qn, qcap, ports, RA, rn, rcap, routes⟩ me since rate cold W) => hW.cells.c9
  have d10 := fun W (hW : BoxWS w ⟨nodes, faulty, slot, gap, rho, dmin, dmax, margin, PA, pn, pcap, parts, QA, qn, qcap, ports, RA, rn, rcap, routes⟩ me since rate cold W) => hW.cells.c10
  have e0 : ∀ W, BoxWS w ⟨nodes, faulty, slot, gap, rho, dmin, dmax, margin, PA, pn, pcap, parts, QA, qn, qcap, ports, RA, rn, rcap, routes⟩ me since rate cold W → W.cell? ⟨w.heap.size + 1, 0, none⟩ = some (.int .i64 me) := fun W hW => hW.w0
  have e1 : ∀ W, BoxWS w ⟨nodes, faulty, slot, gap, rho, dmin, dmax, margin, PA, pn, pcap, parts, QA, qn, qcap, ports, RA, rn, rcap, routes⟩ me since rate cold W → W.cell? ⟨w.heap.size + 1, 1, none⟩ = some (.int .i64 since) := fun W hW => hW.w1
  have e2 : ∀ W, BoxWS w ⟨nodes, faulty, slot, gap, rho, dmin, dmax, margin, PA, pn, pcap, parts, QA, qn, qcap, ports, RA, rn, rcap, routes⟩ me since rate cold W → W.cell? ⟨w.heap.size + 1, 2, none⟩ = some (.int .i64 rate) := fun W hW => hW.w2
  have e3 : ∀ W, BoxWS w ⟨nodes, faulty, slot, gap, rho, dmin, dmax, margin, PA, pn, pcap, parts, QA, qn, qcap, ports, RA, rn, rcap, routes⟩ me since rate cold W → W.cell? ⟨w.heap.size + 1, 3, none⟩ = some (.bool cold) := fun W hW => hW.w3
  simp only at d0 d1 d2 d3 d4 d5 d6 d7 d8 d9 d10 hq
  have q0 : decide (me < -1) = false := decide_eq_false (by omega)
  have q1 : decide (nodes ≤ me) = false := decide_eq_false (by omega)
  have q2 : decide (since < 0) = false := decide_eq_false (by omega)
  have q3 : decide (1125899906842624 < since) = true := decide_eq_true (by omega)
  clear hq
  simp only [CfgC.value] at HLg HRc HCp ⊢
  simp only [boxW, boxC, cfgCells, whoCells] at HST
  go_enter Try.func3, Try.ntmps3
  go_wp2_with fail
  refine (HA.out _).mono ?_
  rintro e w1 ⟨rfl, hb1⟩
  have hd1 := HST.out.step hb1
  clear hb1 HA
  have k0 := d0 _ hd1
  have k1 := d1 _ hd1
  have k2 := d2 _ hd1
  have k3 := d3 _ hd1
  have k4 := d4 _ hd1
  have k5 := d5 _ hd1
  have k6 := d6 _ hd1
  have k7 := d7 _ hd1
  have k8 := d8 _ hd1
  have k9 := d9 _ hd1
  have k10 := d10 _ hd1
  have j0 := e0 _ hd1
  have j1 := e1 _ hd1
  have j2 := e2 _ hd1
  have j3 := e3 _ hd1
  have Hd1 := Lib.hid hd1
  clear hd1
  go_wp2_with fail
  refine (HLg.out _).mono ?_
  rintro e w2 ⟨rfl, hb2⟩
  have hd2 := Hd1.out.step hb2
  clear hb2 Hd1 HLg k0 k1 k2 k3 k4 k5 k6 k7 k8 k9 k10 j0 j1 j2 j3
  go_wp2_with fail
  refine wp_region_held_drew (S := fun W => BoxWS w ⟨nodes, faulty, slot, gap, rho, dmin, dmax, margin, PA, pn, pcap, parts, QA, qn, qcap, ports, RA, rn, rcap, routes⟩ me since rate cold W) (by kernel_rfl) hd2.drew (fun _ => ?_)
  refine wpAnyH_take (i := 0) (oi := ?oo65) (v := ?vv65) ?ii65 (by kernel_rfl) ?ff65 (by kernel_rfl) ?qq65 (Or.inl ⟨?ww65, ?yy65⟩) hd2.drew ?rr65
  case ii65 => simp only [List.getElem?_toArray, List.getElem?_cons_zero]; rfl
  case ff65 => kernel_rfl
  case qq65 => exact fun _ _ _ h => h
  case ww65 => rfl
  case yy65 => intro W hW; go_simp <;> with_reducible rfl
  try simp only [Act.put, List.setIfInBounds_toArray, List.set_cons_zero, List.set_cons_succ]
  refine wpAnyH_take (i := 2) (oi := ?oo66) (v := ?vv66) ?ii66 (by kernel_rfl) ?ff66 (by kernel_rfl) ?qq66 (Or.inl ⟨?ww66, ?yy66⟩) hd2.drew ?rr66
  case ii66 => simp only [List.getElem?_toArray, List.getElem?_cons_succ, List.getElem?_cons_zero]; rfl
  case ff66 => kernel_rfl
  case qq66 => exact fun _ _ _ h => h
  case ww66 => rfl
  case yy66 => intro W hW; go_simp <;> with_reducible rfl
  try simp only [Act.put, List.setIfInBounds_toArray, List.set_cons_zero, List.set_cons_succ]
  refine wpAnyH_take (i := 3) (oi := ?oo67) (v := ?vv67) ?ii67 (by kernel_rfl) ?ff67 (by kernel_rfl) ?qq67 (Or.inl ⟨?ww67, ?yy67⟩) hd2.drew ?rr67
  case ii67 => simp only [List.getElem?_toArray, List.getElem?_cons_succ, List.getElem?_cons_zero]; rfl
  case ff67 => kernel_rfl
  case qq67 => exact fun _ _ _ h => h
  case ww67 => rfl
  case yy67 => intro W hW; go_simp <;> with_reducible rfl
  try simp only [Act.put, List.setIfInBounds_toArray, List.set_cons_zero, List.set_cons_succ]
  refine wpAnyH_take (i := 4) (oi := ?oo68) (v := ?vv68) ?ii68 (by kernel_rfl) ?ff68 (by kernel_rfl) ?qq68 (Or.inl ⟨?ww68, ?yy68⟩) hd2.drew ?rr68
  case ii68 => simp only [List.getElem?_toArray, List.getElem?_cons_succ, List.getElem?_cons_zero]; rfl
  case ff68 => kernel_rfl
  case qq68 => exact fun _ _ _ h => h
  case ww68 => rfl
  case yy68 => intro W hW; go_simp <;> with_reducible rfl
  try simp only [Act.put, List.setIfInBounds_toArray, List.set_cons_zero, List.set_cons_succ]
  refine wpAnyH_take (i := 5) (oi := ?oo69) (v := ?vv69) ?ii69 (by kernel_rfl) ?ff69 (by kernel_rfl) ?qq69 (Or.inl ⟨?ww69, ?yy69⟩) hd2.drew ?rr69
  case ii69 => simp only [List.getElem?_toArray, List.getElem?_cons_succ, List.getElem?_cons_zero]; rfl
  case ff69 => kernel_rfl
  case qq69 => exact fun _ _ _ h => h
  case ww69 => rfl
  case yy69 => intro W hW; go_simp <;> with_reducible rfl
  try simp only [Act.put, List.setIfInBounds_toArray, List.set_cons_zero, List.set_cons_succ]
  refine wpAnyH_take (i := 6) (oi := ?oo70) (v := ?vv70) ?ii70 (by kernel_rfl) ?ff70 (by kernel_rfl) ?qq70 (Or.inl ⟨?ww70, ?yy70⟩) hd2.drew ?rr70
  case ii70 => simp only [List.getElem?_toArray, List.getElem?_cons_succ, List.getElem?_cons_zero]; rfl
  case ff70 => kernel_rfl
  case qq70 => exact fun _ _ _ h => h
  case ww70 => rfl
  case yy70 => intro W hW; go_simp <;> with_reducible rfl
  try simp only [Act.put, List.setIfInBounds_toArray, List.set_cons_zero, List.set_cons_succ]
  refine wpAnyH_take (i := 7) (oi := ?oo71) (v := ?vv71) ?ii71 (by kernel_rfl) ?ff71 (by kernel_rfl) ?qq71 (Or.inl ⟨?ww71, ?yy71⟩) hd2.drew ?rr71
  case ii71 => simp only [List.getElem?_toArray, List.getElem?_cons_succ, List.getElem?_cons_zero]; rfl
  case ff71 => kernel_rfl
  case qq71 => exact fun _ _ _ h => h
  case ww71 => rfl
  case yy71 => intro W hW; go_simp <;> with_reducible rfl
  try simp only [Act.put, List.setIfInBounds_toArray, List.set_cons_zero, List.set_cons_succ]
  refine wpAnyH_take (i := 8) (oi := ?oo72) (v := ?vv72) ?ii72 (by kernel_rfl) ?ff72 (by kernel_rfl) ?qq72 (Or.inl ⟨?ww72, ?yy72⟩) hd2.drew ?rr72
  case ii72 => simp only [List.getElem?_toArray, List.getElem?_cons_succ, List.getElem?_cons_zero]; rfl
  case ff72 => kernel_rfl
  case qq72 => exact fun _ _ _ h => h
  case ww72 => rfl
  case yy72 => intro W hW; go_simp <;> with_reducible rfl
  try simp only [Act.put, List.setIfInBounds_toArray, List.set_cons_zero, List.set_cons_succ]
  refine wpAnyH_take (i := 9) (oi := ?oo73) (v := ?vv73) ?ii73 (by kernel_rfl) ?ff73 (by kernel_rfl) ?qq73 (Or.inl ⟨?ww73, ?yy73⟩) hd2.drew ?rr73
  case ii73 => simp only [List.getElem?_toArray, List.getElem?_cons_succ, List.getElem?_cons_zero]; rfl
  case ff73 => kernel_rfl
  case qq73 => exact fun _ _ _ h => h
  case ww73 => rfl
  case yy73 => intro W hW; go_simp <;> with_reducible rfl
  try simp only [Act.put, List.setIfInBounds_toArray, List.set_cons_zero, List.set_cons_succ]
  refine wpAnyH_ready (rs := [1]) (by kernel_rfl) (by simp) ?_
  refine AllReadyH.cons (o := ?oo74) ?ii74 (fun K hK => ?_) AllReadyH.nil
  case ii74 => simp only [List.getElem?_toArray, List.getElem?_cons_succ, List.getElem?_cons_zero]; rfl
  go_simp
  refine (HCp.out _ hd2.drew).mono ?_
  rintro e w3 ⟨v3, rfl, ⟨y, rfl, hx3, hp3⟩, hb3⟩
  have hd3 := hd2.drew.step hb3
  have HN3 := Lib.hid (HN.out y _ hx3 hp3)
  clear hx3 hp3 hb3 hd2 HN HCp
  go_wp2_with fail
  refine hK.out _ _ hd3 (fun _ => ?_)
  clear hK K
  refine wpAnyH_ready (rs := [10]) (by kernel_rfl) (by simp) ?_
  refine AllReadyH.cons (o := ?oo75) ?ii75 (fun K hK => ?_) AllReadyH.nil
  case ii75 => simp only [List.getElem?_toArray, List.getElem?_cons_succ, List.getElem?_cons_zero]; rfl
  go_simp
  refine HN3.out.mono ?_
  rintro e w4 ⟨rfl, hb4⟩
  have hd4 := hd3.step hb4
  clear hb4 HN3 hd3
  go_wp2_with fail
  refine hK.out _ _ hd4 (fun _ => ?_)
  clear hK K
  refine wpAnyH_take (i := 11) (oi := ?oo76) (v := ?vv76) ?ii76 (by kernel_rfl) ?ff76 (by kernel_rfl) ?qq76 (Or.inl ⟨?ww76, ?yy76⟩) hd4 ?rr76
  case ii76 => simp only [List.getElem?_toArray, List.getElem?_cons_succ, List.getElem?_cons_zero]; rfl
  case ff76 => kernel_rfl
  case qq76 => exact fun _ _ _ h => h
  case ww76 => rfl
  case yy76 => intro W hW; go_simp <;> with_reducible rfl
  try simp only [Act.put, List.setIfInBounds_toArray, List.set_cons_zero, List.set_cons_succ]
  refine wpAnyH_take (i := 12) (oi := ?oo77) (v := ?vv77) ?ii77 (by kernel_rfl) ?ff77 (by kernel_rfl) ?qq77 (Or.inl ⟨?ww77, ?yy77⟩) hd4 ?rr77
  case ii77 => simp only [List.getElem?_toArray, List.getElem?_cons_succ, List.getElem?_cons_zero]; rfl
  case ff77 => kernel_rfl
  case qq77 => exact fun _ _ _ h => h
  case ww77 => rfl
  case yy77 => intro W hW; go_simp <;> with_reducible rfl
  try simp only [Act.put, List.setIfInBounds_toArray, List.set_cons_zero, List.set_cons_succ]
  refine wpAnyH_take (i := 13) (oi := ?oo78) (v := ?vv78) ?ii78 (by kernel_rfl) ?ff78 (by kernel_rfl) ?qq78 (Or.inl ⟨?ww78, ?yy78⟩) hd4 ?rr78
  case ii78 => simp only [List.getElem?_toArray, List.getElem?_cons_succ, List.getElem?_cons_zero]; rfl
  case ff78 => kernel_rfl
  case qq78 => exact fun _ _ _ h => h
  case ww78 => rfl
  case yy78 => intro W hW; go_simp <;> with_reducible rfl
  try simp only [Act.put, List.setIfInBounds_toArray, List.set_cons_zero, List.set_cons_succ]
  refine wpAnyH_take (i := 14) (oi := ?oo79) (v := ?vv79) ?ii79 (by kernel_rfl) ?ff79 (by kernel_rfl) ?qq79 (Or.inl ⟨?ww79, ?yy79⟩) hd4 ?rr79
  case ii79 => simp only [List.getElem?_toArray, List.getElem?_cons_succ, List.getElem?_cons_zero]; rfl
  case ff79 => kernel_rfl
  case qq79 => exact fun _ _ _ h => h
  case ww79 => rfl
  case yy79 => intro W hW; go_simp <;> with_reducible rfl
  try simp only [Act.put, List.setIfInBounds_toArray, List.set_cons_zero, List.set_cons_succ]
  refine wpAnyH_take (i := 15) (oi := ?oo80) (v := ?vv80) ?ii80 (by kernel_rfl) ?ff80 (by kernel_rfl) ?qq80 (Or.inl ⟨?ww80, ?yy80⟩) hd4 ?rr80
  case ii80 => simp only [List.getElem?_toArray, List.getElem?_cons_succ, List.getElem?_cons_zero]; rfl
  case ff80 => kernel_rfl
  case qq80 => exact fun _ _ _ h => h
  case ww80 => rfl
  case yy80 => intro W hW; go_simp <;> with_reducible rfl
  try simp only [Act.put, List.setIfInBounds_toArray, List.set_cons_zero, List.set_cons_succ]
  refine wpAnyH_done (by kernel_rfl) ?_ _
  have k0 := d0 _ hd4
  have k1 := d1 _ hd4
  have k2 := d2 _ hd4
  have k3 := d3 _ hd4
  have k4 := d4 _ hd4
  have k5 := d5 _ hd4
  have k6 := d6 _ hd4
  have k7 := d7 _ hd4
  have k8 := d8 _ hd4
  have k9 := d9 _ hd4
  have k10 := d10 _ hd4
  have j0 := e0 _ hd4
  have j1 := e1 _ hd4
  have j2 := e2 _ hd4
  have j3 := e3 _ hd4
  have Hd4 := Lib.hid hd4
  clear hd4
  go_wp2_with fail
  refine (HRc.out _ Hd4.out).mono ?_
  rintro e w5 ⟨rfl, hb5⟩
  have hd5 := Hd4.out.step hb5
  clear hb5 Hd4 HRc k0 k1 k2 k3 k4 k5 k6 k7 k8 k9 k10 j0 j1 j2 j3
  have k0 := d0 _ hd5
  have k1 := d1 _ hd5
  have k2 := d2 _ hd5
  have k3 := d3 _ hd5
  have k4 := d4 _ hd5
  have k5 := d5 _ hd5
  have k6 := d6 _ hd5
  have k7 := d7 _ hd5
  have k8 := d8 _ hd5
  have k9 := d9 _ hd5
  have k10 := d10 _ hd5
  have j0 := e0 _ hd5
  have j1 := e1 _ hd5
  have j2 := e2 _ hd5
  have j3 := e3 _ hd5
  have Hd5 := Lib.hid hd5
  clear hd5
  go_wp2_with fail
  refine (HE2.out _).mono ?_
  rintro e w51 ⟨rfl, hb51⟩
  have Hd51 := Lib.hid (Hd5.out.step hb51)
  clear hb51 Hd5 k0 k1 k2 k3 k4 k5 k6 k7 k8 k9 k10 j0 j1 j2 j3
  go_wp2_with fail
  refine (read_two11 _).mono ?_
  rintro e w6 ⟨rfl, hb6⟩
  have HF := Lib.hid (Hd51.out.step hb6).below
  clear hb6 Hd51
  go_wp2_with fail
  refine (pturn_nil _).mono ?_
  rintro e w7 ⟨rfl, m7, rfl⟩
  go_wp2_with fail
  refine (read_one11 _).mono ?_
  rintro e w8 ⟨rfl, hb8⟩
  have HF8 := Lib.hid ((below_drewNc HF.out m7).trans (hb8.mono (below_drewNc HF.out m7).size))
  clear hb8 HF
  go_wp2_with fail
  refine (HE1.out _).mono ?_
  rintro e w9 ⟨rfl, hb9⟩
  have HF9 := Lib.hid (HF8.out.trans (hb9.mono HF8.out.size))
  clear hb9 HF8
  go_wp2_with fail
  refine (phear_nil _ _ _).mono ?_
  rintro e w10 ⟨rfl, m10, rfl⟩
  go_wp2_with fail
  refine (preal_nil _ _).mono ?_
  rintro e w11 ⟨rfl, m11, rfl⟩
  go_wp2_with fail
  refine (plocal_nil _ _).mono ?_
  rintro e w12 ⟨rfl, m12, rfl⟩
  go_wp2_with fail
  go_ret
  exact ⟨rfl, below_drewNc HF9.out _⟩

set_option maxHeartbeats 2000000 in
theorem pturns_range4 (x : CfgC) (me since rate : Int) (cold : Bool) (A : Option Addr) (n cap : Nat) (hf : SndP.chk6 x.plain = none) (hL : longB6 x = false) (hq : (-1 ≤ me ∧ me < x.nodes) ∧ 0 ≤ since ∧ since ≤ 1125899906842624 ∧ rate < -200) (w : World) (h : CfgIn w x) : Calls Try.prog 3 #[x.value, .agg #[.int .i64 me, .int .i64 since, .int .i64 rate, .bool cold], .slice A n cap] w (TruePost w) := by
  have HA := Lib.hid (fun W => awake11_any W)
  have HLg := Lib.hid (fun W => long6_any x W)
  rw [hL] at HLg
  have HST := Lib.hid (BoxWS.start w x me since rate cold)
  have HRc := Lib.hid (fun W (hW : BoxWS w x me since rate cold W) => rcheck_any x W (h.below hW.below))
  rw [hf] at HRc
  unfold RefChkPost strV at HRc
  simp only [wrongT] at HRc
  have HCp : Hid (∀ W, BoxWS w x me since rate cold W → Calls Try.prog 9 #[x.value] W (CopiedPost x.plain W)) := Lib.hid fun W hW => by
    have := longB6_no hL
    exact copied_any x W (h.below hW.below) (by omega) (by omega) (by omega)
  have HE1 : Hid (∀ W, Calls Try.prog 11 #[.int .i64 1] W fun e w' => e = .returned (.string ⟨#[49]⟩) ∧ Below W.heap.size W w') := Lib.hid (fun W => by have := e_any 1 W (by omega); rw [numN1] at this; exact this)
  have HE2 : Hid (∀ W, Calls Try.prog 11 #[.int .i64 2] W fun e w' => e = .returned (.string ⟨#[50]⟩) ∧ Below W.heap.size W w') := Lib.hid (fun W => by have := e_any 2 W (by omega); rw [numN2] at this; exact this)
  have HN : Hid (∀ y W, CfgIn W y → y.plain = x.plain → Calls Try.prog 8 #[y.value, .int .i64 me, .int .i64 since, .int .i64 rate, .bool cold] W (NoPace2 W)) := Lib.hid fun y W hy e => pnew_clock y me since rate cold W hy (by rw [e]; exact hf) (by have : y.nodes = x.nodes := congrArg TableP.Cfg.nodes e; omega) (by unfold LawfulIn; omega)
  clear hf hL h
  obtain ⟨nodes, faulty, slot, gap, rho, dmin, dmax, margin, PA, pn, pcap, parts, QA, qn, qcap, ports, RA, rn, rcap, routes⟩ := x
  have d0 := fun W (hW : BoxWS w ⟨nodes, faulty, slot, gap, rho, dmin, dmax, margin, PA, pn, pcap, parts, QA, qn, qcap, ports, RA, rn, rcap, routes⟩ me since rate cold W) => hW.cells.c0
  have d1 := fun W (hW : BoxWS w ⟨nodes, faulty, slot, gap, rho, dmin, dmax, margin, PA, pn, pcap, parts, QA, qn, qcap, ports, RA, rn, rcap, routes⟩ me since rate cold W) => hW.cells.c1
  have d2 := fun W (hW : BoxWS w ⟨nodes, faulty, slot, gap, rho, dmin, dmax, margin, PA, pn, pcap, parts, QA, qn, qcap, ports, RA, rn, rcap, routes⟩ me since rate cold W) => hW.cells.c2
  have d3 := fun W (hW : BoxWS w ⟨nodes, faulty, slot, gap, rho, dmin, dmax, margin, PA, pn, pcap, parts, QA, qn, qcap, ports, RA, rn, rcap, routes⟩ me since rate cold W) => hW.cells.c3
  have d4 := fun W (hW : BoxWS w ⟨nodes, faulty, slot, gap, rho, dmin, dmax, margin, PA, pn, pcap, parts, QA, qn, qcap, ports, RA, rn, rcap, routes⟩ me since rate cold W) => hW.cells.c4
  have d5 := fun W (hW : BoxWS w ⟨nodes, faulty, slot, gap, rho, dmin, dmax, margin, PA, pn, pcap, parts, QA, qn, qcap, ports, RA, rn, rcap, routes⟩ me since rate cold W) => hW.cells.c5
  have d6 := fun W (hW : BoxWS w ⟨nodes, faulty, slot, gap, rho, dmin, dmax, margin, PA, pn, pcap, parts, QA, qn, qcap, ports, RA, rn, rcap, routes⟩ me since rate cold W) => hW.cells.c6
  have d7 := fun W (hW : BoxWS w ⟨nodes, faulty, slot, gap, rho, dmin, dmax, margin, PA, pn, pcap, parts, QA, qn, qcap, ports, RA, rn, rcap, routes⟩ me since rate cold W) => hW.cells.c7
  have d8 := fun W (hW : BoxWS w ⟨nodes, faulty, slot, gap, rho, dmin, dmax, margin, PA, pn, pcap, parts, QA, qn, qcap, ports, RA, rn, rcap, routes⟩ me since rate cold W) => hW.cells.c8
  have d9 := fun W (hW : BoxWS w ⟨nodes, faulty, slot, gap, rho, dmin, dmax, margin, PA, pn, pcap, parts, QA, qn, qcap, ports, RA, rn, rcap, routes⟩ me since rate cold W) => hW.cells.c9
  have d10 := fun W (hW : BoxWS w ⟨nodes, faulty, slot, gap, rho, dmin, dmax, margin, PA, pn, pcap, parts, QA, qn, qcap, ports, RA, rn, rcap, routes⟩ me since rate cold W) => hW.cells.c10
  have e0 : ∀ W, BoxWS w ⟨nodes, faulty, slot, gap, rho, dmin, dmax, margin, PA, pn, pcap, parts, QA, qn, qcap, ports, RA, rn, rcap, routes⟩ me since rate cold W → W.cell? ⟨w.heap.size + 1, 0, none⟩ = some (.int .i64 me) := fun W hW => hW.w0
  have e1 : ∀ W, BoxWS w ⟨nodes, faulty, slot, gap, rho, dmin, dmax, margin, PA, pn, pcap, parts, QA, qn, qcap, ports, RA, rn, rcap, routes⟩ me since rate cold W → W.cell? ⟨w.heap.size + 1, 1, none⟩ = some (.int .i64 since) := fun W hW => hW.w1
  have e2 : ∀ W, BoxWS w ⟨nodes, faulty, slot, gap, rho, dmin, dmax, margin, PA, pn, pcap, parts, QA, qn, qcap, ports, RA, rn, rcap, routes⟩ me since rate cold W → W.cell? ⟨w.heap.size + 1, 2, none⟩ = some (.int .i64 rate) := fun W hW => hW.w2
  have e3 : ∀ W, BoxWS w ⟨nodes, faulty, slot, gap, rho, dmin, dmax, margin, PA, pn, pcap, parts, QA, qn, qcap, ports, RA, rn, rcap, routes⟩ me since rate cold W → W.cell? ⟨w.heap.size + 1, 3, none⟩ = some (.bool cold) := fun W hW => hW.w3
  simp only at d0 d1 d2 d3 d4 d5 d6 d7 d8 d9 d10 hq
  have q0 : decide (me < -1) = false := decide_eq_false (by omega)
  have q1 : decide (nodes ≤ me) = false := decide_eq_false (by omega)
  have q2 : decide (since < 0) = false := decide_eq_false (by omega)
  have q3 : decide (1125899906842624 < since) = false := decide_eq_false (by omega)
  have q4 : decide (rate < -200) = true := decide_eq_true (by omega)
  clear hq
  simp only [CfgC.value] at HLg HRc HCp ⊢
  simp only [boxW, boxC, cfgCells, whoCells] at HST
  go_enter Try.func3, Try.ntmps3
  go_wp2_with fail
  refine (HA.out _).mono ?_
  rintro e w1 ⟨rfl, hb1⟩
  have hd1 := HST.out.step hb1
  clear hb1 HA
  have k0 := d0 _ hd1
  have k1 := d1 _ hd1
  have k2 := d2 _ hd1
  have k3 := d3 _ hd1
  have k4 := d4 _ hd1
  have k5 := d5 _ hd1
  have k6 := d6 _ hd1
  have k7 := d7 _ hd1
  have k8 := d8 _ hd1
  have k9 := d9 _ hd1
  have k10 := d10 _ hd1
  have j0 := e0 _ hd1
  have j1 := e1 _ hd1
  have j2 := e2 _ hd1
  have j3 := e3 _ hd1
  have Hd1 := Lib.hid hd1
  clear hd1
  go_wp2_with fail
  refine (HLg.out _).mono ?_
  rintro e w2 ⟨rfl, hb2⟩
  have hd2 := Hd1.out.step hb2
  clear hb2 Hd1 HLg k0 k1 k2 k3 k4 k5 k6 k7 k8 k9 k10 j0 j1 j2 j3
  go_wp2_with fail
  refine wp_region_held_drew (S := fun W => BoxWS w ⟨nodes, faulty, slot, gap, rho, dmin, dmax, margin, PA, pn, pcap, parts, QA, qn, qcap, ports, RA, rn, rcap, routes⟩ me since rate cold W) (by kernel_rfl) hd2.drew (fun _ => ?_)
  refine wpAnyH_take (i := 0) (oi := ?oo81) (v := ?vv81) ?ii81 (by kernel_rfl) ?ff81 (by kernel_rfl) ?qq81 (Or.inl ⟨?ww81, ?yy81⟩) hd2.drew ?rr81
  case ii81 => simp only [List.getElem?_toArray, List.getElem?_cons_zero]; rfl
  case ff81 => kernel_rfl
  case qq81 => exact fun _ _ _ h => h
  case ww81 => rfl
  case yy81 => intro W hW; go_simp <;> with_reducible rfl
  try simp only [Act.put, List.setIfInBounds_toArray, List.set_cons_zero, List.set_cons_succ]
  refine wpAnyH_take (i := 2) (oi := ?oo82) (v := ?vv82) ?ii82 (by kernel_rfl) ?ff82 (by kernel_rfl) ?qq82 (Or.inl ⟨?ww82, ?yy82⟩) hd2.drew ?rr82
  case ii82 => simp only [List.getElem?_toArray, List.getElem?_cons_succ, List.getElem?_cons_zero]; rfl
  case ff82 => kernel_rfl
  case qq82 => exact fun _ _ _ h => h
  case ww82 => rfl
  case yy82 => intro W hW; go_simp <;> with_reducible rfl
  try simp only [Act.put, List.setIfInBounds_toArray, List.set_cons_zero, List.set_cons_succ]
  refine wpAnyH_take (i := 3) (oi := ?oo83) (v := ?vv83) ?ii83 (by kernel_rfl) ?ff83 (by kernel_rfl) ?qq83 (Or.inl ⟨?ww83, ?yy83⟩) hd2.drew ?rr83
  case ii83 => simp only [List.getElem?_toArray, List.getElem?_cons_succ, List.getElem?_cons_zero]; rfl
  case ff83 => kernel_rfl
  case qq83 => exact fun _ _ _ h => h
  case ww83 => rfl
  case yy83 => intro W hW; go_simp <;> with_reducible rfl
  try simp only [Act.put, List.setIfInBounds_toArray, List.set_cons_zero, List.set_cons_succ]
  refine wpAnyH_take (i := 4) (oi := ?oo84) (v := ?vv84) ?ii84 (by kernel_rfl) ?ff84 (by kernel_rfl) ?qq84 (Or.inl ⟨?ww84, ?yy84⟩) hd2.drew ?rr84
  case ii84 => simp only [List.getElem?_toArray, List.getElem?_cons_succ, List.getElem?_cons_zero]; rfl
  case ff84 => kernel_rfl
  case qq84 => exact fun _ _ _ h => h
  case ww84 => rfl
  case yy84 => intro W hW; go_simp <;> with_reducible rfl
  try simp only [Act.put, List.setIfInBounds_toArray, List.set_cons_zero, List.set_cons_succ]
  refine wpAnyH_take (i := 5) (oi := ?oo85) (v := ?vv85) ?ii85 (by kernel_rfl) ?ff85 (by kernel_rfl) ?qq85 (Or.inl ⟨?ww85, ?yy85⟩) hd2.drew ?rr85
  case ii85 => simp only [List.getElem?_toArray, List.getElem?_cons_succ, List.getElem?_cons_zero]; rfl
  case ff85 => kernel_rfl
  case qq85 => exact fun _ _ _ h => h
  case ww85 => rfl
  case yy85 => intro W hW; go_simp <;> with_reducible rfl
  try simp only [Act.put, List.setIfInBounds_toArray, List.set_cons_zero, List.set_cons_succ]
  refine wpAnyH_take (i := 6) (oi := ?oo86) (v := ?vv86) ?ii86 (by kernel_rfl) ?ff86 (by kernel_rfl) ?qq86 (Or.inl ⟨?ww86, ?yy86⟩) hd2.drew ?rr86
  case ii86 => simp only [List.getElem?_toArray, List.getElem?_cons_succ, List.getElem?_cons_zero]; rfl
  case ff86 => kernel_rfl
  case qq86 => exact fun _ _ _ h => h
  case ww86 => rfl
  case yy86 => intro W hW; go_simp <;> with_reducible rfl
  try simp only [Act.put, List.setIfInBounds_toArray, List.set_cons_zero, List.set_cons_succ]
  refine wpAnyH_take (i := 7) (oi := ?oo87) (v := ?vv87) ?ii87 (by kernel_rfl) ?ff87 (by kernel_rfl) ?qq87 (Or.inl ⟨?ww87, ?yy87⟩) hd2.drew ?rr87
  case ii87 => simp only [List.getElem?_toArray, List.getElem?_cons_succ, List.getElem?_cons_zero]; rfl
  case ff87 => kernel_rfl
  case qq87 => exact fun _ _ _ h => h
  case ww87 => rfl
  case yy87 => intro W hW; go_simp <;> with_reducible rfl
  try simp only [Act.put, List.setIfInBounds_toArray, List.set_cons_zero, List.set_cons_succ]
  refine wpAnyH_take (i := 8) (oi := ?oo88) (v := ?vv88) ?ii88 (by kernel_rfl) ?ff88 (by kernel_rfl) ?qq88 (Or.inl ⟨?ww88, ?yy88⟩) hd2.drew ?rr88
  case ii88 => simp only [List.getElem?_toArray, List.getElem?_cons_succ, List.getElem?_cons_zero]; rfl
  case ff88 => kernel_rfl
  case qq88 => exact fun _ _ _ h => h
  case ww88 => rfl
  case yy88 => intro W hW; go_simp <;> with_reducible rfl
  try simp only [Act.put, List.setIfInBounds_toArray, List.set_cons_zero, List.set_cons_succ]
  refine wpAnyH_take (i := 9) (oi := ?oo89) (v := ?vv89) ?ii89 (by kernel_rfl) ?ff89 (by kernel_rfl) ?qq89 (Or.inl ⟨?ww89, ?yy89⟩) hd2.drew ?rr89
  case ii89 => simp only [List.getElem?_toArray, List.getElem?_cons_succ, List.getElem?_cons_zero]; rfl
  case ff89 => kernel_rfl
  case qq89 => exact fun _ _ _ h => h
  case ww89 => rfl
  case yy89 => intro W hW; go_simp <;> with_reducible rfl
  try simp only [Act.put, List.setIfInBounds_toArray, List.set_cons_zero, List.set_cons_succ]
  refine wpAnyH_ready (rs := [1]) (by kernel_rfl) (by simp) ?_
  refine AllReadyH.cons (o := ?oo90) ?ii90 (fun K hK => ?_) AllReadyH.nil
  case ii90 => simp only [List.getElem?_toArray, List.getElem?_cons_succ, List.getElem?_cons_zero]; rfl
  go_simp
  refine (HCp.out _ hd2.drew).mono ?_
  rintro e w3 ⟨v3, rfl, ⟨y, rfl, hx3, hp3⟩, hb3⟩
  have hd3 := hd2.drew.step hb3
  have HN3 := Lib.hid (HN.out y _ hx3 hp3)
  clear hx3 hp3 hb3 hd2 HN HCp
  go_wp2_with fail
  refine hK.out _ _ hd3 (fun _ => ?_)
  clear hK K
  refine wpAnyH_ready (rs := [10]) (by kernel_rfl) (by simp) ?_
  refine AllReadyH.cons (o := ?oo91) ?ii91 (fun K hK => ?_) AllReadyH.nil
  case ii91 => simp only [List.getElem?_toArray, List.getElem?_cons_succ, List.getElem?_cons_zero]; rfl
  go_simp
  refine HN3.out.mono ?_
  rintro e w4 ⟨rfl, hb4⟩
  have hd4 := hd3.step hb4
  clear hb4 HN3 hd3
  go_wp2_with fail
  refine hK.out _ _ hd4 (fun _ => ?_)
  clear hK K
  refine wpAnyH_take (i := 11) (oi := ?oo92) (v := ?vv92) ?ii92 (by kernel_rfl) ?ff92 (by kernel_rfl) ?qq92 (Or.inl ⟨?ww92, ?yy92⟩) hd4 ?rr92
  case ii92 => simp only [List.getElem?_toArray, List.getElem?_cons_succ, List.getElem?_cons_zero]; rfl
  case ff92 => kernel_rfl
  case qq92 => exact fun _ _ _ h => h
  case ww92 => rfl
  case yy92 => intro W hW; go_simp <;> with_reducible rfl
  try simp only [Act.put, List.setIfInBounds_toArray, List.set_cons_zero, List.set_cons_succ]
  refine wpAnyH_take (i := 12) (oi := ?oo93) (v := ?vv93) ?ii93 (by kernel_rfl) ?ff93 (by kernel_rfl) ?qq93 (Or.inl ⟨?ww93, ?yy93⟩) hd4 ?rr93
  case ii93 => simp only [List.getElem?_toArray, List.getElem?_cons_succ, List.getElem?_cons_zero]; rfl
  case ff93 => kernel_rfl
  case qq93 => exact fun _ _ _ h => h
  case ww93 => rfl
  case yy93 => intro W hW; go_simp <;> with_reducible rfl
  try simp only [Act.put, List.setIfInBounds_toArray, List.set_cons_zero, List.set_cons_succ]
  refine wpAnyH_take (i := 13) (oi := ?oo94) (v := ?vv94) ?ii94 (by kernel_rfl) ?ff94 (by kernel_rfl) ?qq94 (Or.inl ⟨?ww94, ?yy94⟩) hd4 ?rr94
  case ii94 => simp only [List.getElem?_toArray, List.getElem?_cons_succ, List.getElem?_cons_zero]; rfl
  case ff94 => kernel_rfl
  case qq94 => exact fun _ _ _ h => h
  case ww94 => rfl
  case yy94 => intro W hW; go_simp <;> with_reducible rfl
  try simp only [Act.put, List.setIfInBounds_toArray, List.set_cons_zero, List.set_cons_succ]
  refine wpAnyH_take (i := 14) (oi := ?oo95) (v := ?vv95) ?ii95 (by kernel_rfl) ?ff95 (by kernel_rfl) ?qq95 (Or.inl ⟨?ww95, ?yy95⟩) hd4 ?rr95
  case ii95 => simp only [List.getElem?_toArray, List.getElem?_cons_succ, List.getElem?_cons_zero]; rfl
  case ff95 => kernel_rfl
  case qq95 => exact fun _ _ _ h => h
  case ww95 => rfl
  case yy95 => intro W hW; go_simp <;> with_reducible rfl
  try simp only [Act.put, List.setIfInBounds_toArray, List.set_cons_zero, List.set_cons_succ]
  refine wpAnyH_take (i := 15) (oi := ?oo96) (v := ?vv96) ?ii96 (by kernel_rfl) ?ff96 (by kernel_rfl) ?qq96 (Or.inl ⟨?ww96, ?yy96⟩) hd4 ?rr96
  case ii96 => simp only [List.getElem?_toArray, List.getElem?_cons_succ, List.getElem?_cons_zero]; rfl
  case ff96 => kernel_rfl
  case qq96 => exact fun _ _ _ h => h
  case ww96 => rfl
  case yy96 => intro W hW; go_simp <;> with_reducible rfl
  try simp only [Act.put, List.setIfInBounds_toArray, List.set_cons_zero, List.set_cons_succ]
  refine wpAnyH_done (by kernel_rfl) ?_ _
  have k0 := d0 _ hd4
  have k1 := d1 _ hd4
  have k2 := d2 _ hd4
  have k3 := d3 _ hd4
  have k4 := d4 _ hd4
  have k5 := d5 _ hd4
  have k6 := d6 _ hd4
  have k7 := d7 _ hd4
  have k8 := d8 _ hd4
  have k9 := d9 _ hd4
  have k10 := d10 _ hd4
  have j0 := e0 _ hd4
  have j1 := e1 _ hd4
  have j2 := e2 _ hd4
  have j3 := e3 _ hd4
  have Hd4 := Lib.hid hd4
  clear hd4
  go_wp2_with fail
  refine (HRc.out _ Hd4.out).mono ?_
  rintro e w5 ⟨rfl, hb5⟩
  have hd5 := Hd4.out.step hb5
  clear hb5 Hd4 HRc k0 k1 k2 k3 k4 k5 k6 k7 k8 k9 k10 j0 j1 j2 j3
  have k0 := d0 _ hd5
  have k1 := d1 _ hd5
  have k2 := d2 _ hd5
  have k3 := d3 _ hd5
  have k4 := d4 _ hd5
  have k5 := d5 _ hd5
  have k6 := d6 _ hd5
  have k7 := d7 _ hd5
  have k8 := d8 _ hd5
  have k9 := d9 _ hd5
  have k10 := d10 _ hd5
  have j0 := e0 _ hd5
  have j1 := e1 _ hd5
  have j2 := e2 _ hd5
  have j3 := e3 _ hd5
  have Hd5 := Lib.hid hd5
  clear hd5
  go_wp2_with fail
  refine (HE2.out _).mono ?_
  rintro e w51 ⟨rfl, hb51⟩
  have Hd51 := Lib.hid (Hd5.out.step hb51)
  clear hb51 Hd5 k0 k1 k2 k3 k4 k5 k6 k7 k8 k9 k10 j0 j1 j2 j3
  go_wp2_with fail
  refine (read_two11 _).mono ?_
  rintro e w6 ⟨rfl, hb6⟩
  have HF := Lib.hid (Hd51.out.step hb6).below
  clear hb6 Hd51
  go_wp2_with fail
  refine (pturn_nil _).mono ?_
  rintro e w7 ⟨rfl, m7, rfl⟩
  go_wp2_with fail
  refine (read_one11 _).mono ?_
  rintro e w8 ⟨rfl, hb8⟩
  have HF8 := Lib.hid ((below_drewNc HF.out m7).trans (hb8.mono (below_drewNc HF.out m7).size))
  clear hb8 HF
  go_wp2_with fail
  refine (HE1.out _).mono ?_
  rintro e w9 ⟨rfl, hb9⟩
  have HF9 := Lib.hid (HF8.out.trans (hb9.mono HF8.out.size))
  clear hb9 HF8
  go_wp2_with fail
  refine (phear_nil _ _ _).mono ?_
  rintro e w10 ⟨rfl, m10, rfl⟩
  go_wp2_with fail
  refine (preal_nil _ _).mono ?_
  rintro e w11 ⟨rfl, m11, rfl⟩
  go_wp2_with fail
  refine (plocal_nil _ _).mono ?_
  rintro e w12 ⟨rfl, m12, rfl⟩
  go_wp2_with fail
  go_ret
  exact ⟨rfl, below_drewNc HF9.out _⟩

set_option maxHeartbeats 2000000 in
theorem pturns_range5 (x : CfgC) (me since rate : Int) (cold : Bool) (A : Option Addr) (n cap : Nat) (hf : SndP.chk6 x.plain = none) (hL : longB6 x = false) (hq : (-1 ≤ me ∧ me < x.nodes) ∧ 0 ≤ since ∧ since ≤ 1125899906842624 ∧ -200 ≤ rate ∧ 200 < rate) (w : World) (h : CfgIn w x) : Calls Try.prog 3 #[x.value, .agg #[.int .i64 me, .int .i64 since, .int .i64 rate, .bool cold], .slice A n cap] w (TruePost w) := by
  have HA := Lib.hid (fun W => awake11_any W)
  have HLg := Lib.hid (fun W => long6_any x W)
  rw [hL] at HLg
  have HST := Lib.hid (BoxWS.start w x me since rate cold)
  have HRc := Lib.hid (fun W (hW : BoxWS w x me since rate cold W) => rcheck_any x W (h.below hW.below))
  rw [hf] at HRc
  unfold RefChkPost strV at HRc
  simp only [wrongT] at HRc
  have HCp : Hid (∀ W, BoxWS w x me since rate cold W → Calls Try.prog 9 #[x.value] W (CopiedPost x.plain W)) := Lib.hid fun W hW => by
    have := longB6_no hL
    exact copied_any x W (h.below hW.below) (by omega) (by omega) (by omega)
  have HE1 : Hid (∀ W, Calls Try.prog 11 #[.int .i64 1] W fun e w' => e = .returned (.string ⟨#[49]⟩) ∧ Below W.heap.size W w') := Lib.hid (fun W => by have := e_any 1 W (by omega); rw [numN1] at this; exact this)
  have HE2 : Hid (∀ W, Calls Try.prog 11 #[.int .i64 2] W fun e w' => e = .returned (.string ⟨#[50]⟩) ∧ Below W.heap.size W w') := Lib.hid (fun W => by have := e_any 2 W (by omega); rw [numN2] at this; exact this)
  have HN : Hid (∀ y W, CfgIn W y → y.plain = x.plain → Calls Try.prog 8 #[y.value, .int .i64 me, .int .i64 since, .int .i64 rate, .bool cold] W (NoPace2 W)) := Lib.hid fun y W hy e => pnew_clock y me since rate cold W hy (by rw [e]; exact hf) (by have : y.nodes = x.nodes := congrArg TableP.Cfg.nodes e; omega) (by unfold LawfulIn; omega)
  clear hf hL h
  obtain ⟨nodes, faulty, slot, gap, rho, dmin, dmax, margin, PA, pn, pcap, parts, QA, qn, qcap, ports, RA, rn, rcap, routes⟩ := x
  have d0 := fun W (hW : BoxWS w ⟨nodes, faulty, slot, gap, rho, dmin, dmax, margin, PA, pn, pcap, parts, QA, qn, qcap, ports, RA, rn, rcap, routes⟩ me since rate cold W) => hW.cells.c0
  have d1 := fun W (hW : BoxWS w ⟨nodes, faulty, slot, gap, rho, dmin, dmax, margin, PA, pn, pcap, parts, QA, qn, qcap, ports, RA, rn, rcap, routes⟩ me since rate cold W) => hW.cells.c1
  have d2 := fun W (hW : BoxWS w ⟨nodes, faulty, slot, gap, rho, dmin, dmax, margin, PA, pn, pcap, parts, QA, qn, qcap, ports, RA, rn, rcap, routes⟩ me since rate cold W) => hW.cells.c2
  have d3 := fun W (hW : BoxWS w ⟨nodes, faulty, slot, gap, rho, dmin, dmax, margin, PA, pn, pcap, parts, QA, qn, qcap, ports, RA, rn, rcap, routes⟩ me since rate cold W) => hW.cells.c3
  have d4 := fun W (hW : BoxWS w ⟨nodes, faulty, slot, gap, rho, dmin, dmax, margin, PA, pn, pcap, parts, QA, qn, qcap, ports, RA, rn, rcap, routes⟩ me since rate cold W) => hW.cells.c4
  have d5 := fun W (hW : BoxWS w ⟨nodes, faulty, slot, gap, rho, dmin, dmax, margin, PA, pn, pcap, parts, QA, qn, qcap, ports, RA, rn, rcap, routes⟩ me since rate cold W) => hW.cells.c5
  have d6 := fun W (hW : BoxWS w ⟨nodes, faulty, slot, gap, rho, dmin, dmax, margin, PA, pn, pcap, parts, QA, qn, qcap, ports, RA, rn, rcap, routes⟩ me since rate cold W) => hW.cells.c6
  have d7 := fun W (hW : BoxWS w ⟨nodes, faulty, slot, gap, rho, dmin, dmax, margin, PA, pn, pcap, parts, QA, qn, qcap, ports, RA, rn, rcap, routes⟩ me since rate cold W) => hW.cells.c7
  have d8 := fun W (hW : BoxWS w ⟨nodes, faulty, slot, gap, rho, dmin, dmax, margin, PA, pn, pcap, parts, QA, qn, qcap, ports, RA, rn, rcap, routes⟩ me since rate cold W) => hW.cells.c8
  have d9 := fun W (hW : BoxWS w ⟨nodes, faulty, slot, gap, rho, dmin, dmax, margin, PA, pn, pcap, parts, QA, qn, qcap, ports, RA, rn, rcap, routes⟩ me since rate cold W) => hW.cells.c9
  have d10 := fun W (hW : BoxWS w ⟨nodes, faulty, slot, gap, rho, dmin, dmax, margin, PA, pn, pcap, parts, QA, qn, qcap, ports, RA, rn, rcap, routes⟩ me since rate cold W) => hW.cells.c10
  have e0 : ∀ W, BoxWS w ⟨nodes, faulty, slot, gap, rho, dmin, dmax, margin, PA, pn, pcap, parts, QA, qn, qcap, ports, RA, rn, rcap, routes⟩ me since rate cold W → W.cell? ⟨w.heap.size + 1, 0, none⟩ = some (.int .i64 me) := fun W hW => hW.w0
  have e1 : ∀ W, BoxWS w ⟨nodes, faulty, slot, gap, rho, dmin, dmax, margin, PA, pn, pcap, parts, QA, qn, qcap, ports, RA, rn, rcap, routes⟩ me since rate cold W → W.cell? ⟨w.heap.size + 1, 1, none⟩ = some (.int .i64 since) := fun W hW => hW.w1
  have e2 : ∀ W, BoxWS w ⟨nodes, faulty, slot, gap, rho, dmin, dmax, margin, PA, pn, pcap, parts, QA, qn, qcap, ports, RA, rn, rcap, routes⟩ me since rate cold W → W.cell? ⟨w.heap.size + 1, 2, none⟩ = some (.int .i64 rate) := fun W hW => hW.w2
  have e3 : ∀ W, BoxWS w ⟨nodes, faulty, slot, gap, rho, dmin, dmax, margin, PA, pn, pcap, parts, QA, qn, qcap, ports, RA, rn, rcap, routes⟩ me since rate cold W → W.cell? ⟨w.heap.size + 1, 3, none⟩ = some (.bool cold) := fun W hW => hW.w3
  simp only at d0 d1 d2 d3 d4 d5 d6 d7 d8 d9 d10 hq
  have q0 : decide (me < -1) = false := decide_eq_false (by omega)
  have q1 : decide (nodes ≤ me) = false := decide_eq_false (by omega)
  have q2 : decide (since < 0) = false := decide_eq_false (by omega)
  have q3 : decide (1125899906842624 < since) = false := decide_eq_false (by omega)
  have q4 : decide (rate < -200) = false := decide_eq_false (by omega)
  have q5 : decide (200 < rate) = true := decide_eq_true (by omega)
  clear hq
  simp only [CfgC.value] at HLg HRc HCp ⊢
  simp only [boxW, boxC, cfgCells, whoCells] at HST
  go_enter Try.func3, Try.ntmps3
  go_wp2_with fail
  refine (HA.out _).mono ?_
  rintro e w1 ⟨rfl, hb1⟩
  have hd1 := HST.out.step hb1
  clear hb1 HA
  have k0 := d0 _ hd1
  have k1 := d1 _ hd1
  have k2 := d2 _ hd1
  have k3 := d3 _ hd1
  have k4 := d4 _ hd1
  have k5 := d5 _ hd1
  have k6 := d6 _ hd1
  have k7 := d7 _ hd1
  have k8 := d8 _ hd1
  have k9 := d9 _ hd1
  have k10 := d10 _ hd1
  have j0 := e0 _ hd1
  have j1 := e1 _ hd1
  have j2 := e2 _ hd1
  have j3 := e3 _ hd1
  have Hd1 := Lib.hid hd1
  clear hd1
  go_wp2_with fail
  refine (HLg.out _).mono ?_
  rintro e w2 ⟨rfl, hb2⟩
  have hd2 := Hd1.out.step hb2
  clear hb2 Hd1 HLg k0 k1 k2 k3 k4 k5 k6 k7 k8 k9 k10 j0 j1 j2 j3
  go_wp2_with fail
  refine wp_region_held_drew (S := fun W => BoxWS w ⟨nodes, faulty, slot, gap, rho, dmin, dmax, margin, PA, pn, pcap, parts, QA, qn, qcap, ports, RA, rn, rcap, routes⟩ me since rate cold W) (by kernel_rfl) hd2.drew (fun _ => ?_)
  refine wpAnyH_take (i := 0) (oi := ?oo97) (v := ?vv97) ?ii97 (by kernel_rfl) ?ff97 (by kernel_rfl) ?qq97 (Or.inl ⟨?ww97, ?yy97⟩) hd2.drew ?rr97
  case ii97 => simp only [List.getElem?_toArray, List.getElem?_cons_zero]; rfl
  case ff97 => kernel_rfl
  case qq97 => exact fun _ _ _ h => h
  case ww97 => rfl
  case yy97 => intro W hW; go_simp <;> with_reducible rfl
  try simp only [Act.put, List.setIfInBounds_toArray, List.set_cons_zero, List.set_cons_succ]
  refine wpAnyH_take (i := 2) (oi := ?oo98) (v := ?vv98) ?ii98 (by kernel_rfl) ?ff98 (by kernel_rfl) ?qq98 (Or.inl ⟨?ww98, ?yy98⟩) hd2.drew ?rr98
  case ii98 => simp only [List.getElem?_toArray, List.getElem?_cons_succ, List.getElem?_cons_zero]; rfl
  case ff98 => kernel_rfl
  case qq98 => exact fun _ _ _ h => h
  case ww98 => rfl
  case yy98 => intro W hW; go_simp <;> with_reducible rfl
  try simp only [Act.put, List.setIfInBounds_toArray, List.set_cons_zero, List.set_cons_succ]
  refine wpAnyH_take (i := 3) (oi := ?oo99) (v := ?vv99) ?ii99 (by kernel_rfl) ?ff99 (by kernel_rfl) ?qq99 (Or.inl ⟨?ww99, ?yy99⟩) hd2.drew ?rr99
  case ii99 => simp only [List.getElem?_toArray, List.getElem?_cons_succ, List.getElem?_cons_zero]; rfl
  case ff99 => kernel_rfl
  case qq99 => exact fun _ _ _ h => h
  case ww99 => rfl
  case yy99 => intro W hW; go_simp <;> with_reducible rfl
  try simp only [Act.put, List.setIfInBounds_toArray, List.set_cons_zero, List.set_cons_succ]
  refine wpAnyH_take (i := 4) (oi := ?oo100) (v := ?vv100) ?ii100 (by kernel_rfl) ?ff100 (by kernel_rfl) ?qq100 (Or.inl ⟨?ww100, ?yy100⟩) hd2.drew ?rr100
  case ii100 => simp only [List.getElem?_toArray, List.getElem?_cons_succ, List.getElem?_cons_zero]; rfl
  case ff100 => kernel_rfl
  case qq100 => exact fun _ _ _ h => h
  case ww100 => rfl
  case yy100 => intro W hW; go_simp <;> with_reducible rfl
  try simp only [Act.put, List.setIfInBounds_toArray, List.set_cons_zero, List.set_cons_succ]
  refine wpAnyH_take (i := 5) (oi := ?oo101) (v := ?vv101) ?ii101 (by kernel_rfl) ?ff101 (by kernel_rfl) ?qq101 (Or.inl ⟨?ww101, ?yy101⟩) hd2.drew ?rr101
  case ii101 => simp only [List.getElem?_toArray, List.getElem?_cons_succ, List.getElem?_cons_zero]; rfl
  case ff101 => kernel_rfl
  case qq101 => exact fun _ _ _ h => h
  case ww101 => rfl
  case yy101 => intro W hW; go_simp <;> with_reducible rfl
  try simp only [Act.put, List.setIfInBounds_toArray, List.set_cons_zero, List.set_cons_succ]
  refine wpAnyH_take (i := 6) (oi := ?oo102) (v := ?vv102) ?ii102 (by kernel_rfl) ?ff102 (by kernel_rfl) ?qq102 (Or.inl ⟨?ww102, ?yy102⟩) hd2.drew ?rr102
  case ii102 => simp only [List.getElem?_toArray, List.getElem?_cons_succ, List.getElem?_cons_zero]; rfl
  case ff102 => kernel_rfl
  case qq102 => exact fun _ _ _ h => h
  case ww102 => rfl
  case yy102 => intro W hW; go_simp <;> with_reducible rfl
  try simp only [Act.put, List.setIfInBounds_toArray, List.set_cons_zero, List.set_cons_succ]
  refine wpAnyH_take (i := 7) (oi := ?oo103) (v := ?vv103) ?ii103 (by kernel_rfl) ?ff103 (by kernel_rfl) ?qq103 (Or.inl ⟨?ww103, ?yy103⟩) hd2.drew ?rr103
  case ii103 => simp only [List.getElem?_toArray, List.getElem?_cons_succ, List.getElem?_cons_zero]; rfl
  case ff103 => kernel_rfl
  case qq103 => exact fun _ _ _ h => h
  case ww103 => rfl
  case yy103 => intro W hW; go_simp <;> with_reducible rfl
  try simp only [Act.put, List.setIfInBounds_toArray, List.set_cons_zero, List.set_cons_succ]
  refine wpAnyH_take (i := 8) (oi := ?oo104) (v := ?vv104) ?ii104 (by kernel_rfl) ?ff104 (by kernel_rfl) ?qq104 (Or.inl ⟨?ww104, ?yy104⟩) hd2.drew ?rr104
  case ii104 => simp only [List.getElem?_toArray, List.getElem?_cons_succ, List.getElem?_cons_zero]; rfl
  case ff104 => kernel_rfl
  case qq104 => exact fun _ _ _ h => h
  case ww104 => rfl
  case yy104 => intro W hW; go_simp <;> with_reducible rfl
  try simp only [Act.put, List.setIfInBounds_toArray, List.set_cons_zero, List.set_cons_succ]
  refine wpAnyH_take (i := 9) (oi := ?oo105) (v := ?vv105) ?ii105 (by kernel_rfl) ?ff105 (by kernel_rfl) ?qq105 (Or.inl ⟨?ww105, ?yy105⟩) hd2.drew ?rr105
  case ii105 => simp only [List.getElem?_toArray, List.getElem?_cons_succ, List.getElem?_cons_zero]; rfl
  case ff105 => kernel_rfl
  case qq105 => exact fun _ _ _ h => h
  case ww105 => rfl
  case yy105 => intro W hW; go_simp <;> with_reducible rfl
  try simp only [Act.put, List.setIfInBounds_toArray, List.set_cons_zero, List.set_cons_succ]
  refine wpAnyH_ready (rs := [1]) (by kernel_rfl) (by simp) ?_
  refine AllReadyH.cons (o := ?oo106) ?ii106 (fun K hK => ?_) AllReadyH.nil
  case ii106 => simp only [List.getElem?_toArray, List.getElem?_cons_succ, List.getElem?_cons_zero]; rfl
  go_simp
  refine (HCp.out _ hd2.drew).mono ?_
  rintro e w3 ⟨v3, rfl, ⟨y, rfl, hx3, hp3⟩, hb3⟩
  have hd3 := hd2.drew.step hb3
  have HN3 := Lib.hid (HN.out y _ hx3 hp3)
  clear hx3 hp3 hb3 hd2 HN HCp
  go_wp2_with fail
  refine hK.out _ _ hd3 (fun _ => ?_)
  clear hK K
  refine wpAnyH_ready (rs := [10]) (by kernel_rfl) (by simp) ?_
  refine AllReadyH.cons (o := ?oo107) ?ii107 (fun K hK => ?_) AllReadyH.nil
  case ii107 => simp only [List.getElem?_toArray, List.getElem?_cons_succ, List.getElem?_cons_zero]; rfl
  go_simp
  refine HN3.out.mono ?_
  rintro e w4 ⟨rfl, hb4⟩
  have hd4 := hd3.step hb4
  clear hb4 HN3 hd3
  go_wp2_with fail
  refine hK.out _ _ hd4 (fun _ => ?_)
  clear hK K
  refine wpAnyH_take (i := 11) (oi := ?oo108) (v := ?vv108) ?ii108 (by kernel_rfl) ?ff108 (by kernel_rfl) ?qq108 (Or.inl ⟨?ww108, ?yy108⟩) hd4 ?rr108
  case ii108 => simp only [List.getElem?_toArray, List.getElem?_cons_succ, List.getElem?_cons_zero]; rfl
  case ff108 => kernel_rfl
  case qq108 => exact fun _ _ _ h => h
  case ww108 => rfl
  case yy108 => intro W hW; go_simp <;> with_reducible rfl
  try simp only [Act.put, List.setIfInBounds_toArray, List.set_cons_zero, List.set_cons_succ]
  refine wpAnyH_take (i := 12) (oi := ?oo109) (v := ?vv109) ?ii109 (by kernel_rfl) ?ff109 (by kernel_rfl) ?qq109 (Or.inl ⟨?ww109, ?yy109⟩) hd4 ?rr109
  case ii109 => simp only [List.getElem?_toArray, List.getElem?_cons_succ, List.getElem?_cons_zero]; rfl
  case ff109 => kernel_rfl
  case qq109 => exact fun _ _ _ h => h
  case ww109 => rfl
  case yy109 => intro W hW; go_simp <;> with_reducible rfl
  try simp only [Act.put, List.setIfInBounds_toArray, List.set_cons_zero, List.set_cons_succ]
  refine wpAnyH_take (i := 13) (oi := ?oo110) (v := ?vv110) ?ii110 (by kernel_rfl) ?ff110 (by kernel_rfl) ?qq110 (Or.inl ⟨?ww110, ?yy110⟩) hd4 ?rr110
  case ii110 => simp only [List.getElem?_toArray, List.getElem?_cons_succ, List.getElem?_cons_zero]; rfl
  case ff110 => kernel_rfl
  case qq110 => exact fun _ _ _ h => h
  case ww110 => rfl
  case yy110 => intro W hW; go_simp <;> with_reducible rfl
  try simp only [Act.put, List.setIfInBounds_toArray, List.set_cons_zero, List.set_cons_succ]
  refine wpAnyH_take (i := 14) (oi := ?oo111) (v := ?vv111) ?ii111 (by kernel_rfl) ?ff111 (by kernel_rfl) ?qq111 (Or.inl ⟨?ww111, ?yy111⟩) hd4 ?rr111
  case ii111 => simp only [List.getElem?_toArray, List.getElem?_cons_succ, List.getElem?_cons_zero]; rfl
  case ff111 => kernel_rfl
  case qq111 => exact fun _ _ _ h => h
  case ww111 => rfl
  case yy111 => intro W hW; go_simp <;> with_reducible rfl
  try simp only [Act.put, List.setIfInBounds_toArray, List.set_cons_zero, List.set_cons_succ]
  refine wpAnyH_take (i := 15) (oi := ?oo112) (v := ?vv112) ?ii112 (by kernel_rfl) ?ff112 (by kernel_rfl) ?qq112 (Or.inl ⟨?ww112, ?yy112⟩) hd4 ?rr112
  case ii112 => simp only [List.getElem?_toArray, List.getElem?_cons_succ, List.getElem?_cons_zero]; rfl
  case ff112 => kernel_rfl
  case qq112 => exact fun _ _ _ h => h
  case ww112 => rfl
  case yy112 => intro W hW; go_simp <;> with_reducible rfl
  try simp only [Act.put, List.setIfInBounds_toArray, List.set_cons_zero, List.set_cons_succ]
  refine wpAnyH_done (by kernel_rfl) ?_ _
  have k0 := d0 _ hd4
  have k1 := d1 _ hd4
  have k2 := d2 _ hd4
  have k3 := d3 _ hd4
  have k4 := d4 _ hd4
  have k5 := d5 _ hd4
  have k6 := d6 _ hd4
  have k7 := d7 _ hd4
  have k8 := d8 _ hd4
  have k9 := d9 _ hd4
  have k10 := d10 _ hd4
  have j0 := e0 _ hd4
  have j1 := e1 _ hd4
  have j2 := e2 _ hd4
  have j3 := e3 _ hd4
  have Hd4 := Lib.hid hd4
  clear hd4
  go_wp2_with fail
  refine (HRc.out _ Hd4.out).mono ?_
  rintro e w5 ⟨rfl, hb5⟩
  have hd5 := Hd4.out.step hb5
  clear hb5 Hd4 HRc k0 k1 k2 k3 k4 k5 k6 k7 k8 k9 k10 j0 j1 j2 j3
  have k0 := d0 _ hd5
  have k1 := d1 _ hd5
  have k2 := d2 _ hd5
  have k3 := d3 _ hd5
  have k4 := d4 _ hd5
  have k5 := d5 _ hd5
  have k6 := d6 _ hd5
  have k7 := d7 _ hd5
  have k8 := d8 _ hd5
  have k9 := d9 _ hd5
  have k10 := d10 _ hd5
  have j0 := e0 _ hd5
  have j1 := e1 _ hd5
  have j2 := e2 _ hd5
  have j3 := e3 _ hd5
  have Hd5 := Lib.hid hd5
  clear hd5
  go_wp2_with fail
  refine (HE2.out _).mono ?_
  rintro e w51 ⟨rfl, hb51⟩
  have Hd51 := Lib.hid (Hd5.out.step hb51)
  clear hb51 Hd5 k0 k1 k2 k3 k4 k5 k6 k7 k8 k9 k10 j0 j1 j2 j3
  go_wp2_with fail
  refine (read_two11 _).mono ?_
  rintro e w6 ⟨rfl, hb6⟩
  have HF := Lib.hid (Hd51.out.step hb6).below
  clear hb6 Hd51
  go_wp2_with fail
  refine (pturn_nil _).mono ?_
  rintro e w7 ⟨rfl, m7, rfl⟩
  go_wp2_with fail
  refine (read_one11 _).mono ?_
  rintro e w8 ⟨rfl, hb8⟩
  have HF8 := Lib.hid ((below_drewNc HF.out m7).trans (hb8.mono (below_drewNc HF.out m7).size))
  clear hb8 HF
  go_wp2_with fail
  refine (HE1.out _).mono ?_
  rintro e w9 ⟨rfl, hb9⟩
  have HF9 := Lib.hid (HF8.out.trans (hb9.mono HF8.out.size))
  clear hb9 HF8
  go_wp2_with fail
  refine (phear_nil _ _ _).mono ?_
  rintro e w10 ⟨rfl, m10, rfl⟩
  go_wp2_with fail
  refine (preal_nil _ _).mono ?_
  rintro e w11 ⟨rfl, m11, rfl⟩
  go_wp2_with fail
  refine (plocal_nil _ _).mono ?_
  rintro e w12 ⟨rfl, m12, rfl⟩
  go_wp2_with fail
  go_ret
  exact ⟨rfl, below_drewNc HF9.out _⟩

end Go.Proofs.Ythhbdnjihhpalaa
