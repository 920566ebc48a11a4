/- Contracts of sound's Round, Drift, Precision, Mean, Send, slots, spread, and of the document's. Conditions: the numbers are in their ranges. -/
import Derived.Test.YtodkcenoljpgoaaSndP
import Derived.Test.YtodkcenoljpgoaaTbD
import Derived.Deep.RegionHeld3
namespace Go.Proofs.Ytodkcenoljpgoaa
open Go.RowKit
set_option maxRecDepth 100000

def IntPost (n : Int) (w : World) (e : Ending) (w' : World) : Prop := e = .returned (.int .i64 n) ∧ Below w.heap.size w w'
/-- What holds of every world behind a box of tables. -/
def BoxS (w : World) (x : CfgC) (W : World) : Prop := Below (boxC w x).heap.size (boxC w x) W
theorem BoxS.start (w : World) (x : CfgC) : BoxS w x (boxC w x) := Below.refl _ _
theorem BoxS.drew {w : World} {x : CfgC} {W : World} (h : BoxS w x W) : BoxS w x W.drew := Below.drew h
theorem BoxS.step {w : World} {x : CfgC} {W W' : World} (h : BoxS w x W) (hb : Below W.heap.size W W') : BoxS w x W' := h.trans (hb.mono h.size)
theorem BoxS.below {w : World} {x : CfgC} {W : World} (h : BoxS w x W) : Below w.heap.size w W := (boxC_below w x).trans (h.mono (by rw [boxC_size]; omega))
theorem BoxS.cells {w : World} {x : CfgC} {W : World} (h : BoxS w x W) : Box11 W w.heap.size x := box11 h
theorem quo_pos (a b : Int) (ha : 0 ≤ a) : Int.tdiv a b = a / b := Int.tdiv_eq_ediv_of_nonneg ha

theorem slots_any (x : CfgC) (w : World) (h : TableP.headOk x.plain) :
    Calls Try.prog 47 #[x.value] w (IntPost (SndP.slotsT x.plain) w) := by
  have hn := SndP.nums_in h
  obtain ⟨hn1, hn2, hn3, hn4, hn5, hn6, hn7, hn8, hs, hd⟩ := hn
  clear h
  have HB := Lib.hid (boxC_below w x)
  obtain ⟨nodes, faulty, slot, gap, rho, dmin, dmax, margin, PA, pn, pcap, parts, QA, qn, qcap, ports, RA, rn, rcap, routes⟩ := x
  simp only [CfgC.plain] at hn1 hn2 hn3 hn4 hn5 hn6 hn7 hn8 hs hd
  simp only [boxC, cfgCells] at HB
  simp only [CfgC.value, CfgC.plain, SndP.slotsT]
  have e0 : IntKind.i64.wrap (nodes * slot) = nodes * slot := IntWalk.i64_in _ (by omega)
  clear hn1 hn2 hn3 hn4 hn5 hn6 hn7 hn8 hs hd
  go_enter Try.func47, Try.ntmps47
  go_wp2_with fail
  go_ret
  exact ⟨rfl, HB.out⟩
theorem spread_any (x : CfgC) (w : World) (h : TableP.headOk x.plain) :
    Calls Try.prog 35 #[x.value] w (IntPost (SndP.spreadT x.plain) w) := by
  have hn := SndP.nums_in h
  obtain ⟨hn1, hn2, hn3, hn4, hn5, hn6, hn7, hn8, hs, hd⟩ := hn
  clear h
  have HB := Lib.hid (boxC_below w x)
  obtain ⟨nodes, faulty, slot, gap, rho, dmin, dmax, margin, PA, pn, pcap, parts, QA, qn, qcap, ports, RA, rn, rcap, routes⟩ := x
  simp only [CfgC.plain] at hn1 hn2 hn3 hn4 hn5 hn6 hn7 hn8 hs hd
  simp only [boxC, cfgCells] at HB
  simp only [CfgC.value, CfgC.plain, SndP.spreadT]
  have e0 : IntKind.i64.wrap (dmax - dmin) = dmax - dmin := IntWalk.i64_in _ (by omega)
  clear hn1 hn2 hn3 hn4 hn5 hn6 hn7 hn8 hs hd
  go_enter Try.func35, Try.ntmps35
  go_wp2_with fail
  go_ret
  exact ⟨rfl, HB.out⟩
theorem refround_any (x : CfgC) (w : World) (h : TableP.headOk x.plain) :
    Calls Try.prog 41 #[x.value] w (IntPost (SndP.roundT x.plain) w) := by
  have hn := SndP.nums_in h
  obtain ⟨hn1, hn2, hn3, hn4, hn5, hn6, hn7, hn8, hs, hd⟩ := hn
  clear h
  have HB := Lib.hid (boxC_below w x)
  obtain ⟨nodes, faulty, slot, gap, rho, dmin, dmax, margin, PA, pn, pcap, parts, QA, qn, qcap, ports, RA, rn, rcap, routes⟩ := x
  simp only [CfgC.plain] at hn1 hn2 hn3 hn4 hn5 hn6 hn7 hn8 hs hd
  simp only [boxC, cfgCells] at HB
  simp only [CfgC.value, CfgC.plain, SndP.roundT]
  have e0 : IntKind.i64.wrap (nodes * slot) = nodes * slot := IntWalk.i64_in _ (by omega)
  have e1 : IntKind.i64.wrap (nodes * slot + gap) = nodes * slot + gap := IntWalk.i64_in _ (by omega)
  clear hn1 hn2 hn3 hn4 hn5 hn6 hn7 hn8 hs hd
  go_enter Try.func41, Try.ntmps41
  go_wp2_with fail
  go_ret
  exact ⟨rfl, HB.out⟩
theorem send_any (x : CfgC) (n : Int) (hn : 0 ≤ n ∧ n ≤ 8) (w : World) (h : TableP.headOk x.plain) :
    Calls Try.prog 27 #[x.value, .int .i64 n] w (IntPost (SndP.sendT x.plain n) w) := by
  have hn := SndP.nums_in h
  obtain ⟨hn1, hn2, hn3, hn4, hn5, hn6, hn7, hn8, hs, hd⟩ := hn
  clear h
  have HB := Lib.hid (boxC_below w x)
  obtain ⟨nodes, faulty, slot, gap, rho, dmin, dmax, margin, PA, pn, pcap, parts, QA, qn, qcap, ports, RA, rn, rcap, routes⟩ := x
  simp only [CfgC.plain] at hn1 hn2 hn3 hn4 hn5 hn6 hn7 hn8 hs hd
  simp only [boxC, cfgCells] at HB
  simp only [CfgC.value, CfgC.plain, SndP.sendT]
  have hm := SndP.mul_in hn ⟨by omega, hn3.2⟩
  have e0 : IntKind.i64.wrap (n * slot) = n * slot := IntWalk.i64_in _ (by omega)
  have e1 : IntKind.i64.wrap (n * slot + margin) = n * slot + margin := IntWalk.i64_in _ (by omega)
  clear hn1 hn2 hn3 hn4 hn5 hn6 hn7 hn8 hs hd
  go_enter Try.func27, Try.ntmps27
  go_wp2_with fail
  go_ret
  exact ⟨rfl, HB.out⟩
theorem refsend_any (x : CfgC) (n : Int) (hn : 0 ≤ n ∧ n ≤ 8) (w : World) (h : TableP.headOk x.plain) :
    Calls Try.prog 15 #[x.value, .int .i64 n] w (IntPost (SndP.sendT x.plain n) w) := by
  have hn := SndP.nums_in h
  obtain ⟨hn1, hn2, hn3, hn4, hn5, hn6, hn7, hn8, hs, hd⟩ := hn
  clear h
  have HB := Lib.hid (boxC_below w x)
  obtain ⟨nodes, faulty, slot, gap, rho, dmin, dmax, margin, PA, pn, pcap, parts, QA, qn, qcap, ports, RA, rn, rcap, routes⟩ := x
  simp only [CfgC.plain] at hn1 hn2 hn3 hn4 hn5 hn6 hn7 hn8 hs hd
  simp only [boxC, cfgCells] at HB
  simp only [CfgC.value, CfgC.plain, SndP.sendT]
  have hm := SndP.mul_in hn ⟨by omega, hn3.2⟩
  have e0 : IntKind.i64.wrap (n * slot) = n * slot := IntWalk.i64_in _ (by omega)
  have e1 : IntKind.i64.wrap (n * slot + margin) = n * slot + margin := IntWalk.i64_in _ (by omega)
  clear hn1 hn2 hn3 hn4 hn5 hn6 hn7 hn8 hs hd
  go_enter Try.func15, Try.ntmps15
  go_wp2_with fail
  go_ret
  exact ⟨rfl, HB.out⟩
theorem refmean_any (x : CfgC) (w : World) (h : TableP.headOk x.plain) :
    Calls Try.prog 16 #[x.value] w (IntPost (SndP.meanT x.plain) w) := by
  have hn := SndP.nums_in h
  obtain ⟨hn1, hn2, hn3, hn4, hn5, hn6, hn7, hn8, hs, hd⟩ := hn
  clear h
  have HB := Lib.hid (boxC_below w x)
  obtain ⟨nodes, faulty, slot, gap, rho, dmin, dmax, margin, PA, pn, pcap, parts, QA, qn, qcap, ports, RA, rn, rcap, routes⟩ := x
  simp only [CfgC.plain] at hn1 hn2 hn3 hn4 hn5 hn6 hn7 hn8 hs hd
  simp only [boxC, cfgCells] at HB
  simp only [CfgC.value, CfgC.plain, SndP.meanT]
  have q0 := quo_pos (dmax - dmin) 2 (by omega)
  have e0 : IntKind.i64.wrap (dmax - dmin) = dmax - dmin := IntWalk.i64_in _ (by omega)
  have e1 : IntKind.i64.wrap ((dmax - dmin) / 2) = (dmax - dmin) / 2 := IntWalk.i64_in _ (by omega)
  have e2 : IntKind.i64.wrap (dmin + (dmax - dmin) / 2) = dmin + (dmax - dmin) / 2 := IntWalk.i64_in _ (by omega)
  clear hn1 hn2 hn3 hn4 hn5 hn6 hn7 hn8 hs hd
  go_enter Try.func16, Try.ntmps16
  go_wp2_with fail
  go_ret
  exact ⟨rfl, HB.out⟩
theorem round_any (x : CfgC) (w : World) (h : TableP.headOk x.plain) :
    Calls Try.prog 42 #[x.value] w (IntPost (SndP.roundT x.plain) w) := by
  have C0 := Lib.hid (fun W => slots_any x W h)
  have hn := SndP.nums_in h
  obtain ⟨hn1, hn2, hn3, hn4, hn5, hn6, hn7, hn8, hs, hd⟩ := hn
  clear h
  obtain ⟨nodes, faulty, slot, gap, rho, dmin, dmax, margin, PA, pn, pcap, parts, QA, qn, qcap, ports, RA, rn, rcap, routes⟩ := x
  have hd0 := (BoxS.start w ⟨nodes, faulty, slot, gap, rho, dmin, dmax, margin, PA, pn, pcap, parts, QA, qn, qcap, ports, RA, rn, rcap, routes⟩).drew
  have d0 := fun W (hW : BoxS w ⟨nodes, faulty, slot, gap, rho, dmin, dmax, margin, PA, pn, pcap, parts, QA, qn, qcap, ports, RA, rn, rcap, routes⟩ W) => hW.cells.c0
  have d1 := fun W (hW : BoxS w ⟨nodes, faulty, slot, gap, rho, dmin, dmax, margin, PA, pn, pcap, parts, QA, qn, qcap, ports, RA, rn, rcap, routes⟩ W) => hW.cells.c1
  have d2 := fun W (hW : BoxS w ⟨nodes, faulty, slot, gap, rho, dmin, dmax, margin, PA, pn, pcap, parts, QA, qn, qcap, ports, RA, rn, rcap, routes⟩ W) => hW.cells.c2
  have d3 := fun W (hW : BoxS w ⟨nodes, faulty, slot, gap, rho, dmin, dmax, margin, PA, pn, pcap, parts, QA, qn, qcap, ports, RA, rn, rcap, routes⟩ W) => hW.cells.c3
  have d4 := fun W (hW : BoxS w ⟨nodes, faulty, slot, gap, rho, dmin, dmax, margin, PA, pn, pcap, parts, QA, qn, qcap, ports, RA, rn, rcap, routes⟩ W) => hW.cells.c4
  have d5 := fun W (hW : BoxS w ⟨nodes, faulty, slot, gap, rho, dmin, dmax, margin, PA, pn, pcap, parts, QA, qn, qcap, ports, RA, rn, rcap, routes⟩ W) => hW.cells.c5
  have d6 := fun W (hW : BoxS w ⟨nodes, faulty, slot, gap, rho, dmin, dmax, margin, PA, pn, pcap, parts, QA, qn, qcap, ports, RA, rn, rcap, routes⟩ W) => hW.cells.c6
  have d7 := fun W (hW : BoxS w ⟨nodes, faulty, slot, gap, rho, dmin, dmax, margin, PA, pn, pcap, parts, QA, qn, qcap, ports, RA, rn, rcap, routes⟩ W) => hW.cells.c7
  have d8 := fun W (hW : BoxS w ⟨nodes, faulty, slot, gap, rho, dmin, dmax, margin, PA, pn, pcap, parts, QA, qn, qcap, ports, RA, rn, rcap, routes⟩ W) => hW.cells.c8
  have d9 := fun W (hW : BoxS w ⟨nodes, faulty, slot, gap, rho, dmin, dmax, margin, PA, pn, pcap, parts, QA, qn, qcap, ports, RA, rn, rcap, routes⟩ W) => hW.cells.c9
  have d10 := fun W (hW : BoxS w ⟨nodes, faulty, slot, gap, rho, dmin, dmax, margin, PA, pn, pcap, parts, QA, qn, qcap, ports, RA, rn, rcap, routes⟩ W) => hW.cells.c10
  simp only [CfgC.plain] at hn1 hn2 hn3 hn4 hn5 hn6 hn7 hn8 hs hd
  simp only [CfgC.value, CfgC.plain, SndP.roundT, SndP.slotsT] at C0 ⊢
  simp only at d0 d1 d2 d3 d4 d5 d6 d7 d8 d9 d10
  have e0 : IntKind.i64.wrap (nodes * slot + gap) = nodes * slot + gap := IntWalk.i64_in _ (by omega)
  clear hn1 hn2 hn3 hn4 hn5 hn6 hn7 hn8 hs hd
  go_enter Try.func42, Try.ntmps42
  go_wp2_with fail
  refine wp_region_held_drew (S := fun W => BoxS w ⟨nodes, faulty, slot, gap, rho, dmin, dmax, margin, PA, pn, pcap, parts, QA, qn, qcap, ports, RA, rn, rcap, routes⟩ W) (by kernel_rfl) hd0 (fun _ => ?_)
  refine wpAnyH_take (i := 0) (oi := ?oo1) (v := ?vv1) ?ii1 (by kernel_rfl) ?ff1 (by kernel_rfl) ?qq1 (Or.inl ⟨?ww1, ?yy1⟩) hd0 ?rr1
  case ii1 => simp only [List.getElem?_toArray, List.getElem?_cons_zero]; rfl
  case ff1 => kernel_rfl
  case qq1 => exact fun _ _ _ h => h
  case ww1 => rfl
  case yy1 => intro W hW; go_simp <;> with_reducible rfl
  try simp only [Act.put, List.setIfInBounds_toArray, List.set_cons_zero, List.set_cons_succ]
  refine wpAnyH_take (i := 2) (oi := ?oo2) (v := ?vv2) ?ii2 (by kernel_rfl) ?ff2 (by kernel_rfl) ?qq2 (Or.inl ⟨?ww2, ?yy2⟩) hd0 ?rr2
  case ii2 => simp only [List.getElem?_toArray, List.getElem?_cons_succ, List.getElem?_cons_zero]; rfl
  case ff2 => kernel_rfl
  case qq2 => exact fun _ _ _ h => h
  case ww2 => rfl
  case yy2 => intro W hW; go_simp <;> with_reducible rfl
  try simp only [Act.put, List.setIfInBounds_toArray, List.set_cons_zero, List.set_cons_succ]
  refine wpAnyH_take (i := 3) (oi := ?oo3) (v := ?vv3) ?ii3 (by kernel_rfl) ?ff3 (by kernel_rfl) ?qq3 (Or.inl ⟨?ww3, ?yy3⟩) hd0 ?rr3
  case ii3 => simp only [List.getElem?_toArray, List.getElem?_cons_succ, List.getElem?_cons_zero]; rfl
  case ff3 => kernel_rfl
  case qq3 => exact fun _ _ _ h => h
  case ww3 => rfl
  case yy3 => intro W hW; go_simp <;> with_reducible rfl
  try simp only [Act.put, List.setIfInBounds_toArray, List.set_cons_zero, List.set_cons_succ]
  refine wpAnyH_ready (rs := [1]) (by kernel_rfl) (by simp) ?_
  refine AllReadyH.cons (o := ?oo4) ?ii4 (fun K hK => ?_) AllReadyH.nil
  case ii4 => simp only [List.getElem?_toArray, List.getElem?_cons_succ, List.getElem?_cons_zero]; rfl
  go_simp
  refine (C0.out _).mono ?_
  rintro e w1 ⟨rfl, hb1⟩
  have hd1 := hd0.step hb1
  go_wp2_with fail
  refine hK.out _ _ hd1 (fun _ => ?_)
  clear hK K
  refine wpAnyH_take (i := 4) (oi := ?oo5) (v := ?vv5) ?ii5 (by kernel_rfl) ?ff5 (by kernel_rfl) ?qq5 (Or.inl ⟨?ww5, ?yy5⟩) hd1 ?rr5
  case ii5 => simp only [List.getElem?_toArray, List.getElem?_cons_succ, List.getElem?_cons_zero]; rfl
  case ff5 => kernel_rfl
  case qq5 => exact fun _ _ _ h => h
  case ww5 => rfl
  case yy5 => intro W hW; go_simp <;> with_reducible rfl
  try simp only [Act.put, List.setIfInBounds_toArray, List.set_cons_zero, List.set_cons_succ]
  refine wpAnyH_take (i := 5) (oi := ?oo6) (v := ?vv6) ?ii6 (by kernel_rfl) ?ff6 (by kernel_rfl) ?qq6 (Or.inl ⟨?ww6, ?yy6⟩) hd1 ?rr6
  case ii6 => simp only [List.getElem?_toArray, List.getElem?_cons_succ, List.getElem?_cons_zero]; rfl
  case ff6 => kernel_rfl
  case qq6 => exact fun _ _ _ h => h
  case ww6 => rfl
  case yy6 => intro W hW; go_simp <;> with_reducible rfl
  try simp only [Act.put, List.setIfInBounds_toArray, List.set_cons_zero, List.set_cons_succ]
  refine wpAnyH_done (by kernel_rfl) ?_ _
  go_wp2_with fail
  go_ret
  exact ⟨rfl, hd1.below⟩
theorem mean_any (x : CfgC) (w : World) (h : TableP.headOk x.plain) :
    Calls Try.prog 28 #[x.value] w (IntPost (SndP.meanT x.plain) w) := by
  have C0 := Lib.hid (fun W => spread_any x W h)
  have hn := SndP.nums_in h
  obtain ⟨hn1, hn2, hn3, hn4, hn5, hn6, hn7, hn8, hs, hd⟩ := hn
  clear h
  obtain ⟨nodes, faulty, slot, gap, rho, dmin, dmax, margin, PA, pn, pcap, parts, QA, qn, qcap, ports, RA, rn, rcap, routes⟩ := x
  have hd0 := (BoxS.start w ⟨nodes, faulty, slot, gap, rho, dmin, dmax, margin, PA, pn, pcap, parts, QA, qn, qcap, ports, RA, rn, rcap, routes⟩).drew
  have d0 := fun W (hW : BoxS w ⟨nodes, faulty, slot, gap, rho, dmin, dmax, margin, PA, pn, pcap, parts, QA, qn, qcap, ports, RA, rn, rcap, routes⟩ W) => hW.cells.c0
  have d1 := fun W (hW : BoxS w ⟨nodes, faulty, slot, gap, rho, dmin, dmax, margin, PA, pn, pcap, parts, QA, qn, qcap, ports, RA, rn, rcap, routes⟩ W) => hW.cells.c1
  have d2 := fun W (hW : BoxS w ⟨nodes, faulty, slot, gap, rho, dmin, dmax, margin, PA, pn, pcap, parts, QA, qn, qcap, ports, RA, rn, rcap, routes⟩ W) => hW.cells.c2
  have d3 := fun W (hW : BoxS w ⟨nodes, faulty, slot, gap, rho, dmin, dmax, margin, PA, pn, pcap, parts, QA, qn, qcap, ports, RA, rn, rcap, routes⟩ W) => hW.cells.c3
  have d4 := fun W (hW : BoxS w ⟨nodes, faulty, slot, gap, rho, dmin, dmax, margin, PA, pn, pcap, parts, QA, qn, qcap, ports, RA, rn, rcap, routes⟩ W) => hW.cells.c4
  have d5 := fun W (hW : BoxS w ⟨nodes, faulty, slot, gap, rho, dmin, dmax, margin, PA, pn, pcap, parts, QA, qn, qcap, ports, RA, rn, rcap, routes⟩ W) => hW.cells.c5
  have d6 := fun W (hW : BoxS w ⟨nodes, faulty, slot, gap, rho, dmin, dmax, margin, PA, pn, pcap, parts, QA, qn, qcap, ports, RA, rn, rcap, routes⟩ W) => hW.cells.c6
  have d7 := fun W (hW : BoxS w ⟨nodes, faulty, slot, gap, rho, dmin, dmax, margin, PA, pn, pcap, parts, QA, qn, qcap, ports, RA, rn, rcap, routes⟩ W) => hW.cells.c7
  have d8 := fun W (hW : BoxS w ⟨nodes, faulty, slot, gap, rho, dmin, dmax, margin, PA, pn, pcap, parts, QA, qn, qcap, ports, RA, rn, rcap, routes⟩ W) => hW.cells.c8
  have d9 := fun W (hW : BoxS w ⟨nodes, faulty, slot, gap, rho, dmin, dmax, margin, PA, pn, pcap, parts, QA, qn, qcap, ports, RA, rn, rcap, routes⟩ W) => hW.cells.c9
  have d10 := fun W (hW : BoxS w ⟨nodes, faulty, slot, gap, rho, dmin, dmax, margin, PA, pn, pcap, parts, QA, qn, qcap, ports, RA, rn, rcap, routes⟩ W) => hW.cells.c10
  simp only [CfgC.plain] at hn1 hn2 hn3 hn4 hn5 hn6 hn7 hn8 hs hd
  simp only [CfgC.value, CfgC.plain, SndP.meanT, SndP.spreadT] at C0 ⊢
  simp only at d0 d1 d2 d3 d4 d5 d6 d7 d8 d9 d10
  have q0 := quo_pos (dmax - dmin) 2 (by omega)
  have e0 : IntKind.i64.wrap ((dmax - dmin) / 2) = (dmax - dmin) / 2 := IntWalk.i64_in _ (by omega)
  have e1 : IntKind.i64.wrap (dmin + (dmax - dmin) / 2) = dmin + (dmax - dmin) / 2 := IntWalk.i64_in _ (by omega)
  clear hn1 hn2 hn3 hn4 hn5 hn6 hn7 hn8 hs hd
  go_enter Try.func28, Try.ntmps28
  go_wp2_with fail
  refine wp_region_held_drew (S := fun W => BoxS w ⟨nodes, faulty, slot, gap, rho, dmin, dmax, margin, PA, pn, pcap, parts, QA, qn, qcap, ports, RA, rn, rcap, routes⟩ W) (by kernel_rfl) hd0 (fun _ => ?_)
  refine wpAnyH_take (i := 0) (oi := ?oo7) (v := ?vv7) ?ii7 (by kernel_rfl) ?ff7 (by kernel_rfl) ?qq7 (Or.inl ⟨?ww7, ?yy7⟩) hd0 ?rr7
  case ii7 => simp only [List.getElem?_toArray, List.getElem?_cons_zero]; rfl
  case ff7 => kernel_rfl
  case qq7 => exact fun _ _ _ h => h
  case ww7 => rfl
  case yy7 => intro W hW; go_simp <;> with_reducible rfl
  try simp only [Act.put, List.setIfInBounds_toArray, List.set_cons_zero, List.set_cons_succ]
  refine wpAnyH_take (i := 1) (oi := ?oo8) (v := ?vv8) ?ii8 (by kernel_rfl) ?ff8 (by kernel_rfl) ?qq8 (Or.inl ⟨?ww8, ?yy8⟩) hd0 ?rr8
  case ii8 => simp only [List.getElem?_toArray, List.getElem?_cons_succ, List.getElem?_cons_zero]; rfl
  case ff8 => kernel_rfl
  case qq8 => exact fun _ _ _ h => h
  case ww8 => rfl
  case yy8 => intro W hW; go_simp <;> with_reducible rfl
  try simp only [Act.put, List.setIfInBounds_toArray, List.set_cons_zero, List.set_cons_succ]
  refine wpAnyH_take (i := 2) (oi := ?oo9) (v := ?vv9) ?ii9 (by kernel_rfl) ?ff9 (by kernel_rfl) ?qq9 (Or.inl ⟨?ww9, ?yy9⟩) hd0 ?rr9
  case ii9 => simp only [List.getElem?_toArray, List.getElem?_cons_succ, List.getElem?_cons_zero]; rfl
  case ff9 => kernel_rfl
  case qq9 => exact fun _ _ _ h => h
  case ww9 => rfl
  case yy9 => intro W hW; go_simp <;> with_reducible rfl
  try simp only [Act.put, List.setIfInBounds_toArray, List.set_cons_zero, List.set_cons_succ]
  refine wpAnyH_ready (rs := [3]) (by kernel_rfl) (by simp) ?_
  refine AllReadyH.cons (o := ?oo10) ?ii10 (fun K hK => ?_) AllReadyH.nil
  case ii10 => simp only [List.getElem?_toArray, List.getElem?_cons_succ, List.getElem?_cons_zero]; rfl
  go_simp
  refine (C0.out _).mono ?_
  rintro e w1 ⟨rfl, hb1⟩
  have hd1 := hd0.step hb1
  go_wp2_with fail
  refine hK.out _ _ hd1 (fun _ => ?_)
  clear hK K
  refine wpAnyH_take (i := 4) (oi := ?oo11) (v := ?vv11) ?ii11 (by kernel_rfl) ?ff11 (by kernel_rfl) ?qq11 (Or.inl ⟨?ww11, ?yy11⟩) hd1 ?rr11
  case ii11 => simp only [List.getElem?_toArray, List.getElem?_cons_succ, List.getElem?_cons_zero]; rfl
  case ff11 => kernel_rfl
  case qq11 => exact fun _ _ _ h => h
  case ww11 => rfl
  case yy11 => intro W hW; go_simp <;> with_reducible rfl
  try simp only [Act.put, List.setIfInBounds_toArray, List.set_cons_zero, List.set_cons_succ]
  refine wpAnyH_take (i := 5) (oi := ?oo12) (v := ?vv12) ?ii12 (by kernel_rfl) ?ff12 (by kernel_rfl) ?qq12 (Or.inl ⟨?ww12, ?yy12⟩) hd1 ?rr12
  case ii12 => simp only [List.getElem?_toArray, List.getElem?_cons_succ, List.getElem?_cons_zero]; rfl
  case ff12 => kernel_rfl
  case qq12 => exact fun _ _ _ h => h
  case ww12 => rfl
  case yy12 => intro W hW; go_simp <;> with_reducible rfl
  try simp only [Act.put, List.setIfInBounds_toArray, List.set_cons_zero, List.set_cons_succ]
  refine wpAnyH_take (i := 6) (oi := ?oo13) (v := ?vv13) ?ii13 (by kernel_rfl) ?ff13 (by kernel_rfl) ?qq13 (Or.inl ⟨?ww13, ?yy13⟩) hd1 ?rr13
  case ii13 => simp only [List.getElem?_toArray, List.getElem?_cons_succ, List.getElem?_cons_zero]; rfl
  case ff13 => kernel_rfl
  case qq13 => exact fun _ _ _ h => h
  case ww13 => rfl
  case yy13 => intro W hW; go_simp <;> with_reducible rfl
  try simp only [Act.put, List.setIfInBounds_toArray, List.set_cons_zero, List.set_cons_succ]
  refine wpAnyH_done (by kernel_rfl) ?_ _
  go_wp2_with fail
  go_ret
  exact ⟨rfl, hd1.below⟩
theorem drift_any (x : CfgC) (w : World) (h : TableP.headOk x.plain) :
    Calls Try.prog 36 #[x.value] w (IntPost (SndP.driftT x.plain) w) := by
  have C0 := Lib.hid (fun W => round_any x W h)
  have hn := SndP.nums_in h
  obtain ⟨hn1, hn2, hn3, hn4, hn5, hn6, hn7, hn8, hs, hd⟩ := hn
  clear h
  obtain ⟨nodes, faulty, slot, gap, rho, dmin, dmax, margin, PA, pn, pcap, parts, QA, qn, qcap, ports, RA, rn, rcap, routes⟩ := x
  have hd0 := (BoxS.start w ⟨nodes, faulty, slot, gap, rho, dmin, dmax, margin, PA, pn, pcap, parts, QA, qn, qcap, ports, RA, rn, rcap, routes⟩).drew
  have d0 := fun W (hW : BoxS w ⟨nodes, faulty, slot, gap, rho, dmin, dmax, margin, PA, pn, pcap, parts, QA, qn, qcap, ports, RA, rn, rcap, routes⟩ W) => hW.cells.c0
  have d1 := fun W (hW : BoxS w ⟨nodes, faulty, slot, gap, rho, dmin, dmax, margin, PA, pn, pcap, parts, QA, qn, qcap, ports, RA, rn, rcap, routes⟩ W) => hW.cells.c1
  have d2 := fun W (hW : BoxS w ⟨nodes, faulty, slot, gap, rho, dmin, dmax, margin, PA, pn, pcap, parts, QA, qn, qcap, ports, RA, rn, rcap, routes⟩ W) => hW.cells.c2
  have d3 := fun W (hW : BoxS w ⟨nodes, faulty, slot, gap, rho, dmin, dmax, margin, PA, pn, pcap, parts, QA, qn, qcap, ports, RA, rn, rcap, routes⟩ W) => hW.cells.c3
  have d4 := fun W (hW : BoxS w ⟨nodes, faulty, slot, gap, rho, dmin, dmax, margin, PA, pn, pcap, parts, QA, qn, qcap, ports, RA, rn, rcap, routes⟩ W) => hW.cells.c4
  have d5 := fun W (hW : BoxS w ⟨nodes, faulty, slot, gap, rho, dmin, dmax, margin, PA, pn, pcap, parts, QA, qn, qcap, ports, RA, rn, rcap, routes⟩ W) => hW.cells.c5
  have d6 := fun W (hW : BoxS w ⟨nodes, faulty, slot, gap, rho, dmin, dmax, margin, PA, pn, pcap, parts, QA, qn, qcap, ports, RA, rn, rcap, routes⟩ W) => hW.cells.c6
  have d7 := fun W (hW : BoxS w ⟨nodes, faulty, slot, gap, rho, dmin, dmax, margin, PA, pn, pcap, parts, QA, qn, qcap, ports, RA, rn, rcap, routes⟩ W) => hW.cells.c7
  have d8 := fun W (hW : BoxS w ⟨nodes, faulty, slot, gap, rho, dmin, dmax, margin, PA, pn, pcap, parts, QA, qn, qcap, ports, RA, rn, rcap, routes⟩ W) => hW.cells.c8
  have d9 := fun W (hW : BoxS w ⟨nodes, faulty, slot, gap, rho, dmin, dmax, margin, PA, pn, pcap, parts, QA, qn, qcap, ports, RA, rn, rcap, routes⟩ W) => hW.cells.c9
  have d10 := fun W (hW : BoxS w ⟨nodes, faulty, slot, gap, rho, dmin, dmax, margin, PA, pn, pcap, parts, QA, qn, qcap, ports, RA, rn, rcap, routes⟩ W) => hW.cells.c10
  simp only [CfgC.plain] at hn1 hn2 hn3 hn4 hn5 hn6 hn7 hn8 hs hd
  simp only [CfgC.value, CfgC.plain, SndP.driftT, SndP.roundT] at C0 ⊢
  simp only at d0 d1 d2 d3 d4 d5 d6 d7 d8 d9 d10
  have q1 : 2 * rho * (nodes * slot + gap) + 1000000 - 1 = 2 * rho * (nodes * slot + gap) + 999999 := by omega
  have q0 := quo_pos (2 * rho * (nodes * slot + gap) + 999999) 1000000 (by omega)
  have e0 : IntKind.i64.wrap (2 * rho) = 2 * rho := IntWalk.i64_in _ (by omega)
  have e1 : IntKind.i64.wrap (2 * rho * (nodes * slot + gap)) = 2 * rho * (nodes * slot + gap) := IntWalk.i64_in _ (by omega)
  have e2 : IntKind.i64.wrap (2 * rho * (nodes * slot + gap) + 1000000) = 2 * rho * (nodes * slot + gap) + 1000000 := IntWalk.i64_in _ (by omega)
  have e3 : IntKind.i64.wrap (2 * rho * (nodes * slot + gap) + 999999) = 2 * rho * (nodes * slot + gap) + 999999 := IntWalk.i64_in _ (by omega)
  have e4 : IntKind.i64.wrap ((2 * rho * (nodes * slot + gap) + 999999) / 1000000) = (2 * rho * (nodes * slot + gap) + 999999) / 1000000 := IntWalk.i64_in _ (by omega)
  have e5 : IntKind.i64.wrap ((2 * rho * (nodes * slot + gap) + 999999) / 1000000 + 2) = (2 * rho * (nodes * slot + gap) + 999999) / 1000000 + 2 := IntWalk.i64_in _ (by omega)
  clear hn1 hn2 hn3 hn4 hn5 hn6 hn7 hn8 hs hd
  go_enter Try.func36, Try.ntmps36
  go_wp2_with fail
  refine wp_region_held_drew (S := fun W => BoxS w ⟨nodes, faulty, slot, gap, rho, dmin, dmax, margin, PA, pn, pcap, parts, QA, qn, qcap, ports, RA, rn, rcap, routes⟩ W) (by kernel_rfl) hd0 (fun _ => ?_)
  refine wpAnyH_take (i := 0) (oi := ?oo14) (v := ?vv14) ?ii14 (by kernel_rfl) ?ff14 (by kernel_rfl) ?qq14 (Or.inl ⟨?ww14, ?yy14⟩) hd0 ?rr14
  case ii14 => simp only [List.getElem?_toArray, List.getElem?_cons_zero]; rfl
  case ff14 => kernel_rfl
  case qq14 => exact fun _ _ _ h => h
  case ww14 => rfl
  case yy14 => intro W hW; go_simp <;> with_reducible rfl
  try simp only [Act.put, List.setIfInBounds_toArray, List.set_cons_zero, List.set_cons_succ]
  refine wpAnyH_take (i := 1) (oi := ?oo15) (v := ?vv15) ?ii15 (by kernel_rfl) ?ff15 (by kernel_rfl) ?qq15 (Or.inl ⟨?ww15, ?yy15⟩) hd0 ?rr15
  case ii15 => simp only [List.getElem?_toArray, List.getElem?_cons_succ, List.getElem?_cons_zero]; rfl
  case ff15 => kernel_rfl
  case qq15 => exact fun _ _ _ h => h
  case ww15 => rfl
  case yy15 => intro W hW; go_simp <;> with_reducible rfl
  try simp only [Act.put, List.setIfInBounds_toArray, List.set_cons_zero, List.set_cons_succ]
  refine wpAnyH_take (i := 2) (oi := ?oo16) (v := ?vv16) ?ii16 (by kernel_rfl) ?ff16 (by kernel_rfl) ?qq16 (Or.inl ⟨?ww16, ?yy16⟩) hd0 ?rr16
  case ii16 => simp only [List.getElem?_toArray, List.getElem?_cons_succ, List.getElem?_cons_zero]; rfl
  case ff16 => kernel_rfl
  case qq16 => exact fun _ _ _ h => h
  case ww16 => rfl
  case yy16 => intro W hW; go_simp <;> with_reducible rfl
  try simp only [Act.put, List.setIfInBounds_toArray, List.set_cons_zero, List.set_cons_succ]
  refine wpAnyH_take (i := 3) (oi := ?oo17) (v := ?vv17) ?ii17 (by kernel_rfl) ?ff17 (by kernel_rfl) ?qq17 (Or.inl ⟨?ww17, ?yy17⟩) hd0 ?rr17
  case ii17 => simp only [List.getElem?_toArray, List.getElem?_cons_succ, List.getElem?_cons_zero]; rfl
  case ff17 => kernel_rfl
  case qq17 => exact fun _ _ _ h => h
  case ww17 => rfl
  case yy17 => intro W hW; go_simp <;> with_reducible rfl
  try simp only [Act.put, List.setIfInBounds_toArray, List.set_cons_zero, List.set_cons_succ]
  refine wpAnyH_ready (rs := [4]) (by kernel_rfl) (by simp) ?_
  refine AllReadyH.cons (o := ?oo18) ?ii18 (fun K hK => ?_) AllReadyH.nil
  case ii18 => simp only [List.getElem?_toArray, List.getElem?_cons_succ, List.getElem?_cons_zero]; rfl
  go_simp
  refine (C0.out _).mono ?_
  rintro e w1 ⟨rfl, hb1⟩
  have hd1 := hd0.step hb1
  go_wp2_with fail
  refine hK.out _ _ hd1 (fun _ => ?_)
  clear hK K
  refine wpAnyH_take (i := 5) (oi := ?oo19) (v := ?vv19) ?ii19 (by kernel_rfl) ?ff19 (by kernel_rfl) ?qq19 (Or.inl ⟨?ww19, ?yy19⟩) hd1 ?rr19
  case ii19 => simp only [List.getElem?_toArray, List.getElem?_cons_succ, List.getElem?_cons_zero]; rfl
  case ff19 => kernel_rfl
  case qq19 => exact fun _ _ _ h => h
  case ww19 => rfl
  case yy19 => intro W hW; go_simp <;> with_reducible rfl
  try simp only [Act.put, List.setIfInBounds_toArray, List.set_cons_zero, List.set_cons_succ]
  refine wpAnyH_take (i := 6) (oi := ?oo20) (v := ?vv20) ?ii20 (by kernel_rfl) ?ff20 (by kernel_rfl) ?qq20 (Or.inl ⟨?ww20, ?yy20⟩) hd1 ?rr20
  case ii20 => simp only [List.getElem?_toArray, List.getElem?_cons_succ, List.getElem?_cons_zero]; rfl
  case ff20 => kernel_rfl
  case qq20 => exact fun _ _ _ h => h
  case ww20 => rfl
  case yy20 => intro W hW; go_simp <;> with_reducible rfl
  try simp only [Act.put, List.setIfInBounds_toArray, List.set_cons_zero, List.set_cons_succ]
  refine wpAnyH_take (i := 7) (oi := ?oo21) (v := ?vv21) ?ii21 (by kernel_rfl) ?ff21 (by kernel_rfl) ?qq21 (Or.inl ⟨?ww21, ?yy21⟩) hd1 ?rr21
  case ii21 => simp only [List.getElem?_toArray, List.getElem?_cons_succ, List.getElem?_cons_zero]; rfl
  case ff21 => kernel_rfl
  case qq21 => exact fun _ _ _ h => h
  case ww21 => rfl
  case yy21 => intro W hW; go_simp <;> with_reducible rfl
  try simp only [Act.put, List.setIfInBounds_toArray, List.set_cons_zero, List.set_cons_succ]
  refine wpAnyH_take (i := 8) (oi := ?oo22) (v := ?vv22) ?ii22 (by kernel_rfl) ?ff22 (by kernel_rfl) ?qq22 (Or.inl ⟨?ww22, ?yy22⟩) hd1 ?rr22
  case ii22 => simp only [List.getElem?_toArray, List.getElem?_cons_succ, List.getElem?_cons_zero]; rfl
  case ff22 => kernel_rfl
  case qq22 => exact fun _ _ _ h => h
  case ww22 => rfl
  case yy22 => intro W hW; go_simp <;> with_reducible rfl
  try simp only [Act.put, List.setIfInBounds_toArray, List.set_cons_zero, List.set_cons_succ]
  refine wpAnyH_take (i := 9) (oi := ?oo23) (v := ?vv23) ?ii23 (by kernel_rfl) ?ff23 (by kernel_rfl) ?qq23 (Or.inl ⟨?ww23, ?yy23⟩) hd1 ?rr23
  case ii23 => simp only [List.getElem?_toArray, List.getElem?_cons_succ, List.getElem?_cons_zero]; rfl
  case ff23 => kernel_rfl
  case qq23 => exact fun _ _ _ h => h
  case ww23 => rfl
  case yy23 => intro W hW; go_simp <;> with_reducible rfl
  try simp only [Act.put, List.setIfInBounds_toArray, List.set_cons_zero, List.set_cons_succ]
  refine wpAnyH_take (i := 10) (oi := ?oo24) (v := ?vv24) ?ii24 (by kernel_rfl) ?ff24 (by kernel_rfl) ?qq24 (Or.inl ⟨?ww24, ?yy24⟩) hd1 ?rr24
  case ii24 => simp only [List.getElem?_toArray, List.getElem?_cons_succ, List.getElem?_cons_zero]; rfl
  case ff24 => kernel_rfl
  case qq24 => exact fun _ _ _ h => h
  case ww24 => rfl
  case yy24 => intro W hW; go_simp <;> with_reducible rfl
  try simp only [Act.put, List.setIfInBounds_toArray, List.set_cons_zero, List.set_cons_succ]
  refine wpAnyH_done (by kernel_rfl) ?_ _
  go_wp2_with fail
  go_ret
  exact ⟨rfl, hd1.below⟩
theorem refdrift_any (x : CfgC) (w : World) (h : TableP.headOk x.plain) :
    Calls Try.prog 25 #[x.value] w (IntPost (SndP.driftT x.plain) w) := by
  have C0 := Lib.hid (fun W => refround_any x W h)
  have hn := SndP.nums_in h
  obtain ⟨hn1, hn2, hn3, hn4, hn5, hn6, hn7, hn8, hs, hd⟩ := hn
  clear h
  obtain ⟨nodes, faulty, slot, gap, rho, dmin, dmax, margin, PA, pn, pcap, parts, QA, qn, qcap, ports, RA, rn, rcap, routes⟩ := x
  have hd0 := (BoxS.start w ⟨nodes, faulty, slot, gap, rho, dmin, dmax, margin, PA, pn, pcap, parts, QA, qn, qcap, ports, RA, rn, rcap, routes⟩).drew
  have d0 := fun W (hW : BoxS w ⟨nodes, faulty, slot, gap, rho, dmin, dmax, margin, PA, pn, pcap, parts, QA, qn, qcap, ports, RA, rn, rcap, routes⟩ W) => hW.cells.c0
  have d1 := fun W (hW : BoxS w ⟨nodes, faulty, slot, gap, rho, dmin, dmax, margin, PA, pn, pcap, parts, QA, qn, qcap, ports, RA, rn, rcap, routes⟩ W) => hW.cells.c1
  have d2 := fun W (hW : BoxS w ⟨nodes, faulty, slot, gap, rho, dmin, dmax, margin, PA, pn, pcap, parts, QA, qn, qcap, ports, RA, rn, rcap, routes⟩ W) => hW.cells.c2
  have d3 := fun W (hW : BoxS w ⟨nodes, faulty, slot, gap, rho, dmin, dmax, margin, PA, pn, pcap, parts, QA, qn, qcap, ports, RA, rn, rcap, routes⟩ W) => hW.cells.c3
  have d4 := fun W (hW : BoxS w ⟨nodes, faulty, slot, gap, rho, dmin, dmax, margin, PA, pn, pcap, parts, QA, qn, qcap, ports, RA, rn, rcap, routes⟩ W) => hW.cells.c4
  have d5 := fun W (hW : BoxS w ⟨nodes, faulty, slot, gap, rho, dmin, dmax, margin, PA, pn, pcap, parts, QA, qn, qcap, ports, RA, rn, rcap, routes⟩ W) => hW.cells.c5
  have d6 := fun W (hW : BoxS w ⟨nodes, faulty, slot, gap, rho, dmin, dmax, margin, PA, pn, pcap, parts, QA, qn, qcap, ports, RA, rn, rcap, routes⟩ W) => hW.cells.c6
  have d7 := fun W (hW : BoxS w ⟨nodes, faulty, slot, gap, rho, dmin, dmax, margin, PA, pn, pcap, parts, QA, qn, qcap, ports, RA, rn, rcap, routes⟩ W) => hW.cells.c7
  have d8 := fun W (hW : BoxS w ⟨nodes, faulty, slot, gap, rho, dmin, dmax, margin, PA, pn, pcap, parts, QA, qn, qcap, ports, RA, rn, rcap, routes⟩ W) => hW.cells.c8
  have d9 := fun W (hW : BoxS w ⟨nodes, faulty, slot, gap, rho, dmin, dmax, margin, PA, pn, pcap, parts, QA, qn, qcap, ports, RA, rn, rcap, routes⟩ W) => hW.cells.c9
  have d10 := fun W (hW : BoxS w ⟨nodes, faulty, slot, gap, rho, dmin, dmax, margin, PA, pn, pcap, parts, QA, qn, qcap, ports, RA, rn, rcap, routes⟩ W) => hW.cells.c10
  simp only [CfgC.plain] at hn1 hn2 hn3 hn4 hn5 hn6 hn7 hn8 hs hd
  simp only [CfgC.value, CfgC.plain, SndP.driftT, SndP.roundT] at C0 ⊢
  simp only at d0 d1 d2 d3 d4 d5 d6 d7 d8 d9 d10
  have q0 := quo_pos (2 * rho * (nodes * slot + gap) + 999999) 1000000 (by omega)
  have e0 : IntKind.i64.wrap (2 * rho) = 2 * rho := IntWalk.i64_in _ (by omega)
  have e1 : IntKind.i64.wrap (2 * rho * (nodes * slot + gap)) = 2 * rho * (nodes * slot + gap) := IntWalk.i64_in _ (by omega)
  have e2 : IntKind.i64.wrap (2 * rho * (nodes * slot + gap) + 999999) = 2 * rho * (nodes * slot + gap) + 999999 := IntWalk.i64_in _ (by omega)
  have e3 : IntKind.i64.wrap ((2 * rho * (nodes * slot + gap) + 999999) / 1000000) = (2 * rho * (nodes * slot + gap) + 999999) / 1000000 := IntWalk.i64_in _ (by omega)
  have e4 : IntKind.i64.wrap ((2 * rho * (nodes * slot + gap) + 999999) / 1000000 + 2) = (2 * rho * (nodes * slot + gap) + 999999) / 1000000 + 2 := IntWalk.i64_in _ (by omega)
  clear hn1 hn2 hn3 hn4 hn5 hn6 hn7 hn8 hs hd
  go_enter Try.func25, Try.ntmps25
  go_wp2_with fail
  refine wp_region_held_drew (S := fun W => BoxS w ⟨nodes, faulty, slot, gap, rho, dmin, dmax, margin, PA, pn, pcap, parts, QA, qn, qcap, ports, RA, rn, rcap, routes⟩ W) (by kernel_rfl) hd0 (fun _ => ?_)
  refine wpAnyH_take (i := 0) (oi := ?oo25) (v := ?vv25) ?ii25 (by kernel_rfl) ?ff25 (by kernel_rfl) ?qq25 (Or.inl ⟨?ww25, ?yy25⟩) hd0 ?rr25
  case ii25 => simp only [List.getElem?_toArray, List.getElem?_cons_zero]; rfl
  case ff25 => kernel_rfl
  case qq25 => exact fun _ _ _ h => h
  case ww25 => rfl
  case yy25 => intro W hW; go_simp <;> with_reducible rfl
  try simp only [Act.put, List.setIfInBounds_toArray, List.set_cons_zero, List.set_cons_succ]
  refine wpAnyH_take (i := 1) (oi := ?oo26) (v := ?vv26) ?ii26 (by kernel_rfl) ?ff26 (by kernel_rfl) ?qq26 (Or.inl ⟨?ww26, ?yy26⟩) hd0 ?rr26
  case ii26 => simp only [List.getElem?_toArray, List.getElem?_cons_succ, List.getElem?_cons_zero]; rfl
  case ff26 => kernel_rfl
  case qq26 => exact fun _ _ _ h => h
  case ww26 => rfl
  case yy26 => intro W hW; go_simp <;> with_reducible rfl
  try simp only [Act.put, List.setIfInBounds_toArray, List.set_cons_zero, List.set_cons_succ]
  refine wpAnyH_take (i := 2) (oi := ?oo27) (v := ?vv27) ?ii27 (by kernel_rfl) ?ff27 (by kernel_rfl) ?qq27 (Or.inl ⟨?ww27, ?yy27⟩) hd0 ?rr27
  case ii27 => simp only [List.getElem?_toArray, List.getElem?_cons_succ, List.getElem?_cons_zero]; rfl
  case ff27 => kernel_rfl
  case qq27 => exact fun _ _ _ h => h
  case ww27 => rfl
  case yy27 => intro W hW; go_simp <;> with_reducible rfl
  try simp only [Act.put, List.setIfInBounds_toArray, List.set_cons_zero, List.set_cons_succ]
  refine wpAnyH_take (i := 3) (oi := ?oo28) (v := ?vv28) ?ii28 (by kernel_rfl) ?ff28 (by kernel_rfl) ?qq28 (Or.inl ⟨?ww28, ?yy28⟩) hd0 ?rr28
  case ii28 => simp only [List.getElem?_toArray, List.getElem?_cons_succ, List.getElem?_cons_zero]; rfl
  case ff28 => kernel_rfl
  case qq28 => exact fun _ _ _ h => h
  case ww28 => rfl
  case yy28 => intro W hW; go_simp <;> with_reducible rfl
  try simp only [Act.put, List.setIfInBounds_toArray, List.set_cons_zero, List.set_cons_succ]
  refine wpAnyH_ready (rs := [4]) (by kernel_rfl) (by simp) ?_
  refine AllReadyH.cons (o := ?oo29) ?ii29 (fun K hK => ?_) AllReadyH.nil
  case ii29 => simp only [List.getElem?_toArray, List.getElem?_cons_succ, List.getElem?_cons_zero]; rfl
  go_simp
  refine (C0.out _).mono ?_
  rintro e w1 ⟨rfl, hb1⟩
  have hd1 := hd0.step hb1
  go_wp2_with fail
  refine hK.out _ _ hd1 (fun _ => ?_)
  clear hK K
  refine wpAnyH_take (i := 5) (oi := ?oo30) (v := ?vv30) ?ii30 (by kernel_rfl) ?ff30 (by kernel_rfl) ?qq30 (Or.inl ⟨?ww30, ?yy30⟩) hd1 ?rr30
  case ii30 => simp only [List.getElem?_toArray, List.getElem?_cons_succ, List.getElem?_cons_zero]; rfl
  case ff30 => kernel_rfl
  case qq30 => exact fun _ _ _ h => h
  case ww30 => rfl
  case yy30 => intro W hW; go_simp <;> with_reducible rfl
  try simp only [Act.put, List.setIfInBounds_toArray, List.set_cons_zero, List.set_cons_succ]
  refine wpAnyH_take (i := 6) (oi := ?oo31) (v := ?vv31) ?ii31 (by kernel_rfl) ?ff31 (by kernel_rfl) ?qq31 (Or.inl ⟨?ww31, ?yy31⟩) hd1 ?rr31
  case ii31 => simp only [List.getElem?_toArray, List.getElem?_cons_succ, List.getElem?_cons_zero]; rfl
  case ff31 => kernel_rfl
  case qq31 => exact fun _ _ _ h => h
  case ww31 => rfl
  case yy31 => intro W hW; go_simp <;> with_reducible rfl
  try simp only [Act.put, List.setIfInBounds_toArray, List.set_cons_zero, List.set_cons_succ]
  refine wpAnyH_take (i := 7) (oi := ?oo32) (v := ?vv32) ?ii32 (by kernel_rfl) ?ff32 (by kernel_rfl) ?qq32 (Or.inl ⟨?ww32, ?yy32⟩) hd1 ?rr32
  case ii32 => simp only [List.getElem?_toArray, List.getElem?_cons_succ, List.getElem?_cons_zero]; rfl
  case ff32 => kernel_rfl
  case qq32 => exact fun _ _ _ h => h
  case ww32 => rfl
  case yy32 => intro W hW; go_simp <;> with_reducible rfl
  try simp only [Act.put, List.setIfInBounds_toArray, List.set_cons_zero, List.set_cons_succ]
  refine wpAnyH_take (i := 8) (oi := ?oo33) (v := ?vv33) ?ii33 (by kernel_rfl) ?ff33 (by kernel_rfl) ?qq33 (Or.inl ⟨?ww33, ?yy33⟩) hd1 ?rr33
  case ii33 => simp only [List.getElem?_toArray, List.getElem?_cons_succ, List.getElem?_cons_zero]; rfl
  case ff33 => kernel_rfl
  case qq33 => exact fun _ _ _ h => h
  case ww33 => rfl
  case yy33 => intro W hW; go_simp <;> with_reducible rfl
  try simp only [Act.put, List.setIfInBounds_toArray, List.set_cons_zero, List.set_cons_succ]
  refine wpAnyH_take (i := 9) (oi := ?oo34) (v := ?vv34) ?ii34 (by kernel_rfl) ?ff34 (by kernel_rfl) ?qq34 (Or.inl ⟨?ww34, ?yy34⟩) hd1 ?rr34
  case ii34 => simp only [List.getElem?_toArray, List.getElem?_cons_succ, List.getElem?_cons_zero]; rfl
  case ff34 => kernel_rfl
  case qq34 => exact fun _ _ _ h => h
  case ww34 => rfl
  case yy34 => intro W hW; go_simp <;> with_reducible rfl
  try simp only [Act.put, List.setIfInBounds_toArray, List.set_cons_zero, List.set_cons_succ]
  refine wpAnyH_done (by kernel_rfl) ?_ _
  go_wp2_with fail
  go_ret
  exact ⟨rfl, hd1.below⟩
theorem prec_any (x : CfgC) (w : World) (h : TableP.headOk x.plain) :
    Calls Try.prog 33 #[x.value] w (IntPost (SndP.precT x.plain) w) := by
  have C0 := Lib.hid (fun W => spread_any x W h)
  have C1 := Lib.hid (fun W => drift_any x W h)
  have hn := SndP.nums_in h
  obtain ⟨hn1, hn2, hn3, hn4, hn5, hn6, hn7, hn8, hs, hd⟩ := hn
  clear h
  obtain ⟨nodes, faulty, slot, gap, rho, dmin, dmax, margin, PA, pn, pcap, parts, QA, qn, qcap, ports, RA, rn, rcap, routes⟩ := x
  have hd0 := (BoxS.start w ⟨nodes, faulty, slot, gap, rho, dmin, dmax, margin, PA, pn, pcap, parts, QA, qn, qcap, ports, RA, rn, rcap, routes⟩).drew
  have d0 := fun W (hW : BoxS w ⟨nodes, faulty, slot, gap, rho, dmin, dmax, margin, PA, pn, pcap, parts, QA, qn, qcap, ports, RA, rn, rcap, routes⟩ W) => hW.cells.c0
  have d1 := fun W (hW : BoxS w ⟨nodes, faulty, slot, gap, rho, dmin, dmax, margin, PA, pn, pcap, parts, QA, qn, qcap, ports, RA, rn, rcap, routes⟩ W) => hW.cells.c1
  have d2 := fun W (hW : BoxS w ⟨nodes, faulty, slot, gap, rho, dmin, dmax, margin, PA, pn, pcap, parts, QA, qn, qcap, ports, RA, rn, rcap, routes⟩ W) => hW.cells.c2
  have d3 := fun W (hW : BoxS w ⟨nodes, faulty, slot, gap, rho, dmin, dmax, margin, PA, pn, pcap, parts, QA, qn, qcap, ports, RA, rn, rcap, routes⟩ W) => hW.cells.c3
  have d4 := fun W (hW : BoxS w ⟨nodes, faulty, slot, gap, rho, dmin, dmax, margin, PA, pn, pcap, parts, QA, qn, qcap, ports, RA, rn, rcap, routes⟩ W) => hW.cells.c4
  have d5 := fun W (hW : BoxS w ⟨nodes, faulty, slot, gap, rho, dmin, dmax, margin, PA, pn, pcap, parts, QA, qn, qcap, ports, RA, rn, rcap, routes⟩ W) => hW.cells.c5
  have d6 := fun W (hW : BoxS w ⟨nodes, faulty, slot, gap, rho, dmin, dmax, margin, PA, pn, pcap, parts, QA, qn, qcap, ports, RA, rn, rcap, routes⟩ W) => hW.cells.c6
  have d7 := fun W (hW : BoxS w ⟨nodes, faulty, slot, gap, rho, dmin, dmax, margin, PA, pn, pcap, parts, QA, qn, qcap, ports, RA, rn, rcap, routes⟩ W) => hW.cells.c7
  have d8 := fun W (hW : BoxS w ⟨nodes, faulty, slot, gap, rho, dmin, dmax, margin, PA, pn, pcap, parts, QA, qn, qcap, ports, RA, rn, rcap, routes⟩ W) => hW.cells.c8
  have d9 := fun W (hW : BoxS w ⟨nodes, faulty, slot, gap, rho, dmin, dmax, margin, PA, pn, pcap, parts, QA, qn, qcap, ports, RA, rn, rcap, routes⟩ W) => hW.cells.c9
  have d10 := fun W (hW : BoxS w ⟨nodes, faulty, slot, gap, rho, dmin, dmax, margin, PA, pn, pcap, parts, QA, qn, qcap, ports, RA, rn, rcap, routes⟩ W) => hW.cells.c10
  simp only [CfgC.plain] at hn1 hn2 hn3 hn4 hn5 hn6 hn7 hn8 hs hd
  simp only [CfgC.value, CfgC.plain, SndP.precT, SndP.driftT, SndP.spreadT] at C0 C1 ⊢
  simp only at d0 d1 d2 d3 d4 d5 d6 d7 d8 d9 d10
  have e0 : IntKind.i64.wrap (4 * (dmax - dmin)) = 4 * (dmax - dmin) := IntWalk.i64_in _ (by omega)
  have e1 : IntKind.i64.wrap (16 * ((2 * rho * (nodes * slot + gap) + 999999) / 1000000 + 2)) = 16 * ((2 * rho * (nodes * slot + gap) + 999999) / 1000000 + 2) := IntWalk.i64_in _ (by omega)
  have e2 : IntKind.i64.wrap (4 * (dmax - dmin) + 16 * ((2 * rho * (nodes * slot + gap) + 999999) / 1000000 + 2)) = 4 * (dmax - dmin) + 16 * ((2 * rho * (nodes * slot + gap) + 999999) / 1000000 + 2) := IntWalk.i64_in _ (by omega)
  have e3 : IntKind.i64.wrap (4 * (dmax - dmin) + 16 * ((2 * rho * (nodes * slot + gap) + 999999) / 1000000 + 2) + 64) = 4 * (dmax - dmin) + 16 * ((2 * rho * (nodes * slot + gap) + 999999) / 1000000 + 2) + 64 := IntWalk.i64_in _ (by omega)
  clear hn1 hn2 hn3 hn4 hn5 hn6 hn7 hn8 hs hd
  go_enter Try.func33, Try.ntmps33
  go_wp2_with fail
  refine wp_region_held_drew (S := fun W => BoxS w ⟨nodes, faulty, slot, gap, rho, dmin, dmax, margin, PA, pn, pcap, parts, QA, qn, qcap, ports, RA, rn, rcap, routes⟩ W) (by kernel_rfl) hd0 (fun _ => ?_)
  refine wpAnyH_take (i := 0) (oi := ?oo35) (v := ?vv35) ?ii35 (by kernel_rfl) ?ff35 (by kernel_rfl) ?qq35 (Or.inl ⟨?ww35, ?yy35⟩) hd0 ?rr35
  case ii35 => simp only [List.getElem?_toArray, List.getElem?_cons_zero]; rfl
  case ff35 => kernel_rfl
  case qq35 => exact fun _ _ _ h => h
  case ww35 => rfl
  case yy35 => intro W hW; go_simp <;> with_reducible rfl
  try simp only [Act.put, List.setIfInBounds_toArray, List.set_cons_zero, List.set_cons_succ]
  refine wpAnyH_take (i := 3) (oi := ?oo36) (v := ?vv36) ?ii36 (by kernel_rfl) ?ff36 (by kernel_rfl) ?qq36 (Or.inl ⟨?ww36, ?yy36⟩) hd0 ?rr36
  case ii36 => simp only [List.getElem?_toArray, List.getElem?_cons_succ, List.getElem?_cons_zero]; rfl
  case ff36 => kernel_rfl
  case qq36 => exact fun _ _ _ h => h
  case ww36 => rfl
  case yy36 => intro W hW; go_simp <;> with_reducible rfl
  try simp only [Act.put, List.setIfInBounds_toArray, List.set_cons_zero, List.set_cons_succ]
  refine wpAnyH_ready (rs := [1]) (by kernel_rfl) (by simp) ?_
  refine AllReadyH.cons (o := ?oo37) ?ii37 (fun K hK => ?_) AllReadyH.nil
  case ii37 => simp only [List.getElem?_toArray, List.getElem?_cons_succ, List.getElem?_cons_zero]; rfl
  go_simp
  refine (C0.out _).mono ?_
  rintro e w1 ⟨rfl, hb1⟩
  have hd1 := hd0.step hb1
  go_wp2_with fail
  refine hK.out _ _ hd1 (fun _ => ?_)
  clear hK K
  refine wpAnyH_take (i := 2) (oi := ?oo38) (v := ?vv38) ?ii38 (by kernel_rfl) ?ff38 (by kernel_rfl) ?qq38 (Or.inl ⟨?ww38, ?yy38⟩) hd1 ?rr38
  case ii38 => simp only [List.getElem?_toArray, List.getElem?_cons_succ, List.getElem?_cons_zero]; rfl
  case ff38 => kernel_rfl
  case qq38 => exact fun _ _ _ h => h
  case ww38 => rfl
  case yy38 => intro W hW; go_simp <;> with_reducible rfl
  try simp only [Act.put, List.setIfInBounds_toArray, List.set_cons_zero, List.set_cons_succ]
  refine wpAnyH_ready (rs := [4]) (by kernel_rfl) (by simp) ?_
  refine AllReadyH.cons (o := ?oo39) ?ii39 (fun K hK => ?_) AllReadyH.nil
  case ii39 => simp only [List.getElem?_toArray, List.getElem?_cons_succ, List.getElem?_cons_zero]; rfl
  go_simp
  refine (C1.out _).mono ?_
  rintro e w2 ⟨rfl, hb2⟩
  have hd2 := hd1.step hb2
  go_wp2_with fail
  refine hK.out _ _ hd2 (fun _ => ?_)
  clear hK K
  refine wpAnyH_take (i := 5) (oi := ?oo40) (v := ?vv40) ?ii40 (by kernel_rfl) ?ff40 (by kernel_rfl) ?qq40 (Or.inl ⟨?ww40, ?yy40⟩) hd2 ?rr40
  case ii40 => simp only [List.getElem?_toArray, List.getElem?_cons_succ, List.getElem?_cons_zero]; rfl
  case ff40 => kernel_rfl
  case qq40 => exact fun _ _ _ h => h
  case ww40 => rfl
  case yy40 => intro W hW; go_simp <;> with_reducible rfl
  try simp only [Act.put, List.setIfInBounds_toArray, List.set_cons_zero, List.set_cons_succ]
  refine wpAnyH_take (i := 6) (oi := ?oo41) (v := ?vv41) ?ii41 (by kernel_rfl) ?ff41 (by kernel_rfl) ?qq41 (Or.inl ⟨?ww41, ?yy41⟩) hd2 ?rr41
  case ii41 => simp only [List.getElem?_toArray, List.getElem?_cons_succ, List.getElem?_cons_zero]; rfl
  case ff41 => kernel_rfl
  case qq41 => exact fun _ _ _ h => h
  case ww41 => rfl
  case yy41 => intro W hW; go_simp <;> with_reducible rfl
  try simp only [Act.put, List.setIfInBounds_toArray, List.set_cons_zero, List.set_cons_succ]
  refine wpAnyH_take (i := 7) (oi := ?oo42) (v := ?vv42) ?ii42 (by kernel_rfl) ?ff42 (by kernel_rfl) ?qq42 (Or.inl ⟨?ww42, ?yy42⟩) hd2 ?rr42
  case ii42 => simp only [List.getElem?_toArray, List.getElem?_cons_succ, List.getElem?_cons_zero]; rfl
  case ff42 => kernel_rfl
  case qq42 => exact fun _ _ _ h => h
  case ww42 => rfl
  case yy42 => intro W hW; go_simp <;> with_reducible rfl
  try simp only [Act.put, List.setIfInBounds_toArray, List.set_cons_zero, List.set_cons_succ]
  refine wpAnyH_take (i := 8) (oi := ?oo43) (v := ?vv43) ?ii43 (by kernel_rfl) ?ff43 (by kernel_rfl) ?qq43 (Or.inl ⟨?ww43, ?yy43⟩) hd2 ?rr43
  case ii43 => simp only [List.getElem?_toArray, List.getElem?_cons_succ, List.getElem?_cons_zero]; rfl
  case ff43 => kernel_rfl
  case qq43 => exact fun _ _ _ h => h
  case ww43 => rfl
  case yy43 => intro W hW; go_simp <;> with_reducible rfl
  try simp only [Act.put, List.setIfInBounds_toArray, List.set_cons_zero, List.set_cons_succ]
  refine wpAnyH_done (by kernel_rfl) ?_ _
  go_wp2_with fail
  go_ret
  exact ⟨rfl, hd2.below⟩
theorem refprec_any (x : CfgC) (w : World) (h : TableP.headOk x.plain) :
    Calls Try.prog 23 #[x.value] w (IntPost (SndP.precT x.plain) w) := by
  have C0 := Lib.hid (fun W => refdrift_any x W h)
  have hn := SndP.nums_in h
  obtain ⟨hn1, hn2, hn3, hn4, hn5, hn6, hn7, hn8, hs, hd⟩ := hn
  clear h
  obtain ⟨nodes, faulty, slot, gap, rho, dmin, dmax, margin, PA, pn, pcap, parts, QA, qn, qcap, ports, RA, rn, rcap, routes⟩ := x
  have hd0 := (BoxS.start w ⟨nodes, faulty, slot, gap, rho, dmin, dmax, margin, PA, pn, pcap, parts, QA, qn, qcap, ports, RA, rn, rcap, routes⟩).drew
  have d0 := fun W (hW : BoxS w ⟨nodes, faulty, slot, gap, rho, dmin, dmax, margin, PA, pn, pcap, parts, QA, qn, qcap, ports, RA, rn, rcap, routes⟩ W) => hW.cells.c0
  have d1 := fun W (hW : BoxS w ⟨nodes, faulty, slot, gap, rho, dmin, dmax, margin, PA, pn, pcap, parts, QA, qn, qcap, ports, RA, rn, rcap, routes⟩ W) => hW.cells.c1
  have d2 := fun W (hW : BoxS w ⟨nodes, faulty, slot, gap, rho, dmin, dmax, margin, PA, pn, pcap, parts, QA, qn, qcap, ports, RA, rn, rcap, routes⟩ W) => hW.cells.c2
  have d3 := fun W (hW : BoxS w ⟨nodes, faulty, slot, gap, rho, dmin, dmax, margin, PA, pn, pcap, parts, QA, qn, qcap, ports, RA, rn, rcap, routes⟩ W) => hW.cells.c3
  have d4 := fun W (hW : BoxS w ⟨nodes, faulty, slot, gap, rho, dmin, dmax, margin, PA, pn, pcap, parts, QA, qn, qcap, ports, RA, rn, rcap, routes⟩ W) => hW.cells.c4
  have d5 := fun W (hW : BoxS w ⟨nodes, faulty, slot, gap, rho, dmin, dmax, margin, PA, pn, pcap, parts, QA, qn, qcap, ports, RA, rn, rcap, routes⟩ W) => hW.cells.c5
  have d6 := fun W (hW : BoxS w ⟨nodes, faulty, slot, gap, rho, dmin, dmax, margin, PA, pn, pcap, parts, QA, qn, qcap, ports, RA, rn, rcap, routes⟩ W) => hW.cells.c6
  have d7 := fun W (hW : BoxS w ⟨nodes, faulty, slot, gap, rho, dmin, dmax, margin, PA, pn, pcap, parts, QA, qn, qcap, ports, RA, rn, rcap, routes⟩ W) => hW.cells.c7
  have d8 := fun W (hW : BoxS w ⟨nodes, faulty, slot, gap, rho, dmin, dmax, margin, PA, pn, pcap, parts, QA, qn, qcap, ports, RA, rn, rcap, routes⟩ W) => hW.cells.c8
  have d9 := fun W (hW : BoxS w ⟨nodes, faulty, slot, gap, rho, dmin, dmax, margin, PA, pn, pcap, parts, QA, qn, qcap, ports, RA, rn, rcap, routes⟩ W) => hW.cells.c9
  have d10 := fun W (hW : BoxS w ⟨nodes, faulty, slot, gap, rho, dmin, dmax, margin, PA, pn, pcap, parts, QA, qn, qcap, ports, RA, rn, rcap, routes⟩ W) => hW.cells.c10
  simp only [CfgC.plain] at hn1 hn2 hn3 hn4 hn5 hn6 hn7 hn8 hs hd
  simp only [CfgC.value, CfgC.plain, SndP.precT, SndP.driftT] at C0 ⊢
  simp only at d0 d1 d2 d3 d4 d5 d6 d7 d8 d9 d10
  have e0 : IntKind.i64.wrap (dmax - dmin) = dmax - dmin := IntWalk.i64_in _ (by omega)
  have e1 : IntKind.i64.wrap (4 * (dmax - dmin)) = 4 * (dmax - dmin) := IntWalk.i64_in _ (by omega)
  have e2 : IntKind.i64.wrap (16 * ((2 * rho * (nodes * slot + gap) + 999999) / 1000000 + 2)) = 16 * ((2 * rho * (nodes * slot + gap) + 999999) / 1000000 + 2) := IntWalk.i64_in _ (by omega)
  have e3 : IntKind.i64.wrap (4 * (dmax - dmin) + 16 * ((2 * rho * (nodes * slot + gap) + 999999) / 1000000 + 2)) = 4 * (dmax - dmin) + 16 * ((2 * rho * (nodes * slot + gap) + 999999) / 1000000 + 2) := IntWalk.i64_in _ (by omega)
  have e4 : IntKind.i64.wrap (4 * (dmax - dmin) + 16 * ((2 * rho * (nodes * slot + gap) + 999999) / 1000000 + 2) + 64) = 4 * (dmax - dmin) + 16 * ((2 * rho * (nodes * slot + gap) + 999999) / 1000000 + 2) + 64 := IntWalk.i64_in _ (by omega)
  clear hn1 hn2 hn3 hn4 hn5 hn6 hn7 hn8 hs hd
  go_enter Try.func23, Try.ntmps23
  go_wp2_with fail
  refine wp_region_held_drew (S := fun W => BoxS w ⟨nodes, faulty, slot, gap, rho, dmin, dmax, margin, PA, pn, pcap, parts, QA, qn, qcap, ports, RA, rn, rcap, routes⟩ W) (by kernel_rfl) hd0 (fun _ => ?_)
  refine wpAnyH_take (i := 0) (oi := ?oo44) (v := ?vv44) ?ii44 (by kernel_rfl) ?ff44 (by kernel_rfl) ?qq44 (Or.inl ⟨?ww44, ?yy44⟩) hd0 ?rr44
  case ii44 => simp only [List.getElem?_toArray, List.getElem?_cons_zero]; rfl
  case ff44 => kernel_rfl
  case qq44 => exact fun _ _ _ h => h
  case ww44 => rfl
  case yy44 => intro W hW; go_simp <;> with_reducible rfl
  try simp only [Act.put, List.setIfInBounds_toArray, List.set_cons_zero, List.set_cons_succ]
  refine wpAnyH_take (i := 1) (oi := ?oo45) (v := ?vv45) ?ii45 (by kernel_rfl) ?ff45 (by kernel_rfl) ?qq45 (Or.inl ⟨?ww45, ?yy45⟩) hd0 ?rr45
  case ii45 => simp only [List.getElem?_toArray, List.getElem?_cons_succ, List.getElem?_cons_zero]; rfl
  case ff45 => kernel_rfl
  case qq45 => exact fun _ _ _ h => h
  case ww45 => rfl
  case yy45 => intro W hW; go_simp <;> with_reducible rfl
  try simp only [Act.put, List.setIfInBounds_toArray, List.set_cons_zero, List.set_cons_succ]
  refine wpAnyH_take (i := 2) (oi := ?oo46) (v := ?vv46) ?ii46 (by kernel_rfl) ?ff46 (by kernel_rfl) ?qq46 (Or.inl ⟨?ww46, ?yy46⟩) hd0 ?rr46
  case ii46 => simp only [List.getElem?_toArray, List.getElem?_cons_succ, List.getElem?_cons_zero]; rfl
  case ff46 => kernel_rfl
  case qq46 => exact fun _ _ _ h => h
  case ww46 => rfl
  case yy46 => intro W hW; go_simp <;> with_reducible rfl
  try simp only [Act.put, List.setIfInBounds_toArray, List.set_cons_zero, List.set_cons_succ]
  refine wpAnyH_take (i := 3) (oi := ?oo47) (v := ?vv47) ?ii47 (by kernel_rfl) ?ff47 (by kernel_rfl) ?qq47 (Or.inl ⟨?ww47, ?yy47⟩) hd0 ?rr47
  case ii47 => simp only [List.getElem?_toArray, List.getElem?_cons_succ, List.getElem?_cons_zero]; rfl
  case ff47 => kernel_rfl
  case qq47 => exact fun _ _ _ h => h
  case ww47 => rfl
  case yy47 => intro W hW; go_simp <;> with_reducible rfl
  try simp only [Act.put, List.setIfInBounds_toArray, List.set_cons_zero, List.set_cons_succ]
  refine wpAnyH_take (i := 4) (oi := ?oo48) (v := ?vv48) ?ii48 (by kernel_rfl) ?ff48 (by kernel_rfl) ?qq48 (Or.inl ⟨?ww48, ?yy48⟩) hd0 ?rr48
  case ii48 => simp only [List.getElem?_toArray, List.getElem?_cons_succ, List.getElem?_cons_zero]; rfl
  case ff48 => kernel_rfl
  case qq48 => exact fun _ _ _ h => h
  case ww48 => rfl
  case yy48 => intro W hW; go_simp <;> with_reducible rfl
  try simp only [Act.put, List.setIfInBounds_toArray, List.set_cons_zero, List.set_cons_succ]
  refine wpAnyH_take (i := 5) (oi := ?oo49) (v := ?vv49) ?ii49 (by kernel_rfl) ?ff49 (by kernel_rfl) ?qq49 (Or.inl ⟨?ww49, ?yy49⟩) hd0 ?rr49
  case ii49 => simp only [List.getElem?_toArray, List.getElem?_cons_succ, List.getElem?_cons_zero]; rfl
  case ff49 => kernel_rfl
  case qq49 => exact fun _ _ _ h => h
  case ww49 => rfl
  case yy49 => intro W hW; go_simp <;> with_reducible rfl
  try simp only [Act.put, List.setIfInBounds_toArray, List.set_cons_zero, List.set_cons_succ]
  refine wpAnyH_take (i := 6) (oi := ?oo50) (v := ?vv50) ?ii50 (by kernel_rfl) ?ff50 (by kernel_rfl) ?qq50 (Or.inl ⟨?ww50, ?yy50⟩) hd0 ?rr50
  case ii50 => simp only [List.getElem?_toArray, List.getElem?_cons_succ, List.getElem?_cons_zero]; rfl
  case ff50 => kernel_rfl
  case qq50 => exact fun _ _ _ h => h
  case ww50 => rfl
  case yy50 => intro W hW; go_simp <;> with_reducible rfl
  try simp only [Act.put, List.setIfInBounds_toArray, List.set_cons_zero, List.set_cons_succ]
  refine wpAnyH_ready (rs := [7]) (by kernel_rfl) (by simp) ?_
  refine AllReadyH.cons (o := ?oo51) ?ii51 (fun K hK => ?_) AllReadyH.nil
  case ii51 => simp only [List.getElem?_toArray, List.getElem?_cons_succ, List.getElem?_cons_zero]; rfl
  go_simp
  refine (C0.out _).mono ?_
  rintro e w1 ⟨rfl, hb1⟩
  have hd1 := hd0.step hb1
  go_wp2_with fail
  refine hK.out _ _ hd1 (fun _ => ?_)
  clear hK K
  refine wpAnyH_take (i := 8) (oi := ?oo52) (v := ?vv52) ?ii52 (by kernel_rfl) ?ff52 (by kernel_rfl) ?qq52 (Or.inl ⟨?ww52, ?yy52⟩) hd1 ?rr52
  case ii52 => simp only [List.getElem?_toArray, List.getElem?_cons_succ, List.getElem?_cons_zero]; rfl
  case ff52 => kernel_rfl
  case qq52 => exact fun _ _ _ h => h
  case ww52 => rfl
  case yy52 => intro W hW; go_simp <;> with_reducible rfl
  try simp only [Act.put, List.setIfInBounds_toArray, List.set_cons_zero, List.set_cons_succ]
  refine wpAnyH_take (i := 9) (oi := ?oo53) (v := ?vv53) ?ii53 (by kernel_rfl) ?ff53 (by kernel_rfl) ?qq53 (Or.inl ⟨?ww53, ?yy53⟩) hd1 ?rr53
  case ii53 => simp only [List.getElem?_toArray, List.getElem?_cons_succ, List.getElem?_cons_zero]; rfl
  case ff53 => kernel_rfl
  case qq53 => exact fun _ _ _ h => h
  case ww53 => rfl
  case yy53 => intro W hW; go_simp <;> with_reducible rfl
  try simp only [Act.put, List.setIfInBounds_toArray, List.set_cons_zero, List.set_cons_succ]
  refine wpAnyH_take (i := 10) (oi := ?oo54) (v := ?vv54) ?ii54 (by kernel_rfl) ?ff54 (by kernel_rfl) ?qq54 (Or.inl ⟨?ww54, ?yy54⟩) hd1 ?rr54
  case ii54 => simp only [List.getElem?_toArray, List.getElem?_cons_succ, List.getElem?_cons_zero]; rfl
  case ff54 => kernel_rfl
  case qq54 => exact fun _ _ _ h => h
  case ww54 => rfl
  case yy54 => intro W hW; go_simp <;> with_reducible rfl
  try simp only [Act.put, List.setIfInBounds_toArray, List.set_cons_zero, List.set_cons_succ]
  refine wpAnyH_take (i := 11) (oi := ?oo55) (v := ?vv55) ?ii55 (by kernel_rfl) ?ff55 (by kernel_rfl) ?qq55 (Or.inl ⟨?ww55, ?yy55⟩) hd1 ?rr55
  case ii55 => simp only [List.getElem?_toArray, List.getElem?_cons_succ, List.getElem?_cons_zero]; rfl
  case ff55 => kernel_rfl
  case qq55 => exact fun _ _ _ h => h
  case ww55 => rfl
  case yy55 => intro W hW; go_simp <;> with_reducible rfl
  try simp only [Act.put, List.setIfInBounds_toArray, List.set_cons_zero, List.set_cons_succ]
  refine wpAnyH_done (by kernel_rfl) ?_ _
  go_wp2_with fail
  go_ret
  exact ⟨rfl, hd1.below⟩
end Go.Proofs.Ytodkcenoljpgoaa
