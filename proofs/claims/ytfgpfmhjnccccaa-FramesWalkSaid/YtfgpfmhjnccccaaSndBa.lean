/- Contracts of sound's Round, Drift, Precision, Mean, Send, slots, spread, and of the document's. Conditions: the numbers are in their ranges. · Contracts of sound's meet, fits, joins and their closures; of slices.IndexFunc and ContainsFunc at those closures. Conditions: the tables are allowed. · Contracts of sound's fits and joins. Conditions: the tables are allowed. · Contract of sound's joins. Conditions: the tables are allowed. · Contract of sound's Check at tables in memory. Conditions: where their lists lie. -/
import Derived.Test.YtfgpfmhjnccccaaPlA
import Derived.Test.YtfgpfmhjnccccaaTbM
import Derived.Deep.RegionHeld3
import Derived.Deep.DeepCutAuto
namespace Go.Proofs.Ytfgpfmhjnccccaa
open Go.RowKit
set_option maxRecDepth 100000

def IntPost (n : Int) (w : World) (e : Ending) (w' : World) : Prop := e = .returned (.int .i64 n) ∧ Below w.heap.size w w'
/-- What holds of every world behind a box of tables. -/
def BoxS (w : World) (x : CfgC) (W : World) : Prop := Below (boxC w x).heap.size (boxC w x) W
theorem BoxS.start (w : World) (x : CfgC) : BoxS w x (boxC w x) := Below.refl _ _
theorem BoxS.drew {w : World} {x : CfgC} {W : World} (h : BoxS w x W) : BoxS w x W.drew := Below.drew h
theorem BoxS.step {w : World} {x : CfgC} {W W' : World} (h : BoxS w x W) (hb : Below W.heap.size W W') : BoxS w x W' := h.trans (hb.mono h.size)
theorem BoxS.below {w : World} {x : CfgC} {W : World} (h : BoxS w x W) : Below w.heap.size w W := (boxC_below w x).trans (h.mono (by rw [boxC_size]; omega))
theorem BoxS.cells {w : World} {x : CfgC} {W : World} (h : BoxS w x W) : Box11 W w.heap.size x := box11 h
theorem quo_pos (a b : Int) (ha : 0 ≤ a) : Int.tdiv a b = a / b := Int.tdiv_eq_ediv_of_nonneg ha

theorem slots_any (x : CfgC) (w : World) (h : TableP.headOk x.plain) :
    Calls Try.prog 31 #[x.value] w (IntPost (SndP.slotsT x.plain) w) := by
  have hn := SndP.nums_in h
  obtain ⟨hn1, hn2, hn3, hn4, hn5, hn6, hn7, hn8, hs, hd⟩ := hn
  clear h
  have HB := Lib.hid (boxC_below w x)
  obtain ⟨nodes, faulty, slot, gap, rho, dmin, dmax, margin, PA, pn, pcap, parts, QA, qn, qcap, ports, RA, rn, rcap, routes⟩ := x
  simp only [CfgC.plain] at hn1 hn2 hn3 hn4 hn5 hn6 hn7 hn8 hs hd
  simp only [boxC, cfgCells] at HB
  simp only [CfgC.value, CfgC.plain, SndP.slotsT]
  have e0 : IntKind.i64.wrap (nodes * slot) = nodes * slot := IntWalk.i64_in _ (by omega)
  clear hn1 hn2 hn3 hn4 hn5 hn6 hn7 hn8 hs hd
  go_enter Try.func31, Try.ntmps31
  go_wp2_with fail
  go_ret
  exact ⟨rfl, HB.out⟩
theorem refround_any (x : CfgC) (w : World) (h : TableP.headOk x.plain) :
    Calls Try.prog 18 #[x.value] w (IntPost (SndP.roundT x.plain) w) := by
  have hn := SndP.nums_in h
  obtain ⟨hn1, hn2, hn3, hn4, hn5, hn6, hn7, hn8, hs, hd⟩ := hn
  clear h
  have HB := Lib.hid (boxC_below w x)
  obtain ⟨nodes, faulty, slot, gap, rho, dmin, dmax, margin, PA, pn, pcap, parts, QA, qn, qcap, ports, RA, rn, rcap, routes⟩ := x
  simp only [CfgC.plain] at hn1 hn2 hn3 hn4 hn5 hn6 hn7 hn8 hs hd
  simp only [boxC, cfgCells] at HB
  simp only [CfgC.value, CfgC.plain, SndP.roundT]
  have e0 : IntKind.i64.wrap (nodes * slot) = nodes * slot := IntWalk.i64_in _ (by omega)
  have e1 : IntKind.i64.wrap (nodes * slot + gap) = nodes * slot + gap := IntWalk.i64_in _ (by omega)
  clear hn1 hn2 hn3 hn4 hn5 hn6 hn7 hn8 hs hd
  go_enter Try.func18, Try.ntmps18
  go_wp2_with fail
  go_ret
  exact ⟨rfl, HB.out⟩
theorem round_any (x : CfgC) (w : World) (h : TableP.headOk x.plain) :
    Calls Try.prog 23 #[x.value] w (IntPost (SndP.roundT x.plain) w) := by
  have C0 := Lib.hid (fun W => slots_any x W h)
  have hn := SndP.nums_in h
  obtain ⟨hn1, hn2, hn3, hn4, hn5, hn6, hn7, hn8, hs, hd⟩ := hn
  clear h
  obtain ⟨nodes, faulty, slot, gap, rho, dmin, dmax, margin, PA, pn, pcap, parts, QA, qn, qcap, ports, RA, rn, rcap, routes⟩ := x
  have hd0 := (BoxS.start w ⟨nodes, faulty, slot, gap, rho, dmin, dmax, margin, PA, pn, pcap, parts, QA, qn, qcap, ports, RA, rn, rcap, routes⟩).drew
  obtain ⟨d0, d1, d2, d3, d4, d5, d6, d7, d8, d9, d10⟩ := cfgFacts (fun W (hW : BoxS w ⟨nodes, faulty, slot, gap, rho, dmin, dmax, margin, PA, pn, pcap, parts, QA, qn, qcap, ports, RA, rn, rcap, routes⟩ W) => hW.cells)
  simp only [CfgC.plain] at hn1 hn2 hn3 hn4 hn5 hn6 hn7 hn8 hs hd
  simp only [CfgC.value, CfgC.plain, SndP.roundT, SndP.slotsT] at C0 ⊢
  simp only at d0 d1 d2 d3 d4 d5 d6 d7 d8 d9 d10
  have e0 : IntKind.i64.wrap (nodes * slot + gap) = nodes * slot + gap := IntWalk.i64_in _ (by omega)
  clear hn1 hn2 hn3 hn4 hn5 hn6 hn7 hn8 hs hd
  go_enter Try.func23, Try.ntmps23
  go_wp2_with fail
  refine wp_region_held_drew (S := fun W => BoxS w ⟨nodes, faulty, slot, gap, rho, dmin, dmax, margin, PA, pn, pcap, parts, QA, qn, qcap, ports, RA, rn, rcap, routes⟩ W) (by kernel_rfl) hd0 (fun _ => ?_)
  refine tkH 0 (by simp only [tkA]; rfl) (by kernel_rfl) (by exact fun _ _ _ h => h) (by rfl) (by intro W hW; go_simp <;> with_reducible rfl) hd0 ?_
  try simp only [Act.put, tkT, tk0, tkS]
  refine tkH 2 (by simp only [tkA, tkG]; rfl) (by kernel_rfl) (by exact fun _ _ _ h => h) (by rfl) (by intro W hW; go_simp <;> with_reducible rfl) hd0 ?_
  try simp only [Act.put, tkT, tk0, tkS]
  refine tkH 3 (by simp only [tkA, tkG]; rfl) (by kernel_rfl) (by exact fun _ _ _ h => h) (by rfl) (by intro W hW; go_simp <;> with_reducible rfl) hd0 ?_
  try simp only [Act.put, tkT, tk0, tkS]
  refine clH 1 (by kernel_rfl) (by simp only [tkA, tkG]; rfl) (fun K hK => ?_)
  go_simp
  refine (C0.out _).mono ?_
  rintro e w1 ⟨rfl, hb1⟩
  have hd1 := hd0.step hb1
  go_wp2_with fail
  refine hK.out _ _ hd1 (fun _ => ?_)
  clear hK K
  refine tkH 4 (by simp only [tkA, tkG]; rfl) (by kernel_rfl) (by exact fun _ _ _ h => h) (by rfl) (by intro W hW; go_simp <;> with_reducible rfl) hd1 ?_
  try simp only [Act.put, tkT, tk0, tkS]
  refine tkH 5 (by simp only [tkA, tkG]; rfl) (by kernel_rfl) (by exact fun _ _ _ h => h) (by rfl) (by intro W hW; go_simp <;> with_reducible rfl) hd1 ?_
  try simp only [Act.put, tkT, tk0, tkS]
  refine wpAnyH_done (by kernel_rfl) ?_ _
  go_wp2_with fail
  go_ret
  exact ⟨rfl, hd1.below⟩
theorem refdrift_any (x : CfgC) (w : World) (h : TableP.headOk x.plain) :
    Calls Try.prog 27 #[x.value] w (IntPost (SndP.driftT x.plain) w) := by
  have C0 := Lib.hid (fun W => refround_any x W h)
  have hn := SndP.nums_in h
  obtain ⟨hn1, hn2, hn3, hn4, hn5, hn6, hn7, hn8, hs, hd⟩ := hn
  clear h
  obtain ⟨nodes, faulty, slot, gap, rho, dmin, dmax, margin, PA, pn, pcap, parts, QA, qn, qcap, ports, RA, rn, rcap, routes⟩ := x
  have hd0 := (BoxS.start w ⟨nodes, faulty, slot, gap, rho, dmin, dmax, margin, PA, pn, pcap, parts, QA, qn, qcap, ports, RA, rn, rcap, routes⟩).drew
  obtain ⟨d0, d1, d2, d3, d4, d5, d6, d7, d8, d9, d10⟩ := cfgFacts (fun W (hW : BoxS w ⟨nodes, faulty, slot, gap, rho, dmin, dmax, margin, PA, pn, pcap, parts, QA, qn, qcap, ports, RA, rn, rcap, routes⟩ W) => hW.cells)
  simp only [CfgC.plain] at hn1 hn2 hn3 hn4 hn5 hn6 hn7 hn8 hs hd
  simp only [CfgC.value, CfgC.plain, SndP.driftT, SndP.roundT] at C0 ⊢
  simp only at d0 d1 d2 d3 d4 d5 d6 d7 d8 d9 d10
  have q0 := quo_pos (2 * rho * (nodes * slot + gap) + 999999) 1000000 (by omega)
  have e0 : IntKind.i64.wrap (2 * rho) = 2 * rho := IntWalk.i64_in _ (by omega)
  have e1 : IntKind.i64.wrap (2 * rho * (nodes * slot + gap)) = 2 * rho * (nodes * slot + gap) := IntWalk.i64_in _ (by omega)
  have e2 : IntKind.i64.wrap (2 * rho * (nodes * slot + gap) + 999999) = 2 * rho * (nodes * slot + gap) + 999999 := IntWalk.i64_in _ (by omega)
  have e3 : IntKind.i64.wrap ((2 * rho * (nodes * slot + gap) + 999999) / 1000000) = (2 * rho * (nodes * slot + gap) + 999999) / 1000000 := IntWalk.i64_in _ (by omega)
  have e4 : IntKind.i64.wrap ((2 * rho * (nodes * slot + gap) + 999999) / 1000000 + 2) = (2 * rho * (nodes * slot + gap) + 999999) / 1000000 + 2 := IntWalk.i64_in _ (by omega)
  clear hn1 hn2 hn3 hn4 hn5 hn6 hn7 hn8 hs hd
  go_enter Try.func27, Try.ntmps27
  go_wp2_with fail
  refine wp_region_held_drew (S := fun W => BoxS w ⟨nodes, faulty, slot, gap, rho, dmin, dmax, margin, PA, pn, pcap, parts, QA, qn, qcap, ports, RA, rn, rcap, routes⟩ W) (by kernel_rfl) hd0 (fun _ => ?_)
  refine tkH 0 (by simp only [tkA]; rfl) (by kernel_rfl) (by exact fun _ _ _ h => h) (by rfl) (by intro W hW; go_simp <;> with_reducible rfl) hd0 ?_
  try simp only [Act.put, tkT, tk0, tkS]
  refine tkH 1 (by simp only [tkA, tkG]; rfl) (by kernel_rfl) (by exact fun _ _ _ h => h) (by rfl) (by intro W hW; go_simp <;> with_reducible rfl) hd0 ?_
  try simp only [Act.put, tkT, tk0, tkS]
  refine tkH 2 (by simp only [tkA, tkG]; rfl) (by kernel_rfl) (by exact fun _ _ _ h => h) (by rfl) (by intro W hW; go_simp <;> with_reducible rfl) hd0 ?_
  try simp only [Act.put, tkT, tk0, tkS]
  refine tkH 3 (by simp only [tkA, tkG]; rfl) (by kernel_rfl) (by exact fun _ _ _ h => h) (by rfl) (by intro W hW; go_simp <;> with_reducible rfl) hd0 ?_
  try simp only [Act.put, tkT, tk0, tkS]
  refine clH 4 (by kernel_rfl) (by simp only [tkA, tkG]; rfl) (fun K hK => ?_)
  go_simp
  refine (C0.out _).mono ?_
  rintro e w1 ⟨rfl, hb1⟩
  have hd1 := hd0.step hb1
  go_wp2_with fail
  refine hK.out _ _ hd1 (fun _ => ?_)
  clear hK K
  refine tkH 5 (by simp only [tkA, tkG]; rfl) (by kernel_rfl) (by exact fun _ _ _ h => h) (by rfl) (by intro W hW; go_simp <;> with_reducible rfl) hd1 ?_
  try simp only [Act.put, tkT, tk0, tkS]
  refine tkH 6 (by simp only [tkA, tkG]; rfl) (by kernel_rfl) (by exact fun _ _ _ h => h) (by rfl) (by intro W hW; go_simp <;> with_reducible rfl) hd1 ?_
  try simp only [Act.put, tkT, tk0, tkS]
  refine tkH 7 (by simp only [tkA, tkG]; rfl) (by kernel_rfl) (by exact fun _ _ _ h => h) (by rfl) (by intro W hW; go_simp <;> with_reducible rfl) hd1 ?_
  try simp only [Act.put, tkT, tk0, tkS]
  refine tkH 8 (by simp only [tkA, tkG]; rfl) (by kernel_rfl) (by exact fun _ _ _ h => h) (by rfl) (by intro W hW; go_simp <;> with_reducible rfl) hd1 ?_
  try simp only [Act.put, tkT, tk0, tkS]
  refine tkH 9 (by simp only [tkA, tkG]; rfl) (by kernel_rfl) (by exact fun _ _ _ h => h) (by rfl) (by intro W hW; go_simp <;> with_reducible rfl) hd1 ?_
  try simp only [Act.put, tkT, tk0, tkS]
  refine wpAnyH_done (by kernel_rfl) ?_ _
  go_wp2_with fail
  go_ret
  exact ⟨rfl, hd1.below⟩
theorem refprec_any (x : CfgC) (w : World) (h : TableP.headOk x.plain) :
    Calls Try.prog 25 #[x.value] w (IntPost (SndP.precT x.plain) w) := by
  have C0 := Lib.hid (fun W => refdrift_any x W h)
  have hn := SndP.nums_in h
  obtain ⟨hn1, hn2, hn3, hn4, hn5, hn6, hn7, hn8, hs, hd⟩ := hn
  clear h
  obtain ⟨nodes, faulty, slot, gap, rho, dmin, dmax, margin, PA, pn, pcap, parts, QA, qn, qcap, ports, RA, rn, rcap, routes⟩ := x
  have hd0 := (BoxS.start w ⟨nodes, faulty, slot, gap, rho, dmin, dmax, margin, PA, pn, pcap, parts, QA, qn, qcap, ports, RA, rn, rcap, routes⟩).drew
  obtain ⟨d0, d1, d2, d3, d4, d5, d6, d7, d8, d9, d10⟩ := cfgFacts (fun W (hW : BoxS w ⟨nodes, faulty, slot, gap, rho, dmin, dmax, margin, PA, pn, pcap, parts, QA, qn, qcap, ports, RA, rn, rcap, routes⟩ W) => hW.cells)
  simp only [CfgC.plain] at hn1 hn2 hn3 hn4 hn5 hn6 hn7 hn8 hs hd
  simp only [CfgC.value, CfgC.plain, SndP.precT, SndP.driftT] at C0 ⊢
  simp only at d0 d1 d2 d3 d4 d5 d6 d7 d8 d9 d10
  have e0 : IntKind.i64.wrap (dmax - dmin) = dmax - dmin := IntWalk.i64_in _ (by omega)
  have e1 : IntKind.i64.wrap (4 * (dmax - dmin)) = 4 * (dmax - dmin) := IntWalk.i64_in _ (by omega)
  have e2 : IntKind.i64.wrap (16 * ((2 * rho * (nodes * slot + gap) + 999999) / 1000000 + 2)) = 16 * ((2 * rho * (nodes * slot + gap) + 999999) / 1000000 + 2) := IntWalk.i64_in _ (by omega)
  have e3 : IntKind.i64.wrap (4 * (dmax - dmin) + 16 * ((2 * rho * (nodes * slot + gap) + 999999) / 1000000 + 2)) = 4 * (dmax - dmin) + 16 * ((2 * rho * (nodes * slot + gap) + 999999) / 1000000 + 2) := IntWalk.i64_in _ (by omega)
  have e4 : IntKind.i64.wrap (4 * (dmax - dmin) + 16 * ((2 * rho * (nodes * slot + gap) + 999999) / 1000000 + 2) + 64) = 4 * (dmax - dmin) + 16 * ((2 * rho * (nodes * slot + gap) + 999999) / 1000000 + 2) + 64 := IntWalk.i64_in _ (by omega)
  clear hn1 hn2 hn3 hn4 hn5 hn6 hn7 hn8 hs hd
  go_enter Try.func25, Try.ntmps25
  go_wp2_with fail
  refine wp_region_held_drew (S := fun W => BoxS w ⟨nodes, faulty, slot, gap, rho, dmin, dmax, margin, PA, pn, pcap, parts, QA, qn, qcap, ports, RA, rn, rcap, routes⟩ W) (by kernel_rfl) hd0 (fun _ => ?_)
  refine tkH 0 (by simp only [tkA]; rfl) (by kernel_rfl) (by exact fun _ _ _ h => h) (by rfl) (by intro W hW; go_simp <;> with_reducible rfl) hd0 ?_
  try simp only [Act.put, tkT, tk0, tkS]
  refine tkH 1 (by simp only [tkA, tkG]; rfl) (by kernel_rfl) (by exact fun _ _ _ h => h) (by rfl) (by intro W hW; go_simp <;> with_reducible rfl) hd0 ?_
  try simp only [Act.put, tkT, tk0, tkS]
  refine tkH 2 (by simp only [tkA, tkG]; rfl) (by kernel_rfl) (by exact fun _ _ _ h => h) (by rfl) (by intro W hW; go_simp <;> with_reducible rfl) hd0 ?_
  try simp only [Act.put, tkT, tk0, tkS]
  refine tkH 3 (by simp only [tkA, tkG]; rfl) (by kernel_rfl) (by exact fun _ _ _ h => h) (by rfl) (by intro W hW; go_simp <;> with_reducible rfl) hd0 ?_
  try simp only [Act.put, tkT, tk0, tkS]
  refine tkH 4 (by simp only [tkA, tkG]; rfl) (by kernel_rfl) (by exact fun _ _ _ h => h) (by rfl) (by intro W hW; go_simp <;> with_reducible rfl) hd0 ?_
  try simp only [Act.put, tkT, tk0, tkS]
  refine tkH 5 (by simp only [tkA, tkG]; rfl) (by kernel_rfl) (by exact fun _ _ _ h => h) (by rfl) (by intro W hW; go_simp <;> with_reducible rfl) hd0 ?_
  try simp only [Act.put, tkT, tk0, tkS]
  refine tkH 6 (by simp only [tkA, tkG]; rfl) (by kernel_rfl) (by exact fun _ _ _ h => h) (by rfl) (by intro W hW; go_simp <;> with_reducible rfl) hd0 ?_
  try simp only [Act.put, tkT, tk0, tkS]
  refine clH 7 (by kernel_rfl) (by simp only [tkA, tkG]; rfl) (fun K hK => ?_)
  go_simp
  refine (C0.out _).mono ?_
  rintro e w1 ⟨rfl, hb1⟩
  have hd1 := hd0.step hb1
  go_wp2_with fail
  refine hK.out _ _ hd1 (fun _ => ?_)
  clear hK K
  refine tkH 8 (by simp only [tkA, tkG]; rfl) (by kernel_rfl) (by exact fun _ _ _ h => h) (by rfl) (by intro W hW; go_simp <;> with_reducible rfl) hd1 ?_
  try simp only [Act.put, tkT, tk0, tkS]
  refine tkH 9 (by simp only [tkA, tkG]; rfl) (by kernel_rfl) (by exact fun _ _ _ h => h) (by rfl) (by intro W hW; go_simp <;> with_reducible rfl) hd1 ?_
  try simp only [Act.put, tkT, tk0, tkS]
  refine tkH 10 (by simp only [tkA, tkG]; rfl) (by kernel_rfl) (by exact fun _ _ _ h => h) (by rfl) (by intro W hW; go_simp <;> with_reducible rfl) hd1 ?_
  try simp only [Act.put, tkT, tk0, tkS]
  refine tkH 11 (by simp only [tkA, tkG]; rfl) (by kernel_rfl) (by exact fun _ _ _ h => h) (by rfl) (by intro W hW; go_simp <;> with_reducible rfl) hd1 ?_
  try simp only [Act.put, tkT, tk0, tkS]
  refine wpAnyH_done (by kernel_rfl) ?_ _
  go_wp2_with fail
  go_ret
  exact ⟨rfl, hd1.below⟩
end Go.Proofs.Ytfgpfmhjnccccaa
namespace Go.Proofs.Ytfgpfmhjnccccaa
open Go.RowKit
set_option maxRecDepth 100000

def Win (p : TableP.Part) : Prop := 0 ≤ p.start ∧ p.start ≤ 268435456 ∧ 1 ≤ p.length ∧ p.length ≤ 268435456
theorem win_of {n : Int} {p : TableP.Part} (h : TableP.partOk n p) : Win p := by
  obtain ⟨-, h1, h2, -⟩ := h
  unfold TableP.up at h1 h2
  exact ⟨h1.1, h1.2, h2.1, h2.2⟩
theorem any_take {α : Type} {p : α → Bool} {l : List α} {k : Nat} {x : α} (h : l[k]? = some x) : (l.take (k + 1)).any p = ((l.take k).any p || p x) := by
  rw [List.take_add_one, h]
  simp
section
variable {P : Program}
/-- s[:h], of elements of so many cells each. -/
theorem run_slice_tos (W : World) (t e : TypeId) (sz : Nat) (ht : P.underlying t = some (.slice e)) (hz : ∀ w, (Go.sizeOf e).run P w = .ok sz w) (A : Option Addr) (len cap : Nat) (h : Int) (h0 : 0 ≤ h) (h2 : h ≤ cap) :
    (Instr.slice t (.slice A len cap) none (some (.int .i64 h)) none).run P W = .ok (.slice A h.toNat cap) W := by
  have ht' : P.underlying t = some (.slice (P.elem t)) := by simp [Program.elem, ht]
  have he : P.elem t = e := by simp [Program.elem, ht]
  rw [run_slice_h W t _ _ _ ht' .i64 _ h0 h2, he, hz]
  have ha : A.map (fun x : Addr => x.add (0 * sz)) = A := by cases A <;> simp [Addr.add]
  simp only [Result.andThen, sliced, Nat.sub_zero]
  rw [ha]
  split <;> rfl
end

def IdxPost (b : Bool) (w : World) (e : Ending) (w' : World) : Prop := ∃ r : Int, e = .returned (.int .i64 r) ∧ decide (0 ≤ r) = b ∧ Below w.heap.size w w'
def IdxRel {α : Type} (p : α → Bool) (l : List α) (n : Nat) (W : World) (i : Value) (wr : World) : Prop := ∃ k, k ≤ n ∧ i = .int .i64 (k : Nat) ∧ (l.take k).any p = false ∧ Below W.heap.size W wr

end Go.Proofs.Ytfgpfmhjnccccaa
namespace Go.Proofs.Ytfgpfmhjnccccaa
open Go.RowKit
set_option maxRecDepth 100000

theorem ItemsIn.take {α : Type} {vals : α → List Value} {size : Nat} {W : World} {A : Option Addr} {l : List α} (h : ItemsIn vals size W A l) (k : Nat) : ItemsIn vals size W A (l.take k) := fun hl => by
  have h0 : 0 < l.length := by rw [List.length_take] at hl; omega
  obtain ⟨b, off, e, hb, hi⟩ := h h0
  refine ⟨b, off, e, hb, fun i x hx => ?_⟩
  rw [List.getElem?_take] at hx
  by_cases hik : i < k
  · rw [if_pos hik] at hx; exact hi i x hx
  · rw [if_neg hik] at hx; cases hx
/-- Two boxes, one behind the other, and what is behind them. -/
def Box2 (w : World) (x : CfgC) (cs : Array Value) (t : TypeId) (W : World) : Prop := Below ((boxC w x).alloc (.cells cs t)).heap.size ((boxC w x).alloc (.cells cs t)) W
theorem Box2.start (w : World) (x : CfgC) (cs : Array Value) (t : TypeId) : Box2 w x cs t ((boxC w x).alloc (.cells cs t)) := Below.refl _ _
theorem Box2.drew {w : World} {x : CfgC} {cs : Array Value} {t : TypeId} {W : World} (h : Box2 w x cs t W) : Box2 w x cs t W.drew := Below.drew h
theorem Box2.step {w : World} {x : CfgC} {cs : Array Value} {t : TypeId} {W W' : World} (h : Box2 w x cs t W) (hb : Below W.heap.size W W') : Box2 w x cs t W' := h.trans (hb.mono h.size)
theorem Box2.alloc1 {w : World} {x : CfgC} {cs : Array Value} {t : TypeId} {W : World} (h : Box2 w x cs t W) (o : Obj) : Box2 w x cs t (W.alloc o).drew := Below.drew (Below.alloc h h.size o)
theorem Box2.alloc2 {w : World} {x : CfgC} {cs : Array Value} {t : TypeId} {W : World} (h : Box2 w x cs t W) (o p : Obj) : Box2 w x cs t ((W.alloc o).alloc p).drew := Below.drew ((h.alloc h.size o).alloc (Below.alloc h h.size o).size p)
theorem Box2.one {w : World} {x : CfgC} {cs : Array Value} {t : TypeId} {W : World} (h : Box2 w x cs t W) : BoxS w x W :=
  ((Below.refl _ _).alloc (Nat.le_refl _) _).trans (h.mono (show (boxC w x).heap.size ≤ ((boxC w x).alloc (.cells cs t)).heap.size from by rw [show ((boxC w x).alloc (.cells cs t)).heap.size = (boxC w x).heap.size + 1 from Array.size_push _]; omega))
theorem Box2.below {w : World} {x : CfgC} {cs : Array Value} {t : TypeId} {W : World} (h : Box2 w x cs t W) : Below w.heap.size w W := h.one.below
theorem Box2.two {w : World} {x : CfgC} {cs : Array Value} {t : TypeId} {W : World} (h : Box2 w x cs t W) : W.heap[w.heap.size + 1]? = some (.cells cs t (0, 0)) := by
  have h0 := heap_alloc_new (boxC w x) (.cells cs t (0, 0))
  rw [boxC_size] at h0
  exact (h.block _ (by rw [show ((boxC w x).alloc (.cells cs t)).heap.size = (boxC w x).heap.size + 1 from Array.size_push _, boxC_size]; omega)).trans h0

def TwoPorts (w : World) (x : CfgC) (cs : Array Value) (t : TypeId) (pa pb : Array Value) (v6 v7 : Value) (W : World) : Prop :=
  ∃ F T, v6 = .pointer (some ⟨F, 0, none⟩) ∧ v7 = .pointer (some ⟨T, 0, none⟩) ∧ Box2 w x cs t W ∧ W.heap[F]? = some (.cells pa 55 (0, 0)) ∧ W.heap[T]? = some (.cells pb 55 (0, 0))
theorem twoPorts (w : World) (x : CfgC) (cs : Array Value) (t : TypeId) (p q : Array Value) :
    Box2 w x cs t (((((boxC w x).alloc (.cells cs t)).alloc (.cells p 55)).alloc (.cells q 55)).drew) ∧
    (((((boxC w x).alloc (.cells cs t)).alloc (.cells p 55)).alloc (.cells q 55)).drew).heap[w.heap.size + 1 + 1]? = some (.cells p 55 (0, 0)) ∧
    (((((boxC w x).alloc (.cells cs t)).alloc (.cells p 55)).alloc (.cells q 55)).drew).heap[w.heap.size + 1 + 1 + 1]? = some (.cells q 55 (0, 0)) := by
  have h0 : ((boxC w x).alloc (.cells cs t)).heap.size = w.heap.size + 1 + 1 := (Array.size_push _).trans (by rw [boxC_size])
  have h1 : (((boxC w x).alloc (.cells cs t)).alloc (.cells p 55)).heap.size = w.heap.size + 1 + 1 + 1 := (Array.size_push _).trans (by rw [h0])
  refine ⟨((((Below.refl _ _).alloc (Nat.le_refl _) _).alloc (by rw [h1, h0]; omega) _)).drew, ?_, ?_⟩
  · have h2 := heap_alloc_new ((boxC w x).alloc (.cells cs t)) (.cells p 55 (0, 0))
    rw [h0] at h2
    exact (Below.heap_alloc _ (.cells q 55) _ (by rw [h1]; omega)).trans h2
  · have h2 := heap_alloc_new (((boxC w x).alloc (.cells cs t)).alloc (.cells p 55)) (.cells q 55 (0, 0))
    rw [h1] at h2
    exact h2

end Go.Proofs.Ytfgpfmhjnccccaa
namespace Go.Proofs.Ytfgpfmhjnccccaa
open Go.RowKit
set_option maxRecDepth 100000

end Go.Proofs.Ytfgpfmhjnccccaa
namespace Go.Proofs.Ytfgpfmhjnccccaa
open Go.RowKit
set_option maxRecDepth 100000

def RelI {α : Type} (ok : Nat → α → Bool) (code : Nat) (l : List α) (n : Nat) (P : World → Prop) (i : Value) (wr : World) : Prop :=
  ∃ k, k ≤ n ∧ i = .int .i64 (k : Nat) ∧ SndP.firstI ok code k (l.drop k) = SndP.firstI ok code 0 l ∧ P wr

end Go.Proofs.Ytfgpfmhjnccccaa
