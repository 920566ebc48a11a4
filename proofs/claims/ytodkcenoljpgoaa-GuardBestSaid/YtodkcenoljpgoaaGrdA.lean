/- The guardian in memory: New, Due, Come. Conditions: where tables and guardian lie, numbers in their ranges. -/
import Derived.Test.YtodkcenoljpgoaaGrdP
import Derived.Test.YtodkcenoljpgoaaSndE
import Derived.Test.YtodkcenoljpgoaaItn
import Derived.BigQuiet
namespace Go.Proofs.Ytodkcenoljpgoaa
open Go.RowKit
set_option maxRecDepth 100000

def guardCells (x : CfgC) (ps : List Bool) : Array Value := ⟨(cfgCells x).toList ++ bitV ps⟩
/-- A guardian at a block. -/
structure GuardIn (W : World) (b : Nat) (x : CfgC) (ps : List Bool) : Prop where
  at_ : W.heap[b]? = some (.cells (guardCells x ps) 66 (0, 0))
  len : ps.length = 7
theorem GuardIn.lt {W : World} {b : Nat} {x : CfgC} {ps : List Bool} (h : GuardIn W b x ps) : b < W.heap.size := (Array.getElem?_eq_some_iff.1 h.at_).1
theorem GuardIn.apart {W W' : World} {b : Nat} {x : CfgC} {ps : List Bool} {F : Nat → Prop} (h : GuardIn W b x ps) (ha : Apart F W W') (hF : ¬ F b) : GuardIn W' b x ps := ⟨(ha.block b h.lt hF).trans h.at_, h.len⟩
theorem GuardIn.below {W W' : World} {b : Nat} {x : CfgC} {ps : List Bool} (h : GuardIn W b x ps) (hb : Below W.heap.size W W') : GuardIn W' b x ps := ⟨(hb.block b h.lt).trans h.at_, h.len⟩
theorem GuardIn.drew {W : World} {b : Nat} {x : CfgC} {ps : List Bool} (h : GuardIn W b x ps) : GuardIn W.drew b x ps := h.below (Below.refl _ _).drew
theorem GuardIn.cfg {W : World} {b : Nat} {x : CfgC} {ps : List Bool} (h : GuardIn W b x ps) : Box11 W b x :=
  ⟨cell_at h.at_ 0 rfl, cell_at h.at_ 1 rfl, cell_at h.at_ 2 rfl, cell_at h.at_ 3 rfl, cell_at h.at_ 4 rfl, cell_at h.at_ 5 rfl, cell_at h.at_ 6 rfl, cell_at h.at_ 7 rfl, cell_at h.at_ 8 rfl, cell_at h.at_ 9 rfl, cell_at h.at_ 10 rfl⟩
theorem guardCells_bit {x : CfgC} {ps : List Bool} {k : Nat} {p : Bool} (h : ps[k]? = some p) : (guardCells x ps)[11 + k]? = some (.bool p) := by
  have h1 := bitV_get h
  simp only [guardCells, List.getElem?_toArray]
  rw [List.getElem?_append_right (by simp [cfgCells])]
  simpa [cfgCells] using h1
theorem guardCells_set (x : CfgC) (ps : List Bool) (k : Nat) (p : Bool) : (guardCells x ps).setIfInBounds (11 + k) (.bool p) = guardCells x (ps.set k p) := by
  simp only [guardCells, List.setIfInBounds_toArray]
  rw [List.set_append_right _ _ (by simp [cfgCells]), bitV_set]
  simp [cfgCells]
theorem GuardIn.bit {W : World} {b : Nat} {x : CfgC} {ps : List Bool} (h : GuardIn W b x ps) {k : Nat} {p : Bool} (hk : ps[k]? = some p) : W.cell? ⟨b, 11 + k, none⟩ = some (.bool p) := cell_at h.at_ _ (guardCells_bit hk)
theorem GuardIn.free {W : World} {b : Nat} {x : CfgC} {ps : List Bool} (h : GuardIn W b x ps) (k : Nat) : W.frozen? ⟨b, k, none⟩ = false := free_at h.at_ k
theorem GuardIn.stored {W : World} {b : Nat} {x : CfgC} {ps : List Bool} (h : GuardIn W b x ps) (k : Nat) (p : Bool) : GuardIn (W.setCell ⟨b, 11 + k, none⟩ (.bool p)) b x (ps.set k p) := by
  refine ⟨?_, by rw [List.length_set]; exact h.len⟩
  have h3 := heap_setCell_same W b (11 + k) _ 66 (.bool p) h.at_
  rw [guardCells_set] at h3
  exact h3

/-- What holds of every world behind one in which a guardian lies. -/
def GrdS (b : Nat) (x : CfgC) (ps : List Bool) (W : World) : Prop := GuardIn W b x ps
theorem GrdS.cfg {b : Nat} {x : CfgC} {ps : List Bool} {W : World} (h : GrdS b x ps W) : Box11 W b x := GuardIn.cfg h

def gv (b : Nat) : Value := .pointer (some ⟨b, 0, none⟩)

theorem due_nil (n : Int) (w : World) : Calls Try.prog 13 #[.pointer none, .int .i64 n] w fun e w' => e = .returned (.int .i64 0) ∧ w' = w := by
  go_enter Try.func13, Try.ntmps13
  go_wp2_with fail
  go_ret
  exact ⟨rfl, rfl⟩
theorem come_nil (n a : Int) (w : World) : Calls Try.prog 14 #[.pointer none, .int .i64 n, .int .i64 a] w fun e w' => e = .returned (.int .i64 5) ∧ w' = w := by
  go_enter Try.func14, Try.ntmps14
  go_wp2_with fail
  go_ret
  exact ⟨rfl, rfl⟩

theorem due_any (x : CfgC) (ps : List Bool) (n : Int) (hn : 0 ≤ n ∧ n ≤ 8) (b : Nat) (w : World) (h : GuardIn w b x ps) (hh : TableP.headOk x.plain) :
    Calls Try.prog 13 #[gv b, .int .i64 n] w (IntPost (GrdP.dueT x.plain n) w) := by
  have C0 := Lib.hid (fun W => send_any x n hn W hh)
  have C1 := Lib.hid (fun W => mean_any x W hh)
  have hs := GrdP.due_in (SndP.nums_in hh) hn
  have hg0 : GrdS b x ps w.drew := h.drew
  have hb0 : Below w.heap.size w w.drew := (Below.refl _ _).drew
  unfold GrdP.dueT
  generalize SndP.sendT x.plain n = sd at *
  generalize SndP.meanT x.plain = mn at *
  have e0 : IntKind.i64.wrap (sd + mn) = sd + mn := IntWalk.i64_in _ (by omega)
  clear h hh hn hs
  obtain ⟨nodes, faulty, slot, gap, rho, dmin, dmax, margin, PA, pn, pcap, parts, QA, qn, qcap, ports, RA, rn, rcap, routes⟩ := x
  have d0 := fun W (hW : GrdS b ⟨nodes, faulty, slot, gap, rho, dmin, dmax, margin, PA, pn, pcap, parts, QA, qn, qcap, ports, RA, rn, rcap, routes⟩ ps W) => hW.cfg.c0
  have d1 := fun W (hW : GrdS b ⟨nodes, faulty, slot, gap, rho, dmin, dmax, margin, PA, pn, pcap, parts, QA, qn, qcap, ports, RA, rn, rcap, routes⟩ ps W) => hW.cfg.c1
  have d2 := fun W (hW : GrdS b ⟨nodes, faulty, slot, gap, rho, dmin, dmax, margin, PA, pn, pcap, parts, QA, qn, qcap, ports, RA, rn, rcap, routes⟩ ps W) => hW.cfg.c2
  have d3 := fun W (hW : GrdS b ⟨nodes, faulty, slot, gap, rho, dmin, dmax, margin, PA, pn, pcap, parts, QA, qn, qcap, ports, RA, rn, rcap, routes⟩ ps W) => hW.cfg.c3
  have d4 := fun W (hW : GrdS b ⟨nodes, faulty, slot, gap, rho, dmin, dmax, margin, PA, pn, pcap, parts, QA, qn, qcap, ports, RA, rn, rcap, routes⟩ ps W) => hW.cfg.c4
  have d5 := fun W (hW : GrdS b ⟨nodes, faulty, slot, gap, rho, dmin, dmax, margin, PA, pn, pcap, parts, QA, qn, qcap, ports, RA, rn, rcap, routes⟩ ps W) => hW.cfg.c5
  have d6 := fun W (hW : GrdS b ⟨nodes, faulty, slot, gap, rho, dmin, dmax, margin, PA, pn, pcap, parts, QA, qn, qcap, ports, RA, rn, rcap, routes⟩ ps W) => hW.cfg.c6
  have d7 := fun W (hW : GrdS b ⟨nodes, faulty, slot, gap, rho, dmin, dmax, margin, PA, pn, pcap, parts, QA, qn, qcap, ports, RA, rn, rcap, routes⟩ ps W) => hW.cfg.c7
  have d8 := fun W (hW : GrdS b ⟨nodes, faulty, slot, gap, rho, dmin, dmax, margin, PA, pn, pcap, parts, QA, qn, qcap, ports, RA, rn, rcap, routes⟩ ps W) => hW.cfg.c8
  have d9 := fun W (hW : GrdS b ⟨nodes, faulty, slot, gap, rho, dmin, dmax, margin, PA, pn, pcap, parts, QA, qn, qcap, ports, RA, rn, rcap, routes⟩ ps W) => hW.cfg.c9
  have d10 := fun W (hW : GrdS b ⟨nodes, faulty, slot, gap, rho, dmin, dmax, margin, PA, pn, pcap, parts, QA, qn, qcap, ports, RA, rn, rcap, routes⟩ ps W) => hW.cfg.c10
  simp only at d0 d1 d2 d3 d4 d5 d6 d7 d8 d9 d10
  simp only [CfgC.value] at C0 C1
  unfold gv
  go_enter Try.func13, Try.ntmps13
  go_wp2_with fail
  refine wp_region_held_drew (S := fun W => GrdS b ⟨nodes, faulty, slot, gap, rho, dmin, dmax, margin, PA, pn, pcap, parts, QA, qn, qcap, ports, RA, rn, rcap, routes⟩ ps W) (by kernel_rfl) hg0 (fun _ => ?_)
  refine wpAnyH_take (i := 0) (oi := ?oo1) (v := ?vv1) ?ii1 (by kernel_rfl) ?ff1 (by kernel_rfl) ?qq1 (Or.inl ⟨?ww1, ?yy1⟩) hg0 ?rr1
  case ii1 => simp only [List.getElem?_toArray, List.getElem?_cons_zero]; rfl
  case ff1 => kernel_rfl
  case qq1 => exact fun _ _ _ h => h
  case ww1 => rfl
  case yy1 => intro W hW; go_simp <;> with_reducible rfl
  try simp only [Act.put, List.setIfInBounds_toArray, List.set_cons_zero, List.set_cons_succ]
  refine wpAnyH_take (i := 1) (oi := ?oo2) (v := ?vv2) ?ii2 (by kernel_rfl) ?ff2 (by kernel_rfl) ?qq2 (Or.inl ⟨?ww2, ?yy2⟩) hg0 ?rr2
  case ii2 => simp only [List.getElem?_toArray, List.getElem?_cons_succ, List.getElem?_cons_zero]; rfl
  case ff2 => kernel_rfl
  case qq2 => exact fun _ _ _ h => h
  case ww2 => rfl
  case yy2 => intro W hW; go_simp <;> with_reducible rfl
  try simp only [Act.put, List.setIfInBounds_toArray, List.set_cons_zero, List.set_cons_succ]
  refine wpAnyH_take (i := 2) (oi := ?oo3) (v := ?vv3) ?ii3 (by kernel_rfl) ?ff3 (by kernel_rfl) ?qq3 (Or.inl ⟨?ww3, ?yy3⟩) hg0 ?rr3
  case ii3 => simp only [List.getElem?_toArray, List.getElem?_cons_succ, List.getElem?_cons_zero]; rfl
  case ff3 => kernel_rfl
  case qq3 => exact fun _ _ _ h => h
  case ww3 => rfl
  case yy3 => intro W hW; go_simp <;> with_reducible rfl
  try simp only [Act.put, List.setIfInBounds_toArray, List.set_cons_zero, List.set_cons_succ]
  refine wpAnyH_take (i := 3) (oi := ?oo4) (v := ?vv4) ?ii4 (by kernel_rfl) ?ff4 (by kernel_rfl) ?qq4 (Or.inl ⟨?ww4, ?yy4⟩) hg0 ?rr4
  case ii4 => simp only [List.getElem?_toArray, List.getElem?_cons_succ, List.getElem?_cons_zero]; rfl
  case ff4 => kernel_rfl
  case qq4 => exact fun _ _ _ h => h
  case ww4 => rfl
  case yy4 => intro W hW; go_simp <;> with_reducible rfl
  try simp only [Act.put, List.setIfInBounds_toArray, List.set_cons_zero, List.set_cons_succ]
  refine wpAnyH_take (i := 4) (oi := ?oo5) (v := ?vv5) ?ii5 (by kernel_rfl) ?ff5 (by kernel_rfl) ?qq5 (Or.inl ⟨?ww5, ?yy5⟩) hg0 ?rr5
  case ii5 => simp only [List.getElem?_toArray, List.getElem?_cons_succ, List.getElem?_cons_zero]; rfl
  case ff5 => kernel_rfl
  case qq5 => exact fun _ _ _ h => h
  case ww5 => rfl
  case yy5 => intro W hW; go_simp <;> with_reducible rfl
  try simp only [Act.put, List.setIfInBounds_toArray, List.set_cons_zero, List.set_cons_succ]
  refine wpAnyH_take (i := 6) (oi := ?oo6) (v := ?vv6) ?ii6 (by kernel_rfl) ?ff6 (by kernel_rfl) ?qq6 (Or.inl ⟨?ww6, ?yy6⟩) hg0 ?rr6
  case ii6 => simp only [List.getElem?_toArray, List.getElem?_cons_succ, List.getElem?_cons_zero]; rfl
  case ff6 => kernel_rfl
  case qq6 => exact fun _ _ _ h => h
  case ww6 => rfl
  case yy6 => intro W hW; go_simp <;> with_reducible rfl
  try simp only [Act.put, List.setIfInBounds_toArray, List.set_cons_zero, List.set_cons_succ]
  refine wpAnyH_take (i := 7) (oi := ?oo7) (v := ?vv7) ?ii7 (by kernel_rfl) ?ff7 (by kernel_rfl) ?qq7 (Or.inl ⟨?ww7, ?yy7⟩) hg0 ?rr7
  case ii7 => simp only [List.getElem?_toArray, List.getElem?_cons_succ, List.getElem?_cons_zero]; rfl
  case ff7 => kernel_rfl
  case qq7 => exact fun _ _ _ h => h
  case ww7 => rfl
  case yy7 => intro W hW; go_simp <;> with_reducible rfl
  try simp only [Act.put, List.setIfInBounds_toArray, List.set_cons_zero, List.set_cons_succ]
  refine wpAnyH_take (i := 8) (oi := ?oo8) (v := ?vv8) ?ii8 (by kernel_rfl) ?ff8 (by kernel_rfl) ?qq8 (Or.inl ⟨?ww8, ?yy8⟩) hg0 ?rr8
  case ii8 => simp only [List.getElem?_toArray, List.getElem?_cons_succ, List.getElem?_cons_zero]; rfl
  case ff8 => kernel_rfl
  case qq8 => exact fun _ _ _ h => h
  case ww8 => rfl
  case yy8 => intro W hW; go_simp <;> with_reducible rfl
  try simp only [Act.put, List.setIfInBounds_toArray, List.set_cons_zero, List.set_cons_succ]
  refine wpAnyH_take (i := 9) (oi := ?oo9) (v := ?vv9) ?ii9 (by kernel_rfl) ?ff9 (by kernel_rfl) ?qq9 (Or.inl ⟨?ww9, ?yy9⟩) hg0 ?rr9
  case ii9 => simp only [List.getElem?_toArray, List.getElem?_cons_succ, List.getElem?_cons_zero]; rfl
  case ff9 => kernel_rfl
  case qq9 => exact fun _ _ _ h => h
  case ww9 => rfl
  case yy9 => intro W hW; go_simp <;> with_reducible rfl
  try simp only [Act.put, List.setIfInBounds_toArray, List.set_cons_zero, List.set_cons_succ]
  refine wpAnyH_ready (rs := [5]) (by kernel_rfl) (by simp) ?_
  refine AllReadyH.cons (o := ?oo10) ?ii10 (fun K hK => ?_) AllReadyH.nil
  case ii10 => simp only [List.getElem?_toArray, List.getElem?_cons_succ, List.getElem?_cons_zero]; rfl
  go_simp
  refine (C0.out _).mono ?_
  rintro e w1 ⟨rfl, hb1⟩
  have hg1 : GrdS b ⟨nodes, faulty, slot, gap, rho, dmin, dmax, margin, PA, pn, pcap, parts, QA, qn, qcap, ports, RA, rn, rcap, routes⟩ ps w1 := GuardIn.below hg0 hb1
  have hb1' := hb0.trans (hb1.mono hb0.size)
  clear hb1 hg0 hb0 C0
  go_wp2_with fail
  refine hK.out _ _ hg1 (fun _ => ?_)
  clear hK K
  refine wpAnyH_ready (rs := [10]) (by kernel_rfl) (by simp) ?_
  refine AllReadyH.cons (o := ?oo11) ?ii11 (fun K hK => ?_) AllReadyH.nil
  case ii11 => simp only [List.getElem?_toArray, List.getElem?_cons_succ, List.getElem?_cons_zero]; rfl
  go_simp
  refine (C1.out _).mono ?_
  rintro e w2 ⟨rfl, hb2⟩
  have hg2 : GrdS b ⟨nodes, faulty, slot, gap, rho, dmin, dmax, margin, PA, pn, pcap, parts, QA, qn, qcap, ports, RA, rn, rcap, routes⟩ ps w2 := GuardIn.below hg1 hb2
  have hb2' := hb1'.trans (hb2.mono hb1'.size)
  clear hb2 hg1 hb1' C1
  go_wp2_with fail
  refine hK.out _ _ hg2 (fun _ => ?_)
  clear hK K
  refine wpAnyH_take (i := 11) (oi := ?oo12) (v := ?vv12) ?ii12 (by kernel_rfl) ?ff12 (by kernel_rfl) ?qq12 (Or.inl ⟨?ww12, ?yy12⟩) hg2 ?rr12
  case ii12 => simp only [List.getElem?_toArray, List.getElem?_cons_succ, List.getElem?_cons_zero]; rfl
  case ff12 => kernel_rfl
  case qq12 => exact fun _ _ _ h => h
  case ww12 => rfl
  case yy12 => intro W hW; go_simp <;> with_reducible rfl
  try simp only [Act.put, List.setIfInBounds_toArray, List.set_cons_zero, List.set_cons_succ]
  refine wpAnyH_take (i := 12) (oi := ?oo13) (v := ?vv13) ?ii13 (by kernel_rfl) ?ff13 (by kernel_rfl) ?qq13 (Or.inl ⟨?ww13, ?yy13⟩) hg2 ?rr13
  case ii13 => simp only [List.getElem?_toArray, List.getElem?_cons_succ, List.getElem?_cons_zero]; rfl
  case ff13 => kernel_rfl
  case qq13 => exact fun _ _ _ h => h
  case ww13 => rfl
  case yy13 => intro W hW; go_simp <;> with_reducible rfl
  try simp only [Act.put, List.setIfInBounds_toArray, List.set_cons_zero, List.set_cons_succ]
  refine wpAnyH_done (by kernel_rfl) ?_ _
  go_wp2_with fail
  go_ret
  exact ⟨rfl, hb2'⟩

/-- What Come does for a node that there is. -/
def ComeP (x : CfgC) (ps : List Bool) (b k : Nat) (a : Int) (w : World) (e : Ending) (w' : World) : Prop :=
  e = .returned (.int .i64 (GrdP.verd x.plain ps k a)) ∧ GuardIn w' b x (GrdP.next x.plain ps k a) ∧ Apart (fun q => q = b) w w'
theorem comeP_not {x : CfgC} {ps : List Bool} {b k : Nat} {a v : Int} {w w' : World} (h : GuardIn w' b x ps) (hb : Below w.heap.size w w') (hv : GrdP.verd x.plain ps k a = v) (h1 : v ≠ 1) : ComeP x ps b k a w (.returned (.int .i64 v)) w' :=
  ⟨by rw [hv], by rw [GrdP.next_not (by rw [hv]; exact h1)]; exact h, Apart.of_below' hb⟩
theorem comeP_pass {x : CfgC} {ps : List Bool} {b k : Nat} {a : Int} {w w' : World} (h : GuardIn w' b x ps) (hb : Below w.heap.size w w') (hv : GrdP.verd x.plain ps k a = 1) : ComeP x ps b k a w (.returned (.int .i64 1)) (w'.setCell ⟨b, 11 + k, none⟩ (.bool true)) :=
  ⟨by rw [hv], by rw [GrdP.next_pass hv]; exact h.stored k true, (Apart.of_below' (F := fun q => q = b) hb).setCell (p := ⟨b, 11 + k, none⟩) (.inl rfl) _⟩

theorem come_wrong (x : CfgC) (ps : List Bool) (n a : Int) (b : Nat) (w : World) (h : GuardIn w b x ps) (hn : n < 0 ∨ x.nodes ≤ n) :
    Calls Try.prog 14 #[gv b, .int .i64 n, .int .i64 a] w fun e w' => e = .returned (.int .i64 5) ∧ w' = w := by
  have hc : GrdS b x ps w := h
  clear h
  obtain ⟨nodes, faulty, slot, gap, rho, dmin, dmax, margin, PA, pn, pcap, parts, QA, qn, qcap, ports, RA, rn, rcap, routes⟩ := x
  have d0 := fun W (hW : GrdS b ⟨nodes, faulty, slot, gap, rho, dmin, dmax, margin, PA, pn, pcap, parts, QA, qn, qcap, ports, RA, rn, rcap, routes⟩ ps W) => hW.cfg.c0
  have d1 := fun W (hW : GrdS b ⟨nodes, faulty, slot, gap, rho, dmin, dmax, margin, PA, pn, pcap, parts, QA, qn, qcap, ports, RA, rn, rcap, routes⟩ ps W) => hW.cfg.c1
  have d2 := fun W (hW : GrdS b ⟨nodes, faulty, slot, gap, rho, dmin, dmax, margin, PA, pn, pcap, parts, QA, qn, qcap, ports, RA, rn, rcap, routes⟩ ps W) => hW.cfg.c2
  have d3 := fun W (hW : GrdS b ⟨nodes, faulty, slot, gap, rho, dmin, dmax, margin, PA, pn, pcap, parts, QA, qn, qcap, ports, RA, rn, rcap, routes⟩ ps W) => hW.cfg.c3
  have d4 := fun W (hW : GrdS b ⟨nodes, faulty, slot, gap, rho, dmin, dmax, margin, PA, pn, pcap, parts, QA, qn, qcap, ports, RA, rn, rcap, routes⟩ ps W) => hW.cfg.c4
  have d5 := fun W (hW : GrdS b ⟨nodes, faulty, slot, gap, rho, dmin, dmax, margin, PA, pn, pcap, parts, QA, qn, qcap, ports, RA, rn, rcap, routes⟩ ps W) => hW.cfg.c5
  have d6 := fun W (hW : GrdS b ⟨nodes, faulty, slot, gap, rho, dmin, dmax, margin, PA, pn, pcap, parts, QA, qn, qcap, ports, RA, rn, rcap, routes⟩ ps W) => hW.cfg.c6
  have d7 := fun W (hW : GrdS b ⟨nodes, faulty, slot, gap, rho, dmin, dmax, margin, PA, pn, pcap, parts, QA, qn, qcap, ports, RA, rn, rcap, routes⟩ ps W) => hW.cfg.c7
  have d8 := fun W (hW : GrdS b ⟨nodes, faulty, slot, gap, rho, dmin, dmax, margin, PA, pn, pcap, parts, QA, qn, qcap, ports, RA, rn, rcap, routes⟩ ps W) => hW.cfg.c8
  have d9 := fun W (hW : GrdS b ⟨nodes, faulty, slot, gap, rho, dmin, dmax, margin, PA, pn, pcap, parts, QA, qn, qcap, ports, RA, rn, rcap, routes⟩ ps W) => hW.cfg.c9
  have d10 := fun W (hW : GrdS b ⟨nodes, faulty, slot, gap, rho, dmin, dmax, margin, PA, pn, pcap, parts, QA, qn, qcap, ports, RA, rn, rcap, routes⟩ ps W) => hW.cfg.c10
  simp only at d0 d1 d2 d3 d4 d5 d6 d7 d8 d9 d10 hn
  have k0 := d0 _ hc
  unfold gv
  by_cases h1 : n < 0
  · have q1 : decide (n < 0) = true := decide_eq_true h1
    clear hn h1 hc
    go_enter Try.func14, Try.ntmps14
    go_wp2_with fail
    go_ret
    exact ⟨rfl, rfl⟩
  · have q1 : decide (n < 0) = false := decide_eq_false h1
    have q2 : decide (nodes ≤ n) = true := decide_eq_true (by omega)
    clear hn h1 hc
    go_enter Try.func14, Try.ntmps14
    go_wp2_with fail
    go_ret
    exact ⟨rfl, rfl⟩

set_option maxHeartbeats 2000000 in
theorem come_any (x : CfgC) (ps : List Bool) (k : Nat) (hk : (k : Int) < x.nodes) (a : Int) (b : Nat) (w : World) (h : GuardIn w b x ps) (hh : TableP.headOk x.plain) :
    Calls Try.prog 14 #[gv b, .int .i64 (k : Nat), .int .i64 a] w (ComeP x ps b k a w) := by
  have hn := SndP.nums_in hh
  have hn1 : x.nodes ≤ 7 := hn.nodes.2
  have hmg : 0 ≤ x.margin ∧ x.margin ≤ 16777216 := hn.margin
  have hdu := GrdP.due_in hn (n := (k : Int)) ⟨by omega, by omega⟩
  have C0 := Lib.hid (fun W (hW : GuardIn W b x ps) => due_any x ps k ⟨by omega, by omega⟩ b W hW hh)
  have hl := h.len
  obtain ⟨p, hp⟩ : ∃ p, ps[k]? = some p := ⟨_, List.getElem?_eq_getElem (by omega)⟩
  have V2 := Lib.hid (fun (h1 : a < GrdP.dueT x.plain k - x.margin) => GrdP.verd_early (c := x.plain) (ps := ps) h1)
  have V3 := Lib.hid (fun (h1 : ¬ a < GrdP.dueT x.plain k - x.margin) (h2 : GrdP.dueT x.plain k + x.margin < a) => GrdP.verd_late (c := x.plain) (ps := ps) h1 h2)
  have V4 := Lib.hid (fun (h1 : ¬ a < GrdP.dueT x.plain k - x.margin) (h2 : ¬ GrdP.dueT x.plain k + x.margin < a) (h3 : p = true) => GrdP.verd_again (c := x.plain) h1 h2 (h3 ▸ hp))
  have V1 := Lib.hid (fun (h1 : ¬ a < GrdP.dueT x.plain k - x.margin) (h2 : ¬ GrdP.dueT x.plain k + x.margin < a) (h3 : p = false) => GrdP.verd_pass (c := x.plain) h1 h2 (h3 ▸ hp))
  have HN := Lib.hid (fun (W : World) (v : Int) (hW : GrdS b x ps W) (hb : Below w.heap.size w W) (hv : GrdP.verd x.plain ps k a = v) (h1 : v ≠ 1) => comeP_not hW hb hv h1)
  have HP := Lib.hid (fun (W : World) (hW : GrdS b x ps W) (hb : Below w.heap.size w W) (hv : GrdP.verd x.plain ps k a = 1) => comeP_pass hW hb hv)
  have hbit := fun W (hW : GrdS b x ps W) => GuardIn.bit hW hp
  have hfree := fun W (hW : GrdS b x ps W) => GuardIn.free hW (11 + k)
  generalize GrdP.dueT x.plain k = du at *
  generalize GrdP.verd x.plain ps k a = V at *
  have hc : GrdS b x ps w := h
  have hg0 : GrdS b x ps w.drew := h.drew
  have hb0 : Below w.heap.size w w.drew := (Below.refl _ _).drew
  have hk7 : k < 7 := by omega
  have q1 : decide ((k : Int) < 0) = false := decide_eq_false (by omega)
  have q2 : decide (x.nodes ≤ (k : Int)) = false := decide_eq_false (by omega)
  have e1 : IntKind.i64.wrap (du - x.margin) = du - x.margin := IntWalk.i64_in _ (by omega)
  have e2 : IntKind.i64.wrap (du + x.margin) = du + x.margin := IntWalk.i64_in _ (by omega)
  clear h hh hn hn1 hmg hdu hk hl hp
  obtain ⟨nodes, faulty, slot, gap, rho, dmin, dmax, margin, PA, pn, pcap, parts, QA, qn, qcap, ports, RA, rn, rcap, routes⟩ := x
  have d0 := fun W (hW : GrdS b ⟨nodes, faulty, slot, gap, rho, dmin, dmax, margin, PA, pn, pcap, parts, QA, qn, qcap, ports, RA, rn, rcap, routes⟩ ps W) => hW.cfg.c0
  have d1 := fun W (hW : GrdS b ⟨nodes, faulty, slot, gap, rho, dmin, dmax, margin, PA, pn, pcap, parts, QA, qn, qcap, ports, RA, rn, rcap, routes⟩ ps W) => hW.cfg.c1
  have d2 := fun W (hW : GrdS b ⟨nodes, faulty, slot, gap, rho, dmin, dmax, margin, PA, pn, pcap, parts, QA, qn, qcap, ports, RA, rn, rcap, routes⟩ ps W) => hW.cfg.c2
  have d3 := fun W (hW : GrdS b ⟨nodes, faulty, slot, gap, rho, dmin, dmax, margin, PA, pn, pcap, parts, QA, qn, qcap, ports, RA, rn, rcap, routes⟩ ps W) => hW.cfg.c3
  have d4 := fun W (hW : GrdS b ⟨nodes, faulty, slot, gap, rho, dmin, dmax, margin, PA, pn, pcap, parts, QA, qn, qcap, ports, RA, rn, rcap, routes⟩ ps W) => hW.cfg.c4
  have d5 := fun W (hW : GrdS b ⟨nodes, faulty, slot, gap, rho, dmin, dmax, margin, PA, pn, pcap, parts, QA, qn, qcap, ports, RA, rn, rcap, routes⟩ ps W) => hW.cfg.c5
  have d6 := fun W (hW : GrdS b ⟨nodes, faulty, slot, gap, rho, dmin, dmax, margin, PA, pn, pcap, parts, QA, qn, qcap, ports, RA, rn, rcap, routes⟩ ps W) => hW.cfg.c6
  have d7 := fun W (hW : GrdS b ⟨nodes, faulty, slot, gap, rho, dmin, dmax, margin, PA, pn, pcap, parts, QA, qn, qcap, ports, RA, rn, rcap, routes⟩ ps W) => hW.cfg.c7
  have d8 := fun W (hW : GrdS b ⟨nodes, faulty, slot, gap, rho, dmin, dmax, margin, PA, pn, pcap, parts, QA, qn, qcap, ports, RA, rn, rcap, routes⟩ ps W) => hW.cfg.c8
  have d9 := fun W (hW : GrdS b ⟨nodes, faulty, slot, gap, rho, dmin, dmax, margin, PA, pn, pcap, parts, QA, qn, qcap, ports, RA, rn, rcap, routes⟩ ps W) => hW.cfg.c9
  have d10 := fun W (hW : GrdS b ⟨nodes, faulty, slot, gap, rho, dmin, dmax, margin, PA, pn, pcap, parts, QA, qn, qcap, ports, RA, rn, rcap, routes⟩ ps W) => hW.cfg.c10
  simp only at d0 d1 d2 d3 d4 d5 d6 d7 d8 d9 d10 C0 HN HP q2 e1 e2 hbit hfree
  have k0 := d0 _ hc
  clear hc
  unfold gv at *
  go_enter Try.func14, Try.ntmps14
  go_wp2_with fail
  refine wp_region_held_drew (S := fun W => GrdS b ⟨nodes, faulty, slot, gap, rho, dmin, dmax, margin, PA, pn, pcap, parts, QA, qn, qcap, ports, RA, rn, rcap, routes⟩ ps W) (by kernel_rfl) hg0 (fun _ => ?_)
  refine wpAnyH_take (i := 0) (oi := ?oo14) (v := ?vv14) ?ii14 (by kernel_rfl) ?ff14 (by kernel_rfl) ?qq14 (Or.inl ⟨?ww14, ?yy14⟩) hg0 ?rr14
  case ii14 => simp only [List.getElem?_toArray, List.getElem?_cons_zero]; rfl
  case ff14 => kernel_rfl
  case qq14 => exact fun _ _ _ h => h
  case ww14 => rfl
  case yy14 => intro W hW; go_simp <;> with_reducible rfl
  try simp only [Act.put, List.setIfInBounds_toArray, List.set_cons_zero, List.set_cons_succ]
  refine wpAnyH_take (i := 1) (oi := ?oo15) (v := ?vv15) ?ii15 (by kernel_rfl) ?ff15 (by kernel_rfl) ?qq15 (Or.inl ⟨?ww15, ?yy15⟩) hg0 ?rr15
  case ii15 => simp only [List.getElem?_toArray, List.getElem?_cons_succ, List.getElem?_cons_zero]; rfl
  case ff15 => kernel_rfl
  case qq15 => exact fun _ _ _ h => h
  case ww15 => rfl
  case yy15 => intro W hW; go_simp <;> with_reducible rfl
  try simp only [Act.put, List.setIfInBounds_toArray, List.set_cons_zero, List.set_cons_succ]
  refine wpAnyH_take (i := 3) (oi := ?oo16) (v := ?vv16) ?ii16 (by kernel_rfl) ?ff16 (by kernel_rfl) ?qq16 (Or.inl ⟨?ww16, ?yy16⟩) hg0 ?rr16
  case ii16 => simp only [List.getElem?_toArray, List.getElem?_cons_succ, List.getElem?_cons_zero]; rfl
  case ff16 => kernel_rfl
  case qq16 => exact fun _ _ _ h => h
  case ww16 => rfl
  case yy16 => intro W hW; go_simp <;> with_reducible rfl
  try simp only [Act.put, List.setIfInBounds_toArray, List.set_cons_zero, List.set_cons_succ]
  refine wpAnyH_take (i := 4) (oi := ?oo17) (v := ?vv17) ?ii17 (by kernel_rfl) ?ff17 (by kernel_rfl) ?qq17 (Or.inl ⟨?ww17, ?yy17⟩) hg0 ?rr17
  case ii17 => simp only [List.getElem?_toArray, List.getElem?_cons_succ, List.getElem?_cons_zero]; rfl
  case ff17 => kernel_rfl
  case qq17 => exact fun _ _ _ h => h
  case ww17 => rfl
  case yy17 => intro W hW; go_simp <;> with_reducible rfl
  try simp only [Act.put, List.setIfInBounds_toArray, List.set_cons_zero, List.set_cons_succ]
  refine wpAnyH_take (i := 5) (oi := ?oo18) (v := ?vv18) ?ii18 (by kernel_rfl) ?ff18 (by kernel_rfl) ?qq18 (Or.inl ⟨?ww18, ?yy18⟩) hg0 ?rr18
  case ii18 => simp only [List.getElem?_toArray, List.getElem?_cons_succ, List.getElem?_cons_zero]; rfl
  case ff18 => kernel_rfl
  case qq18 => exact fun _ _ _ h => h
  case ww18 => rfl
  case yy18 => intro W hW; go_simp <;> with_reducible rfl
  try simp only [Act.put, List.setIfInBounds_toArray, List.set_cons_zero, List.set_cons_succ]
  refine wpAnyH_take (i := 6) (oi := ?oo19) (v := ?vv19) ?ii19 (by kernel_rfl) ?ff19 (by kernel_rfl) ?qq19 (Or.inl ⟨?ww19, ?yy19⟩) hg0 ?rr19
  case ii19 => simp only [List.getElem?_toArray, List.getElem?_cons_succ, List.getElem?_cons_zero]; rfl
  case ff19 => kernel_rfl
  case qq19 => exact fun _ _ _ h => h
  case ww19 => rfl
  case yy19 => intro W hW; go_simp <;> with_reducible rfl
  try simp only [Act.put, List.setIfInBounds_toArray, List.set_cons_zero, List.set_cons_succ]
  refine wpAnyH_take (i := 7) (oi := ?oo20) (v := ?vv20) ?ii20 (by kernel_rfl) ?ff20 (by kernel_rfl) ?qq20 (Or.inl ⟨?ww20, ?yy20⟩) hg0 ?rr20
  case ii20 => simp only [List.getElem?_toArray, List.getElem?_cons_succ, List.getElem?_cons_zero]; rfl
  case ff20 => kernel_rfl
  case qq20 => exact fun _ _ _ h => h
  case ww20 => rfl
  case yy20 => intro W hW; go_simp <;> with_reducible rfl
  try simp only [Act.put, List.setIfInBounds_toArray, List.set_cons_zero, List.set_cons_succ]
  refine wpAnyH_ready (rs := [2]) (by kernel_rfl) (by simp) ?_
  refine AllReadyH.cons (o := ?oo21) ?ii21 (fun K hK => ?_) AllReadyH.nil
  case ii21 => simp only [List.getElem?_toArray, List.getElem?_cons_succ, List.getElem?_cons_zero]; rfl
  go_simp
  refine (C0.out _ hg0).mono ?_
  rintro e w1 ⟨rfl, hb1⟩
  have hg1 : GrdS b ⟨nodes, faulty, slot, gap, rho, dmin, dmax, margin, PA, pn, pcap, parts, QA, qn, qcap, ports, RA, rn, rcap, routes⟩ ps w1 := GuardIn.below hg0 hb1
  have hb1' := hb0.trans (hb1.mono hb0.size)
  clear hb1 hg0 hb0 C0 k0
  go_wp2_with fail
  refine hK.out _ _ hg1 (fun _ => ?_)
  clear hK K
  refine wpAnyH_take (i := 8) (oi := ?oo22) (v := ?vv22) ?ii22 (by kernel_rfl) ?ff22 (by kernel_rfl) ?qq22 (Or.inl ⟨?ww22, ?yy22⟩) hg1 ?rr22
  case ii22 => simp only [List.getElem?_toArray, List.getElem?_cons_succ, List.getElem?_cons_zero]; rfl
  case ff22 => kernel_rfl
  case qq22 => exact fun _ _ _ h => h
  case ww22 => rfl
  case yy22 => intro W hW; go_simp <;> with_reducible rfl
  try simp only [Act.put, List.setIfInBounds_toArray, List.set_cons_zero, List.set_cons_succ]
  refine wpAnyH_take (i := 9) (oi := ?oo23) (v := ?vv23) ?ii23 (by kernel_rfl) ?ff23 (by kernel_rfl) ?qq23 (Or.inl ⟨?ww23, ?yy23⟩) hg1 ?rr23
  case ii23 => simp only [List.getElem?_toArray, List.getElem?_cons_succ, List.getElem?_cons_zero]; rfl
  case ff23 => kernel_rfl
  case qq23 => exact fun _ _ _ h => h
  case ww23 => rfl
  case yy23 => intro W hW; go_simp <;> with_reducible rfl
  try simp only [Act.put, List.setIfInBounds_toArray, List.set_cons_zero, List.set_cons_succ]
  refine wpAnyH_done (by kernel_rfl) ?_ _
  by_cases h1 : a < du - margin
  case pos =>
    have q3 : decide (a < du - margin) = true := decide_eq_true h1
    have HF := Lib.hid (HN.out _ 2 hg1 hb1' (V2.out (by omega)) (by omega))
    clear HN HP V1 V2 V3 V4 hg1 hb1' h1 hbit hfree
    go_wp2_with fail
    go_ret
    exact HF.out
  have q3 : decide (a < du - margin) = false := decide_eq_false h1
  by_cases h2 : du + margin < a
  case pos =>
    have q4 : decide (du + margin < a) = true := decide_eq_true h2
    have HF := Lib.hid (HN.out _ 3 hg1 hb1' (V3.out (by omega) (by omega)) (by omega))
    clear HN HP V1 V2 V3 V4 hg1 hb1' h1 h2 hbit hfree
    go_wp2_with fail
    go_ret
    exact HF.out
  have q4 : decide (du + margin < a) = false := decide_eq_false h2
  have hB := hbit _ hg1
  have hFr := hfree _ hg1
  cases p with
  | true =>
    have HF := Lib.hid (HN.out _ 4 hg1 hb1' (V4.out (by omega) (by omega) rfl) (by omega))
    clear HN HP V1 V2 V3 V4 hg1 hb1' h1 h2 hbit hfree
    go_wp2_with fail
    go_ret
    exact HF.out
  | false =>
    have HF := Lib.hid (HP.out _ hg1 hb1' (V1.out (by omega) (by omega) rfl))
    clear HN HP V1 V2 V3 V4 hg1 hb1' h1 h2 hbit hfree
    go_wp2_with fail
    go_ret
    exact HF.out

/-- What New does: an error, or a guardian in memory of its own. -/
def NewGuard (x : CfgC) (w : World) (e : Ending) (w' : World) : Prop := ∃ b, e = .returned (.tuple #[gv b, .nilIface]) ∧ GuardIn w' b x (List.replicate 7 false) ∧ w.heap.size ≤ b ∧ Below w.heap.size w w'
def NoGuard (t : List UInt8) (w : World) (e : Ending) (w' : World) : Prop := ∃ b, e = .returned (.tuple #[.pointer none, .iface 79 (.pointer (some ⟨b, 0, none⟩))]) ∧ ErrText w' (.iface 79 (.pointer (some ⟨b, 0, none⟩))) t ∧ Below w.heap.size w w'
theorem newGuard_new (x : CfgC) (w w1 : World) (hb : Below w.heap.size w w1) : NewGuard x w (.returned (.tuple #[gv w1.heap.size, .nilIface])) (w1.alloc (.cells (guardCells x (List.replicate 7 false)) 66)) :=
  ⟨_, rfl, ⟨heap_alloc_new w1 _, rfl⟩, hb.size, hb.alloc hb.size _⟩

theorem gnew_good (x : CfgC) (w : World) (h : CfgIn w x) (hc : SndP.chk6 x.plain = none) :
    Calls Try.prog 9 #[x.value] w (NewGuard x w) := by
  have HC := Lib.hid (scheck_any x (boxC w x) (h.below (boxC_below w x)))
  rw [hc] at HC
  have HST := Lib.hid (BoxS.start w x)
  have HF := Lib.hid (fun W (hW : BoxS w x W) => newGuard_new x w W hW.below)
  clear h hc
  obtain ⟨nodes, faulty, slot, gap, rho, dmin, dmax, margin, PA, pn, pcap, parts, QA, qn, qcap, ports, RA, rn, rcap, routes⟩ := x
  have d0 := fun W (hW : BoxS w ⟨nodes, faulty, slot, gap, rho, dmin, dmax, margin, PA, pn, pcap, parts, QA, qn, qcap, ports, RA, rn, rcap, routes⟩ W) => hW.cells.c0
  have d1 := fun W (hW : BoxS w ⟨nodes, faulty, slot, gap, rho, dmin, dmax, margin, PA, pn, pcap, parts, QA, qn, qcap, ports, RA, rn, rcap, routes⟩ W) => hW.cells.c1
  have d2 := fun W (hW : BoxS w ⟨nodes, faulty, slot, gap, rho, dmin, dmax, margin, PA, pn, pcap, parts, QA, qn, qcap, ports, RA, rn, rcap, routes⟩ W) => hW.cells.c2
  have d3 := fun W (hW : BoxS w ⟨nodes, faulty, slot, gap, rho, dmin, dmax, margin, PA, pn, pcap, parts, QA, qn, qcap, ports, RA, rn, rcap, routes⟩ W) => hW.cells.c3
  have d4 := fun W (hW : BoxS w ⟨nodes, faulty, slot, gap, rho, dmin, dmax, margin, PA, pn, pcap, parts, QA, qn, qcap, ports, RA, rn, rcap, routes⟩ W) => hW.cells.c4
  have d5 := fun W (hW : BoxS w ⟨nodes, faulty, slot, gap, rho, dmin, dmax, margin, PA, pn, pcap, parts, QA, qn, qcap, ports, RA, rn, rcap, routes⟩ W) => hW.cells.c5
  have d6 := fun W (hW : BoxS w ⟨nodes, faulty, slot, gap, rho, dmin, dmax, margin, PA, pn, pcap, parts, QA, qn, qcap, ports, RA, rn, rcap, routes⟩ W) => hW.cells.c6
  have d7 := fun W (hW : BoxS w ⟨nodes, faulty, slot, gap, rho, dmin, dmax, margin, PA, pn, pcap, parts, QA, qn, qcap, ports, RA, rn, rcap, routes⟩ W) => hW.cells.c7
  have d8 := fun W (hW : BoxS w ⟨nodes, faulty, slot, gap, rho, dmin, dmax, margin, PA, pn, pcap, parts, QA, qn, qcap, ports, RA, rn, rcap, routes⟩ W) => hW.cells.c8
  have d9 := fun W (hW : BoxS w ⟨nodes, faulty, slot, gap, rho, dmin, dmax, margin, PA, pn, pcap, parts, QA, qn, qcap, ports, RA, rn, rcap, routes⟩ W) => hW.cells.c9
  have d10 := fun W (hW : BoxS w ⟨nodes, faulty, slot, gap, rho, dmin, dmax, margin, PA, pn, pcap, parts, QA, qn, qcap, ports, RA, rn, rcap, routes⟩ W) => hW.cells.c10
  simp only at d0 d1 d2 d3 d4 d5 d6 d7 d8 d9 d10
  simp only [CfgC.value, boxC, cfgCells] at HC HST ⊢
  go_enter Try.func9, Try.ntmps9
  go_wp2_with fail
  refine HC.out.mono ?_
  rintro e w1 ⟨v, rfl, -, hv, h3⟩
  obtain rfl : v = .nilIface := hv
  have hd1 := HST.out.step h3
  clear h3 HC HST
  have k0 := d0 _ hd1
  have k1 := d1 _ hd1
  have k2 := d2 _ hd1
  have k3 := d3 _ hd1
  have k4 := d4 _ hd1
  have k5 := d5 _ hd1
  have k6 := d6 _ hd1
  have k7 := d7 _ hd1
  have k8 := d8 _ hd1
  have k9 := d9 _ hd1
  have k10 := d10 _ hd1
  replace HF := Lib.hid (HF.out _ hd1)
  clear hd1
  go_wp2_with fail
  go_ret2
  exact HF.out
theorem gnew_bad (x : CfgC) (w : World) (h : CfgIn w x) (f : FrameP.Wrong) (hc : SndP.chk6 x.plain = some f) :
    Calls Try.prog 9 #[x.value] w (NoGuard (wrongT (some f)) w) := by
  have HC := Lib.hid (scheck_any x (boxC w x) (h.below (boxC_below w x)))
  rw [hc] at HC
  have HST := Lib.hid (BoxS.start w x)
  have HF := Lib.hid (fun W (hW : BoxS w x W) => hW.below)
  clear h hc
  obtain ⟨nodes, faulty, slot, gap, rho, dmin, dmax, margin, PA, pn, pcap, parts, QA, qn, qcap, ports, RA, rn, rcap, routes⟩ := x
  simp only [CfgC.value, boxC, cfgCells] at HC HST ⊢
  go_enter Try.func9, Try.ntmps9
  go_wp2_with fail
  refine HC.out.mono ?_
  rintro e w1 ⟨v, rfl, h1, ⟨b, rfl⟩, h3⟩
  have hd1 := HST.out.step h3
  have HE : Hid (NoGuard (wrongT (some f)) w (.returned (.tuple #[.pointer none, .iface 79 (.pointer (some ⟨b, 0, none⟩))])) w1) := Lib.hid ⟨b, rfl, h1, HF.out _ hd1⟩
  clear h3 HC HST h1 hd1 HF
  go_wp2_with fail
  go_ret2
  exact HE.out
end Go.Proofs.Ytodkcenoljpgoaa
