/- Contracts of slices.Delete of the first element, and of the queue's Take. Conditions: where the queue lies, numbers in their ranges. -/
import Derived.Test.YtodkcenoljpgoaaGrdG
import Derived.Deep.RegionLaw
namespace Go.Proofs.Ytodkcenoljpgoaa
open Go.RowKit
set_option maxRecDepth 100000

/-- The first is gone, the others moved down. -/
def DelP (B g m cap : Nat) (es : List Value) (w : World) (e : Ending) (w' : World) : Prop :=
  e = .returned (.slice (some ⟨g, 0, none⟩) m cap) ∧ w'.ownsRow B 53 1 (.slice (some ⟨g, 0, none⟩) m cap) m (es.drop 1) ∧ Apart (fun k => k = g) w w'

set_option maxHeartbeats 1000000 in
theorem del_any (w : World) (B g m cap : Nat) (es : List Value) (ho : w.ownsRow B 53 1 (.slice (some ⟨g, 0, none⟩) (m + 1) cap) (m + 1) es) (h1 : ∀ u ∈ es, u.oneCell' = true) :
    Calls Try.prog 31 #[.slice (some ⟨g, 0, none⟩) ((m + 1 : Nat)) cap, .int .i64 0, .int .i64 1] w (DelP B g m cap es w) := by
  obtain ⟨hlen, hrow⟩ := ho
  rw [Nat.mul_one] at hlen
  rcases hrow with ⟨h, -⟩ | ⟨g', cap', cur, h, hB, hg, hnc, hmax, hcap, htk⟩
  · cases h
  cases h
  rw [Nat.mul_one] at hcap htk
  have hcur : ∀ j, j < m + 1 → cur[j]? = es[j]? := fun j hj => by
    rw [← htk, List.getElem?_take, if_pos hj]; simp
  have hg0 : w.drew.heap[g]? = some (.cells cur 53 (0, 0)) := hg
  obtain ⟨cur1, e1, e2, e3, e4⟩ := setCells_row (es.drop 1) 0 w.drew cur hg0 (by rw [List.length_drop]; omega)
  obtain ⟨W1, hW1⟩ : ∃ W1, W1 = w.drew.setCells g 0 (es.drop 1) := ⟨_, rfl⟩
  rw [← hW1] at e1
  obtain ⟨cur2, k1, k2, k3, k4⟩ := setCells_row [.slice none 0 0] m W1 cur1 e1 (by simp; omega)
  have hcl : ∀ ty, (Builtin.clear_ #[49] ty #[.slice (some ⟨g, m, none⟩) 1 (cap - m)]).run Try.prog W1 = .ok (.tuple #[]) (W1.setCells g m [.slice none 0 0]) := fun ty =>
    Lib.run_clear_slice W1 49 53 ty (.slice none 0 0) Try.underlying49 (fun w => by kernel_rfl) rfl rfl g m 1 (cap - m) (by omega)
      (fun j hj => by rw [cell_of_row W1 g _ cur1 _ (0, 0) e1, Array.getElem?_eq_getElem (by omega)]; rfl) (fun j hj => frozen_of_row W1 g _ cur1 _ e1)
  have HF : Hid (DelP B g m cap es w (.returned (.slice (some ⟨g, 0, none⟩) m cap)) (W1.setCells g m [.slice none 0 0])) := Lib.hid (by
    refine ⟨rfl, ⟨by rw [List.length_drop, hlen]; omega, .inr ⟨g, cap, cur2, rfl, hB, k1, by omega, hmax, by omega, ?_⟩⟩, ?_⟩
    · apply List.ext_getElem?
      intro j
      rw [Nat.mul_one, List.getElem?_take]
      by_cases hj : j < m
      · rw [if_pos hj]
        have hjd : j < (es.drop 1).length := by rw [List.length_drop]; omega
        have q1 := k4 j (.inl hj)
        have q2 := e3 j _ (List.getElem?_eq_getElem hjd)
        rw [Nat.zero_add] at q2
        rw [List.getElem?_eq_getElem hjd, ← q2, ← q1]
        simp
      · rw [if_neg hj, List.getElem?_eq_none (by rw [List.length_drop]; omega)]
    · have a0 : Apart (fun k => k = g) w w.drew := (Apart.refl _ w).drew
      have a1 := setCells_apart g (es.drop 1) 0 w.drew
      rw [← hW1] at a1
      exact (a0.trans a1 (fun _ h => .inl h)).trans (setCells_apart g _ m W1) (fun _ h => .inl h))
  obtain ⟨i0, hi0, hi1⟩ : ∃ i, Try.prog.info? 53 = some i ∧ i.size = 1 := by
    obtain ⟨i, h1, -, h2, -⟩ := info_parts infoBs9
    exact ⟨i, h1, h2⟩
  have hA : ∃ ad : Addr, (if cap = 1 then (⟨g, 0, none⟩ : Addr) else ⟨g, 1, none⟩) = ad ∧ Hid (∀ j u, (es.drop 1)[j]? = some u → w.drew.cell? (ad.add j) = some u) := by
    by_cases hc1 : cap = 1
    · refine ⟨_, if_pos hc1, Lib.hid fun j u hj => ?_⟩
      have := (List.getElem?_eq_some_iff.1 hj).1
      rw [List.length_drop] at this
      omega
    · refine ⟨_, if_neg hc1, Lib.hid fun j u hj => ?_⟩
      have hj2 := (List.getElem?_eq_some_iff.1 hj).1
      rw [List.length_drop] at hj2
      rw [List.getElem?_drop] at hj
      rw [addr_addB]
      exact cell_at hg0 _ (by rw [hcur (1 + j) (by omega)]; exact hj)
  obtain ⟨ad, had, hcells⟩ := hA
  have hfr := fun W => run_slice_front (P := Try.prog) W 49 53 1 Try.underlying49 (fun w => by kernel_rfl) (some ⟨g, 0, none⟩) (m + 1) cap 0 0 rfl (Nat.zero_le _)
  have hto := fun W => run_slice_froms (P := Try.prog) W 49 53 1 Try.underlying49 (fun w => by kernel_rfl) g 0 (m + 1) cap 1 1 rfl (by omega)
  have hnews : Hid ((es.drop 1).length = m * 1) := Lib.hid (by rw [List.length_drop, hlen]; omega)
  have hone : Hid (∀ u ∈ es.drop 1, u.oneCell' = true) := Lib.hid fun u hu => h1 u (List.mem_of_mem_drop hu)
  have hsp : Hid (∀ j, j < (es.drop 1).length → (w.drew.cell? ⟨g, 0 + 0 * 1 + j, none⟩).isSome = true ∧ w.drew.frozen? ⟨g, 0 + 0 * 1 + j, none⟩ = false) := Lib.hid fun j hj => by
    rw [List.length_drop] at hj
    refine ⟨?_, frozen_of_row w.drew g _ cur _ hg0⟩
    rw [cell_of_row w.drew g _ cur _ (0, 0) hg0, Array.getElem?_eq_getElem (by omega)]; rfl
  have HW := Lib.hid hW1
  clear hW1 k1 k2 k3 k4 e1 e2 e3 e4 hcur hg0 hg htk hcap hlen h1 hB
  go_enter Try.func31, Try.ntmps31
  go_wp2_with fail
  refine wp_region_held_drew (S := fun _ => True) (by kernel_rfl) trivial (fun _ => ?_)
  refine wpAnyH_take (i := 0) (oi := ?oo1) (v := ?vv1) ?ii1 (by kernel_rfl) ?ff1 (by kernel_rfl) ?qq1 (Or.inl ⟨?ww1, ?yy1⟩) trivial ?rr1
  case ii1 => simp only [List.getElem?_toArray, List.getElem?_cons_zero]; rfl
  case ff1 => kernel_rfl
  case qq1 => exact fun _ _ _ h => h
  case ww1 => rfl
  case yy1 => intro W hW; go_simp <;> with_reducible rfl
  try simp only [Act.put, List.setIfInBounds_toArray, List.set_cons_zero, List.set_cons_succ]
  refine wpAnyH_take (i := 1) (oi := ?oo2) (v := ?vv2) ?ii2 (by kernel_rfl) ?ff2 (by kernel_rfl) ?qq2 (Or.inl ⟨?ww2, ?yy2⟩) trivial ?rr2
  case ii2 => simp only [List.getElem?_toArray, List.getElem?_cons_succ, List.getElem?_cons_zero]; rfl
  case ff2 => kernel_rfl
  case qq2 => exact fun _ _ _ h => h
  case ww2 => rfl
  case yy2 => intro W hW; go_simp <;> with_reducible rfl
  try simp only [Act.put, List.setIfInBounds_toArray, List.set_cons_zero, List.set_cons_succ]
  refine wpAnyH_take (i := 2) (oi := ?oo3) (v := ?vv3) ?ii3 (by kernel_rfl) ?ff3 (by kernel_rfl) ?qq3 (Or.inl ⟨?ww3, ?yy3⟩) trivial ?rr3
  case ii3 => simp only [List.getElem?_toArray, List.getElem?_cons_succ, List.getElem?_cons_zero]; rfl
  case ff3 => kernel_rfl
  case qq3 => exact fun _ _ _ h => h
  case ww3 => rfl
  case yy3 => intro W hW; go_simp <;> with_reducible rfl
  try simp only [Act.put, List.setIfInBounds_toArray, List.set_cons_zero, List.set_cons_succ]
  refine wpAnyH_take (i := 3) (oi := ?oo4) (v := ?vv4) ?ii4 (by kernel_rfl) ?ff4 (by kernel_rfl) ?qq4 (Or.inl ⟨?ww4, ?yy4⟩) trivial ?rr4
  case ii4 => simp only [List.getElem?_toArray, List.getElem?_cons_succ, List.getElem?_cons_zero]; rfl
  case ff4 => kernel_rfl
  case qq4 => exact fun _ _ _ h => h
  case ww4 => rfl
  case yy4 => intro W hW; go_simp <;> with_reducible rfl
  try simp only [Act.put, List.setIfInBounds_toArray, List.set_cons_zero, List.set_cons_succ]
  refine wpAnyH_take (i := 4) (oi := ?oo5) (v := ?vv5) ?ii5 (by kernel_rfl) ?ff5 (by kernel_rfl) ?qq5 (Or.inl ⟨?ww5, ?yy5⟩) trivial ?rr5
  case ii5 => simp only [List.getElem?_toArray, List.getElem?_cons_succ, List.getElem?_cons_zero]; rfl
  case ff5 => kernel_rfl
  case qq5 => exact fun _ _ _ h => h
  case ww5 => rfl
  case yy5 => intro W hW; go_simp <;> with_reducible rfl
  try simp only [Act.put, List.setIfInBounds_toArray, List.set_cons_zero, List.set_cons_succ]
  refine wpAnyH_take (i := 5) (oi := ?oo6) (v := ?vv6) ?ii6 (by kernel_rfl) ?ff6 (by kernel_rfl) ?qq6 (Or.inl ⟨?ww6, ?yy6⟩) trivial ?rr6
  case ii6 => simp only [List.getElem?_toArray, List.getElem?_cons_succ, List.getElem?_cons_zero]; rfl
  case ff6 => kernel_rfl
  case qq6 => exact fun _ _ _ h => h
  case ww6 => rfl
  case yy6 => intro W hW; go_simp <;> with_reducible rfl
  try simp only [Act.put, List.setIfInBounds_toArray, List.set_cons_zero, List.set_cons_succ]
  refine wpAnyH_ready (rs := [6]) (by kernel_rfl) (by simp) ?_
  refine AllReadyH.cons (o := ?oo7) ?ii7 (fun K hK => ?_) AllReadyH.nil
  case ii7 => simp only [List.getElem?_toArray, List.getElem?_cons_succ, List.getElem?_cons_zero]; rfl
  refine step_append_room rfl (.tmp 22) (.tmp 25) 49 rfl 53 i0 1 Try.underlying49 hi0 hi1 g 0 0 cap (by simp [Act.eval]) ad m (cap - 1) (es.drop 1) (by simp [Act.eval]) hnews.out hcells.out hone.out (by omega) hsp.out ?_
  rw [Nat.zero_add, Nat.zero_mul, ← HW.out]
  go_wp2_with fail
  refine hK.out _ _ trivial (fun _ => ?_)
  clear hK K
  refine wpAnyH_ready (rs := [7]) (by kernel_rfl) (by simp) ?_
  refine AllReadyH.cons (o := ?oo8) ?ii8 (fun K hK => ?_) AllReadyH.nil
  case ii8 => simp only [List.getElem?_toArray, List.getElem?_cons_succ, List.getElem?_cons_zero]; rfl
  go_simp
  go_wp2_with fail
  refine hK.out _ _ trivial (fun _ => ?_)
  clear hK K
  refine wpAnyH_done (by kernel_rfl) ?_ _
  have hmid := fun W => run_slice_mid (P := Try.prog) W 49 53 Try.underlying49 (fun w => by kernel_rfl) g 0 m cap (m : Int) ((m : Int) + 1) m 1 rfl (by omega) (by omega) (by omega)
  simp only [Nat.zero_add] at hmid
  go_wp2_with fail
  go_ret
  exact HF.out

/-- Behind a take. -/
theorem best_take {w w2 : World} {B Q : Nat} {v e0 : Value} {es : List Value} {l : List UInt8} {r : List (List UInt8)} (h : BestIn w B Q v (e0 :: es) (l :: r)) (ha : Apart (fun k => v.ownBlock = some k) w w2) {v' : Value} (ho : w2.ownsRow B 53 1 v' es.length es) :
    BestS (w2.setCell ⟨Q, 0, none⟩ v') B Q r ∧ BOnly B w (w2.setCell ⟨Q, 0, none⟩ v') ∧ (w2.setCell ⟨Q, 0, none⟩ v').ownsRow B 5 1 e0 l.length (bytesV l) := by
  have hd2 : w2.heap[Q]? = some (.cells #[v] 51 (0, 0)) := (ha.block Q (lt_of_block h.hd) (fun e => h.ne Q e rfl)).trans h.hd
  have g1 := heap_setCell_same w2 Q 0 _ _ v' hd2
  have a1 : Apart (fun k => k = Q) w2 (w2.setCell ⟨Q, 0, none⟩ v') := (Apart.refl (fun k => k = Q) w2).setCell (p := ⟨Q, 0, none⟩) (.inl rfl) _
  have hall : ∀ (i : Nat) (e : Value) (t : List UInt8), (e0 :: es)[i]? = some e → (l :: r)[i]? = some t → (w2.setCell ⟨Q, 0, none⟩ v').ownsRow B 5 1 e t.length (bytesV t) := fun i e t hi ht => by
    have e1 := h.each i e t hi ht
    have e2 := own_apart e1 ha (fun k hk => own_tag6 e1 h.own (by decide) k hk)
    exact own_apart e2 a1 (fun k hk e => own_off e2 hd2 (by decide) k hk e)
  have hlen := h.len
  simp only [List.length_cons] at hlen
  refine ⟨⟨v', es, g1, own_apart ho a1 (fun k hk e => own_off ho hd2 (by decide) k hk e), by omega, fun i e t hi ht => hall (i + 1) e t (by simpa using hi) (by simpa using ht), h.base⟩,
    h.only ((ha.mono fun _ _ e => .inr e).trans a1 fun _ e => .inl (.inl e)), hall 0 e0 l rfl rfl⟩

def TakeNo (w : World) (e : Ending) (w' : World) : Prop := e = .returned (.tuple #[.slice none 0 0, .bool false]) ∧ Below w.heap.size w w'
def TakeYes (w : World) (B Q : Nat) (l : List UInt8) (r : List (List UInt8)) (e : Ending) (w' : World) : Prop :=
  ∃ v, e = .returned (.tuple #[v, .bool true]) ∧ w'.ownsRow B 5 1 v l.length (bytesV l) ∧ BestS w' B Q r ∧ BOnly B w w'

set_option maxHeartbeats 1000000 in
theorem btake_empty (x : CfgC) (a : Int) (w : World) (B Q : Nat) (h : BestS w B Q []) : Calls Try.prog 19 #[bestV Q, x.value, .int .i64 a] w (TakeNo w) := by
  obtain ⟨v, es, h1⟩ := h
  obtain ⟨A1, c1, rfl, -⟩ := h1.slice
  have hk := h1.keep (boxC_below w x)
  have k0 := cell_at hk.hd 0 rfl
  have HF := Lib.hid (boxC_below w x)
  clear h1 hk
  obtain ⟨nodes, faulty, slot, gap, rho, dmin, dmax, margin, PA, pn, pcap, parts, QA, qn, qcap, ports, RA, rn, rcap, routes⟩ := x
  simp only [boxC, cfgCells, List.length_nil] at HF k0
  simp only [CfgC.value]
  unfold bestV
  go_enter Try.func19, Try.ntmps19
  go_wp2_with fail
  go_ret2
  exact ⟨rfl, HF.out⟩

set_option maxHeartbeats 1000000 in
theorem btake_out (x : CfgC) (a : Int) (w : World) (hh : TableP.headOk x.plain) (hg : gapB x.plain a = false) (B Q : Nat) (q : List (List UInt8)) (hq : 0 < q.length) (h : BestS w B Q q) : Calls Try.prog 19 #[bestV Q, x.value, .int .i64 a] w (TakeNo w) := by
  obtain ⟨v, es, h1⟩ := h
  obtain ⟨A1, c1, rfl, -⟩ := h1.slice
  have hk := h1.keep (boxC_below w x)
  have kq0 := cell_at hk.hd 0 rfl
  have HST := Lib.hid (BoxS.start w x)
  have HG := Lib.hid (fun W => gap_any x a W hh)
  rw [hg] at HG
  obtain ⟨m, hm⟩ : ∃ m, q.length = m + 1 := ⟨q.length - 1, by omega⟩
  rw [hm] at kq0 hq
  have q1 : ((m : Int) + 1 == 0) = false := by rw [beq_eq_false_iff_ne]; omega
  clear h1 hk hh hg hm
  obtain ⟨nodes, faulty, slot, gap, rho, dmin, dmax, margin, PA, pn, pcap, parts, QA, qn, qcap, ports, RA, rn, rcap, routes⟩ := x
  have d0 := fun W (hW : BoxS w ⟨nodes, faulty, slot, gap, rho, dmin, dmax, margin, PA, pn, pcap, parts, QA, qn, qcap, ports, RA, rn, rcap, routes⟩ W) => hW.cells.c0
  have d1 := fun W (hW : BoxS w ⟨nodes, faulty, slot, gap, rho, dmin, dmax, margin, PA, pn, pcap, parts, QA, qn, qcap, ports, RA, rn, rcap, routes⟩ W) => hW.cells.c1
  have d2 := fun W (hW : BoxS w ⟨nodes, faulty, slot, gap, rho, dmin, dmax, margin, PA, pn, pcap, parts, QA, qn, qcap, ports, RA, rn, rcap, routes⟩ W) => hW.cells.c2
  have d3 := fun W (hW : BoxS w ⟨nodes, faulty, slot, gap, rho, dmin, dmax, margin, PA, pn, pcap, parts, QA, qn, qcap, ports, RA, rn, rcap, routes⟩ W) => hW.cells.c3
  have d4 := fun W (hW : BoxS w ⟨nodes, faulty, slot, gap, rho, dmin, dmax, margin, PA, pn, pcap, parts, QA, qn, qcap, ports, RA, rn, rcap, routes⟩ W) => hW.cells.c4
  have d5 := fun W (hW : BoxS w ⟨nodes, faulty, slot, gap, rho, dmin, dmax, margin, PA, pn, pcap, parts, QA, qn, qcap, ports, RA, rn, rcap, routes⟩ W) => hW.cells.c5
  have d6 := fun W (hW : BoxS w ⟨nodes, faulty, slot, gap, rho, dmin, dmax, margin, PA, pn, pcap, parts, QA, qn, qcap, ports, RA, rn, rcap, routes⟩ W) => hW.cells.c6
  have d7 := fun W (hW : BoxS w ⟨nodes, faulty, slot, gap, rho, dmin, dmax, margin, PA, pn, pcap, parts, QA, qn, qcap, ports, RA, rn, rcap, routes⟩ W) => hW.cells.c7
  have d8 := fun W (hW : BoxS w ⟨nodes, faulty, slot, gap, rho, dmin, dmax, margin, PA, pn, pcap, parts, QA, qn, qcap, ports, RA, rn, rcap, routes⟩ W) => hW.cells.c8
  have d9 := fun W (hW : BoxS w ⟨nodes, faulty, slot, gap, rho, dmin, dmax, margin, PA, pn, pcap, parts, QA, qn, qcap, ports, RA, rn, rcap, routes⟩ W) => hW.cells.c9
  have d10 := fun W (hW : BoxS w ⟨nodes, faulty, slot, gap, rho, dmin, dmax, margin, PA, pn, pcap, parts, QA, qn, qcap, ports, RA, rn, rcap, routes⟩ W) => hW.cells.c10
  have hst := HST.out
  have k0 := d0 _ hst
  have k1 := d1 _ hst
  have k2 := d2 _ hst
  have k3 := d3 _ hst
  have k4 := d4 _ hst
  have k5 := d5 _ hst
  have k6 := d6 _ hst
  have k7 := d7 _ hst
  have k8 := d8 _ hst
  have k9 := d9 _ hst
  have k10 := d10 _ hst
  simp only [boxC, cfgCells] at HST kq0 k0 k1 k2 k3 k4 k5 k6 k7 k8 k9 k10
  simp only at d0 d1 d2 d3 d4 d5 d6 d7 d8 d9 d10 k0 k1 k2 k3 k4 k5 k6 k7 k8 k9 k10
  simp only [CfgC.value] at HG ⊢
  clear hst
  unfold bestV
  go_enter Try.func19, Try.ntmps19
  go_wp2_with fail
  refine (HG.out _).mono ?_
  rintro e w1 ⟨rfl, hb1⟩
  have HF := Lib.hid (HST.out.step hb1).below
  clear hb1
  go_wp2_with fail
  go_ret2
  exact ⟨rfl, HF.out⟩

set_option maxHeartbeats 2000000 in
theorem btake_any (x : CfgC) (a : Int) (w : World) (hh : TableP.headOk x.plain) (hg : gapB x.plain a = true) (B Q : Nat) (l : List UInt8) (r : List (List UInt8)) (h : BestS w B Q (l :: r)) :
    Calls Try.prog 19 #[bestV Q, x.value, .int .i64 a] w (TakeYes w B Q l r) := by
  obtain ⟨v, es, h1⟩ := h
  have hlen := h1.len
  obtain ⟨e0, es, rfl⟩ : ∃ e0 es', es = e0 :: es' := by
    cases es with
    | nil => simp at hlen
    | cons a b => exact ⟨a, b, rfl⟩
  simp only [List.length_cons] at hlen
  obtain ⟨m, hm⟩ : ∃ m, es.length = m := ⟨_, rfl⟩
  have hown := h1.own
  rw [List.length_cons, hm] at hown
  obtain ⟨g, c1, rfl, -, -⟩ := hown.form (by omega)
  have hone : ∀ u ∈ e0 :: es, u.oneCell' = true := fun u hu => by
    obtain ⟨i, hi⟩ := List.mem_iff_getElem?.1 hu
    obtain ⟨t, ht⟩ : ∃ t, (l :: r)[i]? = some t := ⟨_, List.getElem?_eq_getElem (by have := (List.getElem?_eq_some_iff.1 hi).1; simp at this ⊢; omega)⟩
    obtain ⟨A, cap, rfl, -⟩ := own_slice (h1.each i u t hi ht)
    rfl
  obtain ⟨A0, ca0, he0, -⟩ := own_slice (h1.each 0 e0 l rfl rfl)
  subst he0
  have HI := Lib.hid h1
  have kq0 := cell_at (h1.keep (boxC_below w x)).hd 0 rfl
  have HST := Lib.hid (BoxS.start w x)
  have HG := Lib.hid (fun W => gap_any x a W hh)
  rw [hg] at HG
  have HD := Lib.hid (fun W (hW : BestIn W B Q (.slice (some ⟨g, 0, none⟩) (m + 1) c1) (.slice A0 l.length ca0 :: es) (l :: r)) => del_any W B g m c1 _ (by have := hW.own; rw [List.length_cons, hm] at this; exact this) hone)
  have HFin : Hid (∀ W W2, Below w.heap.size w W → BestIn W B Q (.slice (some ⟨g, 0, none⟩) (m + 1) c1) (.slice A0 l.length ca0 :: es) (l :: r) → Apart (fun k => k = g) W W2 → W2.ownsRow B 53 1 (.slice (some ⟨g, 0, none⟩) m c1) m es → TakeYes w B Q l r (.returned (.tuple #[.slice A0 l.length ca0, .bool true])) (W2.setCell ⟨Q, 0, none⟩ (.slice (some ⟨g, 0, none⟩) m c1))) := Lib.hid fun W W2 hb hW ha ho => by
    rw [← hm] at ho
    obtain ⟨t1, t2, t3⟩ := best_take hW (ha.mono fun k _ e => by subst e; rfl) ho
    rw [hm] at t1 t2 t3
    exact ⟨_, rfl, t3, t1, (BOnly.of_below hb).trans t2⟩
  have q1 : ((m : Int) + 1 == 0) = false := by rw [beq_eq_false_iff_ne]; omega
  clear h1 hh hg hlen hown hone
  obtain ⟨nodes, faulty, slot, gap, rho, dmin, dmax, margin, PA, pn, pcap, parts, QA, qn, qcap, ports, RA, rn, rcap, routes⟩ := x
  have d0 := fun W (hW : BoxS w ⟨nodes, faulty, slot, gap, rho, dmin, dmax, margin, PA, pn, pcap, parts, QA, qn, qcap, ports, RA, rn, rcap, routes⟩ W) => hW.cells.c0
  have d1 := fun W (hW : BoxS w ⟨nodes, faulty, slot, gap, rho, dmin, dmax, margin, PA, pn, pcap, parts, QA, qn, qcap, ports, RA, rn, rcap, routes⟩ W) => hW.cells.c1
  have d2 := fun W (hW : BoxS w ⟨nodes, faulty, slot, gap, rho, dmin, dmax, margin, PA, pn, pcap, parts, QA, qn, qcap, ports, RA, rn, rcap, routes⟩ W) => hW.cells.c2
  have d3 := fun W (hW : BoxS w ⟨nodes, faulty, slot, gap, rho, dmin, dmax, margin, PA, pn, pcap, parts, QA, qn, qcap, ports, RA, rn, rcap, routes⟩ W) => hW.cells.c3
  have d4 := fun W (hW : BoxS w ⟨nodes, faulty, slot, gap, rho, dmin, dmax, margin, PA, pn, pcap, parts, QA, qn, qcap, ports, RA, rn, rcap, routes⟩ W) => hW.cells.c4
  have d5 := fun W (hW : BoxS w ⟨nodes, faulty, slot, gap, rho, dmin, dmax, margin, PA, pn, pcap, parts, QA, qn, qcap, ports, RA, rn, rcap, routes⟩ W) => hW.cells.c5
  have d6 := fun W (hW : BoxS w ⟨nodes, faulty, slot, gap, rho, dmin, dmax, margin, PA, pn, pcap, parts, QA, qn, qcap, ports, RA, rn, rcap, routes⟩ W) => hW.cells.c6
  have d7 := fun W (hW : BoxS w ⟨nodes, faulty, slot, gap, rho, dmin, dmax, margin, PA, pn, pcap, parts, QA, qn, qcap, ports, RA, rn, rcap, routes⟩ W) => hW.cells.c7
  have d8 := fun W (hW : BoxS w ⟨nodes, faulty, slot, gap, rho, dmin, dmax, margin, PA, pn, pcap, parts, QA, qn, qcap, ports, RA, rn, rcap, routes⟩ W) => hW.cells.c8
  have d9 := fun W (hW : BoxS w ⟨nodes, faulty, slot, gap, rho, dmin, dmax, margin, PA, pn, pcap, parts, QA, qn, qcap, ports, RA, rn, rcap, routes⟩ W) => hW.cells.c9
  have d10 := fun W (hW : BoxS w ⟨nodes, faulty, slot, gap, rho, dmin, dmax, margin, PA, pn, pcap, parts, QA, qn, qcap, ports, RA, rn, rcap, routes⟩ W) => hW.cells.c10
  have hst := HST.out
  have k0 := d0 _ hst
  have k1 := d1 _ hst
  have k2 := d2 _ hst
  have k3 := d3 _ hst
  have k4 := d4 _ hst
  have k5 := d5 _ hst
  have k6 := d6 _ hst
  have k7 := d7 _ hst
  have k8 := d8 _ hst
  have k9 := d9 _ hst
  have k10 := d10 _ hst
  simp only [boxC, cfgCells] at HST kq0 k0 k1 k2 k3 k4 k5 k6 k7 k8 k9 k10
  simp only at d0 d1 d2 d3 d4 d5 d6 d7 d8 d9 d10 k0 k1 k2 k3 k4 k5 k6 k7 k8 k9 k10
  simp only [CfgC.value] at HG ⊢
  clear hst
  unfold bestV
  go_enter Try.func19, Try.ntmps19
  go_wp2_with fail
  refine (HG.out _).mono ?_
  rintro e w1 ⟨rfl, hb1⟩
  have hb := (HST.out.step hb1).below
  have hI1 := HI.out.keep hb
  have kq := cell_at hI1.hd 0 rfl
  have ke : w1.cell? ⟨g, 0, none⟩ = some (.slice A0 l.length ca0) := by
    have := hI1.own
    rw [List.length_cons, hm] at this
    have := this.cellAt 0 (by omega)
    exact this
  have HD1 := Lib.hid (HD.out w1 hI1)
  have HF1 := Lib.hid (fun W2 ha ho => HFin.out w1 W2 hb hI1 ha ho)
  have HI1 := Lib.hid hI1
  clear hb1 hb hI1 HFin HD HG HST HI kq0 k0 k1 k2 k3 k4 k5 k6 k7 k8 k9 k10
  go_wp2_with fail
  refine HD1.out.mono ?_
  rintro e w2 ⟨rfl, ho, ha⟩
  have HR := Lib.hid (HF1.out w2 ha ho)
  have hd2 : w2.heap[Q]? = some (.cells #[.slice (some ⟨g, 0, none⟩) (m + 1) c1] 51 (0, 0)) := (ha.block Q (lt_of_block HI1.out.hd) (fun e => HI1.out.ne Q (by rw [e]; rfl) rfl)).trans HI1.out.hd
  have f2 := free_at hd2 0
  have k2 := cell_at hd2 0 rfl
  have hlt := lt_of_block hd2
  clear ho ha HF1 HD1 HI1 hd2
  go_wp2_with fail
  go_ret2
  exact HR.out
end Go.Proofs.Ytodkcenoljpgoaa
