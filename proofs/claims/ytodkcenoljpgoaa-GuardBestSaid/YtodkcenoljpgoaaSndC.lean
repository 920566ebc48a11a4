/- Contracts of sound's fits and joins. Conditions: the tables are allowed. -/
import Derived.Test.YtodkcenoljpgoaaSndB
namespace Go.Proofs.Ytodkcenoljpgoaa
open Go.RowKit
set_option maxRecDepth 100000

theorem ItemsIn.take {α : Type} {vals : α → List Value} {size : Nat} {W : World} {A : Option Addr} {l : List α} (h : ItemsIn vals size W A l) (k : Nat) : ItemsIn vals size W A (l.take k) := fun hl => by
  have h0 : 0 < l.length := by rw [List.length_take] at hl; omega
  obtain ⟨b, off, e, hb, hi⟩ := h h0
  refine ⟨b, off, e, hb, fun i x hx => ?_⟩
  rw [List.getElem?_take] at hx
  by_cases hik : i < k
  · rw [if_pos hik] at hx; exact hi i x hx
  · rw [if_neg hik] at hx; cases hx
/-- Two boxes, one behind the other, and what is behind them. -/
def Box2 (w : World) (x : CfgC) (cs : Array Value) (t : TypeId) (W : World) : Prop := Below ((boxC w x).alloc (.cells cs t)).heap.size ((boxC w x).alloc (.cells cs t)) W
theorem Box2.start (w : World) (x : CfgC) (cs : Array Value) (t : TypeId) : Box2 w x cs t ((boxC w x).alloc (.cells cs t)) := Below.refl _ _
theorem Box2.drew {w : World} {x : CfgC} {cs : Array Value} {t : TypeId} {W : World} (h : Box2 w x cs t W) : Box2 w x cs t W.drew := Below.drew h
theorem Box2.step {w : World} {x : CfgC} {cs : Array Value} {t : TypeId} {W W' : World} (h : Box2 w x cs t W) (hb : Below W.heap.size W W') : Box2 w x cs t W' := h.trans (hb.mono h.size)
theorem Box2.alloc1 {w : World} {x : CfgC} {cs : Array Value} {t : TypeId} {W : World} (h : Box2 w x cs t W) (o : Obj) : Box2 w x cs t (W.alloc o).drew := Below.drew (Below.alloc h h.size o)
theorem Box2.alloc2 {w : World} {x : CfgC} {cs : Array Value} {t : TypeId} {W : World} (h : Box2 w x cs t W) (o p : Obj) : Box2 w x cs t ((W.alloc o).alloc p).drew := Below.drew ((h.alloc h.size o).alloc (Below.alloc h h.size o).size p)
theorem Box2.one {w : World} {x : CfgC} {cs : Array Value} {t : TypeId} {W : World} (h : Box2 w x cs t W) : BoxS w x W :=
  ((Below.refl _ _).alloc (Nat.le_refl _) _).trans (h.mono (show (boxC w x).heap.size ≤ ((boxC w x).alloc (.cells cs t)).heap.size from by rw [show ((boxC w x).alloc (.cells cs t)).heap.size = (boxC w x).heap.size + 1 from Array.size_push _]; omega))
theorem Box2.below {w : World} {x : CfgC} {cs : Array Value} {t : TypeId} {W : World} (h : Box2 w x cs t W) : Below w.heap.size w W := h.one.below
theorem Box2.two {w : World} {x : CfgC} {cs : Array Value} {t : TypeId} {W : World} (h : Box2 w x cs t W) : W.heap[w.heap.size + 1]? = some (.cells cs t (0, 0)) := by
  have h0 := heap_alloc_new (boxC w x) (.cells cs t (0, 0))
  rw [boxC_size] at h0
  exact (h.block _ (by rw [show ((boxC w x).alloc (.cells cs t)).heap.size = (boxC w x).heap.size + 1 from Array.size_push _, boxC_size]; omega)).trans h0

def TwoPorts (w : World) (x : CfgC) (cs : Array Value) (t : TypeId) (pa pb : Array Value) (v6 v7 : Value) (W : World) : Prop :=
  ∃ F T, v6 = .pointer (some ⟨F, 0, none⟩) ∧ v7 = .pointer (some ⟨T, 0, none⟩) ∧ Box2 w x cs t W ∧ W.heap[F]? = some (.cells pa 74 (0, 0)) ∧ W.heap[T]? = some (.cells pb 74 (0, 0))
theorem twoPorts (w : World) (x : CfgC) (cs : Array Value) (t : TypeId) (p q : Array Value) :
    Box2 w x cs t (((((boxC w x).alloc (.cells cs t)).alloc (.cells p 74)).alloc (.cells q 74)).drew) ∧
    (((((boxC w x).alloc (.cells cs t)).alloc (.cells p 74)).alloc (.cells q 74)).drew).heap[w.heap.size + 1 + 1]? = some (.cells p 74 (0, 0)) ∧
    (((((boxC w x).alloc (.cells cs t)).alloc (.cells p 74)).alloc (.cells q 74)).drew).heap[w.heap.size + 1 + 1 + 1]? = some (.cells q 74 (0, 0)) := by
  have h0 : ((boxC w x).alloc (.cells cs t)).heap.size = w.heap.size + 1 + 1 := (Array.size_push _).trans (by rw [boxC_size])
  have h1 : (((boxC w x).alloc (.cells cs t)).alloc (.cells p 74)).heap.size = w.heap.size + 1 + 1 + 1 := (Array.size_push _).trans (by rw [h0])
  refine ⟨((((Below.refl _ _).alloc (Nat.le_refl _) _).alloc (by rw [h1, h0]; omega) _)).drew, ?_, ?_⟩
  · have h2 := heap_alloc_new ((boxC w x).alloc (.cells cs t)) (.cells p 74 (0, 0))
    rw [h0] at h2
    exact (Below.heap_alloc _ (.cells q 74) _ (by rw [h1]; omega)).trans h2
  · have h2 := heap_alloc_new (((boxC w x).alloc (.cells cs t)).alloc (.cells p 74)) (.cells q 74 (0, 0))
    rw [h1] at h2
    exact h2

set_option maxHeartbeats 2000000 in
theorem fits_any (x : CfgC) (w : World) (h : CfgIn w x) (ha : SndP.Allowed x.plain) (k : Nat) (p : TableP.Part) (hk : x.parts[k]? = some p) :
    Calls Try.prog 37 #[x.value, .int .i64 (k : Nat)] w (BoolPost (SndP.fitB x.plain k p) w) := by
  have hlt : k < x.pn := by have := (List.getElem?_eq_some_iff.1 hk).1; have := h.plen; omega
  have hp12 : x.pn ≤ 12 := by have h1 : x.parts.length ≤ 12 := ha.parts; have := h.plen; omega
  have C0 := Lib.hid (fun W => slots_any x W ha.head)
  have HW : ∀ q ∈ x.parts, Win q := fun q hq => win_of (ha.part q hq)
  have hwp := HW p (List.mem_of_getElem? hk)
  have CC := Lib.hid (fun W (hW : Below w.heap.size w W) N hN => containsP_any p (x.parts.take k) hwp (fun q hq => HW q (List.mem_of_mem_take hq)) x.PA k x.pcap N W ((h.parts.below hW).take k) (by rw [List.length_take]; have := h.plen; omega) (by omega) hN)
  obtain ⟨b, off, e, hbl, c0, c1, c2, c3, c4, c5, c6, c7, c8⟩ := parts_at (h.parts.below (boxC_below w x)) hk
  have hpc := h.pcap_
  have hs := (SndP.nums_in ha.head).slots
  clear h ha HW hk
  obtain ⟨nodes, faulty, slot, gap, rho, dmin, dmax, margin, PA, pn, pcap, parts, QA, qn, qcap, ports, RA, rn, rcap, routes⟩ := x
  simp only [boxC, cfgCells] at c0 c1 c2 c3 c4 c5 c6 c7 c8 e hbl
  simp only [CfgC.value, CfgC.plain, SndP.slotsT] at C0 CC hs hlt hp12 hpc ⊢
  subst e
  obtain ⟨node, start, length, budget, words, r0, r1, r2, r3⟩ := p
  obtain ⟨hw1, hw2, hw3, hw4⟩ := hwp
  simp only at c0 c1 c2 c3 c4 c5 c6 c7 c8 hw1 hw2 hw3 hw4
  have hd0 := (Box2.start w ⟨nodes, faulty, slot, gap, rho, dmin, dmax, margin, some ⟨b, off, none⟩, pn, pcap, parts, QA, qn, qcap, ports, RA, rn, rcap, routes⟩ #[.int .i64 node, .int .i64 start, .int .i64 length, .int .i64 budget, .int .i64 words, .int .u8 (r0 : Nat), .int .u8 (r1 : Nat), .int .u8 (r2 : Nat), .int .u8 (r3 : Nat)] 71).drew
  have d0 := fun W (hW : Box2 w ⟨nodes, faulty, slot, gap, rho, dmin, dmax, margin, some ⟨b, off, none⟩, pn, pcap, parts, QA, qn, qcap, ports, RA, rn, rcap, routes⟩ #[.int .i64 node, .int .i64 start, .int .i64 length, .int .i64 budget, .int .i64 words, .int .u8 (r0 : Nat), .int .u8 (r1 : Nat), .int .u8 (r2 : Nat), .int .u8 (r3 : Nat)] 71 W) => (BoxS.cells (Box2.one hW)).c0
  have d1 := fun W (hW : Box2 w ⟨nodes, faulty, slot, gap, rho, dmin, dmax, margin, some ⟨b, off, none⟩, pn, pcap, parts, QA, qn, qcap, ports, RA, rn, rcap, routes⟩ #[.int .i64 node, .int .i64 start, .int .i64 length, .int .i64 budget, .int .i64 words, .int .u8 (r0 : Nat), .int .u8 (r1 : Nat), .int .u8 (r2 : Nat), .int .u8 (r3 : Nat)] 71 W) => (BoxS.cells (Box2.one hW)).c1
  have d2 := fun W (hW : Box2 w ⟨nodes, faulty, slot, gap, rho, dmin, dmax, margin, some ⟨b, off, none⟩, pn, pcap, parts, QA, qn, qcap, ports, RA, rn, rcap, routes⟩ #[.int .i64 node, .int .i64 start, .int .i64 length, .int .i64 budget, .int .i64 words, .int .u8 (r0 : Nat), .int .u8 (r1 : Nat), .int .u8 (r2 : Nat), .int .u8 (r3 : Nat)] 71 W) => (BoxS.cells (Box2.one hW)).c2
  have d3 := fun W (hW : Box2 w ⟨nodes, faulty, slot, gap, rho, dmin, dmax, margin, some ⟨b, off, none⟩, pn, pcap, parts, QA, qn, qcap, ports, RA, rn, rcap, routes⟩ #[.int .i64 node, .int .i64 start, .int .i64 length, .int .i64 budget, .int .i64 words, .int .u8 (r0 : Nat), .int .u8 (r1 : Nat), .int .u8 (r2 : Nat), .int .u8 (r3 : Nat)] 71 W) => (BoxS.cells (Box2.one hW)).c3
  have d4 := fun W (hW : Box2 w ⟨nodes, faulty, slot, gap, rho, dmin, dmax, margin, some ⟨b, off, none⟩, pn, pcap, parts, QA, qn, qcap, ports, RA, rn, rcap, routes⟩ #[.int .i64 node, .int .i64 start, .int .i64 length, .int .i64 budget, .int .i64 words, .int .u8 (r0 : Nat), .int .u8 (r1 : Nat), .int .u8 (r2 : Nat), .int .u8 (r3 : Nat)] 71 W) => (BoxS.cells (Box2.one hW)).c4
  have d5 := fun W (hW : Box2 w ⟨nodes, faulty, slot, gap, rho, dmin, dmax, margin, some ⟨b, off, none⟩, pn, pcap, parts, QA, qn, qcap, ports, RA, rn, rcap, routes⟩ #[.int .i64 node, .int .i64 start, .int .i64 length, .int .i64 budget, .int .i64 words, .int .u8 (r0 : Nat), .int .u8 (r1 : Nat), .int .u8 (r2 : Nat), .int .u8 (r3 : Nat)] 71 W) => (BoxS.cells (Box2.one hW)).c5
  have d6 := fun W (hW : Box2 w ⟨nodes, faulty, slot, gap, rho, dmin, dmax, margin, some ⟨b, off, none⟩, pn, pcap, parts, QA, qn, qcap, ports, RA, rn, rcap, routes⟩ #[.int .i64 node, .int .i64 start, .int .i64 length, .int .i64 budget, .int .i64 words, .int .u8 (r0 : Nat), .int .u8 (r1 : Nat), .int .u8 (r2 : Nat), .int .u8 (r3 : Nat)] 71 W) => (BoxS.cells (Box2.one hW)).c6
  have d7 := fun W (hW : Box2 w ⟨nodes, faulty, slot, gap, rho, dmin, dmax, margin, some ⟨b, off, none⟩, pn, pcap, parts, QA, qn, qcap, ports, RA, rn, rcap, routes⟩ #[.int .i64 node, .int .i64 start, .int .i64 length, .int .i64 budget, .int .i64 words, .int .u8 (r0 : Nat), .int .u8 (r1 : Nat), .int .u8 (r2 : Nat), .int .u8 (r3 : Nat)] 71 W) => (BoxS.cells (Box2.one hW)).c7
  have d8 := fun W (hW : Box2 w ⟨nodes, faulty, slot, gap, rho, dmin, dmax, margin, some ⟨b, off, none⟩, pn, pcap, parts, QA, qn, qcap, ports, RA, rn, rcap, routes⟩ #[.int .i64 node, .int .i64 start, .int .i64 length, .int .i64 budget, .int .i64 words, .int .u8 (r0 : Nat), .int .u8 (r1 : Nat), .int .u8 (r2 : Nat), .int .u8 (r3 : Nat)] 71 W) => (BoxS.cells (Box2.one hW)).c8
  have d9 := fun W (hW : Box2 w ⟨nodes, faulty, slot, gap, rho, dmin, dmax, margin, some ⟨b, off, none⟩, pn, pcap, parts, QA, qn, qcap, ports, RA, rn, rcap, routes⟩ #[.int .i64 node, .int .i64 start, .int .i64 length, .int .i64 budget, .int .i64 words, .int .u8 (r0 : Nat), .int .u8 (r1 : Nat), .int .u8 (r2 : Nat), .int .u8 (r3 : Nat)] 71 W) => (BoxS.cells (Box2.one hW)).c9
  have d10 := fun W (hW : Box2 w ⟨nodes, faulty, slot, gap, rho, dmin, dmax, margin, some ⟨b, off, none⟩, pn, pcap, parts, QA, qn, qcap, ports, RA, rn, rcap, routes⟩ #[.int .i64 node, .int .i64 start, .int .i64 length, .int .i64 budget, .int .i64 words, .int .u8 (r0 : Nat), .int .u8 (r1 : Nat), .int .u8 (r2 : Nat), .int .u8 (r3 : Nat)] 71 W) => (BoxS.cells (Box2.one hW)).c10
  have g1 := fun W (hW : Box2 w ⟨nodes, faulty, slot, gap, rho, dmin, dmax, margin, some ⟨b, off, none⟩, pn, pcap, parts, QA, qn, qcap, ports, RA, rn, rcap, routes⟩ #[.int .i64 node, .int .i64 start, .int .i64 length, .int .i64 budget, .int .i64 words, .int .u8 (r0 : Nat), .int .u8 (r1 : Nat), .int .u8 (r2 : Nat), .int .u8 (r3 : Nat)] 71 W) => cell_at (Box2.two hW) 1 rfl
  have g2 := fun W (hW : Box2 w ⟨nodes, faulty, slot, gap, rho, dmin, dmax, margin, some ⟨b, off, none⟩, pn, pcap, parts, QA, qn, qcap, ports, RA, rn, rcap, routes⟩ #[.int .i64 node, .int .i64 start, .int .i64 length, .int .i64 budget, .int .i64 words, .int .u8 (r0 : Nat), .int .u8 (r1 : Nat), .int .u8 (r2 : Nat), .int .u8 (r3 : Nat)] 71 W) => cell_at (Box2.two hW) 2 rfl
  simp only at d0 d1 d2 d3 d4 d5 d6 d7 d8 d9 d10
  have e0 : IntKind.i64.wrap (start + length) = start + length := IntWalk.i64_in _ (by omega)
  have hsl := fun W => run_slice_tos (P := Try.prog) W 22 71 9 Try.underlying22 (fun w => by kernel_rfl) (some ⟨b, off, none⟩) pn pcap (k : Int) (by omega) (by omega)
  simp only [Int.toNat_natCast] at hsl
  have hfit : SndP.fitB ⟨nodes, faulty, slot, gap, rho, dmin, dmax, margin, parts, ports, routes⟩ k ⟨node, start, length, budget, words, r0, r1, r2, r3⟩ = (decide (start + length ≤ nodes * slot) && !(parts.take k).any (SndP.clash ⟨node, start, length, budget, words, r0, r1, r2, r3⟩)) := rfl
  rw [hfit]
  clear hfit hw1 hw2 hw3 hw4 hs hbl
  generalize (parts.take k).any (SndP.clash ⟨node, start, length, budget, words, r0, r1, r2, r3⟩) = bb at *
  go_enter Try.func37, Try.ntmps37
  go_wp2_with fail
  clear c0 c1 c2 c3 c4 c5 c6 c7 c8
  refine wp_region_held_drew (S := fun W => Box2 w ⟨nodes, faulty, slot, gap, rho, dmin, dmax, margin, some ⟨b, off, none⟩, pn, pcap, parts, QA, qn, qcap, ports, RA, rn, rcap, routes⟩ #[.int .i64 node, .int .i64 start, .int .i64 length, .int .i64 budget, .int .i64 words, .int .u8 (r0 : Nat), .int .u8 (r1 : Nat), .int .u8 (r2 : Nat), .int .u8 (r3 : Nat)] 71 W) (by kernel_rfl) hd0 (fun _ => ?_)
  refine wpAnyH_take (i := 0) (oi := ?oo1) (v := ?vv1) ?ii1 (by kernel_rfl) ?ff1 (by kernel_rfl) ?qq1 (Or.inl ⟨?ww1, ?yy1⟩) hd0 ?rr1
  case ii1 => simp only [List.getElem?_toArray, List.getElem?_cons_zero]; rfl
  case ff1 => kernel_rfl
  case qq1 => exact fun _ _ _ h => h
  case ww1 => rfl
  case yy1 => intro W hW; go_simp <;> with_reducible rfl
  try simp only [Act.put, List.setIfInBounds_toArray, List.set_cons_zero, List.set_cons_succ]
  refine wpAnyH_take (i := 1) (oi := ?oo2) (v := ?vv2) ?ii2 (by kernel_rfl) ?ff2 (by kernel_rfl) ?qq2 (Or.inl ⟨?ww2, ?yy2⟩) hd0 ?rr2
  case ii2 => simp only [List.getElem?_toArray, List.getElem?_cons_succ, List.getElem?_cons_zero]; rfl
  case ff2 => kernel_rfl
  case qq2 => exact fun _ _ _ h => h
  case ww2 => rfl
  case yy2 => intro W hW; go_simp <;> with_reducible rfl
  try simp only [Act.put, List.setIfInBounds_toArray, List.set_cons_zero, List.set_cons_succ]
  refine wpAnyH_take (i := 2) (oi := ?oo3) (v := ?vv3) ?ii3 (by kernel_rfl) ?ff3 (by kernel_rfl) ?qq3 (Or.inl ⟨?ww3, ?yy3⟩) hd0 ?rr3
  case ii3 => simp only [List.getElem?_toArray, List.getElem?_cons_succ, List.getElem?_cons_zero]; rfl
  case ff3 => kernel_rfl
  case qq3 => exact fun _ _ _ h => h
  case ww3 => rfl
  case yy3 => intro W hW; go_simp <;> with_reducible rfl
  try simp only [Act.put, List.setIfInBounds_toArray, List.set_cons_zero, List.set_cons_succ]
  refine wpAnyH_take (i := 3) (oi := ?oo4) (v := ?vv4) ?ii4 (by kernel_rfl) ?ff4 (by kernel_rfl) ?qq4 (Or.inl ⟨?ww4, ?yy4⟩) hd0 ?rr4
  case ii4 => simp only [List.getElem?_toArray, List.getElem?_cons_succ, List.getElem?_cons_zero]; rfl
  case ff4 => kernel_rfl
  case qq4 => exact fun _ _ _ h => h
  case ww4 => rfl
  case yy4 => intro W hW; go_simp <;> with_reducible rfl
  try simp only [Act.put, List.setIfInBounds_toArray, List.set_cons_zero, List.set_cons_succ]
  refine wpAnyH_take (i := 4) (oi := ?oo5) (v := ?vv5) ?ii5 (by kernel_rfl) ?ff5 (by kernel_rfl) ?qq5 (Or.inl ⟨?ww5, ?yy5⟩) hd0 ?rr5
  case ii5 => simp only [List.getElem?_toArray, List.getElem?_cons_succ, List.getElem?_cons_zero]; rfl
  case ff5 => kernel_rfl
  case qq5 => exact fun _ _ _ h => h
  case ww5 => rfl
  case yy5 => intro W hW; go_simp <;> with_reducible rfl
  try simp only [Act.put, List.setIfInBounds_toArray, List.set_cons_zero, List.set_cons_succ]
  refine wpAnyH_take (i := 5) (oi := ?oo6) (v := ?vv6) ?ii6 (by kernel_rfl) ?ff6 (by kernel_rfl) ?qq6 (Or.inl ⟨?ww6, ?yy6⟩) hd0 ?rr6
  case ii6 => simp only [List.getElem?_toArray, List.getElem?_cons_succ, List.getElem?_cons_zero]; rfl
  case ff6 => kernel_rfl
  case qq6 => exact fun _ _ _ h => h
  case ww6 => rfl
  case yy6 => intro W hW; go_simp <;> with_reducible rfl
  try simp only [Act.put, List.setIfInBounds_toArray, List.set_cons_zero, List.set_cons_succ]
  refine wpAnyH_ready (rs := [6]) (by kernel_rfl) (by simp) ?_
  refine AllReadyH.cons (o := ?oo7) ?ii7 (fun K hK => ?_) AllReadyH.nil
  case ii7 => simp only [List.getElem?_toArray, List.getElem?_cons_succ, List.getElem?_cons_zero]; rfl
  go_simp
  refine (C0.out _).mono ?_
  rintro e w1 ⟨rfl, hb1⟩
  have hd1 := hd0.step hb1
  go_wp2_with fail
  refine hK.out _ _ hd1 (fun _ => ?_)
  clear hK K
  refine wpAnyH_take (i := 7) (oi := ?oo8) (v := ?vv8) ?ii8 (by kernel_rfl) ?ff8 (by kernel_rfl) ?qq8 (Or.inl ⟨?ww8, ?yy8⟩) hd1 ?rr8
  case ii8 => simp only [List.getElem?_toArray, List.getElem?_cons_succ, List.getElem?_cons_zero]; rfl
  case ff8 => kernel_rfl
  case qq8 => exact fun _ _ _ h => h
  case ww8 => rfl
  case yy8 => intro W hW; go_simp <;> with_reducible rfl
  try simp only [Act.put, List.setIfInBounds_toArray, List.set_cons_zero, List.set_cons_succ]
  refine wpAnyH_done (by kernel_rfl) ?_ _
  have k8 := d8 _ hd1
  have CD := Lib.hid (CC.out _ hd1.below _ (Box2.two hd1))
  have HB := Lib.hid hd1.below
  clear hd1 hd0 hb1 CC C0
  go_wp2_with fail
  · have hgt : nodes * slot < start + length := by assumption
    have HF : Hid (BoolPost (decide (start + length ≤ nodes * slot) && !bb) w (.returned (.bool false)) w1) := Lib.hid ⟨by rw [decide_eq_false (by omega), Bool.false_and], HB.out⟩
    go_ret
    exact HF.out
  have hgt : start + length ≤ nodes * slot := by assumption
  have HF : Hid (∀ W, Below w.heap.size w W → BoolPost (decide (start + length ≤ nodes * slot) && !bb) w (.returned (.bool (!bb))) W) := Lib.hid fun W hW => ⟨by rw [decide_eq_true hgt, Bool.true_and], hW⟩
  clear hgt
  refine CD.out.mono ?_
  rintro e w2 ⟨rfl, hb2⟩
  have HF2 := Lib.hid (HF.out _ (HB.out.trans (hb2.mono HB.out.size)))
  clear hb2
  go_wp2_with fail
  go_ret
  exact HF2.out
end Go.Proofs.Ytodkcenoljpgoaa
