/- Contract of the document's Copied at tables in memory: tables that read alike, with lists of their own. Conditions: where their lists lie; at most 1000000 items in each. -/
import Derived.Test.YtodkcenoljpgoaaTbP
namespace Go.Proofs.Ytodkcenoljpgoaa
open Go.RowKit
set_option maxRecDepth 100000

theorem own_empty (W : World) (B N size : Nat) (e : TypeId) (hN : N = W.heap.size) (hB : B ≤ W.heap.size) : (W.alloc (.cells #[] e)).ownsRow B e size (.slice (some ⟨N, 0, none⟩) 0 0) 0 [] := by
  subst hN
  exact World.ownsRow_lit (base := B) (e := e) (size := size) W #[] 0 hB (by unfold maxLen; omega) (by simp)
def CopiedPost (f : TableP.Cfg) (w : World) (e : Ending) (w' : World) : Prop := ∃ v, e = .returned v ∧ CfgAt w' v f ∧ Below w.heap.size w w'
/-- The same, and the copies' rows are the call's own. -/
def CopiedOwn (f : TableP.Cfg) (w : World) (e : Ending) (w' : World) : Prop :=
  ∃ x3 : CfgC, e = .returned x3.value ∧ CfgIn w' x3 ∧ x3.plain = f ∧ OwnI partVals 9 71 (w.heap.size + 2) (.slice x3.PA x3.pn x3.pcap) x3.parts w' ∧ OwnI portVals 6 74 (w.heap.size + 2) (.slice x3.QA x3.qn x3.qcap) x3.ports w' ∧
    OwnI routeVals 2 76 (w.heap.size + 2) (.slice x3.RA x3.rn x3.rcap) x3.routes w' ∧ Below w.heap.size w w'

/-- The argument's box and the result's, and what was made so far. -/
structure CpS (w : World) (cs zs : Array Value) (W : World) : Prop where
  box : W.heap[w.heap.size]? = some (.cells cs 26 (0, 0))
  res : W.heap[w.heap.size + 1]? = some (.cells zs 26 (0, 0))
  bel : Below w.heap.size w W
theorem CpS.lt {w : World} {cs zs : Array Value} {W : World} (h : CpS w cs zs W) : w.heap.size + 2 ≤ W.heap.size := lt_of_block h.res
theorem CpS.step {w : World} {cs zs : Array Value} {W W' : World} (h : CpS w cs zs W) (hb : Below W.heap.size W W') : CpS w cs zs W' := by
  have := h.lt
  exact ⟨(hb.block _ (by omega)).trans h.box, (hb.block _ (by omega)).trans h.res, h.bel.trans (hb.mono (by omega))⟩
theorem CpS.store {w : World} {cs zs : Array Value} {W : World} (h : CpS w cs zs W) (i : Nat) (u : Value) : CpS w (cs.setIfInBounds i u) zs (W.setCell ⟨w.heap.size, i, none⟩ u) :=
  ⟨heap_setCell_same W _ i _ _ u h.box, (Below.heap_setCell _ _ _ _ (by simp)).trans h.res, h.bel.setCell (by simp) _⟩
/-- Behind an append to what was made empty. -/
theorem below_app {W w1 : World} {o : Obj} {N : Nat} (hN : N = W.heap.size) (ha : Apart (fun k => N = k) (W.alloc o) w1) : Below W.heap.size W w1 :=
  ((Below.refl _ _).alloc (Nat.le_refl _) _).trans (ha.below (by simp) (fun k e => by omega))
theorem items_own' {α : Type} {vals : α → List Value} {size : Nat} (hs : ∀ x, (vals x).length = size) {e : TypeId} {B : Nat} {A : Option Addr} {n cap : Nat} {l : List α} {W : World} (h : OwnI vals size e B (.slice A n cap) l W) (hl : l.length = n) : n ≤ cap ∧ ItemsIn vals size W A l := by
  obtain ⟨A', cap', e1, h1, h2⟩ := ItemsIn.own hs h.own
  injection e1 with e1 _ e3
  subst e1 e3
  exact ⟨by omega, h2⟩

set_option maxHeartbeats 4000000 in
theorem copied_own (x : CfgC) (w : World) (h : CfgIn w x) (hp : x.pn ≤ 1000000) (hq : x.qn ≤ 1000000) (hr : x.rn ≤ 1000000) :
    Calls Try.prog 10 #[x.value] w (CopiedOwn x.plain w) := by
  have HP := Lib.hid (fun W (hW : Below w.heap.size w W) => h.parts.below hW)
  have HQ := Lib.hid (fun W (hW : Below w.heap.size w W) => h.ports.below hW)
  have HR := Lib.hid (fun W (hW : Below w.heap.size w W) => h.routes.below hW)
  have Hpl := Lib.hid h.plen
  have Hql := Lib.hid h.qlen
  have Hrl := Lib.hid h.rlen
  clear h
  obtain ⟨nodes, faulty, slot, gap, rho, dmin, dmax, margin, PA, pn, pcap, parts, QA, qn, qcap, ports, RA, rn, rcap, routes⟩ := x
  simp only at HP HQ HR Hpl Hql Hrl hp hq hr
  simp only [CfgC.value]
  have HS0 : Hid (CpS w #[.int .i64 nodes, .int .i64 faulty, .int .i64 slot, .int .i64 gap, .int .i64 rho, .int .i64 dmin, .int .i64 dmax, .int .i64 margin, .slice PA pn pcap, .slice QA qn qcap, .slice RA rn rcap] #[.int .i64 0, .int .i64 0, .int .i64 0, .int .i64 0, .int .i64 0, .int .i64 0, .int .i64 0, .int .i64 0, .slice none 0 0, .slice none 0 0, .slice none 0 0] ((w.alloc (.cells #[.int .i64 nodes, .int .i64 faulty, .int .i64 slot, .int .i64 gap, .int .i64 rho, .int .i64 dmin, .int .i64 dmax, .int .i64 margin, .slice PA pn pcap, .slice QA qn qcap, .slice RA rn rcap] 26)).alloc (.cells #[.int .i64 0, .int .i64 0, .int .i64 0, .int .i64 0, .int .i64 0, .int .i64 0, .int .i64 0, .int .i64 0, .slice none 0 0, .slice none 0 0, .slice none 0 0] 26))) := Lib.hid
    ⟨(Below.heap_alloc _ _ _ (by simp)).trans (heap_alloc_new w _), by have h9 := heap_alloc_new (w.alloc (.cells #[.int .i64 nodes, .int .i64 faulty, .int .i64 slot, .int .i64 gap, .int .i64 rho, .int .i64 dmin, .int .i64 dmax, .int .i64 margin, .slice PA pn pcap, .slice QA qn qcap, .slice RA rn rcap] 26)) (.cells #[.int .i64 0, .int .i64 0, .int .i64 0, .int .i64 0, .int .i64 0, .int .i64 0, .int .i64 0, .int .i64 0, .slice none 0 0, .slice none 0 0, .slice none 0 0] 26); simpa using h9, ((Below.refl _ _).alloc (Nat.le_refl _) _).alloc (by simp) _⟩
  go_enter Try.func10, Try.ntmps10
  go_wp2_with (first
  | (at_builtin
     refine wpList_append_s rfl (.tmp 3) (.tmp 5) _ rfl (w.heap.size + 2) 71 _ 9 48 Try.underlying22 infoP rfl (by omega) _ 0 [] rfl (own_empty _ (w.heap.size + 2) _ 9 _ (by simp) (by have := HS0.out.lt; simp at this ⊢ <;> omega)) PA pn pcap (itemsV partVals parts) rfl (by rw [itemsV_length partVals_len, Hpl.out]) ?n1 (itemsV_oneCell partVals_one _) (by unfold maxLen; omega) (by omega) (by have := HS0.out.lt; simp at this ⊢ <;> omega) ?_
     case n1 => exact fun hn => (HP.out _ (HS0.out.bel.alloc (by have := HS0.out.lt; simp at this ⊢ <;> omega) _)).news partVals_len (by omega) (by rw [Hpl.out]; exact hn)
     intro v1 w1 ho1 ha1 hb1
     have hap1 : Apart (fun k => w.heap.size + 1 + 1 = k) _ w1 := ha1.mono (fun k _ e => Option.some.inj e)
     have hbl := below_app (W := ((w.alloc (.cells #[.int .i64 nodes, .int .i64 faulty, .int .i64 slot, .int .i64 gap, .int .i64 rho, .int .i64 dmin, .int .i64 dmax, .int .i64 margin, .slice PA pn pcap, .slice QA qn qcap, .slice RA rn rcap] 26)).alloc (.cells #[.int .i64 0, .int .i64 0, .int .i64 0, .int .i64 0, .int .i64 0, .int .i64 0, .int .i64 0, .int .i64 0, .slice none 0 0, .slice none 0 0, .slice none 0 0] 26))) (by simp) hap1
     clear hap1
     have hs1 := HS0.out.step hbl
     have hr1 : OwnI partVals 9 71 (w.heap.size + 2) v1 parts w1 := ⟨by rw [Hpl.out]; simpa using ho1⟩
     obtain ⟨A1, c1, hv1, -⟩ := own_slice ho1
     rw [Nat.zero_add] at hv1
     subst hv1
     have kb1 : w1.cell? ⟨w.heap.size, 8, none⟩ = some (.slice PA pn pcap) := cell_at hs1.box 8 rfl
     have fb1 := free_at hs1.box 8
     have hz1 : w.heap.size < w1.heap.size := by have := hs1.lt; omega
     have hs2 := hs1.store 8 (.slice A1 pn c1)
     have kn1_9 : (w1.setCell ⟨w.heap.size, 8, none⟩ (.slice A1 pn c1)).cell? ⟨w.heap.size, 9, none⟩ = some (.slice QA qn qcap) := cell_at hs2.box 9 rfl
     have fn1_9 := free_at hs2.box 9
     have kn1_10 : (w1.setCell ⟨w.heap.size, 8, none⟩ (.slice A1 pn c1)).cell? ⟨w.heap.size, 10, none⟩ = some (.slice RA rn rcap) := cell_at hs2.box 10 rfl
     have fn1_10 := free_at hs2.box 10
     have RW1 := Lib.hid (hr1.apart (Apart.setCell (F := fun q => q = w.heap.size) (Apart.refl _ w1) (p := ⟨w.heap.size, 8, none⟩) (.inl rfl) (.slice A1 pn c1)) (fun q e => by omega))
     have HS1 := Lib.hid hs2
     clear ho1 ha1 hb1 hs1 hs2 hr1 hbl)
  | (at_builtin
     refine wpList_append_s rfl (.tmp 8) (.tmp 10) _ rfl (w.heap.size + 2) 74 _ 6 40 Try.underlying23 infoQ rfl (by omega) _ 0 [] rfl (own_empty _ (w.heap.size + 2) _ 6 _ (by simp) (by have := HS1.out.lt; simp at this ⊢ <;> omega)) QA qn qcap (itemsV portVals ports) rfl (by rw [itemsV_length portVals_len, Hql.out]) ?n2 (itemsV_oneCell portVals_one _) (by unfold maxLen; omega) (by omega) (by have := HS1.out.lt; simp at this ⊢ <;> omega) ?_
     case n2 => exact fun hn => (HQ.out _ (HS1.out.bel.alloc (by have := HS1.out.lt; simp at this ⊢ <;> omega) _)).news portVals_len (by omega) (by rw [Hql.out]; exact hn)
     intro v2 w2 ho2 ha2 hb2
     have hap2 : Apart (fun k => w1.heap.size = k) _ w2 := ha2.mono (fun k _ e => Option.some.inj e)
     have hbl := below_app (W := (w1.setCell ⟨w.heap.size, 8, none⟩ (.slice A1 pn c1))) (by simp) hap2
     clear hap2
     have hs1 := HS1.out.step hbl
     have hr1 : OwnI portVals 6 74 (w.heap.size + 2) v2 ports w2 := ⟨by rw [Hql.out]; simpa using ho2⟩
     obtain ⟨A2, c2, hv2, -⟩ := own_slice ho2
     rw [Nat.zero_add] at hv2
     subst hv2
     have kb2 : w2.cell? ⟨w.heap.size, 9, none⟩ = some (.slice QA qn qcap) := cell_at hs1.box 9 rfl
     have fb2 := free_at hs1.box 9
     have hz2 : w.heap.size < w2.heap.size := by have := hs1.lt; omega
     have hs2 := hs1.store 9 (.slice A2 qn c2)
     have kn2_10 : (w2.setCell ⟨w.heap.size, 9, none⟩ (.slice A2 qn c2)).cell? ⟨w.heap.size, 10, none⟩ = some (.slice RA rn rcap) := cell_at hs2.box 10 rfl
     have fn2_10 := free_at hs2.box 10
     have RW2 := Lib.hid (hr1.apart (Apart.setCell (F := fun q => q = w.heap.size) (Apart.refl _ w2) (p := ⟨w.heap.size, 9, none⟩) (.inl rfl) (.slice A2 qn c2)) (fun q e => by omega))
     have RW1n := (RW1.out.apart (F := fun _ => False) (Apart.of_below' hbl) (fun _ h => h.elim)).apart (Apart.setCell (F := fun q => q = w.heap.size) (Apart.refl _ w2) (p := ⟨w.heap.size, 9, none⟩) (.inl rfl) (.slice A2 qn c2)) (fun q e => by omega)
     clear RW1
     have RW1 := Lib.hid RW1n
     clear RW1n
     have HS2 := Lib.hid hs2
     clear ho2 ha2 hb2 hs1 hs2 hr1 hbl)
  | (at_builtin
     refine wpList_append_s rfl (.tmp 13) (.tmp 15) _ rfl (w.heap.size + 2) 76 _ 2 16 Try.underlying24 infoR rfl (by omega) _ 0 [] rfl (own_empty _ (w.heap.size + 2) _ 2 _ (by simp) (by have := HS2.out.lt; simp at this ⊢ <;> omega)) RA rn rcap (itemsV routeVals routes) rfl (by rw [itemsV_length routeVals_len, Hrl.out]) ?n3 (itemsV_oneCell routeVals_one _) (by unfold maxLen; omega) (by omega) (by have := HS2.out.lt; simp at this ⊢ <;> omega) ?_
     case n3 => exact fun hn => (HR.out _ (HS2.out.bel.alloc (by have := HS2.out.lt; simp at this ⊢ <;> omega) _)).news routeVals_len (by omega) (by rw [Hrl.out]; exact hn)
     intro v3 w3 ho3 ha3 hb3
     have hap3 : Apart (fun k => w2.heap.size = k) _ w3 := ha3.mono (fun k _ e => Option.some.inj e)
     have hbl := below_app (W := (w2.setCell ⟨w.heap.size, 9, none⟩ (.slice A2 qn c2))) (by simp) hap3
     clear hap3
     have hs1 := HS2.out.step hbl
     have hr1 : OwnI routeVals 2 76 (w.heap.size + 2) v3 routes w3 := ⟨by rw [Hrl.out]; simpa using ho3⟩
     obtain ⟨A3, c3, hv3, -⟩ := own_slice ho3
     rw [Nat.zero_add] at hv3
     subst hv3
     have kb3 : w3.cell? ⟨w.heap.size, 10, none⟩ = some (.slice RA rn rcap) := cell_at hs1.box 10 rfl
     have fb3 := free_at hs1.box 10
     have hz3 : w.heap.size < w3.heap.size := by have := hs1.lt; omega
     have hs2 := hs1.store 10 (.slice A3 rn c3)
     have kn3_0 : (w3.setCell ⟨w.heap.size, 10, none⟩ (.slice A3 rn c3)).cell? ⟨w.heap.size, 0, none⟩ = some (.int .i64 nodes) := cell_at hs2.box 0 rfl
     have fn3_0 := free_at hs2.box 0
     have kn3_1 : (w3.setCell ⟨w.heap.size, 10, none⟩ (.slice A3 rn c3)).cell? ⟨w.heap.size, 1, none⟩ = some (.int .i64 faulty) := cell_at hs2.box 1 rfl
     have fn3_1 := free_at hs2.box 1
     have kn3_2 : (w3.setCell ⟨w.heap.size, 10, none⟩ (.slice A3 rn c3)).cell? ⟨w.heap.size, 2, none⟩ = some (.int .i64 slot) := cell_at hs2.box 2 rfl
     have fn3_2 := free_at hs2.box 2
     have kn3_3 : (w3.setCell ⟨w.heap.size, 10, none⟩ (.slice A3 rn c3)).cell? ⟨w.heap.size, 3, none⟩ = some (.int .i64 gap) := cell_at hs2.box 3 rfl
     have fn3_3 := free_at hs2.box 3
     have kn3_4 : (w3.setCell ⟨w.heap.size, 10, none⟩ (.slice A3 rn c3)).cell? ⟨w.heap.size, 4, none⟩ = some (.int .i64 rho) := cell_at hs2.box 4 rfl
     have fn3_4 := free_at hs2.box 4
     have kn3_5 : (w3.setCell ⟨w.heap.size, 10, none⟩ (.slice A3 rn c3)).cell? ⟨w.heap.size, 5, none⟩ = some (.int .i64 dmin) := cell_at hs2.box 5 rfl
     have fn3_5 := free_at hs2.box 5
     have kn3_6 : (w3.setCell ⟨w.heap.size, 10, none⟩ (.slice A3 rn c3)).cell? ⟨w.heap.size, 6, none⟩ = some (.int .i64 dmax) := cell_at hs2.box 6 rfl
     have fn3_6 := free_at hs2.box 6
     have kn3_7 : (w3.setCell ⟨w.heap.size, 10, none⟩ (.slice A3 rn c3)).cell? ⟨w.heap.size, 7, none⟩ = some (.int .i64 margin) := cell_at hs2.box 7 rfl
     have fn3_7 := free_at hs2.box 7
     have kn3_8 : (w3.setCell ⟨w.heap.size, 10, none⟩ (.slice A3 rn c3)).cell? ⟨w.heap.size, 8, none⟩ = some (.slice A1 pn c1) := cell_at hs2.box 8 rfl
     have fn3_8 := free_at hs2.box 8
     have kn3_9 : (w3.setCell ⟨w.heap.size, 10, none⟩ (.slice A3 rn c3)).cell? ⟨w.heap.size, 9, none⟩ = some (.slice A2 qn c2) := cell_at hs2.box 9 rfl
     have fn3_9 := free_at hs2.box 9
     have kn3_10 : (w3.setCell ⟨w.heap.size, 10, none⟩ (.slice A3 rn c3)).cell? ⟨w.heap.size, 10, none⟩ = some (.slice A3 rn c3) := cell_at hs2.box 10 rfl
     have fn3_10 := free_at hs2.box 10
     have RW3 := Lib.hid (hr1.apart (Apart.setCell (F := fun q => q = w.heap.size) (Apart.refl _ w3) (p := ⟨w.heap.size, 10, none⟩) (.inl rfl) (.slice A3 rn c3)) (fun q e => by omega))
     have RW1n := (RW1.out.apart (F := fun _ => False) (Apart.of_below' hbl) (fun _ h => h.elim)).apart (Apart.setCell (F := fun q => q = w.heap.size) (Apart.refl _ w3) (p := ⟨w.heap.size, 10, none⟩) (.inl rfl) (.slice A3 rn c3)) (fun q e => by omega)
     clear RW1
     have RW1 := Lib.hid RW1n
     clear RW1n
     have RW2n := (RW2.out.apart (F := fun _ => False) (Apart.of_below' hbl) (fun _ h => h.elim)).apart (Apart.setCell (F := fun q => q = w.heap.size) (Apart.refl _ w3) (p := ⟨w.heap.size, 10, none⟩) (.inl rfl) (.slice A3 rn c3)) (fun q e => by omega)
     clear RW2
     have RW2 := Lib.hid RW2n
     clear RW2n
     have fr := fun i => free_at hs2.res i
     have r0 := cell_at hs2.res 0 rfl
     have r1 := cell_at hs2.res 1 rfl
     have r2 := cell_at hs2.res 2 rfl
     have r3 := cell_at hs2.res 3 rfl
     have r4 := cell_at hs2.res 4 rfl
     have r5 := cell_at hs2.res 5 rfl
     have r6 := cell_at hs2.res 6 rfl
     have r7 := cell_at hs2.res 7 rfl
     have r8 := cell_at hs2.res 8 rfl
     have r9 := cell_at hs2.res 9 rfl
     have r10 := cell_at hs2.res 10 rfl
     have HS3 := Lib.hid hs2
     clear ho3 ha3 hb3 hs1 hs2 hr1 hbl)
  | fail)
  show bodyPost _ _ _ _ _ (storeAll (w3.setCell ⟨w.heap.size, 10, none⟩ (.slice A3 rn c3)) (w.heap.size + 1) [.int .i64 nodes, .int .i64 faulty, .int .i64 slot, .int .i64 gap, .int .i64 rho, .int .i64 dmin, .int .i64 dmax, .int .i64 margin, .slice A1 pn c1, .slice A2 qn c2, .slice A3 rn c3] 0)
  have hfin := storeAll_heap (b := w.heap.size + 1) (t := 26) [.int .i64 nodes, .int .i64 faulty, .int .i64 slot, .int .i64 gap, .int .i64 rho, .int .i64 dmin, .int .i64 dmax, .int .i64 margin, .slice A1 pn c1, .slice A2 qn c2, .slice A3 rn c3] 0 (w3.setCell ⟨w.heap.size, 10, none⟩ (.slice A3 rn c3)) [] [_, _, _, _, _, _, _, _, _, _, _] HS3.out.res rfl rfl
  rw [List.nil_append] at hfin
  have hap := storeAll_apart (w.heap.size + 1) [.int .i64 nodes, .int .i64 faulty, .int .i64 slot, .int .i64 gap, .int .i64 rho, .int .i64 dmin, .int .i64 dmax, .int .i64 margin, .slice A1 pn c1, .slice A2 qn c2, .slice A3 rn c3] 0 (w3.setCell ⟨w.heap.size, 10, none⟩ (.slice A3 rn c3))
  have HFin : Hid (CopiedOwn (CfgC.plain ⟨nodes, faulty, slot, gap, rho, dmin, dmax, margin, PA, pn, pcap, parts, QA, qn, qcap, ports, RA, rn, rcap, routes⟩) w (.returned (CfgC.value ⟨nodes, faulty, slot, gap, rho, dmin, dmax, margin, A1, pn, c1, parts, A2, qn, c2, ports, A3, rn, c3, routes⟩)) (storeAll (w3.setCell ⟨w.heap.size, 10, none⟩ (.slice A3 rn c3)) (w.heap.size + 1) [.int .i64 nodes, .int .i64 faulty, .int .i64 slot, .int .i64 gap, .int .i64 rho, .int .i64 dmin, .int .i64 dmax, .int .i64 margin, .slice A1 pn c1, .slice A2 qn c2, .slice A3 rn c3] 0)) := Lib.hid (by
    have o1 := RW1.out.apart hap (fun q e => by omega)
    have o2 := RW2.out.apart hap (fun q e => by omega)
    have o3 := RW3.out.apart hap (fun q e => by omega)
    obtain ⟨p1, p2⟩ := items_own' partVals_len o1 Hpl.out
    obtain ⟨q1, q2⟩ := items_own' portVals_len o2 Hql.out
    obtain ⟨r1, r2⟩ := items_own' routeVals_len o3 Hrl.out
    exact ⟨⟨nodes, faulty, slot, gap, rho, dmin, dmax, margin, A1, pn, c1, parts, A2, qn, c2, ports, A3, rn, c3, routes⟩, rfl, ⟨p2, Hpl.out, p1, by simp only; omega, q2, Hql.out, q1, by simp only; omega, r2, Hrl.out, r1, by simp only; omega⟩, rfl, o1, o2, o3, HS3.out.bel.trans (hap.below (by have := HS3.out.lt; omega) (fun q e => by omega))⟩)
  generalize storeAll (w3.setCell ⟨w.heap.size, 10, none⟩ (.slice A3 rn c3)) (w.heap.size + 1) [.int .i64 nodes, .int .i64 faulty, .int .i64 slot, .int .i64 gap, .int .i64 rho, .int .i64 dmin, .int .i64 dmax, .int .i64 margin, .slice A1 pn c1, .slice A2 qn c2, .slice A3 rn c3] 0 = Wf at *
  have z0 := cell_at hfin 0 rfl
  have z1 := cell_at hfin 1 rfl
  have z2 := cell_at hfin 2 rfl
  have z3 := cell_at hfin 3 rfl
  have z4 := cell_at hfin 4 rfl
  have z5 := cell_at hfin 5 rfl
  have z6 := cell_at hfin 6 rfl
  have z7 := cell_at hfin 7 rfl
  have z8 := cell_at hfin 8 rfl
  have z9 := cell_at hfin 9 rfl
  have z10 := cell_at hfin 10 rfl
  refine bodyPost_ret (v := CfgC.value ⟨nodes, faulty, slot, gap, rho, dmin, dmax, margin, A1, pn, c1, parts, A2, qn, c2, ports, A3, rn, c3, routes⟩) (by simp [results, Try.results10, go_sem, CfgC.value, z0, z1, z2, z3, z4, z5, z6, z7, z8, z9, z10]) rfl ?_
  exact HFin.out
theorem copied_any (x : CfgC) (w : World) (h : CfgIn w x) (hp : x.pn ≤ 1000000) (hq : x.qn ≤ 1000000) (hr : x.rn ≤ 1000000) :
    Calls Try.prog 10 #[x.value] w (CopiedPost x.plain w) :=
  (copied_own x w h hp hq hr).mono fun _ _ ⟨x3, h1, h2, h3, _, _, _, h4⟩ => ⟨_, h1, ⟨x3, rfl, h2, h3⟩, h4⟩
end Go.Proofs.Ytodkcenoljpgoaa
