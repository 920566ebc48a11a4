/- Contracts of the document's Reach and SameInts. Conditions: the tables are allowed; both slices say the same. -/
import Derived.Test.YtpfhkcikjenjiaaSndWa
import Derived.Deep.OwnRows
import Derived.BigQuiet
namespace Go.Proofs.Ytpfhkcikjenjiaa
open Go.RowKit
set_option maxRecDepth 100000

theorem own_high {w : World} {B B' e size n c g : Nat} {xs : List Value} (h : w.ownsRow B e size (.slice (some ⟨g, 0, none⟩) n c) n xs) (hb : B' ≤ g) : w.ownsRow B' e size (.slice (some ⟨g, 0, none⟩) n c) n xs :=
  ⟨h.1, h.2.imp id fun ⟨g', cap, cur, h1, _, h3⟩ => ⟨g', cap, cur, h1, by simp at h1; omega, h3⟩⟩

set_option maxHeartbeats 4000000 in
theorem refreach_out (x : CfgC) (part : Int) (w : World) (h : CfgIn w x) (ha : SndP.Allowed x.plain) (hp : ¬ (0 ≤ part ∧ part < x.pn)) :
    Calls Try.prog 28 #[x.value, .int .i64 part] w (ReachPost x.pn (fun bl => bl = List.replicate x.pn false) w) := by
  have hp12 : x.pn ≤ 12 := by have h1 : x.parts.length ≤ 12 := ha.parts; have := h.plen; omega
  have hst := BoxS.start w x
  have HF : Hid (ReachPost x.pn (fun bl => bl = List.replicate x.pn false) w (.returned (.slice (some ⟨(boxC w x).heap.size, 0, none⟩) x.pn x.pn)) ((boxC w x).alloc (.cells (madeCells #[.bool false] x.pn) 4))) := Lib.hid (by
    refine ⟨_, _, rfl, by simp, rfl, ?_, (hst.alloc _).below⟩
    have h1 := World.ownsRow_lit (e := 4) (size := 1) (base := w.heap.size + 1) (boxC w x) (madeCells #[.bool false] x.pn) x.pn (by rw [boxC_size]; omega) (by unfold maxLen; omega) (by have := congrArg List.length (toList_madeCells_one (.bool false) x.pn); simpa using this)
    rw [toList_madeCells_one] at h1
    simpa [bitV] using h1)
  clear h ha
  obtain ⟨nodes, faulty, slot, gap, rho, dmin, dmax, margin, PA, pn, pcap, parts, QA, qn, qcap, ports, RA, rn, rcap, routes⟩ := x
  have d0 := fun W (hW : BoxS w ⟨nodes, faulty, slot, gap, rho, dmin, dmax, margin, PA, pn, pcap, parts, QA, qn, qcap, ports, RA, rn, rcap, routes⟩ W) => hW.cells.c0
  have d1 := fun W (hW : BoxS w ⟨nodes, faulty, slot, gap, rho, dmin, dmax, margin, PA, pn, pcap, parts, QA, qn, qcap, ports, RA, rn, rcap, routes⟩ W) => hW.cells.c1
  have d2 := fun W (hW : BoxS w ⟨nodes, faulty, slot, gap, rho, dmin, dmax, margin, PA, pn, pcap, parts, QA, qn, qcap, ports, RA, rn, rcap, routes⟩ W) => hW.cells.c2
  have d3 := fun W (hW : BoxS w ⟨nodes, faulty, slot, gap, rho, dmin, dmax, margin, PA, pn, pcap, parts, QA, qn, qcap, ports, RA, rn, rcap, routes⟩ W) => hW.cells.c3
  have d4 := fun W (hW : BoxS w ⟨nodes, faulty, slot, gap, rho, dmin, dmax, margin, PA, pn, pcap, parts, QA, qn, qcap, ports, RA, rn, rcap, routes⟩ W) => hW.cells.c4
  have d5 := fun W (hW : BoxS w ⟨nodes, faulty, slot, gap, rho, dmin, dmax, margin, PA, pn, pcap, parts, QA, qn, qcap, ports, RA, rn, rcap, routes⟩ W) => hW.cells.c5
  have d6 := fun W (hW : BoxS w ⟨nodes, faulty, slot, gap, rho, dmin, dmax, margin, PA, pn, pcap, parts, QA, qn, qcap, ports, RA, rn, rcap, routes⟩ W) => hW.cells.c6
  have d7 := fun W (hW : BoxS w ⟨nodes, faulty, slot, gap, rho, dmin, dmax, margin, PA, pn, pcap, parts, QA, qn, qcap, ports, RA, rn, rcap, routes⟩ W) => hW.cells.c7
  have d8 := fun W (hW : BoxS w ⟨nodes, faulty, slot, gap, rho, dmin, dmax, margin, PA, pn, pcap, parts, QA, qn, qcap, ports, RA, rn, rcap, routes⟩ W) => hW.cells.c8
  have d9 := fun W (hW : BoxS w ⟨nodes, faulty, slot, gap, rho, dmin, dmax, margin, PA, pn, pcap, parts, QA, qn, qcap, ports, RA, rn, rcap, routes⟩ W) => hW.cells.c9
  have d10 := fun W (hW : BoxS w ⟨nodes, faulty, slot, gap, rho, dmin, dmax, margin, PA, pn, pcap, parts, QA, qn, qcap, ports, RA, rn, rcap, routes⟩ W) => hW.cells.c10
  have k0 := d0 _ hst
  have k1 := d1 _ hst
  have k2 := d2 _ hst
  have k3 := d3 _ hst
  have k4 := d4 _ hst
  have k5 := d5 _ hst
  have k6 := d6 _ hst
  have k7 := d7 _ hst
  have k8 := d8 _ hst
  have k9 := d9 _ hst
  have k10 := d10 _ hst
  simp only at d0 d1 d2 d3 d4 d5 d6 d7 d8 d9 d10 k0 k1 k2 k3 k4 k5 k6 k7 k8 k9 k10 hp hp12
  simp only [boxC, cfgCells] at k0 k1 k2 k3 k4 k5 k6 k7 k8 k9 k10 HF
  rw [show (w.alloc (.cells #[.int .i64 nodes, .int .i64 faulty, .int .i64 slot, .int .i64 gap, .int .i64 rho, .int .i64 dmin, .int .i64 dmax, .int .i64 margin, .slice PA pn pcap, .slice QA qn qcap, .slice RA rn rcap] 26)).heap.size = w.heap.size + 1 from Array.size_push _] at HF
  simp only [CfgC.value]
  have hmk := fun W => run_make_row' (P := Try.prog) 38 4 (.bool false) 1 Try.underlying38 infoB1 rfl .i64 .i64 pn (by omega) (by omega) W
  clear hst d0 d1 d2 d3 d4 d5 d6 d7 d8 d9 d10
  by_cases h1 : 0 ≤ part
  case neg =>
    have z1 : decide (0 ≤ part) = false := decide_eq_false h1
    clear h1
    go_enter Try.func28, Try.ntmps28
    go_wp2_with fail
    go_ret
    exact HF.out
  have z1 : decide (0 ≤ part) = true := decide_eq_true h1
  have z2 : decide (part < (pn : Int)) = false := decide_eq_false (by omega)
  clear h1
  go_enter Try.func28, Try.ntmps28
  go_wp2_with fail
  go_ret
  exact HF.out

set_option maxHeartbeats 4000000 in
theorem refreach_in (x : CfgC) (part : Nat) (w : World) (h : CfgIn w x) (ha : SndP.Allowed x.plain) (hp : part < x.pn) :
    Calls Try.prog 28 #[x.value, .int .i64 (part : Nat)] w (ReachPost x.pn (RchP.Says (RchP.edges x.plain) x.pn part) w) := by
  have hp12 : x.pn ≤ 12 := by have h1 : x.parts.length ≤ 12 := ha.parts; have := h.plen; omega
  have hst := BoxS.start w x
  have Hown : Hid (((boxC w x).alloc (.cells (madeCells #[.bool false] x.pn) 4)).ownsRow w.heap.size 4 1 (.slice (some ⟨(boxC w x).heap.size, 0, none⟩) x.pn x.pn) x.pn (bitV (List.replicate x.pn false))) := Lib.hid (by
    have h1 := World.ownsRow_lit (e := 4) (size := 1) (base := w.heap.size) (boxC w x) (madeCells #[.bool false] x.pn) x.pn (by rw [boxC_size]; omega) (by unfold maxLen; omega) (by have := congrArg List.length (toList_madeCells_one (.bool false) x.pn); simpa using this)
    rw [toList_madeCells_one] at h1
    simpa [bitV] using h1)
  have Hb := Lib.hid (hst.alloc (.cells (madeCells #[.bool false] x.pn) 4)).below
  have HWk := Lib.hid (walk_any x w h ha (boxC w x).heap.size x.pn part (List.replicate x.pn false) _ hp (by simp) (by rw [bare_rep]; omega) Hb.out Hown.out)
  have HFin : Hid (∀ W' bl2, Apart (fun q => q = (boxC w x).heap.size) ((boxC w x).alloc (.cells (madeCells #[.bool false] x.pn) 4)) W' → W'.ownsRow w.heap.size 4 1 (.slice (some ⟨(boxC w x).heap.size, 0, none⟩) x.pn x.pn) x.pn (bitV bl2) → RchP.Dfs (RchP.edges x.plain) part (List.replicate x.pn false) bl2 →
      ReachPost x.pn (RchP.Says (RchP.edges x.plain) x.pn part) w (.returned (.slice (some ⟨(boxC w x).heap.size, 0, none⟩) x.pn x.pn)) W') := Lib.hid fun W' bl2 h1 h2 h3 =>
    ⟨_, bl2, rfl, h3.says.1, h3.says, own_high h2 (by rw [boxC_size]; omega), Hb.out.trans (h1.below Hb.out.size (fun q hq => by rw [hq, boxC_size]; omega))⟩
  generalize RchP.edges x.plain = E at *
  clear h ha Hown Hb
  obtain ⟨nodes, faulty, slot, gap, rho, dmin, dmax, margin, PA, pn, pcap, parts, QA, qn, qcap, ports, RA, rn, rcap, routes⟩ := x
  have d0 := fun W (hW : BoxS w ⟨nodes, faulty, slot, gap, rho, dmin, dmax, margin, PA, pn, pcap, parts, QA, qn, qcap, ports, RA, rn, rcap, routes⟩ W) => hW.cells.c0
  have d1 := fun W (hW : BoxS w ⟨nodes, faulty, slot, gap, rho, dmin, dmax, margin, PA, pn, pcap, parts, QA, qn, qcap, ports, RA, rn, rcap, routes⟩ W) => hW.cells.c1
  have d2 := fun W (hW : BoxS w ⟨nodes, faulty, slot, gap, rho, dmin, dmax, margin, PA, pn, pcap, parts, QA, qn, qcap, ports, RA, rn, rcap, routes⟩ W) => hW.cells.c2
  have d3 := fun W (hW : BoxS w ⟨nodes, faulty, slot, gap, rho, dmin, dmax, margin, PA, pn, pcap, parts, QA, qn, qcap, ports, RA, rn, rcap, routes⟩ W) => hW.cells.c3
  have d4 := fun W (hW : BoxS w ⟨nodes, faulty, slot, gap, rho, dmin, dmax, margin, PA, pn, pcap, parts, QA, qn, qcap, ports, RA, rn, rcap, routes⟩ W) => hW.cells.c4
  have d5 := fun W (hW : BoxS w ⟨nodes, faulty, slot, gap, rho, dmin, dmax, margin, PA, pn, pcap, parts, QA, qn, qcap, ports, RA, rn, rcap, routes⟩ W) => hW.cells.c5
  have d6 := fun W (hW : BoxS w ⟨nodes, faulty, slot, gap, rho, dmin, dmax, margin, PA, pn, pcap, parts, QA, qn, qcap, ports, RA, rn, rcap, routes⟩ W) => hW.cells.c6
  have d7 := fun W (hW : BoxS w ⟨nodes, faulty, slot, gap, rho, dmin, dmax, margin, PA, pn, pcap, parts, QA, qn, qcap, ports, RA, rn, rcap, routes⟩ W) => hW.cells.c7
  have d8 := fun W (hW : BoxS w ⟨nodes, faulty, slot, gap, rho, dmin, dmax, margin, PA, pn, pcap, parts, QA, qn, qcap, ports, RA, rn, rcap, routes⟩ W) => hW.cells.c8
  have d9 := fun W (hW : BoxS w ⟨nodes, faulty, slot, gap, rho, dmin, dmax, margin, PA, pn, pcap, parts, QA, qn, qcap, ports, RA, rn, rcap, routes⟩ W) => hW.cells.c9
  have d10 := fun W (hW : BoxS w ⟨nodes, faulty, slot, gap, rho, dmin, dmax, margin, PA, pn, pcap, parts, QA, qn, qcap, ports, RA, rn, rcap, routes⟩ W) => hW.cells.c10
  have k0 := d0 _ hst
  have k1 := d1 _ hst
  have k2 := d2 _ hst
  have k3 := d3 _ hst
  have k4 := d4 _ hst
  have k5 := d5 _ hst
  have k6 := d6 _ hst
  have k7 := d7 _ hst
  have k8 := d8 _ hst
  have k9 := d9 _ hst
  have k10 := d10 _ hst
  have kb0 := fun o => d0 _ (hst.alloc o)
  have kb1 := fun o => d1 _ (hst.alloc o)
  have kb2 := fun o => d2 _ (hst.alloc o)
  have kb3 := fun o => d3 _ (hst.alloc o)
  have kb4 := fun o => d4 _ (hst.alloc o)
  have kb5 := fun o => d5 _ (hst.alloc o)
  have kb6 := fun o => d6 _ (hst.alloc o)
  have kb7 := fun o => d7 _ (hst.alloc o)
  have kb8 := fun o => d8 _ (hst.alloc o)
  have kb9 := fun o => d9 _ (hst.alloc o)
  have kb10 := fun o => d10 _ (hst.alloc o)
  simp only at d0 d1 d2 d3 d4 d5 d6 d7 d8 d9 d10 k0 k1 k2 k3 k4 k5 k6 k7 k8 k9 k10 kb0 kb1 kb2 kb3 kb4 kb5 kb6 kb7 kb8 kb9 kb10 hp hp12
  simp only [boxC, cfgCells] at k0 k1 k2 k3 k4 k5 k6 k7 k8 k9 k10 kb0 kb1 kb2 kb3 kb4 kb5 kb6 kb7 kb8 kb9 kb10 HWk HFin
  simp only [CfgC.value] at HWk ⊢
  rw [show (w.alloc (.cells #[.int .i64 nodes, .int .i64 faulty, .int .i64 slot, .int .i64 gap, .int .i64 rho, .int .i64 dmin, .int .i64 dmax, .int .i64 margin, .slice PA pn pcap, .slice QA qn qcap, .slice RA rn rcap] 26)).heap.size = w.heap.size + 1 from Array.size_push _] at HWk HFin
  have hmk := fun W => run_make_row' (P := Try.prog) 38 4 (.bool false) 1 Try.underlying38 infoB1 rfl .i64 .i64 pn (by omega) (by omega) W
  have z1 : decide ((0 : Int) ≤ (part : Int)) = true := decide_eq_true (by omega)
  have z2 : decide ((part : Int) < (pn : Int)) = true := decide_eq_true (by omega)
  have z2n : decide (part < pn) = true := decide_eq_true (by omega)
  clear hst d0 d1 d2 d3 d4 d5 d6 d7 d8 d9 d10
  go_enter Try.func28, Try.ntmps28
  go_wp2_with fail
  refine HWk.out.mono ?_
  rintro e w4 ⟨rfl, hA4, bl2, hO4, hD4⟩
  have HF := Lib.hid (HFin.out w4 bl2 hA4 hO4 hD4)
  clear HFin HWk hA4 hO4 hD4
  go_wp2_with fail
  go_ret
  exact HF.out

set_option maxHeartbeats 2000000 in
theorem same_any (L : List Nat) (hL : L.length ≤ 1000) (B B' : Nat) (v v' : Value) (w : World) (h : w.ownsRow B 3 1 v L.length (idxV L)) (h' : w.ownsRow B' 3 1 v' L.length (idxV L)) :
    Calls Try.prog 29 #[v, v'] w (BoolPost true w) := by
  obtain ⟨A, c, rfl, -⟩ := own_slice h
  obtain ⟨A', c', rfl, -⟩ := own_slice h'
  have H := Lib.hid h
  have H' := Lib.hid h'
  clear h h'
  generalize hn : L.length = n at *
  go_enter Try.func29, Try.ntmps29
  go_wp2_with fail
  go_loopw [5] (fun i wr => ∃ k, k ≤ n ∧ i = .int .i64 (k : Nat) ∧ Below w.heap.size w wr) (fun i _ => (n + 1 - intOf i).toNat)
  case atStart => exact ⟨0, Nat.zero_le _, rfl, Below.refl _ _⟩
  case round =>
    obtain ⟨k, hk, rfl, hb⟩ := hrel
    have Hb := Lib.hid hb
    by_cases hlt : k < n
    case pos =>
      obtain ⟨p, hp⟩ : ∃ y, L[k]? = some y := ⟨_, List.getElem?_eq_getElem (by omega)⟩
      obtain ⟨b1, e1, c1⟩ := ord_cell (own_keep H.out hb) hp hlt
      obtain ⟨b2, e2, c2⟩ := ord_cell (own_keep H'.out hb) hp hlt
      have u1 := fun W (hW : Below w.heap.size w W) => ord_cell (own_keep H.out hW) hp hlt
      have u2 := fun W (hW : Below w.heap.size w W) => ord_cell (own_keep H'.out hW) hp hlt
      subst e1 e2
      have v1 : ∀ W, Below w.heap.size w W → W.cell? ⟨b1, k, none⟩ = some (.int .i64 (p : Nat)) := fun W hW => by
        obtain ⟨b, e, c⟩ := u1 W hW
        cases e; exact c
      have v2 : ∀ W, Below w.heap.size w W → W.cell? ⟨b2, k, none⟩ = some (.int .i64 (p : Nat)) := fun W hW => by
        obtain ⟨b, e, c⟩ := u2 W hW
        cases e; exact c
      have hkz : (k : Int) < (n : Int) := by omega
      have hd0 := Below.drew hb
      clear u1 u2 H H' hp hb
      go_wp2_with fail
      refine wp_region_held_drew (S := fun W => Below w.heap.size w W) (by kernel_rfl) hd0 (fun _ => ?_)
      refine wpAnyH_take (i := 0) (oi := ?oo1) (v := ?vv1) ?ii1 (by kernel_rfl) ?ff1 (by kernel_rfl) ?qq1 (Or.inl ⟨?ww1, ?yy1⟩) hd0 ?rr1
      case ii1 => simp only [List.getElem?_toArray, List.getElem?_cons_zero]; rfl
      case ff1 => kernel_rfl
      case qq1 => exact fun _ _ _ h => h
      case ww1 => rfl
      case yy1 => intro W hW; go_simp <;> with_reducible rfl
      try simp only [Act.put, List.setIfInBounds_toArray, List.set_cons_zero, List.set_cons_succ]
      refine wpAnyH_take (i := 1) (oi := ?oo2) (v := ?vv2) ?ii2 (by kernel_rfl) ?ff2 (by kernel_rfl) ?qq2 (Or.inl ⟨?ww2, ?yy2⟩) hd0 ?rr2
      case ii2 => simp only [List.getElem?_toArray, List.getElem?_cons_succ, List.getElem?_cons_zero]; rfl
      case ff2 => kernel_rfl
      case qq2 => exact fun _ _ _ h => h
      case ww2 => rfl
      case yy2 => intro W hW; go_simp <;> with_reducible rfl
      try simp only [Act.put, List.setIfInBounds_toArray, List.set_cons_zero, List.set_cons_succ]
      refine wpAnyH_take (i := 2) (oi := ?oo3) (v := ?vv3) ?ii3 (by kernel_rfl) ?ff3 (by kernel_rfl) ?qq3 (Or.inl ⟨?ww3, ?yy3⟩) hd0 ?rr3
      case ii3 => simp only [List.getElem?_toArray, List.getElem?_cons_succ, List.getElem?_cons_zero]; rfl
      case ff3 => kernel_rfl
      case qq3 => exact fun _ _ _ h => h
      case ww3 => rfl
      case yy3 => intro W hW; go_simp <;> with_reducible rfl
      try simp only [Act.put, List.setIfInBounds_toArray, List.set_cons_zero, List.set_cons_succ]
      refine wpAnyH_take (i := 3) (oi := ?oo4) (v := ?vv4) ?ii4 (by kernel_rfl) ?ff4 (by kernel_rfl) ?qq4 (Or.inl ⟨?ww4, ?yy4⟩) hd0 ?rr4
      case ii4 => simp only [List.getElem?_toArray, List.getElem?_cons_succ, List.getElem?_cons_zero]; rfl
      case ff4 => kernel_rfl
      case qq4 => exact fun _ _ _ h => h
      case ww4 => rfl
      case yy4 => intro W hW; go_simp <;> with_reducible rfl
      try simp only [Act.put, List.setIfInBounds_toArray, List.set_cons_zero, List.set_cons_succ]
      refine wpAnyH_take (i := 4) (oi := ?oo5) (v := ?vv5) ?ii5 (by kernel_rfl) ?ff5 (by kernel_rfl) ?qq5 (Or.inl ⟨?ww5, ?yy5⟩) hd0 ?rr5
      case ii5 => simp only [List.getElem?_toArray, List.getElem?_cons_succ, List.getElem?_cons_zero]; rfl
      case ff5 => kernel_rfl
      case qq5 => exact fun _ _ _ h => h
      case ww5 => rfl
      case yy5 => intro W hW; go_simp <;> with_reducible rfl
      try simp only [Act.put, List.setIfInBounds_toArray, List.set_cons_zero, List.set_cons_succ]
      refine wpAnyH_take (i := 5) (oi := ?oo6) (v := ?vv6) ?ii6 (by kernel_rfl) ?ff6 (by kernel_rfl) ?qq6 (Or.inl ⟨?ww6, ?yy6⟩) hd0 ?rr6
      case ii6 => simp only [List.getElem?_toArray, List.getElem?_cons_succ, List.getElem?_cons_zero]; rfl
      case ff6 => kernel_rfl
      case qq6 => exact fun _ _ _ h => h
      case ww6 => rfl
      case yy6 => intro W hW; go_simp <;> with_reducible rfl
      try simp only [Act.put, List.setIfInBounds_toArray, List.set_cons_zero, List.set_cons_succ]
      refine wpAnyH_take (i := 6) (oi := ?oo7) (v := ?vv7) ?ii7 (by kernel_rfl) ?ff7 (by kernel_rfl) ?qq7 (Or.inl ⟨?ww7, ?yy7⟩) hd0 ?rr7
      case ii7 => simp only [List.getElem?_toArray, List.getElem?_cons_succ, List.getElem?_cons_zero]; rfl
      case ff7 => kernel_rfl
      case qq7 => exact fun _ _ _ h => h
      case ww7 => rfl
      case yy7 => intro W hW; go_simp <;> with_reducible rfl
      try simp only [Act.put, List.setIfInBounds_toArray, List.set_cons_zero, List.set_cons_succ]
      refine wpAnyH_take (i := 7) (oi := ?oo8) (v := ?vv8) ?ii8 (by kernel_rfl) ?ff8 (by kernel_rfl) ?qq8 (Or.inl ⟨?ww8, ?yy8⟩) hd0 ?rr8
      case ii8 => simp only [List.getElem?_toArray, List.getElem?_cons_succ, List.getElem?_cons_zero]; rfl
      case ff8 => kernel_rfl
      case qq8 => exact fun _ _ _ h => h
      case ww8 => rfl
      case yy8 => intro W hW; go_simp <;> with_reducible rfl
      try simp only [Act.put, List.setIfInBounds_toArray, List.set_cons_zero, List.set_cons_succ]
      refine wpAnyH_take (i := 8) (oi := ?oo9) (v := ?vv9) ?ii9 (by kernel_rfl) ?ff9 (by kernel_rfl) ?qq9 (Or.inl ⟨?ww9, ?yy9⟩) hd0 ?rr9
      case ii9 => simp only [List.getElem?_toArray, List.getElem?_cons_succ, List.getElem?_cons_zero]; rfl
      case ff9 => kernel_rfl
      case qq9 => exact fun _ _ _ h => h
      case ww9 => rfl
      case yy9 => intro W hW; go_simp <;> with_reducible rfl
      try simp only [Act.put, List.setIfInBounds_toArray, List.set_cons_zero, List.set_cons_succ]
      refine wpAnyH_done (by kernel_rfl) ?_ _
      go_wp2_with fail
      go_roundw
      case rel => exact ⟨k + 1, by omega, by go_num, hd0⟩
      case measure => simp [intOf]; omega
    have hkn : n = k := by omega
    clear H H' hb
    subst hkn
    go_wp2_with fail
    go_ret
    exact ⟨rfl, Hb.out⟩
end Go.Proofs.Ytpfhkcikjenjiaa
