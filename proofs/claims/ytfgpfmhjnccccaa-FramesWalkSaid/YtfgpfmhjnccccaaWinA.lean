/- Contracts of a node's windows (chapter 17): Windows, At, Next, Idle at any tables that work. Conditions: where their lists lie. -/
import Derived.Test.YtfgpfmhjnccccaaSndOr
import Derived.Test.YtfgpfmhjnccccaaWinQ
namespace Go.Proofs.Ytfgpfmhjnccccaa
open Go.RowKit
set_option maxRecDepth 100000

def winVals (w : WinP.Win) : List Value := [.int .i64 (w.part : Nat), .int .i64 w.open_, .int .i64 w.close]
theorem winVals_len (w : WinP.Win) : (winVals w).length = 3 := rfl
theorem winVals_one (w : WinP.Win) : ∀ u ∈ winVals w, u.oneCell' = true := by
  intro u hu
  simp only [winVals, List.mem_cons, List.not_mem_nil, or_false] at hu
  rcases hu with rfl | rfl | rfl <;> rfl
theorem infoWin : (Try.prog.info? 41).map (fun i => (i.zero, i.size, i.bytes)) = some (some (.agg #[.int .i64 0, .int .i64 0, .int .i64 0]), 3, 24) := by kernel_rfl
/-- A row of windows of the call's own. -/
def WRow (W : World) (B : Nat) (v : Value) (l : List WinP.Win) : Prop := W.ownsRow B 41 3 v l.length (itemsV winVals l)
def WinPost (l : List WinP.Win) (w : World) (e : Ending) (w' : World) : Prop := ∃ v, e = .returned v ∧ WRow w' (w.heap.size + 1) v l ∧ Below w.heap.size w w'
theorem WRow.keep {W W' : World} {B : Nat} {v : Value} {l : List WinP.Win} (h : WRow W B v l) (hb : Below W.heap.size W W') : WRow W' B v l := own_keep h hb
/-- A window's three cells, in a row of windows. -/
theorem WRow.at_ {W : World} {B : Nat} {v : Value} {l : List WinP.Win} (h : WRow W B v l) {k : Nat} {x : WinP.Win} (hk : l[k]? = some x) : ∃ g c, v = .slice (some ⟨g, 0, none⟩) l.length c ∧ W.cell? ⟨g, k * 3, none⟩ = some (.int .i64 (x.part : Nat)) ∧ W.cell? ⟨g, k * 3 + 1, none⟩ = some (.int .i64 x.open_) ∧ W.cell? ⟨g, k * 3 + 2, none⟩ = some (.int .i64 x.close) := by
  obtain ⟨A, c, hv, -, hi⟩ := ItemsIn.own winVals_len h
  have hlt := (List.getElem?_eq_some_iff.1 hk).1
  obtain ⟨b, o, hA, -, hc⟩ := hi (by omega)
  have hb : v.ownBlock = some b := by rw [hv, hA]; rfl
  obtain ⟨c', hv', -⟩ := own_form h hb
  have e := hv.symm.trans hv'
  simp only [Value.slice.injEq, true_and] at e
  obtain ⟨e1, e2⟩ := e
  rw [hA] at e1
  simp only [Option.some.injEq, Addr.mk.injEq, true_and, and_true] at e1
  subst e1
  refine ⟨b, c, by rw [hv, hA], ?_, ?_, ?_⟩
  · have := hc k x hk 0 _ rfl; simpa using this
  · have := hc k x hk 1 _ rfl; simpa using this
  · have := hc k x hk 2 _ rfl; simpa using this

def WinR (w : World) (x : CfgC) (ov : Value) (L : List Nat) (v i : Value) (W : World) : Prop := ∃ k, k ≤ L.length ∧ i = .int .i64 (k : Nat) ∧ BoxS w x W ∧ W.ownsRow ((boxC w x).heap.size + 1) 3 1 ov L.length (idxV L) ∧ WRow W ((boxC w x).heap.size) v ((L.take k).map (WinP.winOf x.parts))
theorem win_more {w : World} {x : CfgC} {ov v v1 : Value} {L : List Nat} {k q : Nat} {W W0 W1 : World} (h : BoxS w x W) (ho : W.ownsRow ((boxC w x).heap.size + 1) 3 1 ov L.length (idxV L)) (hr : WRow W ((boxC w x).heap.size) v ((L.take k).map (WinP.winOf x.parts))) (hk : L[k]? = some q) (hb : Below W.heap.size W W0)
    (h1 : W1.ownsRow (boxC w x).heap.size 41 3 v1 (((L.take k).map (WinP.winOf x.parts)).length + 1) (itemsV winVals ((L.take k).map (WinP.winOf x.parts)) ++ winVals (WinP.winOf x.parts q))) (ha : Apart (fun z => v.ownBlock = some z) W0 W1) : WinR w x ov L v1 (.int .i64 ((k : Int) + 1)) W1 := by
  have hlt := (List.getElem?_eq_some_iff.1 hk).1
  have hr0 := hr.keep hb
  refine ⟨k + 1, hlt, by go_num, (h.step hb).trans (ha.below (h.step hb).size (fun z hz => (hr0.lt z hz).1)), ?_, ?_⟩
  · refine own_apart (own_keep ho hb) ha (fun z hz hz2 => ?_)
    exact own_tag6 (own_keep ho hb) hr0 (by decide) z hz hz2
  · have e1 : ((L.take (k + 1)).map (WinP.winOf x.parts)) = (L.take k).map (WinP.winOf x.parts) ++ [WinP.winOf x.parts q] := by rw [List.take_add_one, hk]; simp
    unfold WRow
    rw [e1, itemsV_append, itemsV_one', List.length_append]
    exact h1
theorem idx_at {W : World} {B : Nat} {v : Value} {L : List Nat} (h : W.ownsRow B 3 1 v L.length (idxV L)) {k q : Nat} (hk : L[k]? = some q) : ∃ g c, v = .slice (some ⟨g, 0, none⟩) L.length c ∧ W.cell? ⟨g, k, none⟩ = some (.int .i64 (q : Nat)) := by
  have hlt := (List.getElem?_eq_some_iff.1 hk).1
  rcases h.2 with ⟨-, h0⟩ | ⟨g, cap, cur, rfl, -⟩
  · omega
  · refine ⟨g, cap, rfl, ?_⟩
    rw [h.cellAt k (by omega)]
    simp [idxV, hk]

set_option maxHeartbeats 4000000 in
theorem windows_any (x : CfgC) (node : Int) (w : World) (h : CfgIn w x) (hwk : SndP.Works x.plain) :
    Calls Try.prog 12 #[x.value, .int .i64 node] w (WinPost (WinP.winsT x.plain node) w) := by
  have hpl := h.plen
  have hp12 : x.pn ≤ 12 := by have h1 : x.parts.length ≤ 12 := hwk.allowed.parts; omega
  have hst := BoxS.start w x
  have HCall := Lib.hid (order_any x node (boxC w x) (h.below (boxC_below w x)) hp12)
  have HL12 : Hid ((OrdP.ord x.parts node).length ≤ 12) := Lib.hid (by have := WinP.ord_len x.parts node; omega)
  have HPA := Lib.hid (fun W (hW : BoxS w x W) k p (hk : x.parts[k]? = some p) => parts_at (h.parts.below hW.below) hk)
  have HMem : Hid (∀ (k q : Nat), (OrdP.ord x.parts node)[k]? = some q → ∃ p, x.parts[q]? = some p ∧ q < x.pn ∧ WinP.winOf x.parts q = ⟨q, p.start, p.start + p.length⟩ ∧ 0 ≤ p.start ∧ 1 ≤ p.length ∧ p.start + p.length ≤ 1000000000) := Lib.hid fun k q hq => by
    obtain ⟨p, hp, -⟩ := WinP.ord_mem.1 (List.mem_of_getElem? hq)
    have := (List.getElem?_eq_some_iff.1 hp).1
    exact ⟨p, hp, by omega, WinP.win_at hp, WinP.part_fit hwk hp⟩
  have HEq : Hid ((OrdP.ord x.parts node).map (WinP.winOf x.parts) = WinP.winsT x.plain node) := Lib.hid rfl
  have HLow : Hid (∀ W, BoxS w x W → Below w.heap.size w W) := Lib.hid fun W hW => hW.below
  generalize WinP.winsT x.plain node = LW at *
  generalize OrdP.ord x.parts node = L at *
  clear h hwk hpl
  obtain ⟨nodes, faulty, slot, gap, rho, dmin, dmax, margin, PA, pn, pcap, parts, QA, qn, qcap, ports, RA, rn, rcap, routes⟩ := x
  obtain ⟨d0, d1, d2, d3, d4, d5, d6, d7, d8, d9, d10⟩ := cfgFacts (fun W (hW : BoxS w ⟨nodes, faulty, slot, gap, rho, dmin, dmax, margin, PA, pn, pcap, parts, QA, qn, qcap, ports, RA, rn, rcap, routes⟩ W) => hW.cells)
  obtain ⟨k0, k1, k2, k3, k4, k5, k6, k7, k8, k9, k10⟩ := eleven hst d0 d1 d2 d3 d4 d5 d6 d7 d8 d9 d10
  simp only at d0 d1 d2 d3 d4 d5 d6 d7 d8 d9 d10 k0 k1 k2 k3 k4 k5 k6 k7 k8 k9 k10 hp12 HPA HMem HEq HLow
  simp only [boxC, cfgCells] at HCall k0 k1 k2 k3 k4 k5 k6 k7 k8 k9 k10
  simp only [CfgC.value] at HCall ⊢
  go_enter Try.func12, Try.ntmps12
  go_wp2_with fail
  clear k0 k1 k2 k3 k4 k5 k6 k7 k8 k9 k10
  refine HCall.out.mono ?_
  rintro e w1 ⟨ov, rfl, ho, hb1⟩
  have hd1 := hst.step hb1
  have HR0 : Hid (WinR w ⟨nodes, faulty, slot, gap, rho, dmin, dmax, margin, PA, pn, pcap, parts, QA, qn, qcap, ports, RA, rn, rcap, routes⟩ ov L (.slice none 0 0) (.int .i64 0) w1) := Lib.hid ⟨0, Nat.zero_le _, rfl, hd1, by simpa [boxC, cfgCells] using ho, World.ownsRow_nil _ _ _ _⟩
  obtain ⟨OA, ocap, rfl, -⟩ := own_slice ho
  clear ho hb1 hd1 hst HCall
  go_wp2_with fail
  go_loopw [5, 13] (WinR w ⟨nodes, faulty, slot, gap, rho, dmin, dmax, margin, PA, pn, pcap, parts, QA, qn, qcap, ports, RA, rn, rcap, routes⟩ (.slice OA L.length ocap) L) (fun _ i _ => (L.length + 1 - intOf i).toNat)
  case atStart => exact HR0.out
  case round =>
    clear HR0
    obtain ⟨k, hk, rfl, hb, ho, hr⟩ := hrel
    have hl12 := HL12.out
    by_cases hlt : k < L.length
    case pos =>
      obtain ⟨q, hq⟩ : ∃ y, L[k]? = some y := ⟨_, List.getElem?_eq_getElem hlt⟩
      obtain ⟨p, hp, hqn, hwo, hp1, hp2, hp3⟩ := HMem.out k q hq
      obtain ⟨bp, op, ep, hbp, c0, c1, c2, c3, c4, c5, c6, c7, c8⟩ := HPA.out wr hb q p hp
      obtain ⟨go, oc, ev, hoc⟩ := idx_at ho hq
      simp only [Value.slice.injEq, true_and] at ev
      obtain ⟨rfl, rfl⟩ := ev
      have HM : Hid (∀ v1 W0 W1, Below wr.heap.size wr W0 → _ → _ → _) := Lib.hid (fun v1 W0 W1 hb0 h1 h2 => win_more (v1 := v1) (W0 := W0) (W1 := W1) hb ho hr hq hb0 h1 h2)
      obtain ⟨k0, k1, k2, k3, k4, k5, k6, k7, k8, k9, k10⟩ := eleven hb d0 d1 d2 d3 d4 d5 d6 d7 d8 d9 d10
      subst ep
      obtain ⟨node1, start, length, budget, words, r0, r1, r2, r3⟩ := p
      simp only at c0 c1 c2 c3 c4 c5 c6 c7 c8 hwo hp1 hp2 hp3 HM k8
      have e1 : IntKind.i64.wrap (start + length) = start + length := IntWalk.i64_in _ (by omega)
      have e2 : IntKind.i64.wrap ((k : Int) + 1) = (k : Int) + 1 := IntWalk.i64_in _ (by omega)
      have q1 : decide ((k : Int) < (L.length : Int)) = true := decide_eq_true (by omega)
      rw [hwo] at HM
      have Hr := Lib.hid (fun W (hW : Below wr.heap.size wr W) => hr.keep hW)
      have HB0 : Hid (∀ o1 o2, Below wr.heap.size wr ((wr.alloc o1).alloc o2)) := Lib.hid (fun o1 o2 => ((Below.refl wr.heap.size wr).alloc (Nat.le_refl _) o1).alloc (by simp) o2)
      have HSz : Hid ((boxC w ⟨nodes, faulty, slot, gap, rho, dmin, dmax, margin, some ⟨bp, op, none⟩, pn, pcap, parts, QA, qn, qcap, ports, RA, rn, rcap, routes⟩).heap.size ≤ wr.heap.size) := Lib.hid hb.size
      have HLt : Hid (((L.take k).map (WinP.winOf parts)).length = k) := Lib.hid (by rw [List.length_map, List.length_take]; omega)
      obtain ⟨vA, vc, rfl, -⟩ := own_slice hr
      clear hb ho hr hp hq hwo HMem HPA HEq HLow
      generalize (L.take k).map (WinP.winOf parts) = WL at *
      go_wp2_with (first
      | (at_builtin
         refine wpList_append_s rfl (.tmp 22) (.tmp 32) _ rfl (boxC w ⟨nodes, faulty, slot, gap, rho, dmin, dmax, margin, some ⟨bp, op, none⟩, pn, pcap, parts, QA, qn, qcap, ports, RA, rn, rcap, routes⟩).heap.size 41 _ 3 24 Try.underlying32 infoWin rfl (by omega) _ WL.length (itemsV winVals WL) rfl (Hr.out _ (HB0.out _ _)) (some ⟨wr.heap.size + 1, 0, none⟩) 1 1 (winVals ⟨q, start, start + length⟩) rfl rfl ?n1 (winVals_one _) (by unfold maxLen; rw [HLt.out]; omega) (by rw [HLt.out]; omega) (by have := HSz.out; simp; omega) ?_
         case n1 =>
           intro _
           refine ⟨_, rfl, ?_⟩
           intro j u hj
           refine laid_at _ _ _ _ ?_ j u hj
           simp
         intro v1 w9 ho1 ha1 hb1
         have HR1 : Hid (WinR w ⟨nodes, faulty, slot, gap, rho, dmin, dmax, margin, some ⟨bp, op, none⟩, pn, pcap, parts, QA, qn, qcap, ports, RA, rn, rcap, routes⟩ (.slice (some ⟨go, 0, none⟩) L.length ocap) L v1 (.int .i64 ((k : Int) + 1)) w9) := Lib.hid (HM.out v1 _ w9 (HB0.out _ _) ho1 ha1)
         clear ho1 ha1 hb1)
      | fail)
      go_roundw
      case rel => exact HR1.out
      case measure => simp [intOf]; omega
    have hkn : k = L.length := by omega
    subst hkn
    have q1 : decide ((L.length : Int) < (L.length : Int)) = false := decide_eq_false (by omega)
    rw [List.take_length, HEq.out] at hr
    have hbl := HLow.out _ hb
    obtain ⟨vA, vc, hv, -⟩ := own_slice hr
    subst hv
    have HF := Lib.hid hr
    clear hr hb ho HMem HPA HEq HLow
    go_wp2_with fail
    go_ret
    exact ⟨_, rfl, by simpa [boxC_size] using HF.out, hbl⟩

/-- The loop over a node's windows: so many have been looked at. -/
def WLoop (w : World) (x : CfgC) (v : Value) (l : List WinP.Win) (k : Nat) (i : Value) (W : World) : Prop := k ≤ l.length ∧ i = .int .i64 (k : Nat) ∧ BoxS w x W ∧ WRow W ((boxC w x).heap.size + 1) v l
def AtR (w : World) (x : CfgC) (v : Value) (l : List WinP.Win) (t : Int) (i : Value) (W : World) : Prop := ∃ k, WLoop w x v l k i W ∧ ∀ (j : Nat) (y : WinP.Win), j < k → l[j]? = some y → ¬ (y.open_ ≤ t ∧ t < y.close)
theorem WLoop.next {w : World} {x : CfgC} {v : Value} {l : List WinP.Win} {k : Nat} {i : Value} {W W' : World} (h : WLoop w x v l k i W) (hlt : k < l.length) (hb : Below W.heap.size W W') : WLoop w x v l (k + 1) (.int .i64 ((k : Int) + 1)) W' :=
  ⟨hlt, by go_num, h.2.2.1.step hb, h.2.2.2.keep hb⟩

set_option maxHeartbeats 4000000 in
theorem wat_any (x : CfgC) (node t : Int) (ht : -9223372036854775808 ≤ t ∧ t ≤ 9223372036854775807) (w : World) (h : CfgIn w x) (hwk : SndP.Works x.plain) :
    Calls Try.prog 14 #[x.value, .int .i64 node, .int .i64 t] w (IntPost (WinP.atT x.plain node t) w) := by
  have hst := BoxS.start w x
  have HL12 : Hid ((WinP.winsT x.plain node).length ≤ 12) := Lib.hid (by have h1 : x.parts.length ≤ 12 := hwk.allowed.parts; have h2 := WinP.wins_length x.plain node; exact Nat.le_trans h2 h1)
  have HLow : Hid (∀ W, BoxS w x W → Below w.heap.size w W) := Lib.hid fun W hW => hW.below
  have HCall := Lib.hid (windows_any x node (boxC w x) (h.below (boxC_below w x)) hwk)
  have HIn : Hid (∀ (k : Nat) (y : WinP.Win), (WinP.winsT x.plain node)[k]? = some y → (0 ≤ y.open_ ∧ y.open_ < y.close ∧ y.close ≤ 1000000000) ∧ ((y.open_ ≤ t ∧ t < y.close) → WinP.atT x.plain node t = (y.part : Int))) := Lib.hid fun k y hy => by
    have h1 := WinP.wins_fit hwk hy
    exact ⟨⟨h1.1, h1.2.1, h1.2.2.1⟩, fun h2 => WinP.wins_at (WinP.works_fit hwk) hy h2.1 h2.2⟩
  have HOut : Hid ((∀ (j : Nat) (y : WinP.Win), j < (WinP.winsT x.plain node).length → (WinP.winsT x.plain node)[j]? = some y → ¬ (y.open_ ≤ t ∧ t < y.close)) → WinP.atT x.plain node t = -1) := Lib.hid fun h1 => WinP.wat_none fun i y hy => h1 i y (List.getElem?_eq_some_iff.1 hy).1 hy
  generalize WinP.winsT x.plain node = L at *
  generalize WinP.atT x.plain node t = res at *
  clear h hwk
  obtain ⟨nodes, faulty, slot, gap, rho, dmin, dmax, margin, PA, pn, pcap, parts, QA, qn, qcap, ports, RA, rn, rcap, routes⟩ := x
  obtain ⟨d0, d1, d2, d3, d4, d5, d6, d7, d8, d9, d10⟩ := cfgFacts (fun W (hW : BoxS w ⟨nodes, faulty, slot, gap, rho, dmin, dmax, margin, PA, pn, pcap, parts, QA, qn, qcap, ports, RA, rn, rcap, routes⟩ W) => hW.cells)
  obtain ⟨k0, k1, k2, k3, k4, k5, k6, k7, k8, k9, k10⟩ := eleven hst d0 d1 d2 d3 d4 d5 d6 d7 d8 d9 d10
  simp only at d0 d1 d2 d3 d4 d5 d6 d7 d8 d9 d10 k0 k1 k2 k3 k4 k5 k6 k7 k8 k9 k10 HLow
  simp only [boxC, cfgCells] at HCall k0 k1 k2 k3 k4 k5 k6 k7 k8 k9 k10
  simp only [CfgC.value] at HCall ⊢
  go_enter Try.func14, Try.ntmps14
  go_wp2_with fail
  clear k0 k1 k2 k3 k4 k5 k6 k7 k8 k9 k10
  refine HCall.out.mono ?_
  rintro e w1 ⟨v, rfl, hr, hb1⟩
  have hd1 := hst.step hb1
  have HW0 : WLoop w ⟨nodes, faulty, slot, gap, rho, dmin, dmax, margin, PA, pn, pcap, parts, QA, qn, qcap, ports, RA, rn, rcap, routes⟩ v L 0 (.int .i64 0) w1 := ⟨Nat.zero_le _, rfl, hd1, by simpa [boxC, cfgCells] using hr⟩
  have HR0 : Hid (AtR w ⟨nodes, faulty, slot, gap, rho, dmin, dmax, margin, PA, pn, pcap, parts, QA, qn, qcap, ports, RA, rn, rcap, routes⟩ v L t (.int .i64 0) w1) := Lib.hid (⟨0, HW0, fun j y hj => absurd hj (by omega)⟩)
  obtain ⟨vA, vc, hv, -⟩ := own_slice hr
  subst hv
  clear hr hb1 hd1 hst HCall HW0
  go_wp2_with fail
  go_loopw [13] (AtR w ⟨nodes, faulty, slot, gap, rho, dmin, dmax, margin, PA, pn, pcap, parts, QA, qn, qcap, ports, RA, rn, rcap, routes⟩ (.slice vA L.length vc) L t) (fun i _ => (L.length + 1 - intOf i).toNat)
  case atStart => exact HR0.out
  case round =>
    clear HR0
    obtain ⟨k, hl, hno⟩ := hrel
    have hl' := hl
    obtain ⟨hk, rfl, hb, hr⟩ := hl'
    have hl12 := HL12.out
    by_cases hlt : k < L.length
    case pos =>
      obtain ⟨y, hy⟩ : ∃ y, L[k]? = some y := ⟨_, List.getElem?_eq_getElem hlt⟩
      obtain ⟨g, c, ev, c0, c1, c2⟩ := hr.at_ hy
      simp only [Value.slice.injEq, true_and] at ev
      obtain ⟨rfl, rfl⟩ := ev
      obtain ⟨⟨g1, g2, g3⟩, g4⟩ := HIn.out k y hy
      have q1 : decide ((k : Int) < (L.length : Int)) = true := decide_eq_true (by omega)
      have q0 : decide (k < L.length) = true := decide_eq_true hlt
      have e2 : IntKind.i64.wrap ((k : Int) + 1) = (k : Int) + 1 := IntWalk.i64_in _ (by omega)
      by_cases hin : y.open_ ≤ t ∧ t < y.close
      case pos =>
        have q2 : decide (y.open_ ≤ t) = true := decide_eq_true hin.1
        have q3 : decide (t < y.close) = true := decide_eq_true hin.2
        have HE := Lib.hid (g4 hin)
        have HF := Lib.hid (fun o => HLow.out _ (hb.step ((Below.refl wr.heap.size wr).alloc (Nat.le_refl _) o)))
        clear hl hr hb hno HIn HOut HLow hy g4
        go_wp2_with fail
        go_ret
        rw [HE.out]
        exact ⟨rfl, HF.out _⟩
      case neg =>
        have HR1 : Hid (∀ o, AtR w ⟨nodes, faulty, slot, gap, rho, dmin, dmax, margin, PA, pn, pcap, parts, QA, qn, qcap, ports, RA, rn, rcap, routes⟩ (.slice (some ⟨g, 0, none⟩) L.length vc) L t (.int .i64 ((k : Int) + 1)) (wr.alloc o)) := Lib.hid fun o => ⟨k + 1, hl.next hlt ((Below.refl wr.heap.size wr).alloc (Nat.le_refl _) o), fun j z hj hz => by
          rcases Nat.lt_succ_iff_lt_or_eq.1 hj with h1 | h1
          · exact hno j z h1 hz
          · subst h1
            rw [hy] at hz
            obtain rfl := Option.some.inj hz
            exact hin⟩
        by_cases h2 : y.open_ ≤ t
        case pos =>
          have q2 : decide (y.open_ ≤ t) = true := decide_eq_true h2
          have q3 : decide (t < y.close) = false := decide_eq_false fun h3 => hin ⟨h2, h3⟩
          clear hl hr hb hno HIn HOut HLow hy g4 hin
          go_wp2_with fail
          go_roundw
          case rel => exact HR1.out _
          case measure => simp [intOf]; omega
        case neg =>
          have q2 : decide (y.open_ ≤ t) = false := decide_eq_false h2
          clear hl hr hb hno HIn HOut HLow hy g4 hin
          go_wp2_with fail
          go_roundw
          case rel => exact HR1.out _
          case measure => simp [intOf]; omega
    have hkn : k = L.length := by omega
    subst hkn
    have q1 : decide ((L.length : Int) < (L.length : Int)) = false := decide_eq_false (by omega)
    have HE := Lib.hid (HOut.out hno)
    have HF := Lib.hid (HLow.out _ hb)
    clear hl hr hb hno HIn HOut HLow
    go_wp2_with fail
    go_ret
    rw [HE.out]
    exact ⟨rfl, HF.out⟩

def IdR (w : World) (x : CfgC) (v : Value) (l : List WinP.Win) (r : Int) (n i : Value) (W : World) : Prop := ∃ k s, WLoop w x v l k i W ∧ n = .int .i64 (r - s) ∧ s = WinP.lenSum (l.take k) ∧ 0 ≤ s ∧ s ≤ (k : Int) * 1000000000

set_option maxHeartbeats 4000000 in
theorem widle_any (x : CfgC) (node : Int) (w : World) (h : CfgIn w x) (hwk : SndP.Works x.plain) :
    Calls Try.prog 16 #[x.value, .int .i64 node] w (IntPost (WinP.idleT x.plain node) w) := by
  have hst := BoxS.start w x
  have HL12 : Hid ((WinP.winsT x.plain node).length ≤ 12) := Lib.hid (by have h1 : x.parts.length ≤ 12 := hwk.allowed.parts; have h2 := WinP.wins_length x.plain node; exact Nat.le_trans h2 h1)
  have HLow : Hid (∀ W, BoxS w x W → Below w.heap.size w W) := Lib.hid fun W hW => hW.below
  have HRd := Lib.hid (round_any x (boxC w x) hwk.allowed.head)
  have HCall : Hid (∀ W, BoxS w x W → Calls Try.prog 12 #[x.value, .int .i64 node] W (WinPost (WinP.winsT x.plain node) W)) := Lib.hid (fun W (hW : BoxS w x W) => windows_any x node W (h.below hW.below) hwk)
  have HIn : Hid (∀ (k : Nat) (y : WinP.Win), (WinP.winsT x.plain node)[k]? = some y → (0 ≤ y.open_ ∧ y.open_ < y.close ∧ y.close ≤ 1000000000) ∧ WinP.lenSum ((WinP.winsT x.plain node).take (k + 1)) = WinP.lenSum ((WinP.winsT x.plain node).take k) + (y.close - y.open_)) := Lib.hid fun k y hy => by
    have h1 := WinP.wins_fit hwk hy
    exact ⟨⟨h1.1, h1.2.1, h1.2.2.1⟩, WinP.wsum_take hy⟩
  have HOut : Hid (SndP.roundT x.plain - WinP.lenSum (WinP.winsT x.plain node) = WinP.idleT x.plain node) := Lib.hid (by rw [WinP.lens_sum]; rfl)
  have HBig : Hid (0 ≤ SndP.roundT x.plain ∧ SndP.roundT x.plain ≤ 1000000000) := Lib.hid (WinP.round_fit hwk)
  generalize WinP.winsT x.plain node = L at *
  generalize WinP.idleT x.plain node = res at *
  generalize SndP.roundT x.plain = rd at *
  clear h hwk
  obtain ⟨nodes, faulty, slot, gap, rho, dmin, dmax, margin, PA, pn, pcap, parts, QA, qn, qcap, ports, RA, rn, rcap, routes⟩ := x
  obtain ⟨d0, d1, d2, d3, d4, d5, d6, d7, d8, d9, d10⟩ := cfgFacts (fun W (hW : BoxS w ⟨nodes, faulty, slot, gap, rho, dmin, dmax, margin, PA, pn, pcap, parts, QA, qn, qcap, ports, RA, rn, rcap, routes⟩ W) => hW.cells)
  obtain ⟨k0, k1, k2, k3, k4, k5, k6, k7, k8, k9, k10⟩ := eleven hst d0 d1 d2 d3 d4 d5 d6 d7 d8 d9 d10
  simp only at d0 d1 d2 d3 d4 d5 d6 d7 d8 d9 d10 k0 k1 k2 k3 k4 k5 k6 k7 k8 k9 k10 HLow HCall
  simp only [boxC, cfgCells] at HRd k0 k1 k2 k3 k4 k5 k6 k7 k8 k9 k10
  simp only [CfgC.value] at HCall HRd ⊢
  go_enter Try.func16, Try.ntmps16
  go_wp2_with fail
  refine HRd.out.mono ?_
  rintro e w1 ⟨rfl, hb1⟩
  have hd1 := hst.step hb1
  clear k0 k1 k2 k3 k4 k5 k6 k7 k8 k9 k10 hb1 hst HRd
  obtain ⟨k0, k1, k2, k3, k4, k5, k6, k7, k8, k9, k10⟩ := eleven hd1 d0 d1 d2 d3 d4 d5 d6 d7 d8 d9 d10
  go_wp2_with fail
  clear k0 k1 k2 k3 k4 k5 k6 k7 k8 k9 k10
  refine (HCall.out _ hd1).mono ?_
  rintro e w2 ⟨v, rfl, hr, hb2⟩
  have hd2 := hd1.step hb2
  have hsz1 : (boxC w ⟨nodes, faulty, slot, gap, rho, dmin, dmax, margin, PA, pn, pcap, parts, QA, qn, qcap, ports, RA, rn, rcap, routes⟩).heap.size ≤ w1.heap.size := hd1.size
  have hr2 : WRow w2 ((boxC w ⟨nodes, faulty, slot, gap, rho, dmin, dmax, margin, PA, pn, pcap, parts, QA, qn, qcap, ports, RA, rn, rcap, routes⟩).heap.size + 1) v L := own_low hr (by omega)
  have HW0 : WLoop w ⟨nodes, faulty, slot, gap, rho, dmin, dmax, margin, PA, pn, pcap, parts, QA, qn, qcap, ports, RA, rn, rcap, routes⟩ v L 0 (.int .i64 0) w2 := ⟨Nat.zero_le _, rfl, hd2, hr2⟩
  have HR0 : Hid (IdR w ⟨nodes, faulty, slot, gap, rho, dmin, dmax, margin, PA, pn, pcap, parts, QA, qn, qcap, ports, RA, rn, rcap, routes⟩ v L rd (.int .i64 rd) (.int .i64 0) w2) := Lib.hid ⟨0, 0, HW0, by rw [Int.sub_zero], rfl, by omega, by omega⟩
  obtain ⟨vA, vc, hv, -⟩ := own_slice hr
  subst hv
  clear hr hr2 hb2 hd1 hd2 HCall HW0 hsz1
  go_wp2_with fail
  go_loopw [5, 14] (IdR w ⟨nodes, faulty, slot, gap, rho, dmin, dmax, margin, PA, pn, pcap, parts, QA, qn, qcap, ports, RA, rn, rcap, routes⟩ (.slice vA L.length vc) L rd) (fun _ i _ => (L.length + 1 - intOf i).toNat)
  case atStart => exact HR0.out
  case round =>
    clear HR0
    obtain ⟨k, s, hl, rfl, hs, hs0, hs1⟩ := hrel
    have hl' := hl
    obtain ⟨hk, rfl, hb, hr⟩ := hl'
    have hl12 := HL12.out
    have hbig := HBig.out
    by_cases hlt : k < L.length
    case pos =>
      obtain ⟨y, hy⟩ : ∃ y, L[k]? = some y := ⟨_, List.getElem?_eq_getElem hlt⟩
      obtain ⟨g, c, ev, c0, c1, c2⟩ := hr.at_ hy
      simp only [Value.slice.injEq, true_and] at ev
      obtain ⟨rfl, rfl⟩ := ev
      obtain ⟨⟨g1, g2, g3⟩, g4⟩ := HIn.out k y hy
      have q1 : decide ((k : Int) < (L.length : Int)) = true := decide_eq_true (by omega)
      have q0 : decide (k < L.length) = true := decide_eq_true hlt
      have e2 : IntKind.i64.wrap ((k : Int) + 1) = (k : Int) + 1 := IntWalk.i64_in _ (by omega)
      have e3 : IntKind.i64.wrap (y.close - y.open_) = y.close - y.open_ := IntWalk.i64_in _ (by omega)
      have e4 : IntKind.i64.wrap (rd - s - (y.close - y.open_)) = rd - (s + (y.close - y.open_)) := by rw [IntWalk.i64_in _ (by omega)]; omega
      have HR1 : Hid (∀ o, IdR w ⟨nodes, faulty, slot, gap, rho, dmin, dmax, margin, PA, pn, pcap, parts, QA, qn, qcap, ports, RA, rn, rcap, routes⟩ (.slice (some ⟨g, 0, none⟩) L.length vc) L rd (.int .i64 (rd - (s + (y.close - y.open_)))) (.int .i64 ((k : Int) + 1)) (wr.alloc o)) := Lib.hid fun o => ⟨k + 1, s + (y.close - y.open_), hl.next hlt ((Below.refl wr.heap.size wr).alloc (Nat.le_refl _) o), rfl, by rw [g4, ← hs], by omega, by rw [Int.natCast_add, Int.add_mul]; omega⟩
      clear hl hr hb HIn HOut HLow hy g4 hs
      go_wp2_with fail
      go_roundw
      case rel => exact HR1.out _
      case measure => simp [intOf]; omega
    have hkn : k = L.length := by omega
    subst hkn
    have q1 : decide ((L.length : Int) < (L.length : Int)) = false := decide_eq_false (by omega)
    rw [List.take_length] at hs
    have HE : Hid (rd - s = res) := Lib.hid (by rw [hs]; exact HOut.out)
    have HF := Lib.hid (HLow.out _ hb)
    clear hl hr hb HIn HOut HLow hs
    go_wp2_with fail
    go_ret
    rw [HE.out]
    exact ⟨rfl, HF.out⟩

def NextPost (o : Option Int) (w : World) (e : Ending) (w' : World) : Prop := e = .returned (.tuple #[.int .i64 (o.getD 0), .bool o.isSome]) ∧ Below w.heap.size w w'
/-- What has been found so far, in the function's two variables. -/
def NextR (w : World) (x : CfgC) (v : Value) (l : List WinP.Win) (t : Int) (n ok i : Value) (W : World) : Prop := ∃ k b, WLoop w x v l k i W ∧ n = .int .i64 (Option.getD b 0) ∧ ok = .bool (Option.isSome b) ∧ b = WinP.leastT t (WinP.wchg (l.take k)) ∧ WinP.InR b
/-- The two changes of a window, one behind the other. -/
def two (t : Int) (b : Option Int) (o c : Int) : Nat → Option Int
  | 0 => b
  | 1 => WinP.better t b o
  | _ => WinP.better t (WinP.better t b o) c
def TwoR (t : Int) (b : Option Int) (o c : Int) (W : World) (n ok j : Value) (W' : World) : Prop := ∃ m, m ≤ 2 ∧ j = .int .i64 (m : Nat) ∧ n = .int .i64 ((two t b o c m).getD 0) ∧ ok = .bool (two t b o c m).isSome ∧ W' = W
theorem TwoR.first (t : Int) (b : Option Int) (o c : Int) (W : World) : TwoR t b o c W (.int .i64 (b.getD 0)) (.bool b.isSome) (.int .i64 0) W := ⟨0, by omega, rfl, rfl, rfl, rfl⟩
theorem two_some {t : Int} {b b' : Option Int} {o c e : Int} {m : Nat} {W : World} (hm : m < 2) (h : two t b o c (m + 1) = b') (hb : b' = some e) (j : Int) (hj : j = (m : Int) + 1) : TwoR t b o c W (.int .i64 e) (.bool true) (.int .i64 j) W := by
  subst hj
  refine ⟨m + 1, hm, by go_num, ?_, ?_, rfl⟩
  · rw [h, hb]; rfl
  · rw [h, hb]; rfl

set_option maxHeartbeats 4000000 in
theorem wnext_any (x : CfgC) (node t : Int) (ht : -9223372036854775808 ≤ t ∧ t ≤ 9223372036854775807) (w : World) (h : CfgIn w x) (hwk : SndP.Works x.plain) :
    Calls Try.prog 10 #[x.value, .int .i64 node, .int .i64 t] w (NextPost (WinP.nextT x.plain node t) w) := by
  have hst := BoxS.start w x
  have HL12 : Hid ((WinP.winsT x.plain node).length ≤ 12) := Lib.hid (by have h1 : x.parts.length ≤ 12 := hwk.allowed.parts; have h2 := WinP.wins_length x.plain node; exact Nat.le_trans h2 h1)
  have HLow : Hid (∀ W, BoxS w x W → Below w.heap.size w W) := Lib.hid fun W hW => hW.below
  have HCall := Lib.hid (windows_any x node (boxC w x) (h.below (boxC_below w x)) hwk)
  have HIn : Hid (∀ (k : Nat) (y : WinP.Win), (WinP.winsT x.plain node)[k]? = some y → (0 ≤ y.open_ ∧ y.open_ < y.close ∧ y.close ≤ 1000000000) ∧ ∀ b, b = WinP.leastT t (WinP.wchg ((WinP.winsT x.plain node).take k)) → two t b y.open_ y.close 2 = WinP.leastT t (WinP.wchg ((WinP.winsT x.plain node).take (k + 1)))) := Lib.hid fun k y hy => by
    have h1 := WinP.wins_fit hwk hy
    exact ⟨⟨h1.1, h1.2.1, h1.2.2.1⟩, fun b hb => by rw [hb]; exact (WinP.wnext_step hy).symm⟩
  have HOut : Hid (WinP.leastT t (WinP.wchg (WinP.winsT x.plain node)) = WinP.nextT x.plain node t) := Lib.hid (WinP.wnext x.plain node t)
  generalize WinP.winsT x.plain node = L at *
  generalize WinP.nextT x.plain node t = res at *
  clear h hwk
  obtain ⟨nodes, faulty, slot, gap, rho, dmin, dmax, margin, PA, pn, pcap, parts, QA, qn, qcap, ports, RA, rn, rcap, routes⟩ := x
  obtain ⟨d0, d1, d2, d3, d4, d5, d6, d7, d8, d9, d10⟩ := cfgFacts (fun W (hW : BoxS w ⟨nodes, faulty, slot, gap, rho, dmin, dmax, margin, PA, pn, pcap, parts, QA, qn, qcap, ports, RA, rn, rcap, routes⟩ W) => hW.cells)
  obtain ⟨k0, k1, k2, k3, k4, k5, k6, k7, k8, k9, k10⟩ := eleven hst d0 d1 d2 d3 d4 d5 d6 d7 d8 d9 d10
  simp only at d0 d1 d2 d3 d4 d5 d6 d7 d8 d9 d10 k0 k1 k2 k3 k4 k5 k6 k7 k8 k9 k10 HLow
  simp only [boxC, cfgCells] at HCall k0 k1 k2 k3 k4 k5 k6 k7 k8 k9 k10
  simp only [CfgC.value] at HCall ⊢
  go_enter Try.func10, Try.ntmps10
  go_wp2_with fail
  clear k0 k1 k2 k3 k4 k5 k6 k7 k8 k9 k10
  refine HCall.out.mono ?_
  rintro e w1 ⟨v, rfl, hr, hb1⟩
  have hd1 := hst.step hb1
  have HW0 : WLoop w ⟨nodes, faulty, slot, gap, rho, dmin, dmax, margin, PA, pn, pcap, parts, QA, qn, qcap, ports, RA, rn, rcap, routes⟩ v L 0 (.int .i64 0) w1 := ⟨Nat.zero_le _, rfl, hd1, by simpa [boxC, cfgCells] using hr⟩
  have HR0 : Hid (NextR w ⟨nodes, faulty, slot, gap, rho, dmin, dmax, margin, PA, pn, pcap, parts, QA, qn, qcap, ports, RA, rn, rcap, routes⟩ v L t (.int .i64 0) (.bool false) (.int .i64 0) w1) := Lib.hid (⟨0, none, HW0, rfl, rfl, by simp [WinP.wchg, WinP.leastT], fun v hv => (by cases hv)⟩)
  obtain ⟨vA, vc, hv, -⟩ := own_slice hr
  subst hv
  clear hr hb1 hd1 hst HCall HW0
  go_wp2_with fail
  go_loopw [8, 9, 18] (NextR w ⟨nodes, faulty, slot, gap, rho, dmin, dmax, margin, PA, pn, pcap, parts, QA, qn, qcap, ports, RA, rn, rcap, routes⟩ (.slice vA L.length vc) L t) (fun _ _ i _ => (L.length + 1 - intOf i).toNat)
  case atStart => exact HR0.out
  case round =>
    clear HR0
    obtain ⟨k, b, hl, rfl, rfl, hbk, hin⟩ := hrel
    have hl' := hl
    obtain ⟨hk, rfl, hb, hr⟩ := hl'
    have hl12 := HL12.out
    by_cases hlt : k < L.length
    case pos =>
      obtain ⟨y, hy⟩ : ∃ y, L[k]? = some y := ⟨_, List.getElem?_eq_getElem hlt⟩
      obtain ⟨g, c, ev, c0, c1, c2⟩ := hr.at_ hy
      simp only [Value.slice.injEq, true_and] at ev
      obtain ⟨rfl, rfl⟩ := ev
      obtain ⟨⟨g1, g2, g3⟩, g4⟩ := HIn.out k y hy
      have q1 : decide ((k : Int) < (L.length : Int)) = true := decide_eq_true (by omega)
      have q0 : decide (k < L.length) = true := decide_eq_true hlt
      have e2 : IntKind.i64.wrap ((k : Int) + 1) = (k : Int) + 1 := IntWalk.i64_in _ (by omega)
      have HR1 : Hid (∀ o, NextR w ⟨nodes, faulty, slot, gap, rho, dmin, dmax, margin, PA, pn, pcap, parts, QA, qn, qcap, ports, RA, rn, rcap, routes⟩ (.slice (some ⟨g, 0, none⟩) L.length vc) L t (.int .i64 ((two t b y.open_ y.close 2).getD 0)) (.bool (two t b y.open_ y.close 2).isSome) (.int .i64 ((k : Int) + 1)) (wr.alloc o)) := Lib.hid fun o => ⟨k + 1, _, hl.next hlt ((Below.refl wr.heap.size wr).alloc (Nat.le_refl _) o), rfl, rfl, g4 b hbk, (hin.better ⟨by omega, by omega⟩).better ⟨by omega, by omega⟩⟩
      clear hl hr hb HIn HOut HLow hy g4 hbk hin
      have HF0 := Lib.hid (TwoR.first t b y.open_ y.close)
      generalize wr = wo at *
      go_upto_block 6 with (fail)
      go_loopw [8, 9, 27] (TwoR t b y.open_ y.close (wo.alloc (.cells #[.int .i64 (y.part : Nat), .int .i64 y.open_, .int .i64 y.close] 41))) (fun _ _ j _ => (3 - intOf j).toNat)
      case atStart => exact HF0.out _
      case round =>
        obtain ⟨m, hm2, rfl, rfl, rfl, rfl⟩ := hrel
        by_cases hm : m < 2
        case neg =>
          obtain rfl : m = 2 := by omega
          go_wp2_with fail
          go_roundw
          case rel => exact HR1.out _
          case measure => simp [intOf]; omega
        case pos =>
          have i0 : ∀ W : World, (Instr.index 51 (.agg #[.int .i64 y.open_, .int .i64 y.close]) (.int .i64 0)).run Try.prog W = .ok (.int .i64 y.open_) W := fun _ => by kernel_rfl
          have i1 : ∀ W : World, (Instr.index 51 (.agg #[.int .i64 y.open_, .int .i64 y.close]) (.int .i64 1)).run Try.prog W = .ok (.int .i64 y.close) W := fun _ => by kernel_rfl
          rcases (show m = 0 ∨ m = 1 by omega) with rfl | rfl
          case inl =>
            by_cases h2 : t < y.open_
            case neg =>
              have q4 : decide (t < y.open_) = false := decide_eq_false h2
              have HT : Hid (TwoR t b y.open_ y.close (wo.alloc (.cells #[.int .i64 (y.part : Nat), .int .i64 y.open_, .int .i64 y.close] 41)) (.int .i64 ((two t b y.open_ y.close 0).getD 0)) (.bool (two t b y.open_ y.close 0).isSome) (.int .i64 (1)) (wo.alloc (.cells #[.int .i64 (y.part : Nat), .int .i64 y.open_, .int .i64 y.close] 41))) := Lib.hid ⟨1, by omega, rfl, by rw [show two t b y.open_ y.close 1 = two t b y.open_ y.close 0 from WinP.better_no h2], by rw [show two t b y.open_ y.close 1 = two t b y.open_ y.close 0 from WinP.better_no h2], rfl⟩
              go_wp2_with fail
              go_roundw
              case rel => exact HT.out
              case measure => simp [intOf]
            have q4 : decide (t < y.open_) = true := decide_eq_true h2
            cases hc : two t b y.open_ y.close 0 with
            | none =>
              have HT : Hid (TwoR t b y.open_ y.close (wo.alloc (.cells #[.int .i64 (y.part : Nat), .int .i64 y.open_, .int .i64 y.close] 41)) (.int .i64 y.open_) (.bool true) (.int .i64 (1)) (wo.alloc (.cells #[.int .i64 (y.part : Nat), .int .i64 y.open_, .int .i64 y.close] 41))) := Lib.hid (two_some (m := 0) (by omega) (show WinP.better t (two t b y.open_ y.close 0) y.open_ = _ from rfl) (by rw [hc]; exact WinP.better_none h2) _ rfl)
              clear hc
              simp only [Option.getD_none, Option.isSome_none]
              go_wp2_with fail
              go_roundw
              case rel => exact HT.out
              case measure => simp [intOf]
            | some u =>
              simp only [Option.getD_some, Option.isSome_some]
              by_cases h3 : y.open_ < u
              case pos =>
                have q5 : decide (y.open_ < u) = true := decide_eq_true h3
                have HT : Hid (TwoR t b y.open_ y.close (wo.alloc (.cells #[.int .i64 (y.part : Nat), .int .i64 y.open_, .int .i64 y.close] 41)) (.int .i64 y.open_) (.bool true) (.int .i64 (1)) (wo.alloc (.cells #[.int .i64 (y.part : Nat), .int .i64 y.open_, .int .i64 y.close] 41))) := Lib.hid (two_some (m := 0) (by omega) (show WinP.better t (two t b y.open_ y.close 0) y.open_ = _ from rfl) (by rw [hc]; exact WinP.better_less h2 h3) _ rfl)
                clear hc
                go_wp2_with fail
                go_roundw
                case rel => exact HT.out
                case measure => simp [intOf]
              case neg =>
                have q5 : decide (y.open_ < u) = false := decide_eq_false h3
                have HT : Hid (TwoR t b y.open_ y.close (wo.alloc (.cells #[.int .i64 (y.part : Nat), .int .i64 y.open_, .int .i64 y.close] 41)) (.int .i64 u) (.bool true) (.int .i64 (1)) (wo.alloc (.cells #[.int .i64 (y.part : Nat), .int .i64 y.open_, .int .i64 y.close] 41))) := Lib.hid (two_some (m := 0) (by omega) (show WinP.better t (two t b y.open_ y.close 0) y.open_ = _ from rfl) (by rw [hc]; exact WinP.better_more h3) _ rfl)
                clear hc
                go_wp2_with fail
                go_roundw
                case rel => exact HT.out
                case measure => simp [intOf]
          case inr =>
            by_cases h2 : t < y.close
            case neg =>
              have q4 : decide (t < y.close) = false := decide_eq_false h2
              have HT : Hid (TwoR t b y.open_ y.close (wo.alloc (.cells #[.int .i64 (y.part : Nat), .int .i64 y.open_, .int .i64 y.close] 41)) (.int .i64 ((two t b y.open_ y.close 1).getD 0)) (.bool (two t b y.open_ y.close 1).isSome) (.int .i64 (2)) (wo.alloc (.cells #[.int .i64 (y.part : Nat), .int .i64 y.open_, .int .i64 y.close] 41))) := Lib.hid ⟨2, by omega, rfl, by rw [show two t b y.open_ y.close 2 = two t b y.open_ y.close 1 from WinP.better_no h2], by rw [show two t b y.open_ y.close 2 = two t b y.open_ y.close 1 from WinP.better_no h2], rfl⟩
              go_wp2_with fail
              go_roundw
              case rel => exact HT.out
              case measure => simp [intOf]
            have q4 : decide (t < y.close) = true := decide_eq_true h2
            cases hc : two t b y.open_ y.close 1 with
            | none =>
              have HT : Hid (TwoR t b y.open_ y.close (wo.alloc (.cells #[.int .i64 (y.part : Nat), .int .i64 y.open_, .int .i64 y.close] 41)) (.int .i64 y.close) (.bool true) (.int .i64 (2)) (wo.alloc (.cells #[.int .i64 (y.part : Nat), .int .i64 y.open_, .int .i64 y.close] 41))) := Lib.hid (two_some (m := 1) (by omega) (show WinP.better t (two t b y.open_ y.close 1) y.close = _ from rfl) (by rw [hc]; exact WinP.better_none h2) _ rfl)
              clear hc
              simp only [Option.getD_none, Option.isSome_none]
              go_wp2_with fail
              go_roundw
              case rel => exact HT.out
              case measure => simp [intOf]
            | some u =>
              simp only [Option.getD_some, Option.isSome_some]
              by_cases h3 : y.close < u
              case pos =>
                have q5 : decide (y.close < u) = true := decide_eq_true h3
                have HT : Hid (TwoR t b y.open_ y.close (wo.alloc (.cells #[.int .i64 (y.part : Nat), .int .i64 y.open_, .int .i64 y.close] 41)) (.int .i64 y.close) (.bool true) (.int .i64 (2)) (wo.alloc (.cells #[.int .i64 (y.part : Nat), .int .i64 y.open_, .int .i64 y.close] 41))) := Lib.hid (two_some (m := 1) (by omega) (show WinP.better t (two t b y.open_ y.close 1) y.close = _ from rfl) (by rw [hc]; exact WinP.better_less h2 h3) _ rfl)
                clear hc
                go_wp2_with fail
                go_roundw
                case rel => exact HT.out
                case measure => simp [intOf]
              case neg =>
                have q5 : decide (y.close < u) = false := decide_eq_false h3
                have HT : Hid (TwoR t b y.open_ y.close (wo.alloc (.cells #[.int .i64 (y.part : Nat), .int .i64 y.open_, .int .i64 y.close] 41)) (.int .i64 u) (.bool true) (.int .i64 (2)) (wo.alloc (.cells #[.int .i64 (y.part : Nat), .int .i64 y.open_, .int .i64 y.close] 41))) := Lib.hid (two_some (m := 1) (by omega) (show WinP.better t (two t b y.open_ y.close 1) y.close = _ from rfl) (by rw [hc]; exact WinP.better_more h3) _ rfl)
                clear hc
                go_wp2_with fail
                go_roundw
                case rel => exact HT.out
                case measure => simp [intOf]
    have hkn : k = L.length := by omega
    subst hkn
    have q1 : decide ((L.length : Int) < (L.length : Int)) = false := decide_eq_false (by omega)
    rw [List.take_length, HOut.out] at hbk
    subst hbk
    have HF := Lib.hid (HLow.out _ hb)
    clear hl hr hb HIn HOut HLow hin
    go_wp2_with fail
    refine bodyPost_ret (v := .tuple #[.int .i64 (Option.getD b 0), .bool (Option.isSome b)]) (by simp [results, Try.results10, go_sem]) rfl ?_
    exact ⟨rfl, HF.out⟩
end Go.Proofs.Ytfgpfmhjnccccaa
