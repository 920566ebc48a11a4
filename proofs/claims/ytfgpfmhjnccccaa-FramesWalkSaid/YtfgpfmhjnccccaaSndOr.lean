/- Contract of the document's Order. Conditions: where the tables' lists lie. -/
import Derived.Test.YtfgpfmhjnccccaaSndWb
namespace Go.Proofs.Ytfgpfmhjnccccaa
open Go.RowKit
set_option maxRecDepth 100000

section
variable {P : Program}
theorem step_append_s6 {w0 : World} {ops : Array Oper} {o : Oper} {a : Act} {K : Act → World → Prop} {Q : Exit → Act → World → Prop} {E : Prop} (hgd : o.guard = none) (s x : Operand) (t : TypeId)
    (ho : o.op = .call { callee := .builtin .append, args := #[s, x], argTypes := #[t, t] }) (B : Nat) (e : TypeId) (z : Value) (size bytes : Nat)
    (ht : P.underlying t = some (.slice e)) (hinfo : (P.info? e).map (fun i => (i.zero, i.size, i.bytes)) = some (some z, size, bytes)) (hzs : z.cells.size = size) (hsz : 0 < size)
    (v : Value) (n : Nat) (xs : List Value) (hs : a.eval s = v) (hown : w0.ownsRow B e size v n xs) (A : Option Addr) (m c : Nat) (news : List Value) (hx : a.eval x = .slice A m c) (hl : news.length = m * size)
    (hnews : 0 < m → ∃ ad, A = some ad ∧ ∀ j u, news[j]? = some u → w0.cell? (ad.add j) = some u) (h1 : ∀ u ∈ news, u.oneCell' = true)
    (h63 : n + m ≤ maxLen) (hbytes : (n + m) * bytes ≤ 140737488355328) (hB : B ≤ w0.heap.size)
    (h : ∀ v' w', w'.ownsRow B e size v' (n + m) (xs ++ news) → Apart (fun k => v.ownBlock = some k) w0 w' → (v'.ownBlock = v.ownBlock ∨ v'.ownBlock = some w0.heap.size) → K (a.put o.dst v') w') :
    if Region.wanted o (yielded ops a.tmps) = true then Oper.wp P o a w0 K Q else E := by
  have hw : Region.wanted o (yielded ops a.tmps) = true := by simp [Region.wanted, hgd]
  rw [if_pos hw]
  exact wp_append_s s x t ho B e z size bytes ht hinfo hzs hsz v n xs hs hown A m c news hx hl hnews h1 h63 hbytes hB h
theorem run_slice_from0 (W : World) (t e : TypeId) (ht : P.underlying t = some (.slice e)) (hz : ∀ w, (Go.sizeOf e).run P w = .ok 1 w) :
    (Instr.slice t (.slice none 0 0) (some (.int .i64 0)) none none).run P W = .ok (.slice none 0 0) W := by
  have ht' : P.underlying t = some (.slice (P.elem t)) := by simp [Program.elem, ht]
  have he : P.elem t = e := by simp [Program.elem, ht]
  rw [run_slice_l W t _ _ _ ht' .i64 _ (by omega) (by omega), he, hz]
  simp [Result.andThen, sliced]
end
theorem idxV_one (l : List Nat) : ∀ u ∈ idxV l, u.oneCell' = true := fun u hu => by
  obtain ⟨i, -, rfl⟩ := List.mem_map.1 hu
  rfl
/-- out[m:]. -/
theorem cut_from {w : World} {B : Nat} {v : Value} {L : List Nat} (h : w.ownsRow B 3 1 v L.length (idxV L)) (m : Nat) (hm : m ≤ L.length) : ∃ A2 c2, (∀ W, (Instr.slice 34 v (some (.int .i64 (m : Nat))) none none).run Try.prog W = .ok (.slice A2 (L.length - m) c2) W) ∧
    (∀ (W : World) (B' : Nat), W.ownsRow B' 3 1 v L.length (idxV L) → 0 < L.length - m → ∃ ad : Addr, A2 = some ad ∧ ∀ (j : Nat) u, (idxV (L.drop m))[j]? = some u → W.cell? (ad.add j) = some u) := by
  rcases h.2 with ⟨rfl, h0⟩ | ⟨g, cap, cur, rfl, -, -, hn, -⟩
  · obtain rfl : m = 0 := by omega
    refine ⟨none, 0, fun W => ?_, fun W B' _ hlt => by omega⟩
    rw [h0]
    exact run_slice_from0 (P := Try.prog) W 34 3 Try.underlying34 (fun w => by kernel_rfl)
  · refine ⟨_, _, fun W => run_slice_from (P := Try.prog) W 34 3 Try.underlying34 (fun w => by kernel_rfl) g 0 L.length cap (m : Int) m rfl hm, fun W B' hW hlt => ?_⟩
    rw [if_neg (by omega)]
    refine ⟨_, rfl, fun j u hj => ?_⟩
    have hj2 : (idxV L)[m + j]? = some u := by
      rw [← hj]; simp [idxV]
    rw [addr_addB, show 0 + m + j = m + j by omega, hW.cellAt (m + j) (by have := (List.getElem?_eq_some_iff.1 hj2).1; rw [idxV_length] at this; omega)]
    exact hj2
/-- out[:m]. -/
theorem cut_to {w : World} {B : Nat} {v : Value} {L : List Nat} (h : w.ownsRow B 3 1 v L.length (idxV L)) (m : Nat) (hm : m ≤ L.length) : ∃ A2 c2, (∀ W, (Instr.slice 34 v none (some (.int .i64 (m : Nat))) none).run Try.prog W = .ok (.slice A2 m c2) W) ∧
    (∀ (W : World) (B' : Nat), W.ownsRow B' 3 1 v L.length (idxV L) → 0 < m → ∃ ad : Addr, A2 = some ad ∧ ∀ (j : Nat) u, (idxV (L.take m))[j]? = some u → W.cell? (ad.add j) = some u) := by
  obtain ⟨A, c, hv, hc⟩ := own_slice h
  have hrun := fun W => run_slice_tos (P := Try.prog) W 34 3 1 Try.underlying34 (fun w => by kernel_rfl) A L.length c (m : Int) (by omega) (by omega)
  simp only [Int.toNat_natCast] at hrun
  subst hv
  refine ⟨A, c, hrun, fun W B' hW hlt => ?_⟩
  rcases hW.2 with ⟨h1, h0⟩ | ⟨g, cap, cur, h1, -⟩
  · omega
  · cases h1
    refine ⟨_, rfl, fun j u hj => ?_⟩
    have hjm : j < m := by have := (List.getElem?_eq_some_iff.1 hj).1; rw [idxV_length, List.length_take] at this; omega
    have hj2 : (idxV L)[j]? = some u := by
      rw [← hj]; simp [idxV, hjm]
    rw [addr_addB, show 0 + j = j by omega, hW.cellAt j (by omega)]
    exact hj2

def RoR (w : World) (x : CfgC) (node : Int) (v i : Value) (W : World) : Prop := ∃ k, k ≤ x.pn ∧ i = .int .i64 (k : Nat) ∧ SortV w x v (OrdP.srt (OrdP.keyP x.parts) (OrdP.pick x.parts node k)) W
def RoI (w : World) (x : CfgC) (k : Nat) (v : Value) (L : List Nat) (i : Value) (W : World) : Prop := ∃ m, m ≤ L.length ∧ i = .int .i64 (m : Nat) ∧ (∀ p ∈ L.take m, OrdP.keyP x.parts p ≤ OrdP.keyP x.parts k) ∧ SortV w x v L W
theorem SortV.drew {w : World} {x : CfgC} {v : Value} {l : List Nat} {W : World} (h : SortV w x v l W) : SortV w x v l W.drew := h.step (Below.refl _ _).drew
theorem ins_cut {key : Nat → Int} {L : List Nat} {m i : Nat} (hr : OrdP.Rising key L) (h1 : ∀ p ∈ L.take m, key p ≤ key i) (h2 : ∀ p, L[m]? = some p → key i < key p) : OrdP.ins key i L = L.take m ++ i :: L.drop m := by
  have h := OrdP.ins_split key i (pre := L.take m) (post := L.drop m) h1 (fun p hp => by
    obtain ⟨j, hj, rfl⟩ := List.getElem_of_mem hp
    rw [List.length_drop] at hj
    rw [List.getElem_drop]
    have hm : L[m]? = some (L[m]'(by omega)) := List.getElem?_eq_getElem (by omega)
    have h3 := h2 _ hm
    by_cases hj0 : j = 0
    · subst hj0; simpa using h3
    · have := List.pairwise_iff_getElem.1 hr m (m + j) (by omega) (by omega) (by omega)
      omega)
  rwa [List.take_append_drop] at h

theorem ro_fin {w : World} {x : CfgC} {v v3 : Value} {L : List Nat} {m k n : Nat} {W w3 : World} (hm : m ≤ L.length) (hS : SortV w x v L W) (hd : Below W.heap.size W w3) (hn : n = L.length + 1) (ho : w3.ownsRow W.heap.size 3 1 v3 n (idxV (L.take m) ++ [.int .i64 (k : Nat)] ++ idxV (L.drop m))) : SortV w x v3 (L.take m ++ k :: L.drop m) w3 := by
  subst hn
  refine ⟨hS.1.step hd, ?_⟩
  have e1 : (L.take m ++ k :: L.drop m).length = L.length + 1 := by simp; omega
  have e2 : idxV (L.take m ++ k :: L.drop m) = idxV (L.take m) ++ [.int .i64 (k : Nat)] ++ idxV (L.drop m) := by simp [idxV]
  rw [e1, e2]
  exact own_low ho hS.1.size
theorem own_empty6 (w : World) : (w.alloc (.cells #[] 3)).ownsRow w.heap.size 3 1 (.slice (some ⟨w.heap.size, 0, none⟩) 0 0) 0 (idxV []) :=
  World.ownsRow_lit (e := 3) (size := 1) w #[] 0 (Nat.le_refl _) (by unfold maxLen; omega) rfl
theorem own_below6 {W w0 w1 : World} {B n : Nat} {v : Value} {xs : List Value} (hd : Below W.heap.size W w0) (ho : w0.ownsRow B 3 1 v n xs) (hB : W.heap.size ≤ B) (ha : Apart (fun q => v.ownBlock = some q) w0 w1) : Below W.heap.size W w1 :=
  hd.trans (ha.below hd.size (fun q hq => Nat.le_trans hB (ho.lt q hq).1))

set_option maxHeartbeats 4000000 in
theorem reforder_any (x : CfgC) (node : Int) (w : World) (h : CfgIn w x) (hpn : x.pn ≤ 12) :
    Calls Try.prog 13 #[x.value, .int .i64 node] w (OrderPost (OrdP.ord x.parts node) w) := by
  have hpl := h.plen
  have HFin : Hid (∀ v W, SortV w x v (OrdP.srt (OrdP.keyP x.parts) (OrdP.pick x.parts node x.pn)) W → OrderPost (OrdP.ord x.parts node) w (.returned v) W) := Lib.hid fun v W hW => by
    refine ⟨v, rfl, ?_, hW.1.below⟩
    have := hW.2
    rw [boxC_size] at this
    unfold OrdP.ord
    rw [hpl]
    exact this
  have HPA := Lib.hid (fun W (hW : BoxS w x W) k p (hk : x.parts[k]? = some p) => parts_at (h.parts.below hW.below) hk)
  have hst := BoxS.start w x
  have HS0 : Hid (RoR w x node (.slice none 0 0) (.int .i64 0) (boxC w x)) := Lib.hid ⟨0, Nat.zero_le _, rfl, hst, World.ownsRow_nil _ _ _ _⟩
  have HRW : Hid (∀ k p v W, x.parts[k]? = some p → p.node = node → SortV w x v (OrdP.ins (OrdP.keyP x.parts) k (OrdP.srt (OrdP.keyP x.parts) (OrdP.pick x.parts node k))) W → RoR w x node v (.int .i64 ((k : Int) + 1)) W) := Lib.hid fun k p v W hk hp hW => by
    have := (List.getElem?_eq_some_iff.1 hk).1
    exact ⟨k + 1, by omega, by go_num, by rw [OrdP.pick_step hk, if_pos hp, OrdP.srt_snoc]; exact hW⟩
  have HRN : Hid (∀ k p v W, x.parts[k]? = some p → ¬ p.node = node → SortV w x v (OrdP.srt (OrdP.keyP x.parts) (OrdP.pick x.parts node k)) W → RoR w x node v (.int .i64 ((k : Int) + 1)) W) := Lib.hid fun k p v W hk hp hW => by
    have := (List.getElem?_eq_some_iff.1 hk).1
    exact ⟨k + 1, by omega, by go_num, by rw [OrdP.pick_step hk, if_neg hp]; exact hW⟩
  have HMem : Hid (∀ k, ∀ i ∈ OrdP.srt (OrdP.keyP x.parts) (OrdP.pick x.parts node k), ∃ p, x.parts[i]? = some p ∧ OrdP.keyP x.parts i = p.start) := Lib.hid fun k i hi => by
    obtain ⟨-, p, hp, -⟩ := OrdP.pick_mem ((OrdP.srt_perm _ _).mem_iff.1 hi)
    exact ⟨p, hp, by simp only [OrdP.keyP, hp]⟩
  have HLen : Hid (∀ k, (OrdP.srt (OrdP.keyP x.parts) (OrdP.pick x.parts node k)).length ≤ k) := Lib.hid fun k => by rw [OrdP.srt_length]; exact OrdP.pick_length _ _ _
  have HRis : Hid (∀ k, OrdP.Rising (OrdP.keyP x.parts) (OrdP.srt (OrdP.keyP x.parts) (OrdP.pick x.parts node k))) := Lib.hid fun k => OrdP.srt_rising _ _
  generalize OrdP.ord x.parts node = L2 at *
  clear h
  obtain ⟨nodes, faulty, slot, gap, rho, dmin, dmax, margin, PA, pn, pcap, parts, QA, qn, qcap, ports, RA, rn, rcap, routes⟩ := x
  obtain ⟨d0, d1, d2, d3, d4, d5, d6, d7, d8, d9, d10⟩ := cfgFacts (fun W (hW : BoxS w ⟨nodes, faulty, slot, gap, rho, dmin, dmax, margin, PA, pn, pcap, parts, QA, qn, qcap, ports, RA, rn, rcap, routes⟩ W) => hW.cells)
  obtain ⟨k0, k1, k2, k3, k4, k5, k6, k7, k8, k9, k10⟩ := eleven hst d0 d1 d2 d3 d4 d5 d6 d7 d8 d9 d10
  simp only at d0 d1 d2 d3 d4 d5 d6 d7 d8 d9 d10 k0 k1 k2 k3 k4 k5 k6 k7 k8 k9 k10 hpn hpl HPA HRW HRN HMem HLen HRis HFin
  simp only [boxC, cfgCells] at HS0 k0 k1 k2 k3 k4 k5 k6 k7 k8 k9 k10
  simp only [CfgC.value]
  clear hst
  go_enter Try.func13, Try.ntmps13
  go_wp2_with fail
  clear k0 k1 k2 k3 k4 k5 k6 k7 k8 k9 k10
  go_loopw [5, 6] (RoR w ⟨nodes, faulty, slot, gap, rho, dmin, dmax, margin, PA, pn, pcap, parts, QA, qn, qcap, ports, RA, rn, rcap, routes⟩ node) (fun _ i _ => (pn + 1 - intOf i).toNat)
  case atStart => exact HS0.out
  case round =>
    clear HS0
    obtain ⟨k, hk, rfl, hS⟩ := hrel
    have HS := Lib.hid hS
    clear hS
    simp only at hk HS
    obtain ⟨k0, k1, k2, k3, k4, k5, k6, k7, k8, k9, k10⟩ := eleven HS.out.1 d0 d1 d2 d3 d4 d5 d6 d7 d8 d9 d10
    by_cases hlt : k < pn
    case pos =>
      obtain ⟨p, hmk⟩ : ∃ y, parts[k]? = some y := ⟨_, List.getElem?_eq_getElem (by omega)⟩
      obtain ⟨bp, op, ep, hbp, c0, c1, c2, c3, c4, c5, c6, c7, c8⟩ := HPA.out wr HS.out.1 k p hmk
      have HA := Lib.hid (fun v W hn => HRW.out k p v W hmk hn)
      have HB := Lib.hid (fun v W hn => HRN.out k p v W hmk hn)
      have Hkey : Hid (OrdP.keyP parts k = p.start) := Lib.hid (by simp only [OrdP.keyP, hmk])
      have Hmk := Lib.hid hmk
      have hkz : (k : Int) < (pn : Int) := by omega
      have Hmem := Lib.hid (HMem.out k)
      have Hlen := HLen.out k
      have Hris := Lib.hid (HRis.out k)
      have HPA2 := Lib.hid HPA.out
      clear hmk HRW HRN HMem HLen HRis
      generalize OrdP.srt (OrdP.keyP parts) (OrdP.pick parts node k) = L at *
      obtain ⟨Av, cv, hv, -⟩ := own_slice HS.out.2
      subst hv ep
      by_cases hnode : p.node = node
      case neg =>
        have q1 : (p.node != node) = true := by rw [bne_iff_ne]; exact hnode
        have HR := Lib.hid (HB.out _ wr hnode HS.out)
        clear HA HB HS hnode Hmem HPA2 Hmk
        go_wp2_with fail
        go_roundw
        case rel => exact HR.out
        case measure => simp [intOf]; omega
      have q1 : (p.node != node) = false := by rw [bne_eq_false_iff_eq]; exact hnode
      have HR := Lib.hid (fun v W => HA.out v W hnode)
      have HI : Hid (RoI w ⟨nodes, faulty, slot, gap, rho, dmin, dmax, margin, some ⟨bp, op, none⟩, pn, pcap, parts, QA, qn, qcap, ports, RA, rn, rcap, routes⟩ k (.slice Av L.length cv) L (.int .i64 0) wr) := Lib.hid ⟨0, Nat.zero_le _, rfl, by simp, HS.out⟩
      clear HA HB HS hnode
      go_wp2_with fail
      clear k0 k1 k2 k3 k4 k5 k6 k7 k8 k9 k10 c0 c1 c2 c3 c4 c5 c6 c7 c8
      go_loopw [7] (RoI w ⟨nodes, faulty, slot, gap, rho, dmin, dmax, margin, some ⟨bp, op, none⟩, pn, pcap, parts, QA, qn, qcap, ports, RA, rn, rcap, routes⟩ k (.slice Av L.length cv) L) (fun i _ => (L.length + 1 - intOf i).toNat)
      case atStart => exact HI.out
      case round =>
        clear HI
        obtain ⟨m, hm, rfl, hle, hS⟩ := hrel
        simp only at hle
        have HS := Lib.hid hS
        have Hle := Lib.hid hle
        clear hS hle
        have g8 := fun W (hW : SortV w ⟨nodes, faulty, slot, gap, rho, dmin, dmax, margin, some ⟨bp, op, none⟩, pn, pcap, parts, QA, qn, qcap, ports, RA, rn, rcap, routes⟩ (.slice Av L.length cv) L W) => d8 W hW.1
        have HK := Lib.hid (fun W (hW : BoxS w ⟨nodes, faulty, slot, gap, rho, dmin, dmax, margin, some ⟨bp, op, none⟩, pn, pcap, parts, QA, qn, qcap, ports, RA, rn, rcap, routes⟩ W) i q (hq : parts[i]? = some q) => HPA2.out W hW i q hq)
        have gk : ∀ W, SortV w ⟨nodes, faulty, slot, gap, rho, dmin, dmax, margin, some ⟨bp, op, none⟩, pn, pcap, parts, QA, qn, qcap, ports, RA, rn, rcap, routes⟩ (.slice Av L.length cv) L W → W.cell? ⟨bp, op + k * 9 + 1, none⟩ = some (.int .i64 (OrdP.keyP parts k)) := fun W hW => by
          obtain ⟨b', o', e1, -, h2⟩ := HK.out W hW.1 k p Hmk.out
          cases e1
          rw [Hkey.out]; exact h2.c1
        obtain ⟨tst, htst⟩ : ∃ tst : Bool, tst = (match L[m]? with | some q => decide (OrdP.keyP parts q ≤ OrdP.keyP parts k) | none => false) := ⟨_, rfl⟩
        have Htst := Lib.hid htst
        clear htst
        go_upto_region 7 with (fail)
        go_cut [44] (fun v wx => v = .bool tst ∧ SortV w ⟨nodes, faulty, slot, gap, rho, dmin, dmax, margin, some ⟨bp, op, none⟩, pn, pcap, parts, QA, qn, qcap, ports, RA, rn, rcap, routes⟩ (.slice Av L.length cv) L wx)
        case first =>
          have hd0 := SortV.drew HS.out
          by_cases hml : m < L.length
          case pos =>
            obtain ⟨q, hLq⟩ : ∃ y, L[m]? = some y := ⟨_, List.getElem?_eq_getElem hml⟩
            obtain ⟨pq, hpq, hkq⟩ := Hmem.out q (List.mem_of_getElem? hLq)
            have htst := Htst.out
            rw [hLq] at htst
            simp only at htst
            subst htst
            obtain ⟨b, hAv, -⟩ := ord_cell HS.out.2 hLq hml
            have hqn : q < pn := by have := (List.getElem?_eq_some_iff.1 hpq).1; omega
            subst hAv
            have cm : ∀ W, SortV w ⟨nodes, faulty, slot, gap, rho, dmin, dmax, margin, some ⟨bp, op, none⟩, pn, pcap, parts, QA, qn, qcap, ports, RA, rn, rcap, routes⟩ (.slice (some ⟨b, 0, none⟩) L.length cv) L W → W.cell? ⟨b, m, none⟩ = some (.int .i64 (q : Nat)) := fun W hW => by
              obtain ⟨b', e, c⟩ := ord_cell hW.2 hLq hml
              cases e; exact c
            have cq : ∀ W, SortV w ⟨nodes, faulty, slot, gap, rho, dmin, dmax, margin, some ⟨bp, op, none⟩, pn, pcap, parts, QA, qn, qcap, ports, RA, rn, rcap, routes⟩ (.slice (some ⟨b, 0, none⟩) L.length cv) L W → W.cell? ⟨bp, op + q * 9 + 1, none⟩ = some (.int .i64 (OrdP.keyP parts q)) := fun W hW => by
              obtain ⟨b', o', e1, -, h2⟩ := HK.out W hW.1 q pq hpq
              cases e1
              rw [hkq]; exact h2.c1
            have hqz : (q : Int) < (pn : Int) := by omega
            have hmz : (m : Int) < (L.length : Int) := by omega
            clear HK Hmem HR Hle HPA2 HPA Hmk Hkey hLq hpq hkq Htst Hris HFin HS
            generalize OrdP.keyP parts q = kq at *
            generalize OrdP.keyP parts k = kk at *
            go_wp2_with fail
            refine wp_region_held_drew (S := fun W => SortV w ⟨nodes, faulty, slot, gap, rho, dmin, dmax, margin, some ⟨bp, op, none⟩, pn, pcap, parts, QA, qn, qcap, ports, RA, rn, rcap, routes⟩ (.slice (some ⟨b, 0, none⟩) L.length cv) L W) (by kernel_rfl) hd0 (fun _ => ?_)
            refine tkH 0 (by simp only [tkA]; rfl) (by kernel_rfl) (by exact fun _ _ _ h => h) (by rfl) (by intro W hW; go_simp <;> with_reducible rfl) hd0 ?_
            try simp only [Act.put, tkT, tk0, tkS]
            refine tkH 1 (by simp only [tkA, tkG]; rfl) (by kernel_rfl) (by exact fun _ _ _ h => h) (by rfl) (by intro W hW; go_simp <;> with_reducible rfl) hd0 ?_
            try simp only [Act.put, tkT, tk0, tkS]
            refine tkH 2 (by simp only [tkA, tkG]; rfl) (by kernel_rfl) (by exact fun _ _ _ h => h) (by rfl) (by intro W hW; go_simp <;> with_reducible rfl) hd0 ?_
            try simp only [Act.put, tkT, tk0, tkS]
            refine tkH 3 (by simp only [tkA, tkG]; rfl) (by kernel_rfl) (by exact fun _ _ _ h => h) (by rfl) (by intro W hW; go_simp <;> with_reducible rfl) hd0 ?_
            try simp only [Act.put, tkT, tk0, tkS]
            refine tkH 4 (by simp only [tkA, tkG]; rfl) (by kernel_rfl) (by exact fun _ _ _ h => h) (by rfl) (by intro W hW; go_simp <;> with_reducible rfl) hd0 ?_
            try simp only [Act.put, tkT, tk0, tkS]
            refine tkH 5 (by simp only [tkA, tkG]; rfl) (by kernel_rfl) (by exact fun _ _ _ h => h) (by rfl) (by intro W hW; go_simp <;> with_reducible rfl) hd0 ?_
            try simp only [Act.put, tkT, tk0, tkS]
            refine tkH 6 (by simp only [tkA, tkG]; rfl) (by kernel_rfl) (by exact fun _ _ _ h => h) (by rfl) (by intro W hW; go_simp <;> with_reducible rfl) hd0 ?_
            try simp only [Act.put, tkT, tk0, tkS]
            refine tkH 7 (by simp only [tkA, tkG]; rfl) (by kernel_rfl) (by exact fun _ _ _ h => h) (by rfl) (by intro W hW; go_simp <;> with_reducible rfl) hd0 ?_
            try simp only [Act.put, tkT, tk0, tkS]
            refine tkH 8 (by simp only [tkA, tkG]; rfl) (by kernel_rfl) (by exact fun _ _ _ h => h) (by rfl) (by intro W hW; go_simp <;> with_reducible rfl) hd0 ?_
            try simp only [Act.put, tkT, tk0, tkS]
            refine tkH 9 (by simp only [tkA, tkG]; rfl) (by kernel_rfl) (by exact fun _ _ _ h => h) (by rfl) (by intro W hW; go_simp <;> with_reducible rfl) hd0 ?_
            try simp only [Act.put, tkT, tk0, tkS]
            refine tkH 10 (by simp only [tkA, tkG]; rfl) (by kernel_rfl) (by exact fun _ _ _ h => h) (by rfl) (by intro W hW; go_simp <;> with_reducible rfl) hd0 ?_
            try simp only [Act.put, tkT, tk0, tkS]
            refine tkH 11 (by simp only [tkA, tkG]; rfl) (by kernel_rfl) (by exact fun _ _ _ h => h) (by rfl) (by intro W hW; go_simp <;> with_reducible rfl) hd0 ?_
            try simp only [Act.put, tkT, tk0, tkS]
            refine tkH 12 (by simp only [tkA, tkG]; rfl) (by kernel_rfl) (by exact fun _ _ _ h => h) (by rfl) (by intro W hW; go_simp <;> with_reducible rfl) hd0 ?_
            try simp only [Act.put, tkT, tk0, tkS]
            refine tkH 13 (by simp only [tkA, tkG]; rfl) (by kernel_rfl) (by exact fun _ _ _ h => h) (by rfl) (by intro W hW; go_simp <;> with_reducible rfl) hd0 ?_
            try simp only [Act.put, tkT, tk0, tkS]
            refine tkH 14 (by simp only [tkA, tkG]; rfl) (by kernel_rfl) (by exact fun _ _ _ h => h) (by rfl) (by intro W hW; go_simp <;> with_reducible rfl) hd0 ?_
            try simp only [Act.put, tkT, tk0, tkS]
            refine tkH 15 (by simp only [tkA, tkG]; rfl) (by kernel_rfl) (by exact fun _ _ _ h => h) (by rfl) (by intro W hW; go_simp <;> with_reducible rfl) hd0 ?_
            try simp only [Act.put, tkT, tk0, tkS]
            refine tkH 16 (by simp only [tkA, tkG]; rfl) (by kernel_rfl) (by exact fun _ _ _ h => h) (by rfl) (by intro W hW; go_simp <;> with_reducible rfl) hd0 ?_
            try simp only [Act.put, tkT, tk0, tkS]
            refine tkH 17 (by simp only [tkA, tkG]; rfl) (by kernel_rfl) (by exact fun _ _ _ h => h) (by rfl) (by intro W hW; go_simp <;> with_reducible rfl) hd0 ?_
            try simp only [Act.put, tkT, tk0, tkS]
            refine tkH 18 (by simp only [tkA, tkG]; rfl) (by kernel_rfl) (by exact fun _ _ _ h => h) (by rfl) (by intro W hW; go_simp <;> with_reducible rfl) hd0 ?_
            try simp only [Act.put, tkT, tk0, tkS]
            refine tkH 19 (by simp only [tkA, tkG]; rfl) (by kernel_rfl) (by exact fun _ _ _ h => h) (by rfl) (by intro W hW; go_simp <;> with_reducible rfl) hd0 ?_
            try simp only [Act.put, tkT, tk0, tkS]
            refine tkH 20 (by simp only [tkA, tkG]; rfl) (by kernel_rfl) (by exact fun _ _ _ h => h) (by rfl) (by intro W hW; go_simp <;> with_reducible rfl) hd0 ?_
            try simp only [Act.put, tkT, tk0, tkS]
            refine tkH 21 (by simp only [tkA, tkG]; rfl) (by kernel_rfl) (by exact fun _ _ _ h => h) (by rfl) (by intro W hW; go_simp <;> with_reducible rfl) hd0 ?_
            try simp only [Act.put, tkT, tk0, tkS]
            refine wpAnyH_done (by kernel_rfl) ?_ _
            go_wp2_with fail
            go_meet
            exact ⟨rfl, hd0⟩
          have htst := Htst.out
          rw [List.getElem?_eq_none (by omega)] at htst
          simp only at htst
          subst htst
          have hmz : decide ((m : Int) < (L.length : Int)) = false := decide_eq_false (by omega)
          have hmn : decide (m < L.length) = false := decide_eq_false (by omega)
          clear HK Hmem HR Hle HPA2 HPA Hmk Hkey Htst Hris HFin HS gk
          go_wp2_with fail
          refine wp_region_held_drew (S := fun W => SortV w ⟨nodes, faulty, slot, gap, rho, dmin, dmax, margin, some ⟨bp, op, none⟩, pn, pcap, parts, QA, qn, qcap, ports, RA, rn, rcap, routes⟩ (.slice Av L.length cv) L W) (by kernel_rfl) hd0 (fun _ => ?_)
          refine tkH 0 (by simp only [tkA]; rfl) (by kernel_rfl) (by exact fun _ _ _ h => h) (by rfl) (by intro W hW; go_simp <;> with_reducible rfl) hd0 ?_
          try simp only [Act.put, tkT, tk0, tkS]
          refine tkH 1 (by simp only [tkA, tkG]; rfl) (by kernel_rfl) (by exact fun _ _ _ h => h) (by rfl) (by intro W hW; go_simp <;> with_reducible rfl) hd0 ?_
          try simp only [Act.put, tkT, tk0, tkS]
          refine tkH 2 (by simp only [tkA, tkG]; rfl) (by kernel_rfl) (by exact fun _ _ _ h => h) (by rfl) (by intro W hW; go_simp <;> with_reducible rfl) hd0 ?_
          try simp only [Act.put, tkT, tk0, tkS]
          refine tkH 3 (by simp only [tkA, tkG]; rfl) (by kernel_rfl) (by exact fun _ _ _ h => h) (by rfl) (by intro W hW; go_simp <;> with_reducible rfl) hd0 ?_
          try simp only [Act.put, tkT, tk0, tkS]
          refine tkH 4 (by simp only [tkA, tkG]; rfl) (by kernel_rfl) (by exact fun _ _ _ h => h) (by rfl) (by intro W hW; go_simp <;> with_reducible rfl) hd0 ?_
          try simp only [Act.put, tkT, tk0, tkS]
          refine wpAnyH_take (i := 5) (oi := ?oo28) (v := undef) ?ii28 (by kernel_rfl) ?ff28 (by kernel_rfl) ?qq28 (Or.inr ⟨?ww28, rfl⟩) hd0 ?rr28
          case ii28 => simp only [List.getElem?_toArray, List.getElem?_cons_succ, List.getElem?_cons_zero]; rfl
          case ff28 => kernel_rfl
          case qq28 => exact fun _ _ _ h => h
          case ww28 => rfl
          try simp only [Act.put, List.setIfInBounds_toArray, List.set_cons_zero, List.set_cons_succ]
          refine wpAnyH_take (i := 6) (oi := ?oo29) (v := undef) ?ii29 (by kernel_rfl) ?ff29 (by kernel_rfl) ?qq29 (Or.inr ⟨?ww29, rfl⟩) hd0 ?rr29
          case ii29 => simp only [List.getElem?_toArray, List.getElem?_cons_succ, List.getElem?_cons_zero]; rfl
          case ff29 => kernel_rfl
          case qq29 => exact fun _ _ _ h => h
          case ww29 => rfl
          try simp only [Act.put, List.setIfInBounds_toArray, List.set_cons_zero, List.set_cons_succ]
          refine wpAnyH_take (i := 7) (oi := ?oo30) (v := undef) ?ii30 (by kernel_rfl) ?ff30 (by kernel_rfl) ?qq30 (Or.inr ⟨?ww30, rfl⟩) hd0 ?rr30
          case ii30 => simp only [List.getElem?_toArray, List.getElem?_cons_succ, List.getElem?_cons_zero]; rfl
          case ff30 => kernel_rfl
          case qq30 => exact fun _ _ _ h => h
          case ww30 => rfl
          try simp only [Act.put, List.setIfInBounds_toArray, List.set_cons_zero, List.set_cons_succ]
          refine wpAnyH_take (i := 8) (oi := ?oo31) (v := undef) ?ii31 (by kernel_rfl) ?ff31 (by kernel_rfl) ?qq31 (Or.inr ⟨?ww31, rfl⟩) hd0 ?rr31
          case ii31 => simp only [List.getElem?_toArray, List.getElem?_cons_succ, List.getElem?_cons_zero]; rfl
          case ff31 => kernel_rfl
          case qq31 => exact fun _ _ _ h => h
          case ww31 => rfl
          try simp only [Act.put, List.setIfInBounds_toArray, List.set_cons_zero, List.set_cons_succ]
          refine wpAnyH_take (i := 9) (oi := ?oo32) (v := undef) ?ii32 (by kernel_rfl) ?ff32 (by kernel_rfl) ?qq32 (Or.inr ⟨?ww32, rfl⟩) hd0 ?rr32
          case ii32 => simp only [List.getElem?_toArray, List.getElem?_cons_succ, List.getElem?_cons_zero]; rfl
          case ff32 => kernel_rfl
          case qq32 => exact fun _ _ _ h => h
          case ww32 => rfl
          try simp only [Act.put, List.setIfInBounds_toArray, List.set_cons_zero, List.set_cons_succ]
          refine wpAnyH_take (i := 10) (oi := ?oo33) (v := undef) ?ii33 (by kernel_rfl) ?ff33 (by kernel_rfl) ?qq33 (Or.inr ⟨?ww33, rfl⟩) hd0 ?rr33
          case ii33 => simp only [List.getElem?_toArray, List.getElem?_cons_succ, List.getElem?_cons_zero]; rfl
          case ff33 => kernel_rfl
          case qq33 => exact fun _ _ _ h => h
          case ww33 => rfl
          try simp only [Act.put, List.setIfInBounds_toArray, List.set_cons_zero, List.set_cons_succ]
          refine wpAnyH_take (i := 11) (oi := ?oo34) (v := undef) ?ii34 (by kernel_rfl) ?ff34 (by kernel_rfl) ?qq34 (Or.inr ⟨?ww34, rfl⟩) hd0 ?rr34
          case ii34 => simp only [List.getElem?_toArray, List.getElem?_cons_succ, List.getElem?_cons_zero]; rfl
          case ff34 => kernel_rfl
          case qq34 => exact fun _ _ _ h => h
          case ww34 => rfl
          try simp only [Act.put, List.setIfInBounds_toArray, List.set_cons_zero, List.set_cons_succ]
          refine wpAnyH_take (i := 12) (oi := ?oo35) (v := undef) ?ii35 (by kernel_rfl) ?ff35 (by kernel_rfl) ?qq35 (Or.inr ⟨?ww35, rfl⟩) hd0 ?rr35
          case ii35 => simp only [List.getElem?_toArray, List.getElem?_cons_succ, List.getElem?_cons_zero]; rfl
          case ff35 => kernel_rfl
          case qq35 => exact fun _ _ _ h => h
          case ww35 => rfl
          try simp only [Act.put, List.setIfInBounds_toArray, List.set_cons_zero, List.set_cons_succ]
          refine wpAnyH_take (i := 13) (oi := ?oo36) (v := undef) ?ii36 (by kernel_rfl) ?ff36 (by kernel_rfl) ?qq36 (Or.inr ⟨?ww36, rfl⟩) hd0 ?rr36
          case ii36 => simp only [List.getElem?_toArray, List.getElem?_cons_succ, List.getElem?_cons_zero]; rfl
          case ff36 => kernel_rfl
          case qq36 => exact fun _ _ _ h => h
          case ww36 => rfl
          try simp only [Act.put, List.setIfInBounds_toArray, List.set_cons_zero, List.set_cons_succ]
          refine wpAnyH_take (i := 14) (oi := ?oo37) (v := undef) ?ii37 (by kernel_rfl) ?ff37 (by kernel_rfl) ?qq37 (Or.inr ⟨?ww37, rfl⟩) hd0 ?rr37
          case ii37 => simp only [List.getElem?_toArray, List.getElem?_cons_succ, List.getElem?_cons_zero]; rfl
          case ff37 => kernel_rfl
          case qq37 => exact fun _ _ _ h => h
          case ww37 => rfl
          try simp only [Act.put, List.setIfInBounds_toArray, List.set_cons_zero, List.set_cons_succ]
          refine wpAnyH_take (i := 15) (oi := ?oo38) (v := undef) ?ii38 (by kernel_rfl) ?ff38 (by kernel_rfl) ?qq38 (Or.inr ⟨?ww38, rfl⟩) hd0 ?rr38
          case ii38 => simp only [List.getElem?_toArray, List.getElem?_cons_succ, List.getElem?_cons_zero]; rfl
          case ff38 => kernel_rfl
          case qq38 => exact fun _ _ _ h => h
          case ww38 => rfl
          try simp only [Act.put, List.setIfInBounds_toArray, List.set_cons_zero, List.set_cons_succ]
          refine wpAnyH_take (i := 16) (oi := ?oo39) (v := undef) ?ii39 (by kernel_rfl) ?ff39 (by kernel_rfl) ?qq39 (Or.inr ⟨?ww39, rfl⟩) hd0 ?rr39
          case ii39 => simp only [List.getElem?_toArray, List.getElem?_cons_succ, List.getElem?_cons_zero]; rfl
          case ff39 => kernel_rfl
          case qq39 => exact fun _ _ _ h => h
          case ww39 => rfl
          try simp only [Act.put, List.setIfInBounds_toArray, List.set_cons_zero, List.set_cons_succ]
          refine wpAnyH_take (i := 17) (oi := ?oo40) (v := undef) ?ii40 (by kernel_rfl) ?ff40 (by kernel_rfl) ?qq40 (Or.inr ⟨?ww40, rfl⟩) hd0 ?rr40
          case ii40 => simp only [List.getElem?_toArray, List.getElem?_cons_succ, List.getElem?_cons_zero]; rfl
          case ff40 => kernel_rfl
          case qq40 => exact fun _ _ _ h => h
          case ww40 => rfl
          try simp only [Act.put, List.setIfInBounds_toArray, List.set_cons_zero, List.set_cons_succ]
          refine wpAnyH_take (i := 18) (oi := ?oo41) (v := undef) ?ii41 (by kernel_rfl) ?ff41 (by kernel_rfl) ?qq41 (Or.inr ⟨?ww41, rfl⟩) hd0 ?rr41
          case ii41 => simp only [List.getElem?_toArray, List.getElem?_cons_succ, List.getElem?_cons_zero]; rfl
          case ff41 => kernel_rfl
          case qq41 => exact fun _ _ _ h => h
          case ww41 => rfl
          try simp only [Act.put, List.setIfInBounds_toArray, List.set_cons_zero, List.set_cons_succ]
          refine wpAnyH_take (i := 19) (oi := ?oo42) (v := undef) ?ii42 (by kernel_rfl) ?ff42 (by kernel_rfl) ?qq42 (Or.inr ⟨?ww42, rfl⟩) hd0 ?rr42
          case ii42 => simp only [List.getElem?_toArray, List.getElem?_cons_succ, List.getElem?_cons_zero]; rfl
          case ff42 => kernel_rfl
          case qq42 => exact fun _ _ _ h => h
          case ww42 => rfl
          try simp only [Act.put, List.setIfInBounds_toArray, List.set_cons_zero, List.set_cons_succ]
          refine wpAnyH_take (i := 20) (oi := ?oo43) (v := undef) ?ii43 (by kernel_rfl) ?ff43 (by kernel_rfl) ?qq43 (Or.inr ⟨?ww43, rfl⟩) hd0 ?rr43
          case ii43 => simp only [List.getElem?_toArray, List.getElem?_cons_succ, List.getElem?_cons_zero]; rfl
          case ff43 => kernel_rfl
          case qq43 => exact fun _ _ _ h => h
          case ww43 => rfl
          try simp only [Act.put, List.setIfInBounds_toArray, List.set_cons_zero, List.set_cons_succ]
          refine tkH 21 (by simp only [tkA, tkG]; rfl) (by kernel_rfl) (by exact fun _ _ _ h => h) (by rfl) (by intro W hW; go_simp <;> with_reducible rfl) hd0 ?_
          try simp only [Act.put, tkT, tk0, tkS]
          refine wpAnyH_done (by kernel_rfl) ?_ _
          go_wp2_with fail
          go_meet
          exact ⟨rfl, hd0⟩
        case rest =>
        obtain ⟨rfl, hS2⟩ := hcut
        have HS2 := Lib.hid hS2
        clear hS2 HS g8 gk HK
        cases htv : tst with
        | true =>
          have hml : m < L.length := by
            apply Classical.byContradiction
            intro hn
            have := Htst.out
            rw [List.getElem?_eq_none (by omega)] at this
            rw [htv] at this
            cases this
          obtain ⟨q, hLq⟩ : ∃ y, L[m]? = some y := ⟨_, List.getElem?_eq_getElem hml⟩
          have HR2 : Hid (RoI w ⟨nodes, faulty, slot, gap, rho, dmin, dmax, margin, some ⟨bp, op, none⟩, pn, pcap, parts, QA, qn, qcap, ports, RA, rn, rcap, routes⟩ k (.slice Av L.length cv) L (.int .i64 ((m : Int) + 1)) wc) := Lib.hid ⟨m + 1, by omega, by go_num, fun r hr => by
            rw [List.take_add_one, hLq] at hr
            rcases List.mem_append.1 hr with hr | hr
            · exact Hle.out r hr
            · have h1 := Htst.out
              rw [htv, hLq] at h1
              have e : r = q := by simpa using hr
              rw [e]
              exact of_decide_eq_true h1.symm, HS2.out⟩
          have hLl : L.length ≤ 12 := by omega
          clear HR Hle HS2 Htst Hmem HPA2 Hmk Hkey Hris hLq htv
          go_wp2_with fail
          go_roundw
          case rel => exact HR2.out
          case measure => simp [intOf]; omega
        | false =>
        have HRr : Hid (∀ v W, SortV w ⟨nodes, faulty, slot, gap, rho, dmin, dmax, margin, some ⟨bp, op, none⟩, pn, pcap, parts, QA, qn, qcap, ports, RA, rn, rcap, routes⟩ v (L.take m ++ k :: L.drop m) W → RoR w ⟨nodes, faulty, slot, gap, rho, dmin, dmax, margin, some ⟨bp, op, none⟩, pn, pcap, parts, QA, qn, qcap, ports, RA, rn, rcap, routes⟩ node v (.int .i64 ((k : Int) + 1)) W) := Lib.hid fun v W hW => HR.out v W (by
          rw [ins_cut Hris.out Hle.out (fun q hq => by
            have h1 := Htst.out
            rw [htv, hq] at h1
            have := of_decide_eq_false h1.symm
            omega)]
          exact hW)
        obtain ⟨A1, c1, hrun1, hc1⟩ := cut_to HS2.out.2 m hm
        obtain ⟨A2, c2, hrun2, hc2⟩ := cut_from HS2.out.2 m hm
        have Hc1 := Lib.hid (fun W (hW : Below wc.heap.size wc W) => hc1 W _ (HS2.out.step hW).2)
        have Hc2 := Lib.hid (fun W (hW : Below wc.heap.size wc W) => hc2 W _ (HS2.out.step hW).2)
        have hLl : L.length ≤ 12 := by omega
        have hd0 : Below wc.heap.size wc wc.drew := (Below.refl _ _).drew
        have elt : (idxV (L.take m)).length = m * 1 := by rw [idxV_length, List.length_take]; omega
        have eld : (idxV (L.drop m)).length = (L.length - m) * 1 := by rw [idxV_length, List.length_drop]; omega
        clear HR Hle Htst Hmem HPA2 Hmk Hkey Hris htv hc1 hc2 HPA HFin
        have HsO : (wc.drew.alloc (.cells #[.int .i64 (k : Nat)] 3)).heap.size = wc.heap.size + 1 := Array.size_push _
        have HsN : (wc.drew.alloc (.cells #[] 3)).heap.size = wc.heap.size + 1 := Array.size_push _
        have HsO2 : ((wc.drew.alloc (.cells #[.int .i64 (k : Nat)] 3)).alloc (.cells #[] 3)).heap.size = wc.heap.size + 1 + 1 := by rw [← HsO]; exact Array.size_push _
        have HsN2 : ((wc.drew.alloc (.cells #[] 3)).alloc (.cells #[.int .i64 (k : Nat)] 3)).heap.size = wc.heap.size + 1 + 1 := by rw [← HsN]; exact Array.size_push _
        have HoA2 : Hid (((wc.drew.alloc (.cells #[] 3)).alloc (.cells #[.int .i64 (k : Nat)] 3)).ownsRow wc.heap.size 3 1 (.slice (some ⟨wc.heap.size, 0, none⟩) 0 0) 0 (idxV [])) := Lib.hid (own_keep (own_empty6 wc.drew) ((Below.refl (wc.drew.alloc (.cells #[] 3)).heap.size (wc.drew.alloc (.cells #[] 3))).alloc (Nat.le_refl _) (.cells #[.int .i64 (k : Nat)] 3)))
        have HoB2 : Hid (((wc.drew.alloc (.cells #[.int .i64 (k : Nat)] 3)).alloc (.cells #[] 3)).ownsRow wc.heap.size 3 1 (.slice (some ⟨wc.heap.size + 1, 0, none⟩) 0 0) 0 (idxV [])) := Lib.hid (by
          have h9 := own_empty6 (wc.drew.alloc (.cells #[.int .i64 (k : Nat)] 3))
          rw [HsO] at h9
          exact own_low h9 (by omega))
        have HcA2 : Hid (∀ w1, Apart (fun q => (Value.slice (some ⟨wc.heap.size, 0, none⟩) 0 0).ownBlock = some q) ((wc.drew.alloc (.cells #[] 3)).alloc (.cells #[.int .i64 (k : Nat)] 3)) w1 → w1.cell? ⟨wc.heap.size + 1, 0, none⟩ = some (.int .i64 (k : Nat))) := Lib.hid fun w1 ha => by
          have h9 := heap_alloc_new (wc.drew.alloc (.cells #[] 3)) (.cells #[.int .i64 (k : Nat)] 3 (0, 0))
          rw [HsN] at h9
          refine (ha.cell (p := ⟨wc.heap.size + 1, 0, none⟩) (by rw [HsN2]; simp only; omega) (fun e => ?_)).trans (cell_at h9 0 rfl)
          simp only [Value.ownBlock, Option.some.injEq] at e
          omega
        have HcB2 : Hid (∀ w1, Apart (fun q => (Value.slice (some ⟨wc.heap.size + 1, 0, none⟩) 0 0).ownBlock = some q) ((wc.drew.alloc (.cells #[.int .i64 (k : Nat)] 3)).alloc (.cells #[] 3)) w1 → w1.cell? ⟨wc.heap.size, 0, none⟩ = some (.int .i64 (k : Nat))) := Lib.hid fun w1 ha => by
          have h9 : ((wc.drew.alloc (.cells #[.int .i64 (k : Nat)] 3)).alloc (.cells #[] 3)).heap[wc.heap.size]? = some (.cells #[.int .i64 (k : Nat)] 3 (0, 0)) := (Below.heap_alloc _ _ _ (by rw [HsO]; omega)).trans (heap_alloc_new wc.drew _)
          refine (ha.cell (p := ⟨wc.heap.size, 0, none⟩) (by rw [HsO2]; simp only; omega) (fun e => ?_)).trans (cell_at h9 0 rfl)
          simp only [Value.ownBlock, Option.some.injEq] at e
          omega
        go_wp2_with fail
        refine wp_region_held_drew (S := fun W => Below wc.heap.size wc W) (by kernel_rfl) hd0 (fun _ => ?_)
        refine tkH 1 (by simp only [tkA, tkG]; rfl) (by kernel_rfl) (by exact fun _ _ _ h => h) (by rfl) (by intro W hW; go_simp <;> with_reducible rfl) hd0 ?_
        try simp only [Act.put, tkT, tk0, tkS]
        refine tkH 2 (by simp only [tkA, tkG]; rfl) (by kernel_rfl) (by exact fun _ _ _ h => h) (by rfl) (by intro W hW; go_simp <;> with_reducible rfl) hd0 ?_
        try simp only [Act.put, tkT, tk0, tkS]
        refine tkH 3 (by simp only [tkA, tkG]; rfl) (by kernel_rfl) (by exact fun _ _ _ h => h) (by rfl) (by intro W hW; go_simp <;> with_reducible rfl) hd0 ?_
        try simp only [Act.put, tkT, tk0, tkS]
        refine tkH 5 (by simp only [tkA, tkG]; rfl) (by kernel_rfl) (by exact fun _ _ _ h => h) (by rfl) (by intro W hW; go_simp <;> with_reducible rfl) hd0 ?_
        try simp only [Act.put, tkT, tk0, tkS]
        refine tkH 8 (by simp only [tkA, tkG]; rfl) (by kernel_rfl) (by exact fun _ _ _ h => h) (by rfl) (by intro W hW; go_simp <;> with_reducible rfl) hd0 ?_
        try simp only [Act.put, tkT, tk0, tkS]
        refine tkH 9 (by simp only [tkA, tkG]; rfl) (by kernel_rfl) (by exact fun _ _ _ h => h) (by rfl) (by intro W hW; go_simp <;> with_reducible rfl) hd0 ?_
        try simp only [Act.put, tkT, tk0, tkS]
        refine tkH 10 (by simp only [tkA, tkG]; rfl) (by kernel_rfl) (by exact fun _ _ _ h => h) (by rfl) (by intro W hW; go_simp <;> with_reducible rfl) hd0 ?_
        try simp only [Act.put, tkT, tk0, tkS]
        refine wpAnyH_ready (rs := [0, 6]) (by kernel_rfl) (by simp) ?_
        refine AllReadyH.cons (o := ?oa1) ?ia1 (fun K hK => ?_) (AllReadyH.cons (o := ?oa2) ?ia2 (fun K hK => ?_) AllReadyH.nil)
        case ia1 => simp only [List.getElem?_toArray, List.getElem?_cons_zero]; rfl
        case ia2 => simp only [List.getElem?_toArray, List.getElem?_cons_succ, List.getElem?_cons_zero]; rfl
        · go_simp
          refine hK.out _ _ ?ha0 (fun _ => ?_)
          case ha0 => exact hd0.alloc hd0.size (.cells #[] 3)
          clear hK K
          refine wpAnyH_ready (rs := [4, 6]) (by kernel_rfl) (by simp) ?_
          refine AllReadyH.cons (o := ?ob1) ?ib1 (fun K hK => ?_) (AllReadyH.cons (o := ?ob2) ?ib2 (fun K hK => ?_) AllReadyH.nil)
          case ib1 => simp only [List.getElem?_toArray, List.getElem?_cons_succ, List.getElem?_cons_zero]; rfl
          case ib2 => simp only [List.getElem?_toArray, List.getElem?_cons_succ, List.getElem?_cons_zero]; rfl
          · refine step_append_s6 rfl (.tmp 47) (.tmp 50) _ rfl wc.heap.size 3 _ 1 8 Try.underlying34 infoI rfl (by omega) _ 0 _ rfl (own_empty6 wc.drew) A1 m c1 (idxV (L.take m)) rfl elt (Hc1.out _ (hd0.alloc hd0.size (.cells #[] 3))) (idxV_one _) (by unfold maxLen; omega) (by omega) ((hd0.alloc hd0.size (.cells #[] 3)).size) ?_
            intro v1 w1 ho1 ha1 _
            rw [Nat.zero_add] at ho1
            have hd1 := own_below6 (hd0.alloc hd0.size (.cells #[] 3)) (own_empty6 wc.drew) (Nat.le_refl _) ha1
            have Ho1 := Lib.hid ho1
            clear ho1 ha1
            go_wp2_with fail
            refine hK.out _ _ hd1 (fun _ => ?_)
            clear hK K
            refine wpAnyH_ready (rs := [6]) (by kernel_rfl) (by simp) ?_
            refine AllReadyH.cons (o := ?oz6) ?iz6 (fun K hK => ?_) AllReadyH.nil
            case iz6 => simp only [List.getElem?_toArray, List.getElem?_cons_succ, List.getElem?_cons_zero]; rfl
            go_simp
            refine hK.out _ _ ?hz6 (fun _ => ?_)
            case hz6 => exact hd1.alloc hd1.size _
            clear hK K
            have hdk := hd1.alloc hd1.size (.cells #[.int .i64 (k : Nat)] 3)
            have ck := cell_at (heap_alloc_new w1 (.cells #[.int .i64 (k : Nat)] 3 (0, 0))) 0 rfl
            have Ho1k := Lib.hid (own_keep Ho1.out ((Below.refl w1.heap.size w1).alloc (Nat.le_refl _) (.cells #[.int .i64 (k : Nat)] 3)))
            refine clH 7 (by kernel_rfl) (by simp only [tkA, tkG]; rfl) (fun K hK => ?_)
            refine step_append_s6 rfl (.tmp 51) (.tmp 53) _ rfl wc.heap.size 3 _ 1 8 Try.underlying34 infoI rfl (by omega) _ _ _ rfl (Ho1k.out) _ 1 1 [.int .i64 (k : Nat)] rfl rfl (fun _ => ⟨_, rfl, fun j u hj => by
              match j, hj with
              | 0, hj =>
                cases hj
                exact ck⟩) (fun u hu => by rw [List.mem_singleton.1 hu]; rfl) (by unfold maxLen; omega) (by omega) (hdk.size) ?_
            intro v2 w2 ho2 ha2 _
            have hd2 := own_below6 hdk Ho1k.out (Nat.le_refl _) ha2
            have Ho2 := Lib.hid ho2
            clear ho2 ha2
            go_wp2_with fail
            refine hK.out _ _ hd2 (fun _ => ?_)
            clear hK K
            refine clH 11 (by kernel_rfl) (by simp only [tkA, tkG]; rfl) (fun K hK => ?_)
            refine step_append_s6 rfl (.tmp 54) (.tmp 57) _ rfl wc.heap.size 3 _ 1 8 Try.underlying34 infoI rfl (by omega) _ _ _ rfl (Ho2.out) A2 (L.length - m) c2 (idxV (L.drop m)) rfl eld (Hc2.out _ hd2) (idxV_one _) (by unfold maxLen; omega) (by omega) (hd2.size) ?_
            intro v3 w3 ho3 ha3 _
            have hd3 := own_below6 hd2 Ho2.out (Nat.le_refl _) ha3
            have HR3 := Lib.hid (HRr.out v3 w3 (ro_fin hm HS2.out hd3 (by omega) ho3))
            obtain ⟨A3, c3, hv3, -⟩ := own_slice ho3
            subst hv3
            clear ho3 ha3
            go_wp2_with fail
            refine hK.out _ _ hd3 (fun _ => ?_)
            clear hK K
            refine tkH 12 (by simp only [tkA, tkG]; rfl) (by kernel_rfl) (by exact fun _ _ _ h => h) (by rfl) (by intro W hW; go_simp <;> with_reducible rfl) hd3 ?_
            try simp only [Act.put, tkT, tk0, tkS]
            refine wpAnyH_done (by kernel_rfl) ?_ _
            go_wp2_with fail
            go_roundw
            case rel => exact HR3.out
            case measure => simp [intOf]; omega
          · go_simp
            refine hK.out _ _ ?hb6 (fun _ => ?_)
            case hb6 => exact (hd0.alloc hd0.size (.cells #[] 3)).alloc (hd0.alloc hd0.size (.cells #[] 3)).size (.cells #[.int .i64 (k : Nat)] 3)
            clear hK K
            refine clH 4 (by kernel_rfl) (by simp only [tkA, tkG]; rfl) (fun K hK => ?_)
            refine step_append_s6 rfl (.tmp 47) (.tmp 50) _ rfl wc.heap.size 3 _ 1 8 Try.underlying34 infoI rfl (by omega) _ 0 _ rfl (HoA2.out) A1 m c1 (idxV (L.take m)) rfl elt (Hc1.out _ ((hd0.alloc hd0.size (.cells #[] 3)).alloc (hd0.alloc hd0.size (.cells #[] 3)).size (.cells #[.int .i64 (k : Nat)] 3))) (idxV_one _) (by unfold maxLen; omega) (by omega) (((hd0.alloc hd0.size (.cells #[] 3)).alloc (hd0.alloc hd0.size (.cells #[] 3)).size (.cells #[.int .i64 (k : Nat)] 3)).size) ?_
            intro v1 w1 ho1 ha1 _
            rw [Nat.zero_add] at ho1
            have hd1 := own_below6 ((hd0.alloc hd0.size (.cells #[] 3)).alloc (hd0.alloc hd0.size (.cells #[] 3)).size (.cells #[.int .i64 (k : Nat)] 3)) (HoA2.out) (Nat.le_refl _) ha1
            have ck := HcA2.out w1 ha1
            have Ho1 := Lib.hid ho1
            clear ho1 ha1
            go_wp2_with fail
            refine hK.out _ _ hd1 (fun _ => ?_)
            clear hK K
            refine clH 7 (by kernel_rfl) (by simp only [tkA, tkG]; rfl) (fun K hK => ?_)
            refine step_append_s6 rfl (.tmp 51) (.tmp 53) _ rfl wc.heap.size 3 _ 1 8 Try.underlying34 infoI rfl (by omega) _ _ _ rfl (Ho1.out) _ 1 1 [.int .i64 (k : Nat)] rfl rfl (fun _ => ⟨_, rfl, fun j u hj => by
              match j, hj with
              | 0, hj =>
                cases hj
                exact ck⟩) (fun u hu => by rw [List.mem_singleton.1 hu]; rfl) (by unfold maxLen; omega) (by omega) (hd1.size) ?_
            intro v2 w2 ho2 ha2 _
            have hd2 := own_below6 hd1 Ho1.out (Nat.le_refl _) ha2
            have Ho2 := Lib.hid ho2
            clear ho2 ha2
            go_wp2_with fail
            refine hK.out _ _ hd2 (fun _ => ?_)
            clear hK K
            refine clH 11 (by kernel_rfl) (by simp only [tkA, tkG]; rfl) (fun K hK => ?_)
            refine step_append_s6 rfl (.tmp 54) (.tmp 57) _ rfl wc.heap.size 3 _ 1 8 Try.underlying34 infoI rfl (by omega) _ _ _ rfl (Ho2.out) A2 (L.length - m) c2 (idxV (L.drop m)) rfl eld (Hc2.out _ hd2) (idxV_one _) (by unfold maxLen; omega) (by omega) (hd2.size) ?_
            intro v3 w3 ho3 ha3 _
            have hd3 := own_below6 hd2 Ho2.out (Nat.le_refl _) ha3
            have HR3 := Lib.hid (HRr.out v3 w3 (ro_fin hm HS2.out hd3 (by omega) ho3))
            obtain ⟨A3, c3, hv3, -⟩ := own_slice ho3
            subst hv3
            clear ho3 ha3
            go_wp2_with fail
            refine hK.out _ _ hd3 (fun _ => ?_)
            clear hK K
            refine tkH 12 (by simp only [tkA, tkG]; rfl) (by kernel_rfl) (by exact fun _ _ _ h => h) (by rfl) (by intro W hW; go_simp <;> with_reducible rfl) hd3 ?_
            try simp only [Act.put, tkT, tk0, tkS]
            refine wpAnyH_done (by kernel_rfl) ?_ _
            go_wp2_with fail
            go_roundw
            case rel => exact HR3.out
            case measure => simp [intOf]; omega
        · go_simp
          refine hK.out _ _ ?ha6 (fun _ => ?_)
          case ha6 => exact hd0.alloc hd0.size (.cells #[.int .i64 (k : Nat)] 3)
          clear hK K
          refine wpAnyH_ready (rs := [0]) (by kernel_rfl) (by simp) ?_
          refine AllReadyH.cons (o := ?oc0) ?ic0 (fun K hK => ?_) AllReadyH.nil
          case ic0 => simp only [List.getElem?_toArray, List.getElem?_cons_zero]; rfl
          go_simp
          refine hK.out _ _ ?hc0 (fun _ => ?_)
          case hc0 => exact (hd0.alloc hd0.size (.cells #[.int .i64 (k : Nat)] 3)).alloc (hd0.alloc hd0.size (.cells #[.int .i64 (k : Nat)] 3)).size (.cells #[] 3)
          clear hK K
          refine clH 4 (by kernel_rfl) (by simp only [tkA, tkG]; rfl) (fun K hK => ?_)
          refine step_append_s6 rfl (.tmp 47) (.tmp 50) _ rfl wc.heap.size 3 _ 1 8 Try.underlying34 infoI rfl (by omega) _ 0 _ rfl (HoB2.out) A1 m c1 (idxV (L.take m)) rfl elt (Hc1.out _ ((hd0.alloc hd0.size (.cells #[.int .i64 (k : Nat)] 3)).alloc (hd0.alloc hd0.size (.cells #[.int .i64 (k : Nat)] 3)).size (.cells #[] 3))) (idxV_one _) (by unfold maxLen; omega) (by omega) (((hd0.alloc hd0.size (.cells #[.int .i64 (k : Nat)] 3)).alloc (hd0.alloc hd0.size (.cells #[.int .i64 (k : Nat)] 3)).size (.cells #[] 3)).size) ?_
          intro v1 w1 ho1 ha1 _
          rw [Nat.zero_add] at ho1
          have hd1 := own_below6 ((hd0.alloc hd0.size (.cells #[.int .i64 (k : Nat)] 3)).alloc (hd0.alloc hd0.size (.cells #[.int .i64 (k : Nat)] 3)).size (.cells #[] 3)) (HoB2.out) (Nat.le_refl _) ha1
          have ck := HcB2.out w1 ha1
          have Ho1 := Lib.hid ho1
          clear ho1 ha1
          go_wp2_with fail
          refine hK.out _ _ hd1 (fun _ => ?_)
          clear hK K
          refine clH 7 (by kernel_rfl) (by simp only [tkA, tkG]; rfl) (fun K hK => ?_)
          refine step_append_s6 rfl (.tmp 51) (.tmp 53) _ rfl wc.heap.size 3 _ 1 8 Try.underlying34 infoI rfl (by omega) _ _ _ rfl (Ho1.out) _ 1 1 [.int .i64 (k : Nat)] rfl rfl (fun _ => ⟨_, rfl, fun j u hj => by
            match j, hj with
            | 0, hj =>
              cases hj
              exact ck⟩) (fun u hu => by rw [List.mem_singleton.1 hu]; rfl) (by unfold maxLen; omega) (by omega) (hd1.size) ?_
          intro v2 w2 ho2 ha2 _
          have hd2 := own_below6 hd1 Ho1.out (Nat.le_refl _) ha2
          have Ho2 := Lib.hid ho2
          clear ho2 ha2
          go_wp2_with fail
          refine hK.out _ _ hd2 (fun _ => ?_)
          clear hK K
          refine clH 11 (by kernel_rfl) (by simp only [tkA, tkG]; rfl) (fun K hK => ?_)
          refine step_append_s6 rfl (.tmp 54) (.tmp 57) _ rfl wc.heap.size 3 _ 1 8 Try.underlying34 infoI rfl (by omega) _ _ _ rfl (Ho2.out) A2 (L.length - m) c2 (idxV (L.drop m)) rfl eld (Hc2.out _ hd2) (idxV_one _) (by unfold maxLen; omega) (by omega) (hd2.size) ?_
          intro v3 w3 ho3 ha3 _
          have hd3 := own_below6 hd2 Ho2.out (Nat.le_refl _) ha3
          have HR3 := Lib.hid (HRr.out v3 w3 (ro_fin hm HS2.out hd3 (by omega) ho3))
          obtain ⟨A3, c3, hv3, -⟩ := own_slice ho3
          subst hv3
          clear ho3 ha3
          go_wp2_with fail
          refine hK.out _ _ hd3 (fun _ => ?_)
          clear hK K
          refine tkH 12 (by simp only [tkA, tkG]; rfl) (by kernel_rfl) (by exact fun _ _ _ h => h) (by rfl) (by intro W hW; go_simp <;> with_reducible rfl) hd3 ?_
          try simp only [Act.put, tkT, tk0, tkS]
          refine wpAnyH_done (by kernel_rfl) ?_ _
          go_wp2_with fail
          go_roundw
          case rel => exact HR3.out
          case measure => simp [intOf]; omega
    have hkn : pn = k := by omega
    subst hkn
    have HF := Lib.hid (HFin.out _ _ HS.out)
    clear HS HFin
    go_wp2_with fail
    go_ret
    exact HF.out
end Go.Proofs.Ytfgpfmhjnccccaa
