/- PaceMeets: the walk of the law at tables and ints in memory. Conditions: where they lie. -/
import Derived.Test.YthhbdnjihhpalaaPacL
import Derived.Deep.OwnRows
namespace Go.Proofs.Ythhbdnjihhpalaa
open Go.RowKit
set_option maxRecDepth 100000

def rr (ra rb : Int) (k : Nat) : Int := if k = 0 then ra else rb
theorem BoxMS.mr {w : World} {x : CfgC} {ra rb : Int} {W : World} (h : BoxMS w x ra rb W) {k : Nat} (hk : k < 2) : W.cell? ⟨w.heap.size + 1, k, none⟩ = some (.int .i64 (rr ra rb k)) := by
  obtain rfl | rfl : k = 0 ∨ k = 1 := by omega
  · exact h.m0
  · exact h.m1
theorem MK.xk {w : World} {x : CfgC} {ra rb : Int} {gs gx N : Nat} {cur : List Int} {a0 a1 : Int} {W : World} (h : MK w x ra rb gs gx N cur a0 a1 W) {k : Nat} (hk : k < 2) : W.cell? ⟨gx, k, none⟩ = some (.int .i64 (rr a0 a1 k)) := by
  obtain rfl | rfl : k = 0 ∨ k = 1 := by omega
  · exact h.x0
  · exact h.x1
theorem MK.put {w : World} {x : CfgC} {ra rb : Int} {gs gx N : Nat} {cur : List Int} {a0 a1 : Int} {W : World} (h : MK w x ra rb gs gx N cur a0 a1 W) {k : Nat} (hk : k < 2) (v : Int) : MK w x ra rb gs gx N cur (if k = 0 then v else a0) (if k = 1 then v else a1) (W.setCell ⟨gx, k, none⟩ (.int .i64 v)) := by
  obtain rfl | rfl : k = 0 ∨ k = 1 := by omega
  · exact h.stored 0 v _ _ rfl
  · exact h.stored 1 v _ _ rfl
theorem lie_nums11 {c : TableP.Cfg} (h : SndP.Nums c) {n : Int} (hn : 0 ≤ n ∧ n ≤ 8) : 0 ≤ SndP.sendT c n ∧ SndP.sendT c n ≤ 150994944 := by
  have hs := h.slot
  have hm := h.margin
  have h2 := SndP.mul_in hn ⟨by omega, hs.2⟩
  unfold SndP.sendT
  omega
/-- So many beginnings are laid. -/
def MR1 (w : World) (x : CfgC) (ra rb : Int) (gs N : Nat) (f : Nat → Int) (i : Value) (W : World) : Prop :=
  ∃ (k : Nat) (cur : List Int), k ≤ N ∧ i = .int .i64 (k : Nat) ∧ cur.length = N ∧ (∀ j, j < k → cur[j]? = some (f j)) ∧ BoxMS w x ra rb W ∧ W.ownsRow (boxM w x ra rb).heap.size 3 1 (.slice (some ⟨gs, 0, none⟩) N N) N (intV cur)
/-- So many nodes' next beginnings are found. -/
def MR2 (w : World) (x : CfgC) (ra rb : Int) (gs gx N : Nat) (cur : List Int) (nx : Nat → Int) (i : Value) (W : World) : Prop :=
  ∃ (k : Nat) (a0 a1 : Int), k ≤ 2 ∧ i = .int .i64 (k : Nat) ∧ (1 ≤ k → a0 = nx 0 ∧ -1000000000000 ≤ a0 ∧ a0 ≤ 1000000000000) ∧ (2 ≤ k → a1 = nx 1 ∧ -1000000000000 ≤ a1 ∧ a1 ≤ 1000000000000) ∧ MK w x ra rb gs gx N cur a0 a1 W
/-- So many nodes are heard. -/
def MR3 (w : World) (x : CfgC) (ra rb : Int) (gs gx N : Nat) (cur : List Int) (a0 a1 : Int) (k : Nat) (since rate : Int) (b bk : Nat) (f : Nat → Int) (i : Value) (W : World) : Prop :=
  ∃ (j : Nat) (hs : List Bool) (ds : List Int), j ≤ N ∧ i = .int .i64 (j : Nat) ∧ PacQ.Devs ds ∧ (∀ q, q < j → ds[q]? = some (f q)) ∧ (∀ q, j ≤ q → q < 7 → hs[q]? = some false ∧ ds[q]? = some 0) ∧ MP w x ra rb gs gx N cur a0 a1 k since rate b bk hs ds W
theorem mr1_more {w : World} {x : CfgC} {ra rb : Int} {gs N : Nat} {f : Nat → Int} {k : Nat} {cur : List Int} {W : World} (hk : k < N) (hc : cur.length = N) (hf : ∀ j, j < k → cur[j]? = some (f j)) (hB : BoxMS w x ra rb W) (ho : W.ownsRow (boxM w x ra rb).heap.size 3 1 (.slice (some ⟨gs, 0, none⟩) N N) N (intV cur)) :
    MR1 w x ra rb gs N f (.int .i64 ((k : Int) + 1)) (W.setCell ⟨gs, k, none⟩ (.int .i64 (f k))) := by
  refine ⟨k + 1, cur.set k (f k), hk, by go_num, by rw [List.length_set]; exact hc, fun j hj => ?_, ?_, istored ho k (f k)⟩
  · rw [List.getElem?_set]
    split
    · next e => subst e; rw [if_pos (by omega)]
    · next e => exact hf j (by omega)
  · have ha := (Apart.refl (fun q => q = gs) W).setCell (p := ⟨gs, k, none⟩) (.inl rfl) (.int .i64 (f k))
    exact hB.trans (ha.below hB.size (fun q hq => by subst hq; exact (ho.lt _ rfl).1))
theorem half_of {p : Int} (h : 0 ≤ p) : p.tdiv 2 = p / 2 := Int.tdiv_eq_ediv_of_nonneg h
theorem next_small {c : TableP.Cfg} (hn : SndP.Nums c) {since rt m : Int} (hr : ClkP.RateOk rt) (hs : 0 ≤ since ∧ since ≤ 1000000000) (hm : -68719476736 ≤ m ∧ m ≤ 68719476736) : -1000000000000 ≤ nextT c since rt m ∧ nextT c since rt m ≤ 1000000000000 := by
  have h3 := PacQ.round_in hn
  have := ClkP.real_small (since := since) (rate := rt) (loc := SndP.roundT c + m) (m := 70000000000) hr (by omega) (by omega)
  unfold nextT
  omega

set_option maxHeartbeats 8000000 in
theorem pmeets_law (x : CfgC) (A1 : Option Addr) (n1 c1 : Nat) (skews : List Int) (hl1 : skews.length = n1) (A2 : Option Addr) (n2 c2 : Nat) (delays : List Int) (hl2 : delays.length = n2) (lie ra rb : Int) (w : World) (h : CfgIn w x) (h1 : IntsIn w A1 skews) (h2 : IntsIn w A2 delays) : Calls Try.prog 5 #[x.value, .slice A1 n1 c1, .slice A2 n2 c2, .int .i64 lie, .agg #[.int .i64 ra, .int .i64 rb]] w (TruePost w) := by
  have HA := Lib.hid (fun W => awake11_any W)
  have HWk := Lib.hid (fun W (hW : BoxMS w x ra rb W) => works_any x W (h.below hW.below))
  have HST := Lib.hid (BoxMS.start w x ra rb)
  obtain ⟨L, hL⟩ : ∃ L, worksB x = L := ⟨_, rfl⟩
  rw [hL] at HWk
  cases L with
  | false =>
    clear h hL hl1 hl2 h1 h2
    obtain ⟨nodes, faulty, slot, gap, rho, dmin, dmax, margin, PA, pn, pcap, parts, QA, qn, qcap, ports, RA, rn, rcap, routes⟩ := x
    have d0 := fun W (hW : BoxMS w ⟨nodes, faulty, slot, gap, rho, dmin, dmax, margin, PA, pn, pcap, parts, QA, qn, qcap, ports, RA, rn, rcap, routes⟩ ra rb W) => hW.cells.c0
    have d1 := fun W (hW : BoxMS w ⟨nodes, faulty, slot, gap, rho, dmin, dmax, margin, PA, pn, pcap, parts, QA, qn, qcap, ports, RA, rn, rcap, routes⟩ ra rb W) => hW.cells.c1
    have d2 := fun W (hW : BoxMS w ⟨nodes, faulty, slot, gap, rho, dmin, dmax, margin, PA, pn, pcap, parts, QA, qn, qcap, ports, RA, rn, rcap, routes⟩ ra rb W) => hW.cells.c2
    have d3 := fun W (hW : BoxMS w ⟨nodes, faulty, slot, gap, rho, dmin, dmax, margin, PA, pn, pcap, parts, QA, qn, qcap, ports, RA, rn, rcap, routes⟩ ra rb W) => hW.cells.c3
    have d4 := fun W (hW : BoxMS w ⟨nodes, faulty, slot, gap, rho, dmin, dmax, margin, PA, pn, pcap, parts, QA, qn, qcap, ports, RA, rn, rcap, routes⟩ ra rb W) => hW.cells.c4
    have d5 := fun W (hW : BoxMS w ⟨nodes, faulty, slot, gap, rho, dmin, dmax, margin, PA, pn, pcap, parts, QA, qn, qcap, ports, RA, rn, rcap, routes⟩ ra rb W) => hW.cells.c5
    have d6 := fun W (hW : BoxMS w ⟨nodes, faulty, slot, gap, rho, dmin, dmax, margin, PA, pn, pcap, parts, QA, qn, qcap, ports, RA, rn, rcap, routes⟩ ra rb W) => hW.cells.c6
    have d7 := fun W (hW : BoxMS w ⟨nodes, faulty, slot, gap, rho, dmin, dmax, margin, PA, pn, pcap, parts, QA, qn, qcap, ports, RA, rn, rcap, routes⟩ ra rb W) => hW.cells.c7
    have d8 := fun W (hW : BoxMS w ⟨nodes, faulty, slot, gap, rho, dmin, dmax, margin, PA, pn, pcap, parts, QA, qn, qcap, ports, RA, rn, rcap, routes⟩ ra rb W) => hW.cells.c8
    have d9 := fun W (hW : BoxMS w ⟨nodes, faulty, slot, gap, rho, dmin, dmax, margin, PA, pn, pcap, parts, QA, qn, qcap, ports, RA, rn, rcap, routes⟩ ra rb W) => hW.cells.c9
    have d10 := fun W (hW : BoxMS w ⟨nodes, faulty, slot, gap, rho, dmin, dmax, margin, PA, pn, pcap, parts, QA, qn, qcap, ports, RA, rn, rcap, routes⟩ ra rb W) => hW.cells.c10
    simp only at d0 d1 d2 d3 d4 d5 d6 d7 d8 d9 d10
    simp only [CfgC.value] at HWk ⊢
    simp only [boxM, boxC, cfgCells] at HST
    go_enter Try.func5, Try.ntmps5
    go_wp2_with fail
    refine (HA.out _).mono ?_
    rintro e w1 ⟨rfl, hb1⟩
    have hd1 := HST.out.step hb1
    clear hb1 HA
    have k0 := d0 _ hd1
    have k1 := d1 _ hd1
    have k2 := d2 _ hd1
    have k3 := d3 _ hd1
    have k4 := d4 _ hd1
    have k5 := d5 _ hd1
    have k6 := d6 _ hd1
    have k7 := d7 _ hd1
    have k8 := d8 _ hd1
    have k9 := d9 _ hd1
    have k10 := d10 _ hd1
    have Hd1 := Lib.hid hd1
    clear hd1
    go_wp2_with fail
    refine (HWk.out _ Hd1.out).mono ?_
    rintro e w2 ⟨rfl, hb2⟩
    have hd2 := Hd1.out.step hb2
    clear hb2 Hd1 HWk k0 k1 k2 k3 k4 k5 k6 k7 k8 k9 k10
    have HF := Lib.hid hd2.below
    clear hd2
    go_wp2_with fail
    go_ret
    exact ⟨rfl, HF.out⟩
  | true =>
  have hR : SndP.chk6 x.plain = none := by
    unfold worksB at hL
    simp only [Bool.and_eq_true] at hL
    exact Option.isNone_iff_eq_none.1 hL.2
  have hW := SndP.works hR
  have hhd := hW.allowed.head
  have hnums := SndP.nums_in hhd
  have hnn : 1 ≤ x.nodes ∧ x.nodes ≤ 7 := hnums.nodes
  by_cases hn2 : x.nodes < 2
  case pos =>
    clear h hL hl1 hl2 h1 h2 hR hW hhd hnums hnn
    obtain ⟨nodes, faulty, slot, gap, rho, dmin, dmax, margin, PA, pn, pcap, parts, QA, qn, qcap, ports, RA, rn, rcap, routes⟩ := x
    have d0 := fun W (hW : BoxMS w ⟨nodes, faulty, slot, gap, rho, dmin, dmax, margin, PA, pn, pcap, parts, QA, qn, qcap, ports, RA, rn, rcap, routes⟩ ra rb W) => hW.cells.c0
    have d1 := fun W (hW : BoxMS w ⟨nodes, faulty, slot, gap, rho, dmin, dmax, margin, PA, pn, pcap, parts, QA, qn, qcap, ports, RA, rn, rcap, routes⟩ ra rb W) => hW.cells.c1
    have d2 := fun W (hW : BoxMS w ⟨nodes, faulty, slot, gap, rho, dmin, dmax, margin, PA, pn, pcap, parts, QA, qn, qcap, ports, RA, rn, rcap, routes⟩ ra rb W) => hW.cells.c2
    have d3 := fun W (hW : BoxMS w ⟨nodes, faulty, slot, gap, rho, dmin, dmax, margin, PA, pn, pcap, parts, QA, qn, qcap, ports, RA, rn, rcap, routes⟩ ra rb W) => hW.cells.c3
    have d4 := fun W (hW : BoxMS w ⟨nodes, faulty, slot, gap, rho, dmin, dmax, margin, PA, pn, pcap, parts, QA, qn, qcap, ports, RA, rn, rcap, routes⟩ ra rb W) => hW.cells.c4
    have d5 := fun W (hW : BoxMS w ⟨nodes, faulty, slot, gap, rho, dmin, dmax, margin, PA, pn, pcap, parts, QA, qn, qcap, ports, RA, rn, rcap, routes⟩ ra rb W) => hW.cells.c5
    have d6 := fun W (hW : BoxMS w ⟨nodes, faulty, slot, gap, rho, dmin, dmax, margin, PA, pn, pcap, parts, QA, qn, qcap, ports, RA, rn, rcap, routes⟩ ra rb W) => hW.cells.c6
    have d7 := fun W (hW : BoxMS w ⟨nodes, faulty, slot, gap, rho, dmin, dmax, margin, PA, pn, pcap, parts, QA, qn, qcap, ports, RA, rn, rcap, routes⟩ ra rb W) => hW.cells.c7
    have d8 := fun W (hW : BoxMS w ⟨nodes, faulty, slot, gap, rho, dmin, dmax, margin, PA, pn, pcap, parts, QA, qn, qcap, ports, RA, rn, rcap, routes⟩ ra rb W) => hW.cells.c8
    have d9 := fun W (hW : BoxMS w ⟨nodes, faulty, slot, gap, rho, dmin, dmax, margin, PA, pn, pcap, parts, QA, qn, qcap, ports, RA, rn, rcap, routes⟩ ra rb W) => hW.cells.c9
    have d10 := fun W (hW : BoxMS w ⟨nodes, faulty, slot, gap, rho, dmin, dmax, margin, PA, pn, pcap, parts, QA, qn, qcap, ports, RA, rn, rcap, routes⟩ ra rb W) => hW.cells.c10
    simp only at d0 d1 d2 d3 d4 d5 d6 d7 d8 d9 d10 hn2
    have q0 : decide (nodes < 2) = true := decide_eq_true hn2
    clear hn2
    simp only [CfgC.value] at HWk ⊢
    simp only [boxM, boxC, cfgCells] at HST
    go_enter Try.func5, Try.ntmps5
    go_wp2_with fail
    refine (HA.out _).mono ?_
    rintro e w1 ⟨rfl, hb1⟩
    have hd1 := HST.out.step hb1
    clear hb1 HA
    have k0 := d0 _ hd1
    have k1 := d1 _ hd1
    have k2 := d2 _ hd1
    have k3 := d3 _ hd1
    have k4 := d4 _ hd1
    have k5 := d5 _ hd1
    have k6 := d6 _ hd1
    have k7 := d7 _ hd1
    have k8 := d8 _ hd1
    have k9 := d9 _ hd1
    have k10 := d10 _ hd1
    have Hd1 := Lib.hid hd1
    clear hd1
    go_wp2_with fail
    refine (HWk.out _ Hd1.out).mono ?_
    rintro e w2 ⟨rfl, hb2⟩
    have hd2 := Hd1.out.step hb2
    clear hb2 Hd1 HWk k0 k1 k2 k3 k4 k5 k6 k7 k8 k9 k10
    have k0 := d0 _ hd2
    have k1 := d1 _ hd2
    have k2 := d2 _ hd2
    have k3 := d3 _ hd2
    have k4 := d4 _ hd2
    have k5 := d5 _ hd2
    have k6 := d6 _ hd2
    have k7 := d7 _ hd2
    have k8 := d8 _ hd2
    have k9 := d9 _ hd2
    have k10 := d10 _ hd2
    have HF := Lib.hid hd2.below
    clear hd2
    go_wp2_with fail
    go_ret
    exact ⟨rfl, HF.out⟩
  have hff : 0 ≤ x.faulty ∧ 3 * x.faulty + 1 ≤ x.nodes := ⟨hnums.faulty.1, hW.nodes⟩
  obtain ⟨N, hN⟩ : ∃ N : Nat, x.nodes = (N : Int) := ⟨x.nodes.toNat, by omega⟩
  obtain ⟨F, hF⟩ : ∃ F : Nat, x.faulty = (F : Int) := ⟨x.faulty.toNat, by omega⟩
  have hNF : 3 * F + 1 ≤ N ∧ N ≤ 7 ∧ 2 ≤ N := by omega
  have hrho : 0 ≤ x.rho ∧ x.rho ≤ 200 := hnums.rho
  have hdd : (0 ≤ x.dmin ∧ x.dmin ≤ x.dmax) ∧ x.dmax ≤ 1048576 := ⟨hnums.dmin, hnums.dmax.2⟩
  obtain ⟨PI, hPI⟩ : ∃ p, SndP.precT x.plain = p := ⟨_, rfl⟩
  obtain ⟨RD, hRD⟩ : ∃ p, SndP.roundT x.plain = p := ⟨_, rfl⟩
  have hPI2 := SndP.prec_in hnums
  have hRD2 := PacQ.round_in hnums
  rw [hPI] at hPI2
  rw [hRD] at hRD2
  have HPr := Lib.hid (fun W => refprec_any x W hhd)
  rw [hPI] at HPr
  have HRd := Lib.hid (fun W => refround_any x W hhd)
  rw [hRD] at HRd
  have HSe := Lib.hid (fun (i : Nat) (hi : i < N) W => refsend_any x i ⟨by omega, by omega⟩ W hhd)
  have HSn : Hid (∀ i : Nat, PacQ.sinceT x.plain skews i = 2 * RD + PacQ.atT skews i (PI / 2 + 1)) := Lib.hid fun i => by unfold PacQ.sinceT; rw [hPI, hRD]
  have HAt1 := Lib.hid (fun (i : Nat) W (hW : BoxMS w x ra rb W) => lat_any A1 n1 c1 skews hl1 i (PI / 2 + 1) (by omega) (by omega) W (h1.below hW.below))
  have HAt2 := Lib.hid (fun (i : Nat) W (hW : BoxMS w x ra rb W) => lat_any A2 n2 c2 delays hl2 i (x.dmax - x.dmin + 1) (by omega) (by omega) W (h2.below hW.below))
  have HSin := Lib.hid (fun i => PacQ.since_in hnums skews i)
  rw [hPI, hRD] at HSin
  have HWh := Lib.hid (fun (k i : Nat) (hk : k < 2) (hi : i < N) => PacQ.when_soon hnums skews delays lie hk (show i < 8 by omega))
  have HDl := Lib.hid (fun (k i : Nat) => PacQ.delay_in hnums delays (2 * i + k))
  have HSd := Lib.hid (fun (i : Nat) (hi : i < N) => lie_nums11 hnums (n := (i : Int)) ⟨by omega, by omega⟩)
  have HN := Lib.hid (fun (k : Nat) (rt : Int) (hk : k < 2) (hr : -x.rho ≤ rt ∧ rt ≤ x.rho) W (hb : BoxMS w x ra rb W) => pnew_good x k (PacQ.sinceT x.plain skews k) rt false W (h.below hb.below) hR ⟨by omega, by omega⟩ ⟨by have := PacQ.since_in hnums skews k; have := PacQ.round_in hnums; omega, by have := PacQ.since_in hnums skews k; have := PacQ.round_in hnums; have := SndP.prec_in hnums; omega, by omega, by omega⟩)
  have HHe : Hid (∀ gs gx cur a0 a1 (k : Nat) sk rt b bk hs ds (i : Nat) (hi : i < N) (hp : hs[i]? = some false) (hik : i ≠ k) t (ht : PacQ.Soon (t - sk)) W (hW : MP w x ra rb gs gx N cur a0 a1 k sk rt b bk hs ds W), Calls Try.prog 14 #[pv b, .int .i64 (i : Nat), .int .i64 t] W (fun e w' => e = .returned (.bool true) ∧ MP w x ra rb gs gx N cur a0 a1 k sk rt b bk (hs.set i true) (ds.set i (PacQ.devT x.plain sk rt i t)) w')) := Lib.hid fun gs gx cur a0 a1 k sk rt b bk hs ds i hi hp hik t ht W hW =>
    (phear_yes x k false bk sk rt hs ds i (by omega) hp (.inl (by omega)) t ht b W hW.pace hhd).mono fun e w' ⟨e1, e2, e3⟩ => ⟨e1, hW.hear e2 e3⟩
  have HDv : Hid (∀ sk rt (i : Nat) (hi : i < N) t (hr : ClkP.RateOk rt) (ht : PacQ.Soon (t - sk)), -68719476736 ≤ PacQ.devT x.plain sk rt i t ∧ PacQ.devT x.plain sk rt i t ≤ 68719476736) := Lib.hid fun sk rt i hi t hr ht => (PacQ.dev_small hnums (n := (i : Int)) ⟨by omega, by omega⟩ hr ht).2.2
  have HNx : Hid (∀ gs gx cur a0 a1 (k : Nat) rt b bk hs ds W, (-x.rho ≤ rt ∧ rt ≤ x.rho) → PacQ.Devs ds → (∀ q, q < N → ds[q]? = some (PacQ.devM x.plain skews delays lie rt k q)) → MP w x ra rb gs gx N cur a0 a1 k (PacQ.sinceT x.plain skews k) rt b bk hs ds W →
      Calls Try.prog 21 #[pv b] W (fun e w' => e = .returned (.tuple #[.int .i64 (PacQ.nextM x.plain skews delays lie rt N F k), .nilIface]) ∧ MK w x ra rb gs gx N cur a0 a1 w') ∧ -1000000000000 ≤ PacQ.nextM x.plain skews delays lie rt N F k ∧ PacQ.nextM x.plain skews delays lie rt N F k ≤ 1000000000000) := Lib.hid fun gs gx cur a0 a1 k rt b bk hs ds W hr hdv hq hW => by
    have ec := PacQ.cntd_warm (me := (k : Int)) (hs := hs) (ds := ds) (k := N) (by rw [hW.pace.dlen]; omega)
    have ed : ds.take N = PacQ.devL x.plain skews delays lie rt N k := by
      apply List.ext_getElem?
      intro j
      by_cases hj : j < N
      · rw [List.getElem?_take, if_pos hj, hq j hj, PacQ.devL_get _ _ _ _ _ hj]
      · rw [List.getElem?_eq_none (by rw [List.length_take]; omega), List.getElem?_eq_none (by rw [PacQ.devL_len]; omega)]
    have hlen : (ds.take N).length = N := by rw [List.length_take, hW.pace.dlen]; omega
    have hT := pnext_good x k false bk _ rt hs ds N F hN hF (by omega) hdv (by rw [ec, hlen]; omega) b W hW.pace hhd
    have hm := devs_mid (PacQ.cntd_in (cold := false) (me := (k : Int)) (hs := hs) hdv (k := N) (by rw [hW.pace.dlen]; omega)) (F := F) (by rw [ec, hlen]; omega)
    have hs1 := PacQ.since_in hnums skews k
    have hs2 := PacQ.round_in hnums
    have hs3 := SndP.prec_in hnums
    have hb := next_small hnums (since := PacQ.sinceT x.plain skews k) (rt := rt) (show ClkP.RateOk rt from ⟨by omega, by omega⟩) ⟨by omega, by omega⟩ hm
    rw [ec, ed] at hT hb
    exact ⟨hT.mono fun e w' ⟨e1, e2⟩ => ⟨e1, hW.mk_.step e2⟩, hb⟩
  have HEnd : Hid (∀ r0 r1, (-x.rho ≤ r0 ∧ r0 ≤ x.rho) → (-x.rho ≤ r1 ∧ r1 ≤ x.rho) → PacQ.nextM x.plain skews delays lie r0 N F 0 - PacQ.nextM x.plain skews delays lie r1 N F 1 ≤ PI / 2 ∧ PacQ.nextM x.plain skews delays lie r1 N F 1 - PacQ.nextM x.plain skews delays lie r0 N F 0 ≤ PI / 2) := Lib.hid fun r0 r1 hr0 hr1 => by
    rw [← hPI]
    exact PacQ.meets_all hW skews delays lie hN hF (by omega) (r0 := r0) (r1 := r1) hr0 hr1
  have HDM : Hid (∀ rt (k i : Nat), i ≠ k → PacQ.devM x.plain skews delays lie rt k i = PacQ.devT x.plain (PacQ.sinceT x.plain skews k) rt i (PacQ.whenT x.plain skews delays lie k i)) := Lib.hid fun rt k i hik => by unfold PacQ.devM; rw [if_neg hik]
  have HDO : Hid (∀ rt (k : Nat), PacQ.devM x.plain skews delays lie rt k k = 0) := Lib.hid fun rt k => by unfold PacQ.devM; rw [if_pos rfl]
  have HWT : Hid (∀ k i : Nat, PacQ.whenT x.plain skews delays lie k i = PacQ.plainT x.plain skews delays k i + PacQ.off11 x.plain lie k i) := Lib.hid fun k i => rfl
  have HPT : Hid (∀ k i : Nat, PacQ.plainT x.plain skews delays k i = PacQ.sinceT x.plain skews i + SndP.sendT x.plain i + x.dmin + PacQ.atT delays (2 * i + k) (x.dmax - x.dmin + 1)) := Lib.hid fun k i => rfl
  have HO1 : Hid (∀ k i : Nat, 0 < F → i = N - 1 → PacQ.off11 x.plain lie k i = ((k : Int) * 2 - 1) * lie.tmod 1048576) := Lib.hid fun k i a1 a2 => by
    unfold PacQ.off11
    rw [if_pos (show 0 < x.plain.faulty ∧ (i : Int) = x.plain.nodes - 1 from ⟨by show 0 < x.faulty; omega, by show (i : Int) = x.nodes - 1; omega⟩)]
  have HO2 : Hid (∀ k i : Nat, i < N → ¬ (0 < F ∧ i = N - 1) → PacQ.off11 x.plain lie k i = 0) := Lib.hid fun k i hi a => by
    unfold PacQ.off11
    rw [if_neg]
    rintro ⟨g1, g2⟩
    have g1 : 0 < x.faulty := g1
    have g2 : (i : Int) = x.nodes - 1 := g2
    exact a ⟨by omega, by omega⟩
  clear hL hR hW h h1 h2 hl1 hl2 hhd hnums hff hPI hRD
  obtain ⟨nodes, faulty, slot, gap, rho, dmin, dmax, margin, PA, pn, pcap, parts, QA, qn, qcap, ports, RA, rn, rcap, routes⟩ := x
  have d0 := fun W (hW : BoxMS w ⟨nodes, faulty, slot, gap, rho, dmin, dmax, margin, PA, pn, pcap, parts, QA, qn, qcap, ports, RA, rn, rcap, routes⟩ ra rb W) => hW.cells.c0
  have d1 := fun W (hW : BoxMS w ⟨nodes, faulty, slot, gap, rho, dmin, dmax, margin, PA, pn, pcap, parts, QA, qn, qcap, ports, RA, rn, rcap, routes⟩ ra rb W) => hW.cells.c1
  have d2 := fun W (hW : BoxMS w ⟨nodes, faulty, slot, gap, rho, dmin, dmax, margin, PA, pn, pcap, parts, QA, qn, qcap, ports, RA, rn, rcap, routes⟩ ra rb W) => hW.cells.c2
  have d3 := fun W (hW : BoxMS w ⟨nodes, faulty, slot, gap, rho, dmin, dmax, margin, PA, pn, pcap, parts, QA, qn, qcap, ports, RA, rn, rcap, routes⟩ ra rb W) => hW.cells.c3
  have d4 := fun W (hW : BoxMS w ⟨nodes, faulty, slot, gap, rho, dmin, dmax, margin, PA, pn, pcap, parts, QA, qn, qcap, ports, RA, rn, rcap, routes⟩ ra rb W) => hW.cells.c4
  have d5 := fun W (hW : BoxMS w ⟨nodes, faulty, slot, gap, rho, dmin, dmax, margin, PA, pn, pcap, parts, QA, qn, qcap, ports, RA, rn, rcap, routes⟩ ra rb W) => hW.cells.c5
  have d6 := fun W (hW : BoxMS w ⟨nodes, faulty, slot, gap, rho, dmin, dmax, margin, PA, pn, pcap, parts, QA, qn, qcap, ports, RA, rn, rcap, routes⟩ ra rb W) => hW.cells.c6
  have d7 := fun W (hW : BoxMS w ⟨nodes, faulty, slot, gap, rho, dmin, dmax, margin, PA, pn, pcap, parts, QA, qn, qcap, ports, RA, rn, rcap, routes⟩ ra rb W) => hW.cells.c7
  have d8 := fun W (hW : BoxMS w ⟨nodes, faulty, slot, gap, rho, dmin, dmax, margin, PA, pn, pcap, parts, QA, qn, qcap, ports, RA, rn, rcap, routes⟩ ra rb W) => hW.cells.c8
  have d9 := fun W (hW : BoxMS w ⟨nodes, faulty, slot, gap, rho, dmin, dmax, margin, PA, pn, pcap, parts, QA, qn, qcap, ports, RA, rn, rcap, routes⟩ ra rb W) => hW.cells.c9
  have d10 := fun W (hW : BoxMS w ⟨nodes, faulty, slot, gap, rho, dmin, dmax, margin, PA, pn, pcap, parts, QA, qn, qcap, ports, RA, rn, rcap, routes⟩ ra rb W) => hW.cells.c10
  simp only at d0 d1 d2 d3 d4 d5 d6 d7 d8 d9 d10 hnn hn2 hN hF hrho hdd HAt2 HN HNx HEnd HPT
  subst hN hF
  simp only [CfgC.value] at HWk HN HSe HPr HRd ⊢
  simp only [boxM, boxC, cfgCells] at HST
  have q0 : decide ((N : Int) < 2) = false := decide_eq_false hn2
  have q0n : decide (N < 2) = false := decide_eq_false (by omega)
  generalize hpl : (⟨(N : Int), (F : Int), slot, gap, rho, dmin, dmax, margin, PA, pn, pcap, parts, QA, qn, qcap, ports, RA, rn, rcap, routes⟩ : CfgC).plain = P at *
  have eR1 : IntKind.i64.wrap (2 * RD) = 2 * RD := IntWalk.i64_in _ (by omega)
  have eP1 := half_of hPI2.1
  have eP2 : IntKind.i64.wrap (PI / 2) = PI / 2 := IntWalk.i64_in _ (by omega)
  have eP3 : IntKind.i64.wrap (PI / 2 + 1) = PI / 2 + 1 := IntWalk.i64_in _ (by omega)
  have hmk := fun W => run_make_row' (P := Try.prog) 53 3 (.int .i64 0) 8 Try.underlying53 infoInt11 rfl .i64 .i64 N (by omega) (by omega) W
  go_enter Try.func5, Try.ntmps5
  go_wp2_with fail
  refine (HA.out _).mono ?_
  rintro e w1 ⟨rfl, hb1⟩
  have hd1 := HST.out.step hb1
  clear hb1 HA
  have k0 := d0 _ hd1
  have k1 := d1 _ hd1
  have k2 := d2 _ hd1
  have k3 := d3 _ hd1
  have k4 := d4 _ hd1
  have k5 := d5 _ hd1
  have k6 := d6 _ hd1
  have k7 := d7 _ hd1
  have k8 := d8 _ hd1
  have k9 := d9 _ hd1
  have k10 := d10 _ hd1
  have Hd1 := Lib.hid hd1
  clear hd1
  go_wp2_with fail
  refine (HWk.out _ Hd1.out).mono ?_
  rintro e w2 ⟨rfl, hb2⟩
  have hd2 := Hd1.out.step hb2
  clear hb2 Hd1 HWk k0 k1 k2 k3 k4 k5 k6 k7 k8 k9 k10
  have k0 := d0 _ hd2
  have k1 := d1 _ hd2
  have k2 := d2 _ hd2
  have k3 := d3 _ hd2
  have k4 := d4 _ hd2
  have k5 := d5 _ hd2
  have k6 := d6 _ hd2
  have k7 := d7 _ hd2
  have k8 := d8 _ hd2
  have k9 := d9 _ hd2
  have k10 := d10 _ hd2
  have Hd2 := Lib.hid hd2
  clear hd2
  go_wp2_with fail
  refine (HPr.out _).mono ?_
  rintro e w3 ⟨rfl, hb3⟩
  have hd3 := Hd2.out.step hb3
  clear hb3 Hd2 HPr k0 k1 k2 k3 k4 k5 k6 k7 k8 k9 k10
  have k0 := d0 _ hd3
  have k1 := d1 _ hd3
  have k2 := d2 _ hd3
  have k3 := d3 _ hd3
  have k4 := d4 _ hd3
  have k5 := d5 _ hd3
  have k6 := d6 _ hd3
  have k7 := d7 _ hd3
  have k8 := d8 _ hd3
  have k9 := d9 _ hd3
  have k10 := d10 _ hd3
  have Hd3 := Lib.hid hd3
  clear hd3
  go_wp2_with fail
  refine (HRd.out _).mono ?_
  rintro e w4 ⟨rfl, hb4⟩
  have hd4 := Hd3.out.step hb4
  clear hb4 Hd3 HRd k0 k1 k2 k3 k4 k5 k6 k7 k8 k9 k10
  have HS : Hid (MR1 w ⟨(N : Int), (F : Int), slot, gap, rho, dmin, dmax, margin, PA, pn, pcap, parts, QA, qn, qcap, ports, RA, rn, rcap, routes⟩ ra rb w4.heap.size N (PacQ.sinceT P skews) (.int .i64 0) (w4.alloc (.cells (madeCells #[.int .i64 0] N) 3))) := Lib.hid
    ⟨0, List.replicate N 0, by omega, rfl, by simp, fun j hj => by omega, hd4.step ((Below.refl _ _).alloc (Nat.le_refl _) _), zints_made hd4.size (by unfold maxLen; omega)⟩
  have k0 := d0 _ hd4
  have k1 := d1 _ hd4
  have k2 := d2 _ hd4
  have k3 := d3 _ hd4
  have k4 := d4 _ hd4
  have k5 := d5 _ hd4
  have k6 := d6 _ hd4
  have k7 := d7 _ hd4
  have k8 := d8 _ hd4
  have k9 := d9 _ hd4
  have k10 := d10 _ hd4
  clear hd4
  go_wp2_with fail
  clear k0 k1 k2 k3 k4 k5 k6 k7 k8 k9 k10 hmk q0 q0n
  generalize w4.alloc (.cells (madeCells #[.int .i64 0] N) 3) = w5 at *
  generalize w4.heap.size = gs at *
  go_loopw [43] (MR1 w ⟨(N : Int), (F : Int), slot, gap, rho, dmin, dmax, margin, PA, pn, pcap, parts, QA, qn, qcap, ports, RA, rn, rcap, routes⟩ ra rb gs N (PacQ.sinceT P skews)) (fun i _ => (N + 1 - intOf i).toNat)
  case atStart => exact HS.out
  case round =>
    clear HS
    obtain ⟨i, cur, hi, rfl, hcl, hcf, hB, ho⟩ := hrel
    obtain ⟨wo, ewo⟩ : ∃ wo, wo = wr := ⟨_, rfl⟩
    subst ewo
    by_cases hiN : i < N
    case neg =>
      obtain rfl : i = N := by omega
      have hg0 : MK w ⟨(i : Int), (F : Int), slot, gap, rho, dmin, dmax, margin, PA, pn, pcap, parts, QA, qn, qcap, ports, RA, rn, rcap, routes⟩ ra rb gs wo.heap.size i cur 0 0 (wo.alloc (.cells #[.int .i64 0, .int .i64 0] 58)) :=
        ⟨hB.step ((Below.refl _ _).alloc (Nat.le_refl _) _), ho.alloc _, heap_alloc_new wo _, hB.size⟩
      have HS : Hid (MR2 w ⟨(i : Int), (F : Int), slot, gap, rho, dmin, dmax, margin, PA, pn, pcap, parts, QA, qn, qcap, ports, RA, rn, rcap, routes⟩ ra rb gs wo.heap.size i cur (fun k => PacQ.nextM P skews delays lie ((rr ra rb k).tmod (rho + 1)) i F k) (.int .i64 0) (wo.alloc (.cells #[.int .i64 0, .int .i64 0] 58))) := Lib.hid
        ⟨0, 0, 0, by omega, rfl, fun a => by omega, fun a => by omega, hg0⟩
      have HC := Lib.hid hcf
      have HCl := Lib.hid hcl
      have q1 : decide ((i : Int) < (i : Int)) = false := decide_eq_false (by omega)
      clear hg0 hB ho hcf hcl hi hiN HAt1
      go_wp2_with fail
      clear q1
      generalize wo.alloc (.cells #[.int .i64 0, .int .i64 0] 58) = w6 at *
      generalize wo.heap.size = gx at *
      obtain ⟨N, hNi⟩ : ∃ N, N = i := ⟨_, rfl⟩
      subst hNi
      go_loopw [17] (MR2 w ⟨(N : Int), (F : Int), slot, gap, rho, dmin, dmax, margin, PA, pn, pcap, parts, QA, qn, qcap, ports, RA, rn, rcap, routes⟩ ra rb gs gx N cur (fun k => PacQ.nextM P skews delays lie ((rr ra rb k).tmod (rho + 1)) N F k)) (fun i _ => (3 - intOf i).toNat)
      case atStart => exact HS.out
      case round =>
        clear HS
        obtain ⟨k, a0, a1, hk, rfl, hx0, hx1, hG⟩ := hrel
        have HG := Lib.hid hG
        have k0 := d0 _ hG.box
        clear hG
        by_cases hk2 : k < 2
        case neg =>
          obtain rfl : k = 2 := by omega
          obtain ⟨ea, hS0⟩ := hx0 (by omega)
          obtain ⟨ec, hS1⟩ := hx1 (by omega)
          replace ea : a0 = PacQ.nextM P skews delays lie ((rr ra rb 0).tmod (rho + 1)) N F 0 := ea
          replace ec : a1 = PacQ.nextM P skews delays lie ((rr ra rb 1).tmod (rho + 1)) N F 1 := ec
          have y0 := HG.out.x0
          have y1 := HG.out.x1
          have hr : ∀ k, -rho ≤ (rr ra rb k).tmod (rho + 1) ∧ (rr ra rb k).tmod (rho + 1) ≤ rho := fun k => by
            have z1 := Int.lt_tmod_of_pos (rr ra rb k) (show 0 < rho + 1 by omega)
            have z2 := Int.tmod_lt_of_pos (rr ra rb k) (show 0 < rho + 1 by omega)
            omega
          have hE := HEnd.out _ _ (hr 0) (hr 1)
          rw [← ea, ← ec] at hE
          clear ea ec
          have HF := Lib.hid HG.out.box.below
          clear HG k0 HN HHe HNx HEnd HDM HDO HWT HPT HO1 HO2 HAt2 HSe HSn HSin HWh HDl HSd HDv HC HCl hr hx0 hx1
          obtain ⟨a, haa⟩ : ∃ a, a = a0 := ⟨_, rfl⟩
          obtain ⟨c, hcc⟩ : ∃ c, c = a1 := ⟨_, rfl⟩
          subst haa hcc
          have ef : IntKind.i64.wrap (a - c) = a - c := IntWalk.i64_in _ (by omega)
          by_cases hfar : a - c < 0
          · have r1 : decide (a - c < 0) = true := decide_eq_true hfar
            have eg : IntKind.i64.wrap (-(a - c)) = -(a - c) := IntWalk.i64_in _ (by omega)
            have r2 : decide (-(a - c) ≤ PI / 2) = true := decide_eq_true (by omega)
            have r3 : decide (c - a ≤ PI / 2) = true := decide_eq_true (by omega)
            clear hE hS0 hS1 hfar
            go_wp2_with fail
            go_ret
            exact ⟨rfl, HF.out⟩
          · have r1 : decide (a - c < 0) = false := decide_eq_false hfar
            have r2 : decide (a - c ≤ PI / 2) = true := decide_eq_true (by omega)
            clear hE hS0 hS1 hfar
            go_wp2_with fail
            go_ret
            exact ⟨rfl, HF.out⟩
        obtain ⟨rt, ert⟩ : ∃ r, (rr ra rb k).tmod (rho + 1) = r := ⟨_, rfl⟩
        have hrt : -rho ≤ rt ∧ rt ≤ rho := by
          have z1 := Int.lt_tmod_of_pos (rr ra rb k) (show 0 < rho + 1 by omega)
          have z2 := Int.tmod_lt_of_pos (rr ra rb k) (show 0 < rho + 1 by omega)
          omega
        have er1 : IntKind.i64.wrap ((rr ra rb k).tmod (rho + 1)) = rt := by rw [ert]; exact IntWalk.i64_in _ (by omega)
        have er2 : wrap64 ((rr ra rb k).tmod (rho + 1)) = rt := by rw [ert]; exact IntWalk.wrap64_in _ (by omega)
        have er3 : IntKind.i64.wrap (rho + 1) = rho + 1 := IntWalk.i64_in _ (by omega)
        have er4 : ¬ rho + 1 = 0 := by omega
        have HR : Hid (∀ W, -1000000000000 ≤ PacQ.nextM P skews delays lie rt N F k ∧ PacQ.nextM P skews delays lie rt N F k ≤ 1000000000000 → MK w ⟨(N : Int), (F : Int), slot, gap, rho, dmin, dmax, margin, PA, pn, pcap, parts, QA, qn, qcap, ports, RA, rn, rcap, routes⟩ ra rb gs gx N cur (if k = 0 then PacQ.nextM P skews delays lie rt N F k else a0) (if k = 1 then PacQ.nextM P skews delays lie rt N F k else a1) W → MR2 w ⟨(N : Int), (F : Int), slot, gap, rho, dmin, dmax, margin, PA, pn, pcap, parts, QA, qn, qcap, ports, RA, rn, rcap, routes⟩ ra rb gs gx N cur (fun k => PacQ.nextM P skews delays lie ((rr ra rb k).tmod (rho + 1)) N F k) (.int .i64 ((k : Int) + 1)) W) := Lib.hid fun W hbd hW =>
          ⟨k + 1, _, _, by omega, by go_num, fun _ => by
            by_cases h : k = 0
            · subst h; rw [if_pos rfl]; exact ⟨by simp only [ert], hbd⟩
            · rw [if_neg h]; exact hx0 (by omega), fun _ => by
            have h : k = 1 := by omega
            subst h; rw [if_pos rfl]; exact ⟨by simp only [ert], hbd⟩, hW⟩
        have hcur := HC.out k (by omega)
        have HNk := Lib.hid (HN.out k rt hk2 hrt)
        have q1 : decide ((k : Int) < 2) = true := decide_eq_true (by omega)
        have q1n : decide (k < 2) = true := decide_eq_true hk2
        have hkNi : (k : Int) < (N : Int) := by omega
        have hkN : k < N := by omega
        have hk2i : (k : Int) < 2 := by omega
        have ek1 : IntKind.i64.wrap ((k : Int) + 1) = (k : Int) + 1 := IntWalk.i64_in _ (by omega)
        have hsb := HSin.out k
        have HHk := Lib.hid (fun hs ds b bk i hi hp hik t ht W hW => HHe.out gs gx cur a0 a1 k (PacQ.sinceT P skews k) rt b bk hs ds i hi hp hik t ht W hW)
        have HNxk := Lib.hid (fun b bk hs ds W h1 h2 h3 => HNx.out gs gx cur a0 a1 k rt b bk hs ds W hrt h1 h2 h3)
        have HDk := Lib.hid (fun i hi t ht => HDv.out (PacQ.sinceT P skews k) rt i hi t ⟨by omega, by omega⟩ ht)
        have HWk := Lib.hid (fun i hi => HWh.out k i hk2 hi)
        have HDMk := Lib.hid (fun i hi => HDM.out rt k i hi)
        have HDOk := Lib.hid (HDO.out rt k)
        have HWTk := Lib.hid (fun i => HWT.out k i)
        have HPTk := Lib.hid (fun i => HPT.out k i)
        have HO1k := Lib.hid (fun i => HO1.out k i)
        have HO2k := Lib.hid (fun i => HO2.out k i)
        have HDlk := Lib.hid (fun i => HDl.out k i)
        clear HN HHe HNx HDv HWh HDM HDO HWT HPT HO1 HO2 HDl HEnd
        obtain ⟨sk, hsk⟩ : ∃ s, PacQ.sinceT P skews k = s := ⟨_, rfl⟩
        rw [hsk] at HNk HHk HNxk HDk HWk HDMk hcur hsb
        have hg0 := HG.out.step (Below.refl _ _).drew
        have D0 := fun W (hW : MK w ⟨(N : Int), (F : Int), slot, gap, rho, dmin, dmax, margin, PA, pn, pcap, parts, QA, qn, qcap, ports, RA, rn, rcap, routes⟩ ra rb gs gx N cur a0 a1 W) => hW.box.cells
        have dd0 := fun W (hW : MK w ⟨(N : Int), (F : Int), slot, gap, rho, dmin, dmax, margin, PA, pn, pcap, parts, QA, qn, qcap, ports, RA, rn, rcap, routes⟩ ra rb gs gx N cur a0 a1 W) => (D0 W hW).c0
        have dd1 := fun W (hW : MK w ⟨(N : Int), (F : Int), slot, gap, rho, dmin, dmax, margin, PA, pn, pcap, parts, QA, qn, qcap, ports, RA, rn, rcap, routes⟩ ra rb gs gx N cur a0 a1 W) => (D0 W hW).c1
        have dd2 := fun W (hW : MK w ⟨(N : Int), (F : Int), slot, gap, rho, dmin, dmax, margin, PA, pn, pcap, parts, QA, qn, qcap, ports, RA, rn, rcap, routes⟩ ra rb gs gx N cur a0 a1 W) => (D0 W hW).c2
        have dd3 := fun W (hW : MK w ⟨(N : Int), (F : Int), slot, gap, rho, dmin, dmax, margin, PA, pn, pcap, parts, QA, qn, qcap, ports, RA, rn, rcap, routes⟩ ra rb gs gx N cur a0 a1 W) => (D0 W hW).c3
        have dd4 := fun W (hW : MK w ⟨(N : Int), (F : Int), slot, gap, rho, dmin, dmax, margin, PA, pn, pcap, parts, QA, qn, qcap, ports, RA, rn, rcap, routes⟩ ra rb gs gx N cur a0 a1 W) => (D0 W hW).c4
        have dd5 := fun W (hW : MK w ⟨(N : Int), (F : Int), slot, gap, rho, dmin, dmax, margin, PA, pn, pcap, parts, QA, qn, qcap, ports, RA, rn, rcap, routes⟩ ra rb gs gx N cur a0 a1 W) => (D0 W hW).c5
        have dd6 := fun W (hW : MK w ⟨(N : Int), (F : Int), slot, gap, rho, dmin, dmax, margin, PA, pn, pcap, parts, QA, qn, qcap, ports, RA, rn, rcap, routes⟩ ra rb gs gx N cur a0 a1 W) => (D0 W hW).c6
        have dd7 := fun W (hW : MK w ⟨(N : Int), (F : Int), slot, gap, rho, dmin, dmax, margin, PA, pn, pcap, parts, QA, qn, qcap, ports, RA, rn, rcap, routes⟩ ra rb gs gx N cur a0 a1 W) => (D0 W hW).c7
        have dd8 := fun W (hW : MK w ⟨(N : Int), (F : Int), slot, gap, rho, dmin, dmax, margin, PA, pn, pcap, parts, QA, qn, qcap, ports, RA, rn, rcap, routes⟩ ra rb gs gx N cur a0 a1 W) => (D0 W hW).c8
        have dd9 := fun W (hW : MK w ⟨(N : Int), (F : Int), slot, gap, rho, dmin, dmax, margin, PA, pn, pcap, parts, QA, qn, qcap, ports, RA, rn, rcap, routes⟩ ra rb gs gx N cur a0 a1 W) => (D0 W hW).c9
        have dd10 := fun W (hW : MK w ⟨(N : Int), (F : Int), slot, gap, rho, dmin, dmax, margin, PA, pn, pcap, parts, QA, qn, qcap, ports, RA, rn, rcap, routes⟩ ra rb gs gx N cur a0 a1 W) => (D0 W hW).c10
        simp only at dd0 dd1 dd2 dd3 dd4 dd5 dd6 dd7 dd8 dd9 dd10
        have dr : ∀ W, MK w ⟨(N : Int), (F : Int), slot, gap, rho, dmin, dmax, margin, PA, pn, pcap, parts, QA, qn, qcap, ports, RA, rn, rcap, routes⟩ ra rb gs gx N cur a0 a1 W → W.cell? ⟨w.heap.size + 1, k, none⟩ = some (.int .i64 (rr ra rb k)) := fun W hW => hW.box.mr hk2
        have dc : ∀ W, MK w ⟨(N : Int), (F : Int), slot, gap, rho, dmin, dmax, margin, PA, pn, pcap, parts, QA, qn, qcap, ports, RA, rn, rcap, routes⟩ ra rb gs gx N cur a0 a1 W → W.cell? ⟨gs, k, none⟩ = some (.int .i64 sk) := fun W hW => hW.cell HCl.out hcur
        have HG0 := Lib.hid hg0
        clear HG D0
        go_wp2_with fail
        refine wp_region_held_drew (S := fun W => MK w ⟨(N : Int), (F : Int), slot, gap, rho, dmin, dmax, margin, PA, pn, pcap, parts, QA, qn, qcap, ports, RA, rn, rcap, routes⟩ ra rb gs gx N cur a0 a1 W) (by kernel_rfl) hg0 (fun _ => ?_)
        refine wpAnyH_take (i := 0) (oi := ?oo1) (v := ?vv1) ?ii1 (by kernel_rfl) ?ff1 (by kernel_rfl) ?qq1 (Or.inl ⟨?ww1, ?yy1⟩) hg0 ?rr1
        case ii1 => simp only [List.getElem?_toArray, List.getElem?_cons_zero]; rfl
        case ff1 => kernel_rfl
        case qq1 => exact fun _ _ _ h => h
        case ww1 => rfl
        case yy1 => intro W hW; go_simp <;> with_reducible rfl
        try simp only [Act.put, List.setIfInBounds_toArray, List.set_cons_zero, List.set_cons_succ]
        refine wpAnyH_take (i := 1) (oi := ?oo2) (v := ?vv2) ?ii2 (by kernel_rfl) ?ff2 (by kernel_rfl) ?qq2 (Or.inl ⟨?ww2, ?yy2⟩) hg0 ?rr2
        case ii2 => simp only [List.getElem?_toArray, List.getElem?_cons_succ, List.getElem?_cons_zero]; rfl
        case ff2 => kernel_rfl
        case qq2 => exact fun _ _ _ h => h
        case ww2 => rfl
        case yy2 => intro W hW; go_simp <;> with_reducible rfl
        try simp only [Act.put, List.setIfInBounds_toArray, List.set_cons_zero, List.set_cons_succ]
        refine wpAnyH_take (i := 2) (oi := ?oo3) (v := ?vv3) ?ii3 (by kernel_rfl) ?ff3 (by kernel_rfl) ?qq3 (Or.inl ⟨?ww3, ?yy3⟩) hg0 ?rr3
        case ii3 => simp only [List.getElem?_toArray, List.getElem?_cons_succ, List.getElem?_cons_zero]; rfl
        case ff3 => kernel_rfl
        case qq3 => exact fun _ _ _ h => h
        case ww3 => rfl
        case yy3 => intro W hW; go_simp <;> with_reducible rfl
        try simp only [Act.put, List.setIfInBounds_toArray, List.set_cons_zero, List.set_cons_succ]
        refine wpAnyH_take (i := 3) (oi := ?oo4) (v := ?vv4) ?ii4 (by kernel_rfl) ?ff4 (by kernel_rfl) ?qq4 (Or.inl ⟨?ww4, ?yy4⟩) hg0 ?rr4
        case ii4 => simp only [List.getElem?_toArray, List.getElem?_cons_succ, List.getElem?_cons_zero]; rfl
        case ff4 => kernel_rfl
        case qq4 => exact fun _ _ _ h => h
        case ww4 => rfl
        case yy4 => intro W hW; go_simp <;> with_reducible rfl
        try simp only [Act.put, List.setIfInBounds_toArray, List.set_cons_zero, List.set_cons_succ]
        refine wpAnyH_take (i := 4) (oi := ?oo5) (v := ?vv5) ?ii5 (by kernel_rfl) ?ff5 (by kernel_rfl) ?qq5 (Or.inl ⟨?ww5, ?yy5⟩) hg0 ?rr5
        case ii5 => simp only [List.getElem?_toArray, List.getElem?_cons_succ, List.getElem?_cons_zero]; rfl
        case ff5 => kernel_rfl
        case qq5 => exact fun _ _ _ h => h
        case ww5 => rfl
        case yy5 => intro W hW; go_simp <;> with_reducible rfl
        try simp only [Act.put, List.setIfInBounds_toArray, List.set_cons_zero, List.set_cons_succ]
        refine wpAnyH_take (i := 5) (oi := ?oo6) (v := ?vv6) ?ii6 (by kernel_rfl) ?ff6 (by kernel_rfl) ?qq6 (Or.inl ⟨?ww6, ?yy6⟩) hg0 ?rr6
        case ii6 => simp only [List.getElem?_toArray, List.getElem?_cons_succ, List.getElem?_cons_zero]; rfl
        case ff6 => kernel_rfl
        case qq6 => exact fun _ _ _ h => h
        case ww6 => rfl
        case yy6 => intro W hW; go_simp <;> with_reducible rfl
        try simp only [Act.put, List.setIfInBounds_toArray, List.set_cons_zero, List.set_cons_succ]
        refine wpAnyH_take (i := 6) (oi := ?oo7) (v := ?vv7) ?ii7 (by kernel_rfl) ?ff7 (by kernel_rfl) ?qq7 (Or.inl ⟨?ww7, ?yy7⟩) hg0 ?rr7
        case ii7 => simp only [List.getElem?_toArray, List.getElem?_cons_succ, List.getElem?_cons_zero]; rfl
        case ff7 => kernel_rfl
        case qq7 => exact fun _ _ _ h => h
        case ww7 => rfl
        case yy7 => intro W hW; go_simp <;> with_reducible rfl
        try simp only [Act.put, List.setIfInBounds_toArray, List.set_cons_zero, List.set_cons_succ]
        refine wpAnyH_take (i := 7) (oi := ?oo8) (v := ?vv8) ?ii8 (by kernel_rfl) ?ff8 (by kernel_rfl) ?qq8 (Or.inl ⟨?ww8, ?yy8⟩) hg0 ?rr8
        case ii8 => simp only [List.getElem?_toArray, List.getElem?_cons_succ, List.getElem?_cons_zero]; rfl
        case ff8 => kernel_rfl
        case qq8 => exact fun _ _ _ h => h
        case ww8 => rfl
        case yy8 => intro W hW; go_simp <;> with_reducible rfl
        try simp only [Act.put, List.setIfInBounds_toArray, List.set_cons_zero, List.set_cons_succ]
        refine wpAnyH_take (i := 8) (oi := ?oo9) (v := ?vv9) ?ii9 (by kernel_rfl) ?ff9 (by kernel_rfl) ?qq9 (Or.inl ⟨?ww9, ?yy9⟩) hg0 ?rr9
        case ii9 => simp only [List.getElem?_toArray, List.getElem?_cons_succ, List.getElem?_cons_zero]; rfl
        case ff9 => kernel_rfl
        case qq9 => exact fun _ _ _ h => h
        case ww9 => rfl
        case yy9 => intro W hW; go_simp <;> with_reducible rfl
        try simp only [Act.put, List.setIfInBounds_toArray, List.set_cons_zero, List.set_cons_succ]
        refine wpAnyH_take (i := 9) (oi := ?oo10) (v := ?vv10) ?ii10 (by kernel_rfl) ?ff10 (by kernel_rfl) ?qq10 (Or.inl ⟨?ww10, ?yy10⟩) hg0 ?rr10
        case ii10 => simp only [List.getElem?_toArray, List.getElem?_cons_succ, List.getElem?_cons_zero]; rfl
        case ff10 => kernel_rfl
        case qq10 => exact fun _ _ _ h => h
        case ww10 => rfl
        case yy10 => intro W hW; go_simp <;> with_reducible rfl
        try simp only [Act.put, List.setIfInBounds_toArray, List.set_cons_zero, List.set_cons_succ]
        refine wpAnyH_take (i := 10) (oi := ?oo11) (v := ?vv11) ?ii11 (by kernel_rfl) ?ff11 (by kernel_rfl) ?qq11 (Or.inl ⟨?ww11, ?yy11⟩) hg0 ?rr11
        case ii11 => simp only [List.getElem?_toArray, List.getElem?_cons_succ, List.getElem?_cons_zero]; rfl
        case ff11 => kernel_rfl
        case qq11 => exact fun _ _ _ h => h
        case ww11 => rfl
        case yy11 => intro W hW; go_simp <;> with_reducible rfl
        try simp only [Act.put, List.setIfInBounds_toArray, List.set_cons_zero, List.set_cons_succ]
        refine wpAnyH_take (i := 11) (oi := ?oo12) (v := ?vv12) ?ii12 (by kernel_rfl) ?ff12 (by kernel_rfl) ?qq12 (Or.inl ⟨?ww12, ?yy12⟩) hg0 ?rr12
        case ii12 => simp only [List.getElem?_toArray, List.getElem?_cons_succ, List.getElem?_cons_zero]; rfl
        case ff12 => kernel_rfl
        case qq12 => exact fun _ _ _ h => h
        case ww12 => rfl
        case yy12 => intro W hW; go_simp <;> with_reducible rfl
        try simp only [Act.put, List.setIfInBounds_toArray, List.set_cons_zero, List.set_cons_succ]
        refine wpAnyH_take (i := 12) (oi := ?oo13) (v := ?vv13) ?ii13 (by kernel_rfl) ?ff13 (by kernel_rfl) ?qq13 (Or.inl ⟨?ww13, ?yy13⟩) hg0 ?rr13
        case ii13 => simp only [List.getElem?_toArray, List.getElem?_cons_succ, List.getElem?_cons_zero]; rfl
        case ff13 => kernel_rfl
        case qq13 => exact fun _ _ _ h => h
        case ww13 => rfl
        case yy13 => intro W hW; go_simp <;> with_reducible rfl
        try simp only [Act.put, List.setIfInBounds_toArray, List.set_cons_zero, List.set_cons_succ]
        refine wpAnyH_ready (rs := [13]) (by kernel_rfl) (by simp) ?_
        refine AllReadyH.cons (o := ?oo14) ?ii14 (fun K hK => ?_) AllReadyH.nil
        case ii14 => simp only [List.getElem?_toArray, List.getElem?_cons_succ, List.getElem?_cons_zero]; rfl
        go_simp
        refine (HNk.out _ hg0.box).mono ?_
        rintro e w7 ⟨b, bk, rfl, hp1, hp2, -, hp3⟩
        have hg1 := hg0.step hp3
        have HS : Hid (MR3 w ⟨(N : Int), (F : Int), slot, gap, rho, dmin, dmax, margin, PA, pn, pcap, parts, QA, qn, qcap, ports, RA, rn, rcap, routes⟩ ra rb gs gx N cur a0 a1 k sk rt b bk (PacQ.devM P skews delays lie rt k) (.int .i64 0) w7) := Lib.hid
          ⟨0, h0, z0, by omega, rfl, zdevs, fun q hq => by omega, fun q _ h7 => ⟨by unfold h0; rw [List.getElem?_replicate, if_pos h7], by unfold z0; rw [List.getElem?_replicate, if_pos h7]⟩, hg1, hp1, Nat.le_trans hg0.box.size hp2⟩
        clear hp1 hp2 hp3 hg0 HNk HG0
        go_wp2_with fail
        refine hK.out _ _ hg1 (fun _ => ?_)
        clear hK K
        refine wpAnyH_take (i := 14) (oi := ?oo15) (v := ?vv15) ?ii15 (by kernel_rfl) ?ff15 (by kernel_rfl) ?qq15 (Or.inl ⟨?ww15, ?yy15⟩) hg1 ?rr15
        case ii15 => simp only [List.getElem?_toArray, List.getElem?_cons_succ, List.getElem?_cons_zero]; rfl
        case ff15 => kernel_rfl
        case qq15 => exact fun _ _ _ h => h
        case ww15 => rfl
        case yy15 => intro W hW; go_simp <;> with_reducible rfl
        try simp only [Act.put, List.setIfInBounds_toArray, List.set_cons_zero, List.set_cons_succ]
        refine wpAnyH_take (i := 15) (oi := ?oo16) (v := ?vv16) ?ii16 (by kernel_rfl) ?ff16 (by kernel_rfl) ?qq16 (Or.inl ⟨?ww16, ?yy16⟩) hg1 ?rr16
        case ii16 => simp only [List.getElem?_toArray, List.getElem?_cons_succ, List.getElem?_cons_zero]; rfl
        case ff16 => kernel_rfl
        case qq16 => exact fun _ _ _ h => h
        case ww16 => rfl
        case yy16 => intro W hW; go_simp <;> with_reducible rfl
        try simp only [Act.put, List.setIfInBounds_toArray, List.set_cons_zero, List.set_cons_succ]
        refine wpAnyH_take (i := 16) (oi := ?oo17) (v := ?vv17) ?ii17 (by kernel_rfl) ?ff17 (by kernel_rfl) ?qq17 (Or.inl ⟨?ww17, ?yy17⟩) hg1 ?rr17
        case ii17 => simp only [List.getElem?_toArray, List.getElem?_cons_succ, List.getElem?_cons_zero]; rfl
        case ff17 => kernel_rfl
        case qq17 => exact fun _ _ _ h => h
        case ww17 => rfl
        case yy17 => intro W hW; go_simp <;> with_reducible rfl
        try simp only [Act.put, List.setIfInBounds_toArray, List.set_cons_zero, List.set_cons_succ]
        refine wpAnyH_take (i := 17) (oi := ?oo18) (v := ?vv18) ?ii18 (by kernel_rfl) ?ff18 (by kernel_rfl) ?qq18 (Or.inl ⟨?ww18, ?yy18⟩) hg1 ?rr18
        case ii18 => simp only [List.getElem?_toArray, List.getElem?_cons_succ, List.getElem?_cons_zero]; rfl
        case ff18 => kernel_rfl
        case qq18 => exact fun _ _ _ h => h
        case ww18 => rfl
        case yy18 => intro W hW; go_simp <;> with_reducible rfl
        try simp only [Act.put, List.setIfInBounds_toArray, List.set_cons_zero, List.set_cons_succ]
        refine wpAnyH_take (i := 18) (oi := ?oo19) (v := ?vv19) ?ii19 (by kernel_rfl) ?ff19 (by kernel_rfl) ?qq19 (Or.inl ⟨?ww19, ?yy19⟩) hg1 ?rr19
        case ii19 => simp only [List.getElem?_toArray, List.getElem?_cons_succ, List.getElem?_cons_zero]; rfl
        case ff19 => kernel_rfl
        case qq19 => exact fun _ _ _ h => h
        case ww19 => rfl
        case yy19 => intro W hW; go_simp <;> with_reducible rfl
        try simp only [Act.put, List.setIfInBounds_toArray, List.set_cons_zero, List.set_cons_succ]
        refine wpAnyH_done (by kernel_rfl) ?_ _
        clear hg1 dr dc dd0 dd1 dd2 dd3 dd4 dd5 dd6 dd7 dd8 dd9 dd10 er1 er2 er3 er4 k0
        unfold pv at *
        go_wp2_with fail
        go_loopw [20] (MR3 w ⟨(N : Int), (F : Int), slot, gap, rho, dmin, dmax, margin, PA, pn, pcap, parts, QA, qn, qcap, ports, RA, rn, rcap, routes⟩ ra rb gs gx N cur a0 a1 k sk rt b bk (PacQ.devM P skews delays lie rt k)) (fun i _ => (N + 1 - intOf i).toNat)
        case atStart => exact HS.out
        case round =>
          clear HS
          obtain ⟨i, hs, ds, hi, rfl, hdv, hq1, hq2, hG⟩ := hrel
          have HG := Lib.hid hG
          have k0 := d0 _ hG.mk_.box
          clear hG
          by_cases hiN : i < N
          case neg =>
            obtain rfl : i = N := by omega
            obtain ⟨hX, hX12⟩ := HNxk.out b bk hs ds wr hdv hq1 HG.out
            have HX := Lib.hid hX
            have q2 : decide ((i : Int) < (i : Int)) = false := decide_eq_false (by omega)
            clear hX hdv hq1 hq2 HHk HNxk HDk HWk HDMk HDOk HWTk HPTk HO1k HO2k HDlk hi hiN HAt2 HSe HSn HSin HSd HC HCl hcur
            go_wp2_with fail
            refine HX.out.mono ?_
            rintro e w8 ⟨rfl, hg8⟩
            have y1 := hg8.xk hk2
            have y2 := hg8.xfree k
            have HR9 := Lib.hid (HR.out _ hX12 (hg8.put hk2 _))
            clear hg8 HX HG HR k0
            go_wp2_with fail
            go_roundw
            case rel => exact HR9.out
            case measure => simp [intOf]; omega
          have hp := hq2 i (Nat.le_refl _) (by omega)
          obtain ⟨s1, s2, s3, s4⟩ := HWk.out i hiN
          have HHi := Lib.hid (fun hik W hW => HHk.out hs ds b bk i hiN hp.1 hik (PacQ.whenT P skews delays lie k i) s4 W hW)
          have HYes : Hid (i ≠ k → ∀ W, MP w ⟨(N : Int), (F : Int), slot, gap, rho, dmin, dmax, margin, PA, pn, pcap, parts, QA, qn, qcap, ports, RA, rn, rcap, routes⟩ ra rb gs gx N cur a0 a1 k sk rt b bk (hs.set i true) (ds.set i (PacQ.devT P sk rt i (PacQ.whenT P skews delays lie k i))) W → MR3 w ⟨(N : Int), (F : Int), slot, gap, rho, dmin, dmax, margin, PA, pn, pcap, parts, QA, qn, qcap, ports, RA, rn, rcap, routes⟩ ra rb gs gx N cur a0 a1 k sk rt b bk (PacQ.devM P skews delays lie rt k) (.int .i64 ((i : Int) + 1)) W) := Lib.hid fun hik W hW =>
            ⟨i + 1, _, _, by omega, by go_num, PacQ.in_set hdv (HDk.out i hiN _ s4) i, fun q hq => by
              rw [List.getElem?_set]
              split
              · next e => subst e; rw [if_pos (by have := (List.getElem?_eq_some_iff.1 hp.2).1; omega), HDMk.out i hik]
              · next e => exact hq1 q (by omega), fun q h1 h2 => by
              rw [List.getElem?_set_ne (by omega), List.getElem?_set_ne (by omega)]
              exact hq2 q (by omega) h2, hW⟩
          have HOwn0 : Hid (i = k → ∀ W, MP w ⟨(N : Int), (F : Int), slot, gap, rho, dmin, dmax, margin, PA, pn, pcap, parts, QA, qn, qcap, ports, RA, rn, rcap, routes⟩ ra rb gs gx N cur a0 a1 k sk rt b bk hs ds W → MR3 w ⟨(N : Int), (F : Int), slot, gap, rho, dmin, dmax, margin, PA, pn, pcap, parts, QA, qn, qcap, ports, RA, rn, rcap, routes⟩ ra rb gs gx N cur a0 a1 k sk rt b bk (PacQ.devM P skews delays lie rt k) (.int .i64 ((i : Int) + 1)) W) := Lib.hid fun hik W hW =>
            ⟨i + 1, hs, ds, by omega, by go_num, hdv, fun q hq => by
              by_cases e : q = i
              · subst e; rw [hp.2, hik, HDOk.out]
              · exact hq1 q (by omega), fun q h1 h2 => hq2 q (by omega) h2, hW⟩
          have hci := HC.out i hiN
          have HSi := Lib.hid (HSe.out i hiN)
          have HAi := Lib.hid (fun W hW => HAt2.out (2 * i + k) W hW)
          have ecast : ((2 * i + k : Nat) : Int) = 2 * (i : Int) + (k : Int) := by omega
          rw [ecast] at HAi
          have hpt := HPTk.out i
          have hwt := HWTk.out i
          have hdl := HDlk.out i
          have hsi := HSin.out i
          have hsd := HSd.out i hiN
          have ho1 := HO1k.out i
          have ho2 := HO2k.out i hiN
          obtain ⟨hd0, hd1, hd2⟩ : 0 ≤ dmin ∧ dmin ≤ dmax ∧ dmax ≤ 1048576 := ⟨hdd.1.1, hdd.1.2, hdd.2⟩
          generalize PacQ.whenT P skews delays lie k i = wh at *
          generalize PacQ.plainT P skews delays k i = pl at *
          generalize PacQ.sinceT P skews i = si at *
          generalize SndP.sendT P i = sd at *
          have hdl : 0 ≤ PacQ.atT delays (2 * i + k) (dmax - dmin + 1) ∧ PacQ.atT delays (2 * i + k) (dmax - dmin + 1) ≤ dmax - dmin := by subst hpl; exact hdl
          generalize PacQ.atT delays (2 * i + k) (dmax - dmin + 1) = dl at *
          have f1 : IntKind.i64.wrap (si + sd) = si + sd := IntWalk.i64_in _ (by omega)
          have f2 : IntKind.i64.wrap (si + sd + dmin) = si + sd + dmin := IntWalk.i64_in _ (by omega)
          have f3 : IntKind.i64.wrap (2 * (i : Int)) = 2 * (i : Int) := IntWalk.i64_in _ (by omega)
          have f4 : IntKind.i64.wrap (2 * (i : Int) + (k : Int)) = 2 * (i : Int) + (k : Int) := IntWalk.i64_in _ (by omega)
          have f5 : IntKind.i64.wrap (dmax - dmin) = dmax - dmin := IntWalk.i64_in _ (by omega)
          have f6 : IntKind.i64.wrap (dmax - dmin + 1) = dmax - dmin + 1 := IntWalk.i64_in _ (by omega)
          have f7 : IntKind.i64.wrap (si + sd + dmin + dl) = pl := by rw [hpt]; exact IntWalk.i64_in _ (by omega)
          have q2 : decide ((i : Int) < (N : Int)) = true := decide_eq_true (by omega)
          have q2n : decide (i < N) = true := decide_eq_true hiN
          have hiNi : (i : Int) < (N : Int) := by omega
          have ei1 : IntKind.i64.wrap ((i : Int) + 1) = (i : Int) + 1 := IntWalk.i64_in _ (by omega)
          have eN1 : IntKind.i64.wrap ((N : Int) - 1) = (N : Int) - 1 := IntWalk.i64_in _ (by omega)
          have hg0 := HG.out.step (Below.refl _ _).drew
          have D0 := fun W (hW : MP w ⟨(N : Int), (F : Int), slot, gap, rho, dmin, dmax, margin, PA, pn, pcap, parts, QA, qn, qcap, ports, RA, rn, rcap, routes⟩ ra rb gs gx N cur a0 a1 k sk rt b bk hs ds W) => hW.mk_.box.cells
          have dd0 := fun W (hW : MP w ⟨(N : Int), (F : Int), slot, gap, rho, dmin, dmax, margin, PA, pn, pcap, parts, QA, qn, qcap, ports, RA, rn, rcap, routes⟩ ra rb gs gx N cur a0 a1 k sk rt b bk hs ds W) => (D0 W hW).c0
          have dd1 := fun W (hW : MP w ⟨(N : Int), (F : Int), slot, gap, rho, dmin, dmax, margin, PA, pn, pcap, parts, QA, qn, qcap, ports, RA, rn, rcap, routes⟩ ra rb gs gx N cur a0 a1 k sk rt b bk hs ds W) => (D0 W hW).c1
          have dd2 := fun W (hW : MP w ⟨(N : Int), (F : Int), slot, gap, rho, dmin, dmax, margin, PA, pn, pcap, parts, QA, qn, qcap, ports, RA, rn, rcap, routes⟩ ra rb gs gx N cur a0 a1 k sk rt b bk hs ds W) => (D0 W hW).c2
          have dd3 := fun W (hW : MP w ⟨(N : Int), (F : Int), slot, gap, rho, dmin, dmax, margin, PA, pn, pcap, parts, QA, qn, qcap, ports, RA, rn, rcap, routes⟩ ra rb gs gx N cur a0 a1 k sk rt b bk hs ds W) => (D0 W hW).c3
          have dd4 := fun W (hW : MP w ⟨(N : Int), (F : Int), slot, gap, rho, dmin, dmax, margin, PA, pn, pcap, parts, QA, qn, qcap, ports, RA, rn, rcap, routes⟩ ra rb gs gx N cur a0 a1 k sk rt b bk hs ds W) => (D0 W hW).c4
          have dd5 := fun W (hW : MP w ⟨(N : Int), (F : Int), slot, gap, rho, dmin, dmax, margin, PA, pn, pcap, parts, QA, qn, qcap, ports, RA, rn, rcap, routes⟩ ra rb gs gx N cur a0 a1 k sk rt b bk hs ds W) => (D0 W hW).c5
          have dd6 := fun W (hW : MP w ⟨(N : Int), (F : Int), slot, gap, rho, dmin, dmax, margin, PA, pn, pcap, parts, QA, qn, qcap, ports, RA, rn, rcap, routes⟩ ra rb gs gx N cur a0 a1 k sk rt b bk hs ds W) => (D0 W hW).c6
          have dd7 := fun W (hW : MP w ⟨(N : Int), (F : Int), slot, gap, rho, dmin, dmax, margin, PA, pn, pcap, parts, QA, qn, qcap, ports, RA, rn, rcap, routes⟩ ra rb gs gx N cur a0 a1 k sk rt b bk hs ds W) => (D0 W hW).c7
          have dd8 := fun W (hW : MP w ⟨(N : Int), (F : Int), slot, gap, rho, dmin, dmax, margin, PA, pn, pcap, parts, QA, qn, qcap, ports, RA, rn, rcap, routes⟩ ra rb gs gx N cur a0 a1 k sk rt b bk hs ds W) => (D0 W hW).c8
          have dd9 := fun W (hW : MP w ⟨(N : Int), (F : Int), slot, gap, rho, dmin, dmax, margin, PA, pn, pcap, parts, QA, qn, qcap, ports, RA, rn, rcap, routes⟩ ra rb gs gx N cur a0 a1 k sk rt b bk hs ds W) => (D0 W hW).c9
          have dd10 := fun W (hW : MP w ⟨(N : Int), (F : Int), slot, gap, rho, dmin, dmax, margin, PA, pn, pcap, parts, QA, qn, qcap, ports, RA, rn, rcap, routes⟩ ra rb gs gx N cur a0 a1 k sk rt b bk hs ds W) => (D0 W hW).c10
          simp only at dd0 dd1 dd2 dd3 dd4 dd5 dd6 dd7 dd8 dd9 dd10
          have dc : ∀ W, MP w ⟨(N : Int), (F : Int), slot, gap, rho, dmin, dmax, margin, PA, pn, pcap, parts, QA, qn, qcap, ports, RA, rn, rcap, routes⟩ ra rb gs gx N cur a0 a1 k sk rt b bk hs ds W → W.cell? ⟨gs, i, none⟩ = some (.int .i64 si) := fun W hW => hW.mk_.cell HCl.out hci
          have HG0 := Lib.hid HG.out
          clear HG D0 HHk HNxk HDk HWk HDMk HDOk HWTk HPTk HO1k HO2k HDlk HSe HAt2 HSn HSin HSd HC hci hdv hq1 hq2 hp hsi hsd hdl hpt hcur HR
          go_wp2_with fail
          refine wp_region_held_drew (S := fun W => MP w ⟨(N : Int), (F : Int), slot, gap, rho, dmin, dmax, margin, PA, pn, pcap, parts, QA, qn, qcap, ports, RA, rn, rcap, routes⟩ ra rb gs gx N cur a0 a1 k sk rt b bk hs ds W) (by kernel_rfl) hg0 (fun _ => ?_)
          refine wpAnyH_take (i := 0) (oi := ?oo20) (v := ?vv20) ?ii20 (by kernel_rfl) ?ff20 (by kernel_rfl) ?qq20 (Or.inl ⟨?ww20, ?yy20⟩) hg0 ?rr20
          case ii20 => simp only [List.getElem?_toArray, List.getElem?_cons_zero]; rfl
          case ff20 => kernel_rfl
          case qq20 => exact fun _ _ _ h => h
          case ww20 => rfl
          case yy20 => intro W hW; go_simp <;> with_reducible rfl
          try simp only [Act.put, List.setIfInBounds_toArray, List.set_cons_zero, List.set_cons_succ]
          refine wpAnyH_take (i := 1) (oi := ?oo21) (v := ?vv21) ?ii21 (by kernel_rfl) ?ff21 (by kernel_rfl) ?qq21 (Or.inl ⟨?ww21, ?yy21⟩) hg0 ?rr21
          case ii21 => simp only [List.getElem?_toArray, List.getElem?_cons_succ, List.getElem?_cons_zero]; rfl
          case ff21 => kernel_rfl
          case qq21 => exact fun _ _ _ h => h
          case ww21 => rfl
          case yy21 => intro W hW; go_simp <;> with_reducible rfl
          try simp only [Act.put, List.setIfInBounds_toArray, List.set_cons_zero, List.set_cons_succ]
          refine wpAnyH_take (i := 2) (oi := ?oo22) (v := ?vv22) ?ii22 (by kernel_rfl) ?ff22 (by kernel_rfl) ?qq22 (Or.inl ⟨?ww22, ?yy22⟩) hg0 ?rr22
          case ii22 => simp only [List.getElem?_toArray, List.getElem?_cons_succ, List.getElem?_cons_zero]; rfl
          case ff22 => kernel_rfl
          case qq22 => exact fun _ _ _ h => h
          case ww22 => rfl
          case yy22 => intro W hW; go_simp <;> with_reducible rfl
          try simp only [Act.put, List.setIfInBounds_toArray, List.set_cons_zero, List.set_cons_succ]
          refine wpAnyH_take (i := 3) (oi := ?oo23) (v := ?vv23) ?ii23 (by kernel_rfl) ?ff23 (by kernel_rfl) ?qq23 (Or.inl ⟨?ww23, ?yy23⟩) hg0 ?rr23
          case ii23 => simp only [List.getElem?_toArray, List.getElem?_cons_succ, List.getElem?_cons_zero]; rfl
          case ff23 => kernel_rfl
          case qq23 => exact fun _ _ _ h => h
          case ww23 => rfl
          case yy23 => intro W hW; go_simp <;> with_reducible rfl
          try simp only [Act.put, List.setIfInBounds_toArray, List.set_cons_zero, List.set_cons_succ]
          refine wpAnyH_take (i := 4) (oi := ?oo24) (v := ?vv24) ?ii24 (by kernel_rfl) ?ff24 (by kernel_rfl) ?qq24 (Or.inl ⟨?ww24, ?yy24⟩) hg0 ?rr24
          case ii24 => simp only [List.getElem?_toArray, List.getElem?_cons_succ, List.getElem?_cons_zero]; rfl
          case ff24 => kernel_rfl
          case qq24 => exact fun _ _ _ h => h
          case ww24 => rfl
          case yy24 => intro W hW; go_simp <;> with_reducible rfl
          try simp only [Act.put, List.setIfInBounds_toArray, List.set_cons_zero, List.set_cons_succ]
          refine wpAnyH_take (i := 5) (oi := ?oo25) (v := ?vv25) ?ii25 (by kernel_rfl) ?ff25 (by kernel_rfl) ?qq25 (Or.inl ⟨?ww25, ?yy25⟩) hg0 ?rr25
          case ii25 => simp only [List.getElem?_toArray, List.getElem?_cons_succ, List.getElem?_cons_zero]; rfl
          case ff25 => kernel_rfl
          case qq25 => exact fun _ _ _ h => h
          case ww25 => rfl
          case yy25 => intro W hW; go_simp <;> with_reducible rfl
          try simp only [Act.put, List.setIfInBounds_toArray, List.set_cons_zero, List.set_cons_succ]
          refine wpAnyH_take (i := 8) (oi := ?oo26) (v := ?vv26) ?ii26 (by kernel_rfl) ?ff26 (by kernel_rfl) ?qq26 (Or.inl ⟨?ww26, ?yy26⟩) hg0 ?rr26
          case ii26 => simp only [List.getElem?_toArray, List.getElem?_cons_succ, List.getElem?_cons_zero]; rfl
          case ff26 => kernel_rfl
          case qq26 => exact fun _ _ _ h => h
          case ww26 => rfl
          case yy26 => intro W hW; go_simp <;> with_reducible rfl
          try simp only [Act.put, List.setIfInBounds_toArray, List.set_cons_zero, List.set_cons_succ]
          refine wpAnyH_take (i := 9) (oi := ?oo27) (v := ?vv27) ?ii27 (by kernel_rfl) ?ff27 (by kernel_rfl) ?qq27 (Or.inl ⟨?ww27, ?yy27⟩) hg0 ?rr27
          case ii27 => simp only [List.getElem?_toArray, List.getElem?_cons_succ, List.getElem?_cons_zero]; rfl
          case ff27 => kernel_rfl
          case qq27 => exact fun _ _ _ h => h
          case ww27 => rfl
          case yy27 => intro W hW; go_simp <;> with_reducible rfl
          try simp only [Act.put, List.setIfInBounds_toArray, List.set_cons_zero, List.set_cons_succ]
          refine wpAnyH_take (i := 11) (oi := ?oo28) (v := ?vv28) ?ii28 (by kernel_rfl) ?ff28 (by kernel_rfl) ?qq28 (Or.inl ⟨?ww28, ?yy28⟩) hg0 ?rr28
          case ii28 => simp only [List.getElem?_toArray, List.getElem?_cons_succ, List.getElem?_cons_zero]; rfl
          case ff28 => kernel_rfl
          case qq28 => exact fun _ _ _ h => h
          case ww28 => rfl
          case yy28 => intro W hW; go_simp <;> with_reducible rfl
          try simp only [Act.put, List.setIfInBounds_toArray, List.set_cons_zero, List.set_cons_succ]
          refine wpAnyH_take (i := 12) (oi := ?oo29) (v := ?vv29) ?ii29 (by kernel_rfl) ?ff29 (by kernel_rfl) ?qq29 (Or.inl ⟨?ww29, ?yy29⟩) hg0 ?rr29
          case ii29 => simp only [List.getElem?_toArray, List.getElem?_cons_succ, List.getElem?_cons_zero]; rfl
          case ff29 => kernel_rfl
          case qq29 => exact fun _ _ _ h => h
          case ww29 => rfl
          case yy29 => intro W hW; go_simp <;> with_reducible rfl
          try simp only [Act.put, List.setIfInBounds_toArray, List.set_cons_zero, List.set_cons_succ]
          refine wpAnyH_take (i := 13) (oi := ?oo30) (v := ?vv30) ?ii30 (by kernel_rfl) ?ff30 (by kernel_rfl) ?qq30 (Or.inl ⟨?ww30, ?yy30⟩) hg0 ?rr30
          case ii30 => simp only [List.getElem?_toArray, List.getElem?_cons_succ, List.getElem?_cons_zero]; rfl
          case ff30 => kernel_rfl
          case qq30 => exact fun _ _ _ h => h
          case ww30 => rfl
          case yy30 => intro W hW; go_simp <;> with_reducible rfl
          try simp only [Act.put, List.setIfInBounds_toArray, List.set_cons_zero, List.set_cons_succ]
          refine wpAnyH_take (i := 14) (oi := ?oo31) (v := ?vv31) ?ii31 (by kernel_rfl) ?ff31 (by kernel_rfl) ?qq31 (Or.inl ⟨?ww31, ?yy31⟩) hg0 ?rr31
          case ii31 => simp only [List.getElem?_toArray, List.getElem?_cons_succ, List.getElem?_cons_zero]; rfl
          case ff31 => kernel_rfl
          case qq31 => exact fun _ _ _ h => h
          case ww31 => rfl
          case yy31 => intro W hW; go_simp <;> with_reducible rfl
          try simp only [Act.put, List.setIfInBounds_toArray, List.set_cons_zero, List.set_cons_succ]
          refine wpAnyH_take (i := 15) (oi := ?oo32) (v := ?vv32) ?ii32 (by kernel_rfl) ?ff32 (by kernel_rfl) ?qq32 (Or.inl ⟨?ww32, ?yy32⟩) hg0 ?rr32
          case ii32 => simp only [List.getElem?_toArray, List.getElem?_cons_succ, List.getElem?_cons_zero]; rfl
          case ff32 => kernel_rfl
          case qq32 => exact fun _ _ _ h => h
          case ww32 => rfl
          case yy32 => intro W hW; go_simp <;> with_reducible rfl
          try simp only [Act.put, List.setIfInBounds_toArray, List.set_cons_zero, List.set_cons_succ]
          refine wpAnyH_take (i := 16) (oi := ?oo33) (v := ?vv33) ?ii33 (by kernel_rfl) ?ff33 (by kernel_rfl) ?qq33 (Or.inl ⟨?ww33, ?yy33⟩) hg0 ?rr33
          case ii33 => simp only [List.getElem?_toArray, List.getElem?_cons_succ, List.getElem?_cons_zero]; rfl
          case ff33 => kernel_rfl
          case qq33 => exact fun _ _ _ h => h
          case ww33 => rfl
          case yy33 => intro W hW; go_simp <;> with_reducible rfl
          try simp only [Act.put, List.setIfInBounds_toArray, List.set_cons_zero, List.set_cons_succ]
          refine wpAnyH_take (i := 17) (oi := ?oo34) (v := ?vv34) ?ii34 (by kernel_rfl) ?ff34 (by kernel_rfl) ?qq34 (Or.inl ⟨?ww34, ?yy34⟩) hg0 ?rr34
          case ii34 => simp only [List.getElem?_toArray, List.getElem?_cons_succ, List.getElem?_cons_zero]; rfl
          case ff34 => kernel_rfl
          case qq34 => exact fun _ _ _ h => h
          case ww34 => rfl
          case yy34 => intro W hW; go_simp <;> with_reducible rfl
          try simp only [Act.put, List.setIfInBounds_toArray, List.set_cons_zero, List.set_cons_succ]
          refine wpAnyH_take (i := 18) (oi := ?oo35) (v := ?vv35) ?ii35 (by kernel_rfl) ?ff35 (by kernel_rfl) ?qq35 (Or.inl ⟨?ww35, ?yy35⟩) hg0 ?rr35
          case ii35 => simp only [List.getElem?_toArray, List.getElem?_cons_succ, List.getElem?_cons_zero]; rfl
          case ff35 => kernel_rfl
          case qq35 => exact fun _ _ _ h => h
          case ww35 => rfl
          case yy35 => intro W hW; go_simp <;> with_reducible rfl
          try simp only [Act.put, List.setIfInBounds_toArray, List.set_cons_zero, List.set_cons_succ]
          refine wpAnyH_take (i := 19) (oi := ?oo36) (v := ?vv36) ?ii36 (by kernel_rfl) ?ff36 (by kernel_rfl) ?qq36 (Or.inl ⟨?ww36, ?yy36⟩) hg0 ?rr36
          case ii36 => simp only [List.getElem?_toArray, List.getElem?_cons_succ, List.getElem?_cons_zero]; rfl
          case ff36 => kernel_rfl
          case qq36 => exact fun _ _ _ h => h
          case ww36 => rfl
          case yy36 => intro W hW; go_simp <;> with_reducible rfl
          try simp only [Act.put, List.setIfInBounds_toArray, List.set_cons_zero, List.set_cons_succ]
          refine wpAnyH_take (i := 20) (oi := ?oo37) (v := ?vv37) ?ii37 (by kernel_rfl) ?ff37 (by kernel_rfl) ?qq37 (Or.inl ⟨?ww37, ?yy37⟩) hg0 ?rr37
          case ii37 => simp only [List.getElem?_toArray, List.getElem?_cons_succ, List.getElem?_cons_zero]; rfl
          case ff37 => kernel_rfl
          case qq37 => exact fun _ _ _ h => h
          case ww37 => rfl
          case yy37 => intro W hW; go_simp <;> with_reducible rfl
          try simp only [Act.put, List.setIfInBounds_toArray, List.set_cons_zero, List.set_cons_succ]
          refine wpAnyH_take (i := 21) (oi := ?oo38) (v := ?vv38) ?ii38 (by kernel_rfl) ?ff38 (by kernel_rfl) ?qq38 (Or.inl ⟨?ww38, ?yy38⟩) hg0 ?rr38
          case ii38 => simp only [List.getElem?_toArray, List.getElem?_cons_succ, List.getElem?_cons_zero]; rfl
          case ff38 => kernel_rfl
          case qq38 => exact fun _ _ _ h => h
          case ww38 => rfl
          case yy38 => intro W hW; go_simp <;> with_reducible rfl
          try simp only [Act.put, List.setIfInBounds_toArray, List.set_cons_zero, List.set_cons_succ]
          refine wpAnyH_take (i := 22) (oi := ?oo39) (v := ?vv39) ?ii39 (by kernel_rfl) ?ff39 (by kernel_rfl) ?qq39 (Or.inl ⟨?ww39, ?yy39⟩) hg0 ?rr39
          case ii39 => simp only [List.getElem?_toArray, List.getElem?_cons_succ, List.getElem?_cons_zero]; rfl
          case ff39 => kernel_rfl
          case qq39 => exact fun _ _ _ h => h
          case ww39 => rfl
          case yy39 => intro W hW; go_simp <;> with_reducible rfl
          try simp only [Act.put, List.setIfInBounds_toArray, List.set_cons_zero, List.set_cons_succ]
          refine wpAnyH_ready (rs := [6]) (by kernel_rfl) (by simp) ?_
          refine AllReadyH.cons (o := ?oo40) ?ii40 (fun K hK => ?_) AllReadyH.nil
          case ii40 => simp only [List.getElem?_toArray, List.getElem?_cons_succ, List.getElem?_cons_zero]; rfl
          go_simp
          refine (HSi.out _).mono ?_
          rintro e w8 ⟨rfl, hb8⟩
          have hg1 := hg0.step hb8
          clear hb8 hg0 HSi
          go_wp2_with fail
          refine hK.out _ _ hg1 (fun _ => ?_)
          clear hK K
          refine wpAnyH_take (i := 7) (oi := ?oo41) (v := ?vv41) ?ii41 (by kernel_rfl) ?ff41 (by kernel_rfl) ?qq41 (Or.inl ⟨?ww41, ?yy41⟩) hg1 ?rr41
          case ii41 => simp only [List.getElem?_toArray, List.getElem?_cons_succ, List.getElem?_cons_zero]; rfl
          case ff41 => kernel_rfl
          case qq41 => exact fun _ _ _ h => h
          case ww41 => rfl
          case yy41 => intro W hW; go_simp <;> with_reducible rfl
          try simp only [Act.put, List.setIfInBounds_toArray, List.set_cons_zero, List.set_cons_succ]
          refine wpAnyH_take (i := 10) (oi := ?oo42) (v := ?vv42) ?ii42 (by kernel_rfl) ?ff42 (by kernel_rfl) ?qq42 (Or.inl ⟨?ww42, ?yy42⟩) hg1 ?rr42
          case ii42 => simp only [List.getElem?_toArray, List.getElem?_cons_succ, List.getElem?_cons_zero]; rfl
          case ff42 => kernel_rfl
          case qq42 => exact fun _ _ _ h => h
          case ww42 => rfl
          case yy42 => intro W hW; go_simp <;> with_reducible rfl
          try simp only [Act.put, List.setIfInBounds_toArray, List.set_cons_zero, List.set_cons_succ]
          refine wpAnyH_ready (rs := [23]) (by kernel_rfl) (by simp) ?_
          refine AllReadyH.cons (o := ?oo43) ?ii43 (fun K hK => ?_) AllReadyH.nil
          case ii43 => simp only [List.getElem?_toArray, List.getElem?_cons_succ, List.getElem?_cons_zero]; rfl
          go_simp
          refine (HAi.out _ hg1.mk_.box).mono ?_
          rintro e w9 ⟨rfl, m9, rfl⟩
          have hg2 := hg1.step (below_drewNc (Below.refl _ _) m9)
          clear hg1 HAi
          go_wp2_with fail
          refine hK.out _ _ hg2 (fun _ => ?_)
          clear hK K
          refine wpAnyH_take (i := 24) (oi := ?oo44) (v := ?vv44) ?ii44 (by kernel_rfl) ?ff44 (by kernel_rfl) ?qq44 (Or.inl ⟨?ww44, ?yy44⟩) hg2 ?rr44
          case ii44 => simp only [List.getElem?_toArray, List.getElem?_cons_succ, List.getElem?_cons_zero]; rfl
          case ff44 => kernel_rfl
          case qq44 => exact fun _ _ _ h => h
          case ww44 => rfl
          case yy44 => intro W hW; go_simp <;> with_reducible rfl
          try simp only [Act.put, List.setIfInBounds_toArray, List.set_cons_zero, List.set_cons_succ]
          refine wpAnyH_take (i := 25) (oi := ?oo45) (v := ?vv45) ?ii45 (by kernel_rfl) ?ff45 (by kernel_rfl) ?qq45 (Or.inl ⟨?ww45, ?yy45⟩) hg2 ?rr45
          case ii45 => simp only [List.getElem?_toArray, List.getElem?_cons_succ, List.getElem?_cons_zero]; rfl
          case ff45 => kernel_rfl
          case qq45 => exact fun _ _ _ h => h
          case ww45 => rfl
          case yy45 => intro W hW; go_simp <;> with_reducible rfl
          try simp only [Act.put, List.setIfInBounds_toArray, List.set_cons_zero, List.set_cons_succ]
          refine wpAnyH_done (by kernel_rfl) ?_ _
          generalize w8.drewN m9 = w10 at *
          have k0 := dd0 _ hg2
          have k1 := dd1 _ hg2
          have HG3 := Lib.hid hg2
          have HOwn := Lib.hid (fun h => HOwn0.out h _ hg2)
          clear hg2 dd0 dd1 dd2 dd3 dd4 dd5 dd6 dd7 dd8 dd9 dd10 dc HOwn0 f1 f2 f3 f4 f5 f6 f7 HG0
          by_cases hF0 : 0 < F
          case neg =>
            have ho9 := ho2 (fun h => by omega)
            rw [ho9, Int.add_zero] at hwt
            subst hwt
            have u1 : decide ((0 : Int) < (F : Int)) = false := decide_eq_false (by omega)
            have u1n : decide (0 < F) = false := decide_eq_false (by omega)
            have HHk := Lib.hid (fun h W hW => HHi.out h W hW)
            clear HHi ho1 ho2 ho9 s1 s2 s3 s4
            by_cases hik : i = k
            case pos =>
              have p1 : decide ((i : Int) = (k : Int)) = true := decide_eq_true (by omega)
              have p2 : ((i : Int) == (k : Int)) = true := by rw [beq_iff_eq]; omega
              have p3 : ((i : Int) != (k : Int)) = false := by rw [bne, p2]; rfl
              have p4 : decide (i = k) = true := decide_eq_true (by omega)
              have HR9 := Lib.hid (HOwn.out hik)
              clear HOwn HYes HHk hik
              go_wp2_with fail
              go_roundw
              case rel => exact HR9.out
              case measure => simp [intOf]; omega
            case neg =>
              have p1 : decide ((i : Int) = (k : Int)) = false := decide_eq_false (by omega)
              have p2 : ((i : Int) == (k : Int)) = false := by rw [beq_eq_false_iff_ne]; omega
              have p3 : ((i : Int) != (k : Int)) = true := by rw [bne, p2]; rfl
              have p4 : decide (i = k) = false := decide_eq_false (by omega)
              have HH9 := Lib.hid (HHk.out (by omega))
              have HY9 := Lib.hid (HYes.out hik)
              clear HOwn HYes HHk hik
              go_wp2_with fail
              refine (HH9.out _ HG3.out).mono ?_
              rintro e w9 ⟨rfl, hg9⟩
              have HR9 := Lib.hid (HY9.out _ hg9)
              clear hg9 HY9 HH9 HG3
              go_wp2_with fail
              go_roundw
              case rel => exact HR9.out
              case measure => simp [intOf]; omega
          by_cases hlast : i = N - 1
          case pos =>
            have ho9 := ho1 (by omega) (by omega)
            obtain ⟨l0, el0⟩ : ∃ z, lie.tmod 1048576 = z := ⟨_, rfl⟩
            rw [el0] at ho9 s2
            have hk01 : k = 0 ∨ k = 1 := by omega
            have t1 : -1048576 < ((k : Int) * 2 - 1) * l0 ∧ ((k : Int) * 2 - 1) * l0 < 1048576 := by
              rcases hk01 with rfl | rfl
              · simp; omega
              · simp; omega
            generalize hpr : ((k : Int) * 2 - 1) * l0 = pr at *
            have ew : pl + pr = wh := by rw [hwt, ho9]
            have g1 : IntKind.i64.wrap ((k : Int) * 2) = (k : Int) * 2 := IntWalk.i64_in _ (by omega)
            have g2 : IntKind.i64.wrap ((k : Int) * 2 - 1) = (k : Int) * 2 - 1 := IntWalk.i64_in _ (by omega)
            have g3 : IntKind.i64.wrap l0 = l0 := IntWalk.i64_in _ (by omega)
            have g4 : IntKind.i64.wrap pr = pr := IntWalk.i64_in _ (by omega)
            have g5 : IntKind.i64.wrap (pl + pr) = wh := by rw [← ew]; exact IntWalk.i64_in _ (by omega)
            have g6 : wrap64 (pl + pr) = wh := by rw [← ew]; exact IntWalk.wrap64_in _ (by omega)
            have u1 : decide ((0 : Int) < (F : Int)) = true := decide_eq_true (by omega)
            have u1n : decide (0 < F) = true := decide_eq_true (by omega)
            have u2 : decide ((i : Int) = (N : Int) - 1) = true := decide_eq_true (by omega)
            have u3 : ((i : Int) == (N : Int) - 1) = true := by rw [beq_iff_eq]; omega
            have HHk := Lib.hid (fun h W hW => HHi.out h W hW)
            clear HHi ho1 ho2 ho9 hwt s1 s2 s3 s4 ew t1 hk01 hlast
            by_cases hik : i = k
            case pos =>
              have p1 : decide ((i : Int) = (k : Int)) = true := decide_eq_true (by omega)
              have p2 : ((i : Int) == (k : Int)) = true := by rw [beq_iff_eq]; omega
              have p3 : ((i : Int) != (k : Int)) = false := by rw [bne, p2]; rfl
              have p4 : decide (i = k) = true := decide_eq_true (by omega)
              have HR9 := Lib.hid (HOwn.out hik)
              clear HOwn HYes HHk hik
              go_wp2_with fail
              go_roundw
              case rel => exact HR9.out
              case measure => simp [intOf]; omega
            case neg =>
              have p1 : decide ((i : Int) = (k : Int)) = false := decide_eq_false (by omega)
              have p2 : ((i : Int) == (k : Int)) = false := by rw [beq_eq_false_iff_ne]; omega
              have p3 : ((i : Int) != (k : Int)) = true := by rw [bne, p2]; rfl
              have p4 : decide (i = k) = false := decide_eq_false (by omega)
              have HH9 := Lib.hid (HHk.out (by omega))
              have HY9 := Lib.hid (HYes.out hik)
              clear HOwn HYes HHk hik
              go_wp2_with fail
              refine (HH9.out _ HG3.out).mono ?_
              rintro e w9 ⟨rfl, hg9⟩
              have HR9 := Lib.hid (HY9.out _ hg9)
              clear hg9 HY9 HH9 HG3
              go_wp2_with fail
              go_roundw
              case rel => exact HR9.out
              case measure => simp [intOf]; omega
          case neg =>
            have ho9 := ho2 (fun h => by omega)
            rw [ho9, Int.add_zero] at hwt
            subst hwt
            have u1 : decide ((0 : Int) < (F : Int)) = true := decide_eq_true (by omega)
            have u1n : decide (0 < F) = true := decide_eq_true (by omega)
            have u2 : decide ((i : Int) = (N : Int) - 1) = false := decide_eq_false (by omega)
            have u3 : ((i : Int) == (N : Int) - 1) = false := by rw [beq_eq_false_iff_ne]; omega
            have HHk := Lib.hid (fun h W hW => HHi.out h W hW)
            clear HHi ho1 ho2 ho9 s1 s2 s3 s4 hlast
            by_cases hik : i = k
            case pos =>
              have p1 : decide ((i : Int) = (k : Int)) = true := decide_eq_true (by omega)
              have p2 : ((i : Int) == (k : Int)) = true := by rw [beq_iff_eq]; omega
              have p3 : ((i : Int) != (k : Int)) = false := by rw [bne, p2]; rfl
              have p4 : decide (i = k) = true := decide_eq_true (by omega)
              have HR9 := Lib.hid (HOwn.out hik)
              clear HOwn HYes HHk hik
              go_wp2_with fail
              go_roundw
              case rel => exact HR9.out
              case measure => simp [intOf]; omega
            case neg =>
              have p1 : decide ((i : Int) = (k : Int)) = false := decide_eq_false (by omega)
              have p2 : ((i : Int) == (k : Int)) = false := by rw [beq_eq_false_iff_ne]; omega
              have p3 : ((i : Int) != (k : Int)) = true := by rw [bne, p2]; rfl
              have p4 : decide (i = k) = false := decide_eq_false (by omega)
              have HH9 := Lib.hid (HHk.out (by omega))
              have HY9 := Lib.hid (HYes.out hik)
              clear HOwn HYes HHk hik
              go_wp2_with fail
              refine (HH9.out _ HG3.out).mono ?_
              rintro e w9 ⟨rfl, hg9⟩
              have HR9 := Lib.hid (HY9.out _ hg9)
              clear hg9 HY9 HH9 HG3
              go_wp2_with fail
              go_roundw
              case rel => exact HR9.out
              case measure => simp [intOf]; omega
    have HR : Hid (MR1 w ⟨(N : Int), (F : Int), slot, gap, rho, dmin, dmax, margin, PA, pn, pcap, parts, QA, qn, qcap, ports, RA, rn, rcap, routes⟩ ra rb gs N (PacQ.sinceT P skews) (.int .i64 ((i : Int) + 1)) (wo.setCell ⟨gs, i, none⟩ (.int .i64 (PacQ.sinceT P skews i)))) := Lib.hid (mr1_more hiN hcl hcf hB ho)
    obtain ⟨old, hold⟩ : ∃ z, cur[i]? = some z := ⟨_, List.getElem?_eq_getElem (by omega)⟩
    have HRm : Hid (∀ m, MR1 w ⟨(N : Int), (F : Int), slot, gap, rho, dmin, dmax, margin, PA, pn, pcap, parts, QA, qn, qcap, ports, RA, rn, rcap, routes⟩ ra rb gs N (PacQ.sinceT P skews) (.int .i64 ((i : Int) + 1)) ((wo.drewN m).setCell ⟨gs, i, none⟩ (.int .i64 (PacQ.sinceT P skews i)))) := Lib.hid fun m => mr1_more hiN hcl hcf (hB.step (below_drewNc (Below.refl _ _) m)) (ikeep ho (below_drewNc (Below.refl _ _) m))
    have hcell : wo.cell? ⟨gs, i, none⟩ = some (.int .i64 old) := by rw [ho.cellAt i (by omega)]; exact intV_get hold
    have hfr := ho.frozenAt i
    have HA9 := Lib.hid (HAt1.out i wo hB)
    have hsi := HSn.out i
    have hsb := HSin.out i
    have q1 : decide ((i : Int) < (N : Int)) = true := decide_eq_true (by omega)
    have q1n : decide (i < N) = true := decide_eq_true hiN
    have hiNi : (i : Int) < (N : Int) := by omega
    have ei1 : IntKind.i64.wrap ((i : Int) + 1) = (i : Int) + 1 := IntWalk.i64_in _ (by omega)
    generalize PacQ.sinceT P skews i = si at *
    generalize PacQ.atT skews i (PI / 2 + 1) = av at *
    have es : IntKind.i64.wrap (2 * RD + av) = si := by rw [← hsi]; exact IntWalk.i64_in _ (by omega)
    clear HR hcf hcl hB ho hold HAt1 HAt2 HSe HSn HSin HWh HDl HSd HN HHe HDv HNx HEnd HDM HDO HWT HPT HO1 HO2 hsi hsb hi
    go_wp2_with fail
    refine HA9.out.mono ?_
    rintro e w6 ⟨rfl, m6, rfl⟩
    have HR9 := Lib.hid (HRm.out m6)
    clear HRm HA9
    go_wp2_with fail
    go_roundw
    case rel => exact HR9.out
    case measure => simp [intOf]; omega
end Go.Proofs.Ythhbdnjihhpalaa
