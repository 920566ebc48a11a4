/- SoundOrders: the walk of the law at tables in memory. Conditions: where their lists lie. -/
import Derived.Test.YtpfhkcikjenjiaaSndI
import Derived.Test.YtpfhkcikjenjiaaSndT
import Derived.Test.YtpfhkcikjenjiaaSndN
import Derived.Deep.OwnRows
namespace Go.Proofs.Ytpfhkcikjenjiaa
open Go.RowKit
set_option maxRecDepth 100000

theorem infoB1 : (Try.prog.info? 4).map (fun i => (i.zero, i.size, i.bytes)) = some (some (.bool false), 1, 1) := by kernel_rfl
def bitV (l : List Bool) : List Value := l.map Value.bool
theorem bitV_get {l : List Bool} {k : Nat} {b : Bool} (h : l[k]? = some b) : (bitV l)[k]? = some (.bool b) := by simp [bitV, h]
theorem bitV_set (l : List Bool) (k : Nat) (b : Bool) : bitV (l.set k b) = (bitV l).set k (.bool b) := by simp [bitV, List.map_set]
/-- The boxed tables, and behind them a slice of bools of the call's own. -/
def SeenS (w : World) (x : CfgC) (g n : Nat) (bl : List Bool) (W : World) : Prop :=
  BoxS w x W ∧ W.ownsRow (boxC w x).heap.size 4 1 (.slice (some ⟨g, 0, none⟩) n n) n (bitV bl)
theorem SeenS.drew {w : World} {x : CfgC} {g n : Nat} {bl : List Bool} {W : World} (h : SeenS w x g n bl W) : SeenS w x g n bl W.drew := ⟨h.1.drew, own_keep h.2 (Below.refl _ _).drew⟩
theorem SeenS.step {w : World} {x : CfgC} {g n : Nat} {bl : List Bool} {W W' : World} (h : SeenS w x g n bl W) (hb : Below W.heap.size W W') : SeenS w x g n bl W' := ⟨h.1.step hb, own_keep h.2 hb⟩
theorem SeenS.cell {w : World} {x : CfgC} {g n : Nat} {bl : List Bool} {W : World} (h : SeenS w x g n bl W) {k : Nat} {b : Bool} (hk : bl[k]? = some b) (hkn : k < n) : W.cell? ⟨g, k, none⟩ = some (.bool b) := by
  rw [h.2.cellAt k (by omega)]; exact bitV_get hk
theorem SeenS.free {w : World} {x : CfgC} {g n : Nat} {bl : List Bool} {W : World} (h : SeenS w x g n bl W) (k : Nat) : W.frozen? ⟨g, k, none⟩ = false := h.2.frozenAt k
theorem SeenS.lt {w : World} {x : CfgC} {g n : Nat} {bl : List Bool} {W : World} (h : SeenS w x g n bl W) : (boxC w x).heap.size ≤ g ∧ g < W.heap.size := h.2.lt g (by simp [Value.ownBlock])
theorem SeenS.stored {w : World} {x : CfgC} {g n : Nat} {bl : List Bool} {W : World} (h : SeenS w x g n bl W) (k : Nat) (b : Bool) : SeenS w x g n (bl.set k b) (W.setCell ⟨g, k, none⟩ (.bool b)) := by
  have h2 := h.2.stored k (.bool b)
  refine ⟨Below.grown h.1 h2.2 h.1.size (fun q hq => ?_), by rw [bitV_set]; exact h2.1⟩
  cases hq
  exact h.lt.1
def SeenR (w : World) (x : CfgC) (g : Nat) (c i : Value) (W : World) : Prop :=
  ∃ (k : Nat) (bl : List Bool), (k : Int) ≤ x.nodes ∧ i = .int .i64 (k : Nat) ∧ c = .int .i64 (OrdP.cnt x.parts (k : Int) : Nat) ∧ OrdP.Marks x.parts (k : Int) [] bl ∧ SeenS w x g x.pn bl W
/-- The last beginning that was met. -/
def lastT (l : List TableP.Part) (L : List Nat) : Nat → Int
  | 0 => -1
  | j + 1 => match L[j]? with | some p => OrdP.keyP l p | none => -1
def SeenI (w : World) (x : CfgC) (g B : Nat) (v : Value) (k : Nat) (c la j : Value) (W : World) : Prop :=
  ∃ (m : Nat) (bl : List Bool), m ≤ (OrdP.ord x.parts k).length ∧ j = .int .i64 (m : Nat) ∧ c = .int .i64 ((OrdP.cnt x.parts (k : Int) + m : Nat) : Int) ∧ la = .int .i64 (lastT x.parts (OrdP.ord x.parts k) m) ∧ OrdP.Marks x.parts (k : Int) ((OrdP.ord x.parts k).take m) bl ∧
    SeenS w x g x.pn bl W ∧ g < B ∧ W.ownsRow B 3 1 v (OrdP.ord x.parts k).length (idxV (OrdP.ord x.parts k))
theorem ord_cell {W : World} {B n : Nat} {A : Option Addr} {cap : Nat} {L : List Nat} (h : W.ownsRow B 3 1 (.slice A n cap) n (idxV L)) {j p : Nat} (hj : L[j]? = some p) (hjn : j < n) :
    ∃ b, A = some ⟨b, 0, none⟩ ∧ W.cell? ⟨b, j, none⟩ = some (.int .i64 (p : Nat)) := by
  rcases h.2 with ⟨h1, h2⟩ | ⟨b, cap', cur, h1, _⟩
  · omega
  · simp only [Value.slice.injEq] at h1
    obtain ⟨rfl, -, rfl⟩ := h1
    exact ⟨b, rfl, by rw [h.cellAt j (by omega)]; exact idxV_get hj⟩

set_option maxHeartbeats 4000000 in
theorem orders_law (x : CfgC) (w : World) (h : CfgIn w x) : Calls Try.prog 8 #[x.value] w (TruePost w) := by
  have HA := Lib.hid (fun W => awake6_any W)
  have HWk := Lib.hid (fun W (hW : BoxS w x W) => works_any x W (h.below hW.below))
  obtain ⟨L, hL⟩ : ∃ L, worksB x = L := ⟨_, rfl⟩
  simp only [hL] at HWk
  have HST := Lib.hid (BoxS.start w x)
  cases L with
  | false =>
    clear hL h
    obtain ⟨nodes, faulty, slot, gap, rho, dmin, dmax, margin, PA, pn, pcap, parts, QA, qn, qcap, ports, RA, rn, rcap, routes⟩ := x
    have d0 := fun W (hW : BoxS w ⟨nodes, faulty, slot, gap, rho, dmin, dmax, margin, PA, pn, pcap, parts, QA, qn, qcap, ports, RA, rn, rcap, routes⟩ W) => hW.cells.c0
    have d1 := fun W (hW : BoxS w ⟨nodes, faulty, slot, gap, rho, dmin, dmax, margin, PA, pn, pcap, parts, QA, qn, qcap, ports, RA, rn, rcap, routes⟩ W) => hW.cells.c1
    have d2 := fun W (hW : BoxS w ⟨nodes, faulty, slot, gap, rho, dmin, dmax, margin, PA, pn, pcap, parts, QA, qn, qcap, ports, RA, rn, rcap, routes⟩ W) => hW.cells.c2
    have d3 := fun W (hW : BoxS w ⟨nodes, faulty, slot, gap, rho, dmin, dmax, margin, PA, pn, pcap, parts, QA, qn, qcap, ports, RA, rn, rcap, routes⟩ W) => hW.cells.c3
    have d4 := fun W (hW : BoxS w ⟨nodes, faulty, slot, gap, rho, dmin, dmax, margin, PA, pn, pcap, parts, QA, qn, qcap, ports, RA, rn, rcap, routes⟩ W) => hW.cells.c4
    have d5 := fun W (hW : BoxS w ⟨nodes, faulty, slot, gap, rho, dmin, dmax, margin, PA, pn, pcap, parts, QA, qn, qcap, ports, RA, rn, rcap, routes⟩ W) => hW.cells.c5
    have d6 := fun W (hW : BoxS w ⟨nodes, faulty, slot, gap, rho, dmin, dmax, margin, PA, pn, pcap, parts, QA, qn, qcap, ports, RA, rn, rcap, routes⟩ W) => hW.cells.c6
    have d7 := fun W (hW : BoxS w ⟨nodes, faulty, slot, gap, rho, dmin, dmax, margin, PA, pn, pcap, parts, QA, qn, qcap, ports, RA, rn, rcap, routes⟩ W) => hW.cells.c7
    have d8 := fun W (hW : BoxS w ⟨nodes, faulty, slot, gap, rho, dmin, dmax, margin, PA, pn, pcap, parts, QA, qn, qcap, ports, RA, rn, rcap, routes⟩ W) => hW.cells.c8
    have d9 := fun W (hW : BoxS w ⟨nodes, faulty, slot, gap, rho, dmin, dmax, margin, PA, pn, pcap, parts, QA, qn, qcap, ports, RA, rn, rcap, routes⟩ W) => hW.cells.c9
    have d10 := fun W (hW : BoxS w ⟨nodes, faulty, slot, gap, rho, dmin, dmax, margin, PA, pn, pcap, parts, QA, qn, qcap, ports, RA, rn, rcap, routes⟩ W) => hW.cells.c10
    simp only at d0 d1 d2 d3 d4 d5 d6 d7 d8 d9 d10
    simp only [CfgC.value] at HWk ⊢
    simp only [boxC, cfgCells] at HST
    go_enter Try.func8, Try.ntmps8
    go_wp2_with fail
    refine (HA.out _).mono ?_
    rintro e w1 ⟨rfl, hb1⟩
    have hd1 := HST.out.step hb1
    clear hb1 HA
    have k0 := d0 _ hd1
    have k1 := d1 _ hd1
    have k2 := d2 _ hd1
    have k3 := d3 _ hd1
    have k4 := d4 _ hd1
    have k5 := d5 _ hd1
    have k6 := d6 _ hd1
    have k7 := d7 _ hd1
    have k8 := d8 _ hd1
    have k9 := d9 _ hd1
    have k10 := d10 _ hd1
    have Hd1 := Lib.hid hd1
    clear hd1
    go_wp2_with fail
    refine (HWk.out _ Hd1.out).mono ?_
    rintro e w2 ⟨rfl, hb2⟩
    have hd2 := Hd1.out.step hb2
    clear hb2 Hd1 HWk k0 k1 k2 k3 k4 k5 k6 k7 k8 k9 k10
    have HF := Lib.hid hd2.below
    clear hd2
    go_wp2_with fail
    go_ret
    exact ⟨rfl, HF.out⟩
  | true =>
    obtain ⟨hWk, hl⟩ : SndP.Works x.plain ∧ longB6 x = false := by
      simp only [worksB, Bool.and_eq_true, Bool.not_eq_true', Option.isNone_iff_eq_none] at hL
      exact ⟨SndP.works hL.2, hL.1⟩
    have hpl := h.plen
    have hp12 : x.pn ≤ 12 := by have h1 : x.parts.length ≤ 12 := hWk.allowed.parts; omega
    have HO := Lib.hid (fun node W (hW : BoxS w x W) => order_any x node W (h.below hW.below) hp12)
    have HPA := Lib.hid (fun W (hW : BoxS w x W) k p (hk : x.parts[k]? = some p) => parts_at (h.parts.below hW.below) hk)
    have hn1 := (SndP.nums_in hWk.allowed.head).nodes
    have HP := Lib.hid (fun p (hp : p ∈ x.parts) => (hWk.allowed.part p hp))
    have Hn0 : Hid (∀ p ∈ x.parts, 0 ≤ p.node) := Lib.hid fun p hp => by have := (HP.out p hp).1; unfold TableP.up at this; omega
    have Hn1 : Hid (∀ p ∈ x.parts, p.node < x.nodes) := Lib.hid fun p hp => by have := (HP.out p hp).1; unfold TableP.up at this; simp only [CfgC.plain] at this; omega
    have HS0 : Hid (∀ p ∈ x.parts, 0 ≤ p.start) := Lib.hid fun p hp => by have := (HP.out p hp).2.1; unfold TableP.up at this; omega
    have HE := Lib.hid (OrdP.ord_empty Hn1.out)
    have Hca := Lib.hid (OrdP.cnt_all Hn1.out)
    have HR0 : Hid (∀ W, BoxS w x W → SeenR w x W.heap.size (.int .i64 0) (.int .i64 0) (W.alloc (.cells (madeCells #[.bool false] x.pn) 4))) := Lib.hid fun W hW => by
      refine ⟨0, _, by simp only [CfgC.plain] at hn1; omega, rfl, by rw [show ((0 : Nat) : Int) = 0 from rfl, OrdP.cnt_none Hn0.out]; rfl, OrdP.Marks.start Hn0.out, hW.alloc _, ?_⟩
      have h1 := World.ownsRow_lit (e := 4) (size := 1) (base := (boxC w x).heap.size) W (madeCells #[.bool false] x.pn) x.pn hW.size (by unfold maxLen; omega) (by have := congrArg List.length (toList_madeCells_one (.bool false) x.pn); simpa using this)
      rw [toList_madeCells_one] at h1
      simpa [bitV, hpl] using h1
    clear hL h hl HP Hn0 Hn1 hWk
    obtain ⟨nodes, faulty, slot, gap, rho, dmin, dmax, margin, PA, pn, pcap, parts, QA, qn, qcap, ports, RA, rn, rcap, routes⟩ := x
    have d0 := fun W (hW : BoxS w ⟨nodes, faulty, slot, gap, rho, dmin, dmax, margin, PA, pn, pcap, parts, QA, qn, qcap, ports, RA, rn, rcap, routes⟩ W) => hW.cells.c0
    have d1 := fun W (hW : BoxS w ⟨nodes, faulty, slot, gap, rho, dmin, dmax, margin, PA, pn, pcap, parts, QA, qn, qcap, ports, RA, rn, rcap, routes⟩ W) => hW.cells.c1
    have d2 := fun W (hW : BoxS w ⟨nodes, faulty, slot, gap, rho, dmin, dmax, margin, PA, pn, pcap, parts, QA, qn, qcap, ports, RA, rn, rcap, routes⟩ W) => hW.cells.c2
    have d3 := fun W (hW : BoxS w ⟨nodes, faulty, slot, gap, rho, dmin, dmax, margin, PA, pn, pcap, parts, QA, qn, qcap, ports, RA, rn, rcap, routes⟩ W) => hW.cells.c3
    have d4 := fun W (hW : BoxS w ⟨nodes, faulty, slot, gap, rho, dmin, dmax, margin, PA, pn, pcap, parts, QA, qn, qcap, ports, RA, rn, rcap, routes⟩ W) => hW.cells.c4
    have d5 := fun W (hW : BoxS w ⟨nodes, faulty, slot, gap, rho, dmin, dmax, margin, PA, pn, pcap, parts, QA, qn, qcap, ports, RA, rn, rcap, routes⟩ W) => hW.cells.c5
    have d6 := fun W (hW : BoxS w ⟨nodes, faulty, slot, gap, rho, dmin, dmax, margin, PA, pn, pcap, parts, QA, qn, qcap, ports, RA, rn, rcap, routes⟩ W) => hW.cells.c6
    have d7 := fun W (hW : BoxS w ⟨nodes, faulty, slot, gap, rho, dmin, dmax, margin, PA, pn, pcap, parts, QA, qn, qcap, ports, RA, rn, rcap, routes⟩ W) => hW.cells.c7
    have d8 := fun W (hW : BoxS w ⟨nodes, faulty, slot, gap, rho, dmin, dmax, margin, PA, pn, pcap, parts, QA, qn, qcap, ports, RA, rn, rcap, routes⟩ W) => hW.cells.c8
    have d9 := fun W (hW : BoxS w ⟨nodes, faulty, slot, gap, rho, dmin, dmax, margin, PA, pn, pcap, parts, QA, qn, qcap, ports, RA, rn, rcap, routes⟩ W) => hW.cells.c9
    have d10 := fun W (hW : BoxS w ⟨nodes, faulty, slot, gap, rho, dmin, dmax, margin, PA, pn, pcap, parts, QA, qn, qcap, ports, RA, rn, rcap, routes⟩ W) => hW.cells.c10
    simp only at d0 d1 d2 d3 d4 d5 d6 d7 d8 d9 d10 hpl hp12 HPA
    simp only [CfgC.plain] at hn1
    simp only [CfgC.value] at HWk HO ⊢
    simp only [boxC, cfgCells] at HST
    have hmk := fun W => run_make_row' (P := Try.prog) 38 4 (.bool false) 1 Try.underlying38 infoB1 rfl .i64 .i64 pn (by omega) (by omega) W
    go_enter Try.func8, Try.ntmps8
    go_wp2_with fail
    refine (HA.out _).mono ?_
    rintro e w1 ⟨rfl, hb1⟩
    have hd1 := HST.out.step hb1
    clear hb1 HA
    have k0 := d0 _ hd1
    have k1 := d1 _ hd1
    have k2 := d2 _ hd1
    have k3 := d3 _ hd1
    have k4 := d4 _ hd1
    have k5 := d5 _ hd1
    have k6 := d6 _ hd1
    have k7 := d7 _ hd1
    have k8 := d8 _ hd1
    have k9 := d9 _ hd1
    have k10 := d10 _ hd1
    have Hd1 := Lib.hid hd1
    clear hd1
    go_wp2_with fail
    refine (HWk.out _ Hd1.out).mono ?_
    rintro e w2 ⟨rfl, hb2⟩
    have hd2 := Hd1.out.step hb2
    clear hb2 Hd1 HWk k0 k1 k2 k3 k4 k5 k6 k7 k8 k9 k10
    have k0 := d0 _ hd2
    have k1 := d1 _ hd2
    have k2 := d2 _ hd2
    have k3 := d3 _ hd2
    have k4 := d4 _ hd2
    have k5 := d5 _ hd2
    have k6 := d6 _ hd2
    have k7 := d7 _ hd2
    have k8 := d8 _ hd2
    have k9 := d9 _ hd2
    have k10 := d10 _ hd2
    have HR1 := Lib.hid (HR0.out w2 hd2)
    clear hd2 HR0
    try simp only at HR1
    go_wp2_with fail
    clear k0 k1 k2 k3 k4 k5 k6 k7 k8 k9 k10 hmk
    generalize w2.alloc (.cells (madeCells #[.bool false] pn) 4) = w3 at *
    generalize w2.heap.size = g at *
    go_loopw [4, 5] (SeenR w ⟨nodes, faulty, slot, gap, rho, dmin, dmax, margin, PA, pn, pcap, parts, QA, qn, qcap, ports, RA, rn, rcap, routes⟩ g) (fun _ i _ => (nodes + 1 - intOf i).toNat)
    case atStart => exact HR1.out
    case round =>
      clear HR1
      obtain ⟨k, bl, hk, rfl, rfl, hm, hS⟩ := hrel
      have HM := Lib.hid hm
      have HS := Lib.hid hS
      clear hm hS
      try simp only at hk HM HS
      have k0 := d0 _ HS.out.1
      have k1 := d1 _ HS.out.1
      have k2 := d2 _ HS.out.1
      have k3 := d3 _ HS.out.1
      have k4 := d4 _ HS.out.1
      have k5 := d5 _ HS.out.1
      have k6 := d6 _ HS.out.1
      have k7 := d7 _ HS.out.1
      have k8 := d8 _ HS.out.1
      have k9 := d9 _ HS.out.1
      have k10 := d10 _ HS.out.1
      by_cases hlt : (k : Int) < nodes
      case pos =>
        have q0 : decide ((k : Int) < nodes) = true := decide_eq_true hlt
        have e0 : IntKind.i64.wrap ((k : Int) + 1) = (k : Int) + 1 := IntWalk.i64_in _ (by omega)
        go_wp2_with fail
        refine (HO.out _ _ HS.out.1).mono ?_
        rintro e w4 ⟨v4, rfl, ho, hb4⟩
        obtain ⟨Av, cv, rfl, -⟩ := own_slice ho
        have HI : Hid (SeenI w ⟨nodes, faulty, slot, gap, rho, dmin, dmax, margin, PA, pn, pcap, parts, QA, qn, qcap, ports, RA, rn, rcap, routes⟩ g (wr.heap.size + 1) (.slice Av (OrdP.ord parts k).length cv) k (.int .i64 (OrdP.cnt parts (k : Int) : Nat)) (.int .i64 (-1)) (.int .i64 0) w4) := Lib.hid
          ⟨0, bl, Nat.zero_le _, rfl, rfl, rfl, by rw [List.take_zero]; exact HM.out, HS.out.step hb4, by have := HS.out.lt; omega, ho⟩
        have Hlen : Hid ((OrdP.ord parts k).length ≤ pn) := Lib.hid (by rw [OrdP.ord_length]; have := List.countP_le_length (p := fun p => decide (p.node = (k : Int))) (l := parts); omega)
        have Hcl : Hid (OrdP.cnt parts (k : Int) ≤ pn) := Lib.hid (by have := List.countP_le_length (p := fun p => decide (p.node < (k : Int))) (l := parts); unfold OrdP.cnt; omega)
        have HNx : Hid (∀ bl W, OrdP.Marks parts (k : Int) (OrdP.ord parts k) bl → SeenS w ⟨nodes, faulty, slot, gap, rho, dmin, dmax, margin, PA, pn, pcap, parts, QA, qn, qcap, ports, RA, rn, rcap, routes⟩ g pn bl W → SeenR w ⟨nodes, faulty, slot, gap, rho, dmin, dmax, margin, PA, pn, pcap, parts, QA, qn, qcap, ports, RA, rn, rcap, routes⟩ g (.int .i64 ((OrdP.cnt parts (k : Int) + (OrdP.ord parts k).length : Nat) : Int)) (.int .i64 ((k : Int) + 1)) W) := Lib.hid fun bl W h1 h2 => by
          have e1 : (((k + 1 : Nat) : Int)) = (k : Int) + 1 := by omega
          refine ⟨k + 1, bl, by simp only; omega, by rw [e1], ?_, ?_, h2⟩
          · rw [e1, OrdP.cnt_ord]
          · rw [e1]; exact OrdP.Marks.next h1
        have HMem := Lib.hid (fun p (hp : p ∈ OrdP.ord parts k) => OrdP.ord_mem hp)
        have HFr := Lib.hid (fun j p (hj : (OrdP.ord parts k)[j]? = some p) => OrdP.ord_fresh hj)
        have HNext := Lib.hid (fun j a b (h1 : (OrdP.ord parts k)[j]? = some a) (h2 : (OrdP.ord parts k)[j + 1]? = some b) => OrdP.ord_next h1 h2)
        clear ho hb4 HS HM k0 k1 k2 k3 k4 k5 k6 k7 k8 k9 k10 q0
        generalize hO : OrdP.ord parts k = L at *
        generalize wr.heap.size + 1 = B at *
        go_wp2_with fail
        go_loopw [4, 6, 28] (SeenI w ⟨nodes, faulty, slot, gap, rho, dmin, dmax, margin, PA, pn, pcap, parts, QA, qn, qcap, ports, RA, rn, rcap, routes⟩ g B (.slice Av L.length cv) k) (fun _ _ j _ => (L.length + 1 - intOf j).toNat)
        case atStart => exact HI.out
        case round =>
          clear HI
          obtain ⟨m, bl, hm, rfl, rfl, rfl, hMk, hS, hgB, hown⟩ := hrel
          simp only [hO] at hm hMk hS hown ⊢
          have HMk := Lib.hid hMk
          have HS := Lib.hid hS
          have Hown := Lib.hid hown
          clear hMk hS hown
          have k0 := d0 _ HS.out.1
          have k1 := d1 _ HS.out.1
          have k2 := d2 _ HS.out.1
          have k3 := d3 _ HS.out.1
          have k4 := d4 _ HS.out.1
          have k5 := d5 _ HS.out.1
          have k6 := d6 _ HS.out.1
          have k7 := d7 _ HS.out.1
          have k8 := d8 _ HS.out.1
          have k9 := d9 _ HS.out.1
          have k10 := d10 _ HS.out.1
          by_cases hml : m < L.length
          case pos =>
            obtain ⟨p, hLp⟩ : ∃ y, L[m]? = some y := ⟨_, List.getElem?_eq_getElem hml⟩
            obtain ⟨b, rfl, cj⟩ := ord_cell Hown.out hLp hml
            obtain ⟨q, hq, hqn⟩ := HMem.out p (List.mem_of_getElem? hLp)
            have hpn : p < pn := by have := (List.getElem?_eq_some_iff.1 hq).1; omega
            have hbit : bl[p]? = some false := by
              rw [HMk.out.2 p q hq]
              have h1 := HFr.out m p hLp
              simp [h1]; omega
            have kp := HS.out.cell hbit hpn
            have fp := HS.out.free p
            obtain ⟨bp, op, ep, -, c0, c1, c2, c3, c4, c5, c6, c7, c8⟩ := HPA.out wr HS.out.1 p q hq
            have hst := HS0.out q (List.mem_of_getElem? hq)
            have ekey : OrdP.keyP parts p = q.start := by simp only [OrdP.keyP, hq]
            have hla : lastT parts L m ≤ q.start := by
              rw [← ekey]
              cases m with
              | zero => rw [ekey]; simp only [lastT]; omega
              | succ m' =>
                obtain ⟨a, ha⟩ : ∃ y, L[m']? = some y := ⟨_, List.getElem?_eq_getElem (by omega)⟩
                simp only [lastT, ha]
                exact HNext.out m' a p ha hLp
            have hgb : b ≠ g := by
              have := (Hown.out.lt b (by simp [Value.ownBlock])).1
              omega
            have HR3 : Hid (SeenI w ⟨nodes, faulty, slot, gap, rho, dmin, dmax, margin, PA, pn, pcap, parts, QA, qn, qcap, ports, RA, rn, rcap, routes⟩ g B (.slice (some ⟨b, 0, none⟩) L.length cv) k (.int .i64 (((OrdP.cnt parts (k : Int) + m : Nat) : Int) + 1)) (.int .i64 q.start) (.int .i64 ((m : Int) + 1)) (wr.setCell ⟨g, p, none⟩ (.bool true))) := Lib.hid (by
              have hst := HS.out.stored p true
              refine ⟨m + 1, bl.set p true, by simp only [hO]; omega, by go_num, by simp only; go_num, by simp only [hO, lastT, hLp]; rw [ekey], ?_, hst, hgB, ?_⟩
              · simp only [hO]
                rw [List.take_add_one, hLp]
                exact HMk.out.set p
              · simp only [hO]
                exact own_apart Hown.out (Apart.setCell (F := fun q => q = g) (Apart.refl _ wr) (p := ⟨g, p, none⟩) (.inl rfl) (.bool true)) (fun q hq e => by
                  simp only [Value.ownBlock, Option.some.injEq] at hq
                  omega))
            have ew : IntKind.i64.wrap (((OrdP.cnt parts (k : Int) + m : Nat) : Int) + 1) = ((OrdP.cnt parts (k : Int) + m : Nat) : Int) + 1 := IntWalk.i64_in _ (by have := Hcl.out; have := Hlen.out; omega)
            have z1 : decide ((p : Int) < 0) = false := decide_eq_false (by omega)
            have z2 : decide ((pn : Int) ≤ (p : Int)) = false := decide_eq_false (by omega)
            have hL12 : L.length ≤ 12 := by have := Hlen.out; omega
            have z2n : decide (pn ≤ p) = false := decide_eq_false (by omega)
            have z3 : (p : Int) < (pn : Int) := by omega
            have z4 : (0 : Int) ≤ (p : Int) := by omega
            clear hq HMk HFr HMem HNext hLp hbit ekey hst
            try simp only at ep
            subst ep
            obtain ⟨node1, start1, length1, budget1, words1, r0, r1, r2, r3⟩ := q
            simp only at c0 c1 c2 c3 c4 c5 c6 c7 c8 hqn hla HR3
            subst hqn
            have z5 : decide (start1 < lastT parts L m) = false := decide_eq_false (by omega)
            generalize lastT parts L m = la at *
            generalize OrdP.cnt parts (k : Int) + m = cm at *
            clear hla HS Hown
            go_wp2_with fail
            go_roundw
            case rel => exact HR3.out
            case measure => simp [intOf]; omega
          have hmL : m = L.length := by omega
          have HR4 := Lib.hid (HNx.out bl wr (by have := HMk.out; rw [hmL, List.take_length] at this; exact this) HS.out)
          clear HMk HS Hown HFr HMem HNext HNx hO
          subst hmL
          go_wp2_with fail
          go_roundw
          case rel => exact HR4.out
          case measure => simp [intOf]; omega
      have hkn : (k : Int) = nodes := by omega
      have q0 : decide ((k : Int) < nodes) = false := decide_eq_false hlt
      have hc : ((OrdP.cnt parts (k : Int) : Nat) : Int) = (pn : Int) := by rw [hkn, Hca.out, hpl]
      rw [hc]
      have HO2 := Lib.hid (fun W hW => HO.out nodes W hW)
      rw [HE.out] at HO2
      clear HM HE Hca HPA hc
      go_wp2_with fail
      refine (HO2.out _ HS.out.1).mono ?_
      rintro e w4 ⟨v4, rfl, ho, hb4⟩
      obtain ⟨Av, cv, rfl, -⟩ := own_slice ho
      have HF := Lib.hid (HS.out.1.step hb4).below
      clear ho hb4
      go_wp2_with fail
      go_ret
      exact ⟨rfl, HF.out⟩
end Go.Proofs.Ytpfhkcikjenjiaa
