/- FramesIdle: the walk of the law at tables in memory. Conditions: where their lists lie. -/
import Derived.Test.YtfgpfmhjnccccaaWinC
import Derived.BigQuiet
namespace Go.Proofs.Ytfgpfmhjnccccaa
open Go.RowKit
set_option maxRecDepth 100000

def FiR (w : World) (x : CfgC) (v : Value) (l : List WinP.Win) (r : Int) (n i : Value) (W : World) : Prop := ∃ k s, WLoop w x v l k i W ∧ n = .int .i64 (r + s) ∧ s = WinP.lenSum (l.take k) ∧ 0 ≤ s ∧ s ≤ (k : Int) * 1000000000
set_option maxHeartbeats 8000000 in
theorem fidle_law (x : CfgC) (node : Int) (w : World) (h : CfgIn w x) : Calls Try.prog 6 #[x.value, .int .i64 node] w (TruePost w) := by
  have HA := Lib.hid (fun W => awake17_any W)
  have HWk := Lib.hid (fun W (hW : BoxS w x W) => works_any x W (h.below hW.below))
  have HST := Lib.hid (BoxS.start w x)
  obtain ⟨L, hL⟩ : ∃ L, worksB x = L := ⟨_, rfl⟩
  rw [hL] at HWk
  cases L with
  | false =>
    clear h hL
    obtain ⟨nodes, faulty, slot, gap, rho, dmin, dmax, margin, PA, pn, pcap, parts, QA, qn, qcap, ports, RA, rn, rcap, routes⟩ := x
    obtain ⟨d0, d1, d2, d3, d4, d5, d6, d7, d8, d9, d10⟩ := cfgFacts (fun W (hW : BoxS w ⟨nodes, faulty, slot, gap, rho, dmin, dmax, margin, PA, pn, pcap, parts, QA, qn, qcap, ports, RA, rn, rcap, routes⟩ W) => hW.cells)
    simp only at d0 d1 d2 d3 d4 d5 d6 d7 d8 d9 d10
    simp only [CfgC.value] at HWk ⊢
    simp only [boxC, cfgCells] at HST
    go_enter Try.func6, Try.ntmps6
    go_wp2_with fail
    refine (HA.out _).mono ?_
    rintro e w1 ⟨rfl, hb1⟩
    have hd1 := HST.out.step hb1
    clear hb1 HA
    obtain ⟨k0, k1, k2, k3, k4, k5, k6, k7, k8, k9, k10⟩ := eleven hd1 d0 d1 d2 d3 d4 d5 d6 d7 d8 d9 d10
    have Hd1 := Lib.hid hd1
    clear hd1
    go_wp2_with fail
    refine (HWk.out _ Hd1.out).mono ?_
    rintro e w2 ⟨rfl, hb2⟩
    have hd2 := Hd1.out.step hb2
    clear hb2 Hd1 HWk k0 k1 k2 k3 k4 k5 k6 k7 k8 k9 k10
    have HF := Lib.hid hd2.below
    clear hd2
    go_wp2_with fail
    go_ret
    exact ⟨rfl, HF.out⟩
  | true =>
  have hwk : SndP.Works x.plain := by
    unfold worksB at hL
    simp only [Bool.and_eq_true] at hL
    exact SndP.works (Option.isNone_iff_eq_none.1 hL.2)
  have hpl := h.plen
  have HP12 : Hid (x.pn ≤ 12) := Lib.hid (by have h1 : x.parts.length ≤ 12 := hwk.allowed.parts; omega)
  have HLow : Hid (∀ W, BoxS w x W → Below w.heap.size w W) := Lib.hid fun W hW => hW.below
  have HL12 : Hid ((WinP.winsT x.plain node).length ≤ 12) := Lib.hid (by have h1 : x.parts.length ≤ 12 := hwk.allowed.parts; have h2 := WinP.wins_length x.plain node; exact Nat.le_trans h2 h1)
  have HW := Lib.hid (fun W (hW : BoxS w x W) => windows_any x node W (h.below hW.below) hwk)
  have HI := Lib.hid (fun W (hW : BoxS w x W) => widle_any x node W (h.below hW.below) hwk)
  have HR := Lib.hid (fun W (hW : BoxS w x W) => refround_any x W hwk.allowed.head)
  have HPA := Lib.hid (fun W (hW : BoxS w x W) k p (hk : x.parts[k]? = some p) => parts_at (h.parts.below hW.below) hk)
  have HIn : Hid (∀ (k : Nat) (y : WinP.Win), (WinP.winsT x.plain node)[k]? = some y → (0 ≤ y.open_ ∧ y.open_ < y.close ∧ y.close ≤ 1000000000) ∧ WinP.lenSum ((WinP.winsT x.plain node).take (k + 1)) = WinP.lenSum ((WinP.winsT x.plain node).take k) + (y.close - y.open_) ∧ ∃ p, x.parts[y.part]? = some p ∧ p.node = node ∧ y.close - y.open_ = p.length ∧ y.part < x.pn) := Lib.hid fun k y hy => by
    have h1 := WinP.wins_fit hwk hy
    refine ⟨⟨h1.1, h1.2.1, h1.2.2.1⟩, WinP.wsum_take hy, ?_⟩
    obtain ⟨q, p, _, hp, hn, rfl⟩ := WinP.wins_get hy
    exact ⟨p, hp, hn, by simp only; omega, by have := (List.getElem?_eq_some_iff.1 hp).1; change q < x.parts.length at this; simp only; omega⟩
  have HOut : Hid (WinP.idleT x.plain node + WinP.lenSum (WinP.winsT x.plain node) = SndP.roundT x.plain) := Lib.hid (by rw [WinP.lens_sum]; unfold WinP.idleT; omega)
  have HBig : Hid (-1000000000 ≤ WinP.idleT x.plain node ∧ WinP.idleT x.plain node ≤ 1000000000) := Lib.hid (by
    have h1 := WinP.idle_gap hwk node
    have h2 := WinP.round_fit hwk
    have h3 := hwk.allowed.head
    unfold TableP.headOk TableP.up at h3
    omega)
  generalize WinP.winsT x.plain node = L at *
  generalize WinP.idleT x.plain node = idl at *
  generalize SndP.roundT x.plain = rd at *
  clear h hwk hpl hL
  obtain ⟨nodes, faulty, slot, gap, rho, dmin, dmax, margin, PA, pn, pcap, parts, QA, qn, qcap, ports, RA, rn, rcap, routes⟩ := x
  obtain ⟨d0, d1, d2, d3, d4, d5, d6, d7, d8, d9, d10⟩ := cfgFacts (fun W (hW : BoxS w ⟨nodes, faulty, slot, gap, rho, dmin, dmax, margin, PA, pn, pcap, parts, QA, qn, qcap, ports, RA, rn, rcap, routes⟩ W) => hW.cells)
  simp only at d0 d1 d2 d3 d4 d5 d6 d7 d8 d9 d10 HP12 HLow HW HI HR HPA HIn
  simp only [CfgC.value] at HWk HW HI HR ⊢
  simp only [boxC, cfgCells] at HST
  go_enter Try.func6, Try.ntmps6
  go_wp2_with fail
  refine (HA.out _).mono ?_
  rintro e w1 ⟨rfl, hb1⟩
  have hd1 := HST.out.step hb1
  clear hb1 HA
  obtain ⟨k0, k1, k2, k3, k4, k5, k6, k7, k8, k9, k10⟩ := eleven hd1 d0 d1 d2 d3 d4 d5 d6 d7 d8 d9 d10
  have Hd1 := Lib.hid hd1
  clear hd1
  go_wp2_with fail
  refine (HWk.out _ Hd1.out).mono ?_
  rintro e w2 ⟨rfl, hb2⟩
  have hd2 := Hd1.out.step hb2
  clear hb2 Hd1 HWk k0 k1 k2 k3 k4 k5 k6 k7 k8 k9 k10
  obtain ⟨k0, k1, k2, k3, k4, k5, k6, k7, k8, k9, k10⟩ := eleven hd2 d0 d1 d2 d3 d4 d5 d6 d7 d8 d9 d10
  go_wp2_with fail
  clear k0 k1 k2 k3 k4 k5 k6 k7 k8 k9 k10
  refine (HI.out _ hd2).mono ?_
  rintro e w3 ⟨rfl, hb3⟩
  have hd3 := hd2.step hb3
  clear hb3 hd2 HI
  obtain ⟨k0, k1, k2, k3, k4, k5, k6, k7, k8, k9, k10⟩ := eleven hd3 d0 d1 d2 d3 d4 d5 d6 d7 d8 d9 d10
  go_wp2_with fail
  clear k0 k1 k2 k3 k4 k5 k6 k7 k8 k9 k10
  refine (HW.out _ hd3).mono ?_
  rintro e w5 ⟨v, rfl, hr, hb5⟩
  have hd5 := hd3.step hb5
  have hr5 : WRow w5 ((boxC w ⟨nodes, faulty, slot, gap, rho, dmin, dmax, margin, PA, pn, pcap, parts, QA, qn, qcap, ports, RA, rn, rcap, routes⟩).heap.size + 1) v L := own_low hr (by have h1 : (boxC w ⟨nodes, faulty, slot, gap, rho, dmin, dmax, margin, PA, pn, pcap, parts, QA, qn, qcap, ports, RA, rn, rcap, routes⟩).heap.size ≤ _ := hd3.size; omega)
  have HW0 : WLoop w ⟨nodes, faulty, slot, gap, rho, dmin, dmax, margin, PA, pn, pcap, parts, QA, qn, qcap, ports, RA, rn, rcap, routes⟩ v L 0 (.int .i64 0) w5 := ⟨Nat.zero_le _, rfl, hd5, hr5⟩
  have HR0 : Hid (FiR w ⟨nodes, faulty, slot, gap, rho, dmin, dmax, margin, PA, pn, pcap, parts, QA, qn, qcap, ports, RA, rn, rcap, routes⟩ v L idl (.int .i64 idl) (.int .i64 0) w5) := Lib.hid (⟨0, 0, HW0, by rw [Int.add_zero], rfl, by omega, by omega⟩)
  obtain ⟨vA, vc, hv, -⟩ := own_slice hr
  subst hv
  clear hr hr5 hb5 hd5 hd3 HW HW0
  go_wp2_with fail
  go_loopw [5, 20] (FiR w ⟨nodes, faulty, slot, gap, rho, dmin, dmax, margin, PA, pn, pcap, parts, QA, qn, qcap, ports, RA, rn, rcap, routes⟩ (.slice vA L.length vc) L idl) (fun _ i _ => (L.length + 1 - intOf i).toNat)
  case atStart => exact HR0.out
  case round =>
    clear HR0
    obtain ⟨k, s, hl, rfl, hs, hs0, hs1⟩ := hrel
    have hl' := hl
    obtain ⟨hk, rfl, hb, hr⟩ := hl'
    have hl12 := HL12.out
    have hbig := HBig.out
    by_cases hlt : k < L.length
    case pos =>
      obtain ⟨y, hy⟩ : ∃ y, L[k]? = some y := ⟨_, List.getElem?_eq_getElem hlt⟩
      obtain ⟨g, c, ev, c0, c1, c2⟩ := hr.at_ hy
      simp only [Value.slice.injEq, true_and] at ev
      obtain ⟨rfl, rfl⟩ := ev
      obtain ⟨⟨g1, g2, g3⟩, g4, p, hp, hn, hlen, hpn⟩ := HIn.out k y hy
      have q1 : decide ((k : Int) < (L.length : Int)) = true := decide_eq_true (by omega)
      have q0 : decide (k < L.length) = true := decide_eq_true hlt
      have q2 : decide (y.part < pn) = true := decide_eq_true hpn
      have q3 : decide ((y.part : Int) < (pn : Int)) = true := decide_eq_true (by omega)
      have e2 : IntKind.i64.wrap ((k : Int) + 1) = (k : Int) + 1 := IntWalk.i64_in _ (by omega)
      have e3 : IntKind.i64.wrap (y.close - y.open_) = p.length := by rw [← hlen]; exact IntWalk.i64_in _ (by omega)
      have e4 : IntKind.i64.wrap (idl + s + p.length) = idl + (s + p.length) := by rw [IntWalk.i64_in _ (by omega)]; omega
      have HR1 : Hid (∀ m, FiR w ⟨nodes, faulty, slot, gap, rho, dmin, dmax, margin, PA, pn, pcap, parts, QA, qn, qcap, ports, RA, rn, rcap, routes⟩ (.slice (some ⟨g, 0, none⟩) L.length vc) L idl (.int .i64 (idl + (s + p.length))) (.int .i64 ((k : Int) + 1)) ((wr.alloc (.cells #[.int .i64 (y.part : Nat), .int .i64 y.open_, .int .i64 y.close] 41)).drewN m)) := Lib.hid fun m => ⟨k + 1, s + p.length, hl.next hlt (below_drewNc ((Below.refl wr.heap.size wr).alloc (Nat.le_refl _) (.cells #[.int .i64 (y.part : Nat), .int .i64 y.open_, .int .i64 y.close] 41)) m), rfl, by rw [g4, ← hs, hlen], by omega, by rw [Int.natCast_add, Int.add_mul]; omega⟩
      have hx := heap_alloc_new wr (.cells #[.int .i64 (y.part : Nat), .int .i64 y.open_, .int .i64 y.close] 41 (0, 0))
      have hbx : BoxS w ⟨nodes, faulty, slot, gap, rho, dmin, dmax, margin, PA, pn, pcap, parts, QA, qn, qcap, ports, RA, rn, rcap, routes⟩ (wr.alloc (.cells #[.int .i64 (y.part : Nat), .int .i64 y.open_, .int .i64 y.close] 41)) := hb.alloc _
      obtain ⟨bp, op, ep, hbp, u0, u1, u2, u3, u4, u5, u6, u7, u8⟩ := HPA.out _ hbx y.part p hp
      rw [hn] at u0
      obtain ⟨k0, k1, k2, k3, k4, k5, k6, k7, k8, k9, k10⟩ := eleven hbx d0 d1 d2 d3 d4 d5 d6 d7 d8 d9 d10
      subst ep
      clear hl hr hb HIn HOut HLow hy g4 hs HPA hp hn hlen
      go_upto_region 9 with (fail)
      clear c0 c1 c2
      generalize (wr.alloc (.cells #[.int .i64 (y.part : Nat), .int .i64 y.open_, .int .i64 y.close] 41)) = wb at *
      generalize wr.heap.size = N at *
      have b0 := cell_at hx 0 rfl
      have b1 := cell_at hx 1 rfl
      have b2 := cell_at hx 2 rfl
      go_wp2_with fail
      go_quiet (fail)
      go_wp2_with fail
      go_roundw
      case rel => exact HR1.out _
      case measure => simp [intOf]; omega
    have hkn : k = L.length := by omega
    subst hkn
    have q1 : decide ((L.length : Int) < (L.length : Int)) = false := decide_eq_false (by omega)
    rw [List.take_length] at hs
    have HE : Hid (idl + s = rd) := Lib.hid (by rw [hs]; exact HOut.out)
    have HB := Lib.hid hb
    clear hl hr hb HIn HOut hs HPA
    obtain ⟨k0, k1, k2, k3, k4, k5, k6, k7, k8, k9, k10⟩ := eleven HB.out d0 d1 d2 d3 d4 d5 d6 d7 d8 d9 d10
    go_wp2_with fail
    refine (HR.out _ HB.out).mono ?_
    rintro e w8 ⟨rfl, hb8⟩
    have HF := Lib.hid (HLow.out _ (HB.out.step hb8))
    have HE1 := HE.out
    subst HE1
    clear hb8 HB HR k0 k1 k2 k3 k4 k5 k6 k7 k8 k9 k10 HE HLow
    go_wp2_with fail
    go_ret
    exact ⟨rfl, HF.out⟩
end Go.Proofs.Ytfgpfmhjnccccaa
