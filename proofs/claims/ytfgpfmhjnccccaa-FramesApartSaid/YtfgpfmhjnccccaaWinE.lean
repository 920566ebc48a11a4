/- FramesApart: the walk of the law at tables in memory. Conditions: where their lists lie. -/
import Derived.Test.YtfgpfmhjnccccaaWinC
import Derived.BigQuiet
namespace Go.Proofs.Ytfgpfmhjnccccaa
open Go.RowKit
set_option maxRecDepth 100000

/-- Where the window ahead closes. -/
def lastW (l : List WinP.Win) : Nat → Int
  | 0 => 0
  | k + 1 => match l[k]? with | some y => y.close | none => 0
def FaR (w : World) (x : CfgC) (v : Value) (l : List WinP.Win) (n i : Value) (W : World) : Prop := ∃ k, WLoop w x v l k i W ∧ n = .int .i64 (lastW l k)
theorem modW (a : Int) (M : Nat) (hM : 0 < M) : ∃ t : Nat, t < M ∧ (IntKind.u64.wrap a).tmod (M : Int) = (t : Int) := by
  rw [IntKind.wrap_u64]
  have h0 : 0 ≤ a % 18446744073709551616 := by omega
  have h1 := Int.emod_nonneg (a % 18446744073709551616) (show (M : Int) ≠ 0 by omega)
  have h2 := Int.emod_lt_of_pos (a % 18446744073709551616) (show (0 : Int) < M by omega)
  refine ⟨((a % 18446744073709551616).tmod (M : Int)).toNat, ?_, ?_⟩ <;> rw [Int.tmod_eq_emod_of_nonneg h0] <;> omega
def WB (w : World) (x : CfgC) (N : Nat) (y : WinP.Win) (W : World) : Prop := BoxS w x W ∧ W.heap[N]? = some (.cells #[.int .i64 (y.part : Nat), .int .i64 y.open_, .int .i64 y.close] 41 (0, 0))
theorem WB.step {w : World} {x : CfgC} {N : Nat} {y : WinP.Win} {W W' : World} (h : WB w x N y W) (hb : Below W.heap.size W W') : WB w x N y W' := ⟨h.1.step hb, (hb.block _ (lt_of_block h.2)).trans h.2⟩
set_option maxHeartbeats 8000000 in
theorem fapart_law (x : CfgC) (node at_ : Int) (w : World) (h : CfgIn w x) : Calls Try.prog 4 #[x.value, .int .i64 node, .int .i64 at_] w (TruePost w) := by
  have HA := Lib.hid (fun W => awake17_any W)
  have HWk := Lib.hid (fun W (hW : BoxS w x W) => works_any x W (h.below hW.below))
  have HST := Lib.hid (BoxS.start w x)
  obtain ⟨L, hL⟩ : ∃ L, worksB x = L := ⟨_, rfl⟩
  rw [hL] at HWk
  cases L with
  | false =>
    clear h hL
    obtain ⟨nodes, faulty, slot, gap, rho, dmin, dmax, margin, PA, pn, pcap, parts, QA, qn, qcap, ports, RA, rn, rcap, routes⟩ := x
    obtain ⟨d0, d1, d2, d3, d4, d5, d6, d7, d8, d9, d10⟩ := cfgFacts (fun W (hW : BoxS w ⟨nodes, faulty, slot, gap, rho, dmin, dmax, margin, PA, pn, pcap, parts, QA, qn, qcap, ports, RA, rn, rcap, routes⟩ W) => hW.cells)
    simp only at d0 d1 d2 d3 d4 d5 d6 d7 d8 d9 d10
    simp only [CfgC.value] at HWk ⊢
    simp only [boxC, cfgCells] at HST
    go_enter Try.func4, Try.ntmps4
    go_wp2_with fail
    refine (HA.out _).mono ?_
    rintro e w1 ⟨rfl, hb1⟩
    have hd1 := HST.out.step hb1
    clear hb1 HA
    obtain ⟨k0, k1, k2, k3, k4, k5, k6, k7, k8, k9, k10⟩ := eleven hd1 d0 d1 d2 d3 d4 d5 d6 d7 d8 d9 d10
    have Hd1 := Lib.hid hd1
    clear hd1
    go_wp2_with fail
    refine (HWk.out _ Hd1.out).mono ?_
    rintro e w2 ⟨rfl, hb2⟩
    have hd2 := Hd1.out.step hb2
    clear hb2 Hd1 HWk k0 k1 k2 k3 k4 k5 k6 k7 k8 k9 k10
    have HF := Lib.hid hd2.below
    clear hd2
    go_wp2_with fail
    go_ret
    exact ⟨rfl, HF.out⟩
  | true =>
  have hwk : SndP.Works x.plain := by
    unfold worksB at hL
    simp only [Bool.and_eq_true] at hL
    exact SndP.works (Option.isNone_iff_eq_none.1 hL.2)
  have hpl := h.plen
  have HP12 : Hid (x.pn ≤ 12) := Lib.hid (by have h1 : x.parts.length ≤ 12 := hwk.allowed.parts; omega)
  have HLow : Hid (∀ W, BoxS w x W → Below w.heap.size w W) := Lib.hid fun W hW => hW.below
  have HL12 : Hid ((WinP.winsT x.plain node).length ≤ 12) := Lib.hid (by have h1 : x.parts.length ≤ 12 := hwk.allowed.parts; have h2 := WinP.wins_length x.plain node; exact Nat.le_trans h2 h1)
  have HW := Lib.hid (fun W (hW : BoxS w x W) => windows_any x node W (h.below hW.below) hwk)
  have HI := Lib.hid (fun W (hW : BoxS w x W) => widle_any x node W (h.below hW.below) hwk)
  have HAt := Lib.hid (fun t (ht : -9223372036854775808 ≤ t ∧ t ≤ 9223372036854775807) W (hW : BoxS w x W) => wat_any x node t ht W (h.below hW.below) hwk)
  have HIn : Hid (∀ (k : Nat) (y : WinP.Win), (WinP.winsT x.plain node)[k]? = some y → (0 ≤ y.open_ ∧ y.open_ < y.close ∧ y.close ≤ 1000000000) ∧ lastW (WinP.winsT x.plain node) k ≤ y.open_ ∧ y.close ≤ x.nodes * x.slot ∧ (∀ t, y.open_ ≤ t → t < y.close → WinP.atT x.plain node t = (y.part : Int)) ∧ WinP.atT x.plain node y.close ≠ (y.part : Int) ∧ lastW (WinP.winsT x.plain node) (k + 1) = y.close) := Lib.hid fun k y hy => by
    have h1 := WinP.wins_fit hwk hy
    have hf := WinP.works_fit hwk
    refine ⟨⟨h1.1, h1.2.1, h1.2.2.1⟩, ?_, (WinP.wins_one hf hy).2.2, fun t ha hb => WinP.wins_at hf hy ha hb, WinP.wins_over hf hy, by simp only [lastW, hy]⟩
    match k, hy with
    | 0, hy => exact h1.1
    | k + 1, hy =>
      obtain ⟨z, hz⟩ : ∃ z, (WinP.winsT x.plain node)[k]? = some z := ⟨_, List.getElem?_eq_getElem (by have := (List.getElem?_eq_some_iff.1 hy).1; omega)⟩
      simp only [lastW, hz]
      exact WinP.wins_chain hf (Nat.lt_succ_self k) hz hy
  have HGap : Hid (x.gap ≤ WinP.idleT x.plain node) := Lib.hid (WinP.idle_gap hwk node).1
  have HMul : Hid (0 ≤ x.nodes * x.slot ∧ x.nodes * x.slot ≤ 1000000000) := Lib.hid (by
    have h1 := WinP.round_fit hwk
    have h3 := hwk.allowed.head
    unfold TableP.headOk TableP.up at h3
    simp only [CfgC.plain] at h3
    have h4 : 0 ≤ x.nodes * x.slot := Int.mul_nonneg (by omega) (by omega)
    unfold SndP.roundT at h1
    simp only [CfgC.plain] at h1
    omega)
  generalize WinP.winsT x.plain node = L at *
  generalize WinP.idleT x.plain node = idl at *
  generalize WinP.atT x.plain node = atF at *
  clear h hwk hpl hL
  obtain ⟨nodes, faulty, slot, gap, rho, dmin, dmax, margin, PA, pn, pcap, parts, QA, qn, qcap, ports, RA, rn, rcap, routes⟩ := x
  obtain ⟨d0, d1, d2, d3, d4, d5, d6, d7, d8, d9, d10⟩ := cfgFacts (fun W (hW : BoxS w ⟨nodes, faulty, slot, gap, rho, dmin, dmax, margin, PA, pn, pcap, parts, QA, qn, qcap, ports, RA, rn, rcap, routes⟩ W) => hW.cells)
  simp only at d0 d1 d2 d3 d4 d5 d6 d7 d8 d9 d10 HP12 HLow HW HI HAt HIn HGap HMul
  simp only [CfgC.value] at HWk HW HI HAt ⊢
  simp only [boxC, cfgCells] at HST
  go_enter Try.func4, Try.ntmps4
  go_wp2_with fail
  refine (HA.out _).mono ?_
  rintro e w1 ⟨rfl, hb1⟩
  have hd1 := HST.out.step hb1
  clear hb1 HA
  obtain ⟨k0, k1, k2, k3, k4, k5, k6, k7, k8, k9, k10⟩ := eleven hd1 d0 d1 d2 d3 d4 d5 d6 d7 d8 d9 d10
  have Hd1 := Lib.hid hd1
  clear hd1
  go_wp2_with fail
  refine (HWk.out _ Hd1.out).mono ?_
  rintro e w2 ⟨rfl, hb2⟩
  have hd2 := Hd1.out.step hb2
  clear hb2 Hd1 HWk k0 k1 k2 k3 k4 k5 k6 k7 k8 k9 k10
  obtain ⟨k0, k1, k2, k3, k4, k5, k6, k7, k8, k9, k10⟩ := eleven hd2 d0 d1 d2 d3 d4 d5 d6 d7 d8 d9 d10
  go_wp2_with fail
  clear k0 k1 k2 k3 k4 k5 k6 k7 k8 k9 k10
  refine (HW.out _ hd2).mono ?_
  rintro e w5 ⟨v, rfl, hr, hb5⟩
  have hd5 := hd2.step hb5
  have hr5 : WRow w5 ((boxC w ⟨nodes, faulty, slot, gap, rho, dmin, dmax, margin, PA, pn, pcap, parts, QA, qn, qcap, ports, RA, rn, rcap, routes⟩).heap.size + 1) v L := own_low hr (by have h1 : (boxC w ⟨nodes, faulty, slot, gap, rho, dmin, dmax, margin, PA, pn, pcap, parts, QA, qn, qcap, ports, RA, rn, rcap, routes⟩).heap.size ≤ _ := hd2.size; omega)
  have HW0 : WLoop w ⟨nodes, faulty, slot, gap, rho, dmin, dmax, margin, PA, pn, pcap, parts, QA, qn, qcap, ports, RA, rn, rcap, routes⟩ v L 0 (.int .i64 0) w5 := ⟨Nat.zero_le _, rfl, hd5, hr5⟩
  have HR0 : Hid (FaR w ⟨nodes, faulty, slot, gap, rho, dmin, dmax, margin, PA, pn, pcap, parts, QA, qn, qcap, ports, RA, rn, rcap, routes⟩ v L (.int .i64 0) (.int .i64 0) w5) := Lib.hid (⟨0, HW0, rfl⟩)
  obtain ⟨vA, vc, hv, -⟩ := own_slice hr
  subst hv
  clear hr hr5 hb5 hd5 hd2 HW HW0
  go_wp2_with fail
  go_loopw [7, 20] (FaR w ⟨nodes, faulty, slot, gap, rho, dmin, dmax, margin, PA, pn, pcap, parts, QA, qn, qcap, ports, RA, rn, rcap, routes⟩ (.slice vA L.length vc) L) (fun _ i _ => (L.length + 1 - intOf i).toNat)
  case atStart => exact HR0.out
  case round =>
    clear HR0
    obtain ⟨k, hl, rfl⟩ := hrel
    have hl' := hl
    obtain ⟨hk, rfl, hb, hr⟩ := hl'
    have hl12 := HL12.out
    by_cases hlt : k < L.length
    case pos =>
      obtain ⟨y, hy⟩ : ∃ y, L[k]? = some y := ⟨_, List.getElem?_eq_getElem hlt⟩
      obtain ⟨g, c, ev, c0, c1, c2⟩ := hr.at_ hy
      simp only [Value.slice.injEq, true_and] at ev
      obtain ⟨rfl, rfl⟩ := ev
      obtain ⟨⟨g1, g2, g3⟩, g4, g5, g6, g7, g8⟩ := HIn.out k y hy
      obtain ⟨m1, m2⟩ := HMul.out
      have q1 : decide ((k : Int) < (L.length : Int)) = true := decide_eq_true (by omega)
      have q0 : decide (k < L.length) = true := decide_eq_true hlt
      have q2 : decide (y.open_ < lastW L k) = false := decide_eq_false (by omega)
      have q3 : decide (y.close ≤ y.open_) = false := decide_eq_false (by omega)
      have q4 : decide (nodes * slot < y.close) = false := decide_eq_false (by omega)
      have e1 : IntKind.i64.wrap (nodes * slot) = nodes * slot := IntWalk.i64_in _ (by omega)
      have e2 : IntKind.i64.wrap ((k : Int) + 1) = (k : Int) + 1 := IntWalk.i64_in _ (by omega)
      obtain ⟨M, hM⟩ := Int.eq_ofNat_of_zero_le (show 0 ≤ y.close - y.open_ by omega)
      obtain ⟨r, hr1, e5⟩ := modW at_ M (by omega)
      have e3 : IntKind.i64.wrap (y.close - y.open_) = (M : Int) := by rw [hM]; exact IntWalk.i64_in _ (by omega)
      have e4 : IntKind.u64.wrap (M : Int) = (M : Int) := by rw [IntKind.wrap_u64]; omega
      have e6 : IntKind.i64.wrap (r : Int) = (r : Int) := IntWalk.i64_in _ (by omega)
      have e7 : IntKind.i64.wrap (y.open_ + (r : Int)) = y.open_ + (r : Int) := IntWalk.i64_in _ (by omega)
      have z2 : ((M : Int) == 0) = false := by rw [beq_eq_false_iff_ne]; omega
      have z3 : (M == 0) = false := by rw [beq_eq_false_iff_ne]; omega
      have hM0 : (M : Int) ≠ 0 := by omega
      have HA1 := Lib.hid (fun W (hW : BoxS w ⟨nodes, faulty, slot, gap, rho, dmin, dmax, margin, PA, pn, pcap, parts, QA, qn, qcap, ports, RA, rn, rcap, routes⟩ W) => HAt.out (y.open_ + (r : Int)) (by omega) W hW)
      rw [g6 (y.open_ + (r : Int)) (by omega) (by omega)] at HA1
      have HA2 := Lib.hid (fun W (hW : BoxS w ⟨nodes, faulty, slot, gap, rho, dmin, dmax, margin, PA, pn, pcap, parts, QA, qn, qcap, ports, RA, rn, rcap, routes⟩ W) => HAt.out y.close (by omega) W hW)
      have q5 : (atF y.close == (y.part : Int)) = false := beq_eq_false_iff_ne.2 g7
      have HR1 : Hid (∀ W', Below wr.heap.size wr W' → FaR w ⟨nodes, faulty, slot, gap, rho, dmin, dmax, margin, PA, pn, pcap, parts, QA, qn, qcap, ports, RA, rn, rcap, routes⟩ (.slice (some ⟨g, 0, none⟩) L.length vc) L (.int .i64 y.close) (.int .i64 ((k : Int) + 1)) W') := Lib.hid fun W' hW' => ⟨k + 1, hl.next hlt hW', by rw [g8]⟩
      have hx : WB w ⟨nodes, faulty, slot, gap, rho, dmin, dmax, margin, PA, pn, pcap, parts, QA, qn, qcap, ports, RA, rn, rcap, routes⟩ wr.heap.size y (wr.alloc (.cells #[.int .i64 (y.part : Nat), .int .i64 y.open_, .int .i64 y.close] 41)) := ⟨hb.alloc _, heap_alloc_new wr (.cells #[.int .i64 (y.part : Nat), .int .i64 y.open_, .int .i64 y.close] 41 (0, 0))⟩
      have HB0 := Lib.hid ((Below.refl wr.heap.size wr).alloc (Nat.le_refl _) (.cells #[.int .i64 (y.part : Nat), .int .i64 y.open_, .int .i64 y.close] 41))
      obtain ⟨k0, k1, k2, k3, k4, k5, k6, k7, k8, k9, k10⟩ := eleven hx.1 d0 d1 d2 d3 d4 d5 d6 d7 d8 d9 d10
      clear hl hr hb HIn HLow hy g4 g5 g6 g7 g8 HAt HMul
      generalize atF y.close = af at *
      go_upto_region 9 with (fail)
      clear c0 c1 c2
      generalize (wr.alloc (.cells #[.int .i64 (y.part : Nat), .int .i64 y.open_, .int .i64 y.close] 41)) = wb at *
      have b0 := cell_at hx.2 0 rfl
      have b1 := cell_at hx.2 1 rfl
      have b2 := cell_at hx.2 2 rfl
      have HX := Lib.hid hx
      clear hx
      go_wp2_with fail
      go_quiet (fail)
      clear k0 k1 k2 k3 k4 k5 k6 k7 k8 k9 k10 b0 b1 b2
      go_upto_region 12 with (fail)
      have hs0 := (HX.out.step (below_drewNc (Below.refl _ _) nq)).step (Below.refl _ _).drew
      have hl0 := (below_drewNc HB0.out nq).drew
      have HL0 := Lib.hid hl0
      clear hl0 HB0 HX
      have f0 := fun W (hW : WB w ⟨nodes, faulty, slot, gap, rho, dmin, dmax, margin, PA, pn, pcap, parts, QA, qn, qcap, ports, RA, rn, rcap, routes⟩ wr.heap.size y W) => d0 W hW.1
      have f1 := fun W (hW : WB w ⟨nodes, faulty, slot, gap, rho, dmin, dmax, margin, PA, pn, pcap, parts, QA, qn, qcap, ports, RA, rn, rcap, routes⟩ wr.heap.size y W) => d1 W hW.1
      have f2 := fun W (hW : WB w ⟨nodes, faulty, slot, gap, rho, dmin, dmax, margin, PA, pn, pcap, parts, QA, qn, qcap, ports, RA, rn, rcap, routes⟩ wr.heap.size y W) => d2 W hW.1
      have f3 := fun W (hW : WB w ⟨nodes, faulty, slot, gap, rho, dmin, dmax, margin, PA, pn, pcap, parts, QA, qn, qcap, ports, RA, rn, rcap, routes⟩ wr.heap.size y W) => d3 W hW.1
      have f4 := fun W (hW : WB w ⟨nodes, faulty, slot, gap, rho, dmin, dmax, margin, PA, pn, pcap, parts, QA, qn, qcap, ports, RA, rn, rcap, routes⟩ wr.heap.size y W) => d4 W hW.1
      have f5 := fun W (hW : WB w ⟨nodes, faulty, slot, gap, rho, dmin, dmax, margin, PA, pn, pcap, parts, QA, qn, qcap, ports, RA, rn, rcap, routes⟩ wr.heap.size y W) => d5 W hW.1
      have f6 := fun W (hW : WB w ⟨nodes, faulty, slot, gap, rho, dmin, dmax, margin, PA, pn, pcap, parts, QA, qn, qcap, ports, RA, rn, rcap, routes⟩ wr.heap.size y W) => d6 W hW.1
      have f7 := fun W (hW : WB w ⟨nodes, faulty, slot, gap, rho, dmin, dmax, margin, PA, pn, pcap, parts, QA, qn, qcap, ports, RA, rn, rcap, routes⟩ wr.heap.size y W) => d7 W hW.1
      have f8 := fun W (hW : WB w ⟨nodes, faulty, slot, gap, rho, dmin, dmax, margin, PA, pn, pcap, parts, QA, qn, qcap, ports, RA, rn, rcap, routes⟩ wr.heap.size y W) => d8 W hW.1
      have f9 := fun W (hW : WB w ⟨nodes, faulty, slot, gap, rho, dmin, dmax, margin, PA, pn, pcap, parts, QA, qn, qcap, ports, RA, rn, rcap, routes⟩ wr.heap.size y W) => d9 W hW.1
      have f10 := fun W (hW : WB w ⟨nodes, faulty, slot, gap, rho, dmin, dmax, margin, PA, pn, pcap, parts, QA, qn, qcap, ports, RA, rn, rcap, routes⟩ wr.heap.size y W) => d10 W hW.1
      have b0 := fun W (hW : WB w ⟨nodes, faulty, slot, gap, rho, dmin, dmax, margin, PA, pn, pcap, parts, QA, qn, qcap, ports, RA, rn, rcap, routes⟩ wr.heap.size y W) => cell_at hW.2 0 rfl
      have b1 := fun W (hW : WB w ⟨nodes, faulty, slot, gap, rho, dmin, dmax, margin, PA, pn, pcap, parts, QA, qn, qcap, ports, RA, rn, rcap, routes⟩ wr.heap.size y W) => cell_at hW.2 1 rfl
      have b2 := fun W (hW : WB w ⟨nodes, faulty, slot, gap, rho, dmin, dmax, margin, PA, pn, pcap, parts, QA, qn, qcap, ports, RA, rn, rcap, routes⟩ wr.heap.size y W) => cell_at hW.2 2 rfl
      clear d0 d1 d2 d3 d4 d5 d6 d7 d8 d9 d10
      refine wp_region_held_drew (S := fun W => WB w ⟨nodes, faulty, slot, gap, rho, dmin, dmax, margin, PA, pn, pcap, parts, QA, qn, qcap, ports, RA, rn, rcap, routes⟩ wr.heap.size y W) (by kernel_rfl) hs0 (fun _ => ?_)
      refine tkH 0 (by simp only [tkA]; rfl) (by kernel_rfl) (by exact fun _ _ _ h => h) (by rfl) (by intro W hW; go_simp <;> with_reducible rfl) hs0 ?_
      try simp only [Act.put, tkT, tk0, tkS]
      refine tkH 1 (by simp only [tkA, tkG]; rfl) (by kernel_rfl) (by exact fun _ _ _ h => h) (by rfl) (by intro W hW; go_simp <;> with_reducible rfl) hs0 ?_
      try simp only [Act.put, tkT, tk0, tkS]
      refine tkH 2 (by simp only [tkA, tkG]; rfl) (by kernel_rfl) (by exact fun _ _ _ h => h) (by rfl) (by intro W hW; go_simp <;> with_reducible rfl) hs0 ?_
      try simp only [Act.put, tkT, tk0, tkS]
      refine tkH 4 (by simp only [tkA, tkG]; rfl) (by kernel_rfl) (by exact fun _ _ _ h => h) (by rfl) (by intro W hW; go_simp <;> with_reducible rfl) hs0 ?_
      try simp only [Act.put, tkT, tk0, tkS]
      refine tkH 5 (by simp only [tkA, tkG]; rfl) (by kernel_rfl) (by exact fun _ _ _ h => h) (by rfl) (by intro W hW; go_simp <;> with_reducible rfl) hs0 ?_
      try simp only [Act.put, tkT, tk0, tkS]
      refine clH 3 (by kernel_rfl) (by simp only [tkA, tkG]; rfl) (fun K hK => ?_)
      go_simp
      refine (HA1.out _ hs0.1).mono ?_
      rintro e w6 ⟨rfl, hb6⟩
      have hs6 := hs0.step hb6
      have HL6 := Lib.hid (HL0.out.trans (hb6.mono HL0.out.size))
      clear hb6 HA1 HL0
      go_wp2_with fail
      refine hK.out _ _ hs6 (fun _ => ?_)
      clear hK K
      refine tkH 6 (by simp only [tkA, tkG]; rfl) (by kernel_rfl) (by exact fun _ _ _ h => h) (by rfl) (by intro W hW; go_simp <;> with_reducible rfl) hs6 ?_
      try simp only [Act.put, tkT, tk0, tkS]
      refine tkH 7 (by simp only [tkA, tkG]; rfl) (by kernel_rfl) (by exact fun _ _ _ h => h) (by rfl) (by intro W hW; go_simp <;> with_reducible rfl) hs6 ?_
      try simp only [Act.put, tkT, tk0, tkS]
      refine tkH 8 (by simp only [tkA, tkG]; rfl) (by kernel_rfl) (by exact fun _ _ _ h => h) (by rfl) (by intro W hW; go_simp <;> with_reducible rfl) hs6 ?_
      try simp only [Act.put, tkT, tk0, tkS]
      refine tkH 9 (by simp only [tkA, tkG]; rfl) (by kernel_rfl) (by exact fun _ _ _ h => h) (by rfl) (by intro W hW; go_simp <;> with_reducible rfl) hs6 ?_
      try simp only [Act.put, tkT, tk0, tkS]
      refine tkH 10 (by simp only [tkA, tkG]; rfl) (by kernel_rfl) (by exact fun _ _ _ h => h) (by rfl) (by intro W hW; go_simp <;> with_reducible rfl) hs6 ?_
      try simp only [Act.put, tkT, tk0, tkS]
      refine tkH 11 (by simp only [tkA, tkG]; rfl) (by kernel_rfl) (by exact fun _ _ _ h => h) (by rfl) (by intro W hW; go_simp <;> with_reducible rfl) hs6 ?_
      try simp only [Act.put, tkT, tk0, tkS]
      refine tkH 13 (by simp only [tkA, tkG]; rfl) (by kernel_rfl) (by exact fun _ _ _ h => h) (by rfl) (by intro W hW; go_simp <;> with_reducible rfl) hs6 ?_
      try simp only [Act.put, tkT, tk0, tkS]
      refine tkH 14 (by simp only [tkA, tkG]; rfl) (by kernel_rfl) (by exact fun _ _ _ h => h) (by rfl) (by intro W hW; go_simp <;> with_reducible rfl) hs6 ?_
      try simp only [Act.put, tkT, tk0, tkS]
      refine clH 12 (by kernel_rfl) (by simp only [tkA, tkG]; rfl) (fun K hK => ?_)
      go_simp
      refine (HA2.out _ hs6.1).mono ?_
      rintro e w7 ⟨rfl, hb7⟩
      have hs7 := hs6.step hb7
      have HL7 := Lib.hid (HL6.out.trans (hb7.mono HL6.out.size))
      clear hb7 HA2 HL6
      go_wp2_with fail
      refine hK.out _ _ hs7 (fun _ => ?_)
      clear hK K
      refine tkH 15 (by simp only [tkA, tkG]; rfl) (by kernel_rfl) (by exact fun _ _ _ h => h) (by rfl) (by intro W hW; go_simp <;> with_reducible rfl) hs7 ?_
      try simp only [Act.put, tkT, tk0, tkS]
      refine tkH 16 (by simp only [tkA, tkG]; rfl) (by kernel_rfl) (by exact fun _ _ _ h => h) (by rfl) (by intro W hW; go_simp <;> with_reducible rfl) hs7 ?_
      try simp only [Act.put, tkT, tk0, tkS]
      refine wpAnyH_done (by kernel_rfl) ?_ _
      have g2 := cell_at hs7.2 2 rfl
      clear hs0 hs6 hs7 f0 f1 f2 f3 f4 f5 f6 f7 f8 f9 f10 b0 b1 b2
      go_wp2_with fail
      go_roundw
      case rel => exact HR1.out _ HL7.out
      case measure => simp [intOf]; omega
    have hkn : k = L.length := by omega
    subst hkn
    have q1 : decide ((L.length : Int) < (L.length : Int)) = false := decide_eq_false (by omega)
    have q9 : decide (gap ≤ idl) = true := decide_eq_true HGap.out
    have hs0 := hb.drew
    clear hl hr hb HIn HAt HMul
    go_upto_region 16 with (fail)
    refine wp_region_held_drew (S := fun W => BoxS w ⟨nodes, faulty, slot, gap, rho, dmin, dmax, margin, PA, pn, pcap, parts, QA, qn, qcap, ports, RA, rn, rcap, routes⟩ W) (by kernel_rfl) hs0 (fun _ => ?_)
    refine tkH 0 (by simp only [tkA]; rfl) (by kernel_rfl) (by exact fun _ _ _ h => h) (by rfl) (by intro W hW; go_simp <;> with_reducible rfl) hs0 ?_
    try simp only [Act.put, tkT, tk0, tkS]
    refine tkH 1 (by simp only [tkA, tkG]; rfl) (by kernel_rfl) (by exact fun _ _ _ h => h) (by rfl) (by intro W hW; go_simp <;> with_reducible rfl) hs0 ?_
    try simp only [Act.put, tkT, tk0, tkS]
    refine tkH 3 (by simp only [tkA, tkG]; rfl) (by kernel_rfl) (by exact fun _ _ _ h => h) (by rfl) (by intro W hW; go_simp <;> with_reducible rfl) hs0 ?_
    try simp only [Act.put, tkT, tk0, tkS]
    refine tkH 4 (by simp only [tkA, tkG]; rfl) (by kernel_rfl) (by exact fun _ _ _ h => h) (by rfl) (by intro W hW; go_simp <;> with_reducible rfl) hs0 ?_
    try simp only [Act.put, tkT, tk0, tkS]
    refine clH 2 (by kernel_rfl) (by simp only [tkA, tkG]; rfl) (fun K hK => ?_)
    go_simp
    refine (HI.out _ hs0).mono ?_
    rintro e w6 ⟨rfl, hb6⟩
    have hs6 := hs0.step hb6
    have HF := Lib.hid (HLow.out _ hs6)
    clear hb6 HI HLow
    go_wp2_with fail
    refine hK.out _ _ hs6 (fun _ => ?_)
    clear hK K
    refine tkH 5 (by simp only [tkA, tkG]; rfl) (by kernel_rfl) (by exact fun _ _ _ h => h) (by rfl) (by intro W hW; go_simp <;> with_reducible rfl) hs6 ?_
    try simp only [Act.put, tkT, tk0, tkS]
    refine tkH 6 (by simp only [tkA, tkG]; rfl) (by kernel_rfl) (by exact fun _ _ _ h => h) (by rfl) (by intro W hW; go_simp <;> with_reducible rfl) hs6 ?_
    try simp only [Act.put, tkT, tk0, tkS]
    refine wpAnyH_done (by kernel_rfl) ?_ _
    clear hs0 hs6
    go_wp2_with fail
    go_ret
    exact ⟨rfl, HF.out⟩
end Go.Proofs.Ytfgpfmhjnccccaa
