/- Contract of sound's Reach: the walk. Conditions: the tables are allowed. -/
import Derived.Test.YtpfhkcikjenjiaaSndW
import Derived.Deep.OwnRows
namespace Go.Proofs.Ytpfhkcikjenjiaa
open Go.RowKit
set_option maxRecDepth 100000

theorem bare_rep (n : Nat) : RchP.bare (List.replicate n false) = n := by
  induction n with
  | zero => rfl
  | succ n ih => unfold RchP.bare at *; rw [List.replicate_succ, List.countP_cons, ih]; rfl
theorem edges_in {c : TableP.Cfg} (h : SndP.Allowed c) : ∀ e ∈ RchP.edges c, e.1 < c.parts.length ∧ e.2 < c.parts.length := fun e he => by
  unfold RchP.edges at he
  obtain ⟨r, hr, rfl⟩ := List.mem_map.1 he
  obtain ⟨s, d, -, pa, pb, -, -, a, b, -, -, h1, h2, h3⟩ := ends_of h hr
  rw [h3]; exact ⟨h1, h2⟩

set_option maxHeartbeats 4000000 in
/-- Out of range: nothing is reached. -/
theorem reach_out (x : CfgC) (part : Int) (w : World) (h : CfgIn w x) (ha : SndP.Allowed x.plain) (hp : ¬ (0 ≤ part ∧ part < x.pn)) :
    Calls Try.prog 27 #[x.value, .int .i64 part] w (ReachPost x.pn (fun bl => bl = List.replicate x.pn false) w) := by
  have hp12 : x.pn ≤ 12 := by have h1 : x.parts.length ≤ 12 := ha.parts; have := h.plen; omega
  have hst := BoxS.start w x
  have HF : Hid (ReachPost x.pn (fun bl => bl = List.replicate x.pn false) w (.returned (.slice (some ⟨(boxC w x).heap.size, 0, none⟩) x.pn x.pn)) ((boxC w x).alloc (.cells (madeCells #[.bool false] x.pn) 4))) := Lib.hid (by
    refine ⟨_, _, rfl, by simp, rfl, ?_, (hst.alloc _).below⟩
    have h1 := World.ownsRow_lit (e := 4) (size := 1) (base := w.heap.size + 1) (boxC w x) (madeCells #[.bool false] x.pn) x.pn (by rw [boxC_size]; omega) (by unfold maxLen; omega) (by have := congrArg List.length (toList_madeCells_one (.bool false) x.pn); simpa using this)
    rw [toList_madeCells_one] at h1
    simpa [bitV] using h1)
  clear h ha
  obtain ⟨nodes, faulty, slot, gap, rho, dmin, dmax, margin, PA, pn, pcap, parts, QA, qn, qcap, ports, RA, rn, rcap, routes⟩ := x
  have d0 := fun W (hW : BoxS w ⟨nodes, faulty, slot, gap, rho, dmin, dmax, margin, PA, pn, pcap, parts, QA, qn, qcap, ports, RA, rn, rcap, routes⟩ W) => hW.cells.c0
  have d1 := fun W (hW : BoxS w ⟨nodes, faulty, slot, gap, rho, dmin, dmax, margin, PA, pn, pcap, parts, QA, qn, qcap, ports, RA, rn, rcap, routes⟩ W) => hW.cells.c1
  have d2 := fun W (hW : BoxS w ⟨nodes, faulty, slot, gap, rho, dmin, dmax, margin, PA, pn, pcap, parts, QA, qn, qcap, ports, RA, rn, rcap, routes⟩ W) => hW.cells.c2
  have d3 := fun W (hW : BoxS w ⟨nodes, faulty, slot, gap, rho, dmin, dmax, margin, PA, pn, pcap, parts, QA, qn, qcap, ports, RA, rn, rcap, routes⟩ W) => hW.cells.c3
  have d4 := fun W (hW : BoxS w ⟨nodes, faulty, slot, gap, rho, dmin, dmax, margin, PA, pn, pcap, parts, QA, qn, qcap, ports, RA, rn, rcap, routes⟩ W) => hW.cells.c4
  have d5 := fun W (hW : BoxS w ⟨nodes, faulty, slot, gap, rho, dmin, dmax, margin, PA, pn, pcap, parts, QA, qn, qcap, ports, RA, rn, rcap, routes⟩ W) => hW.cells.c5
  have d6 := fun W (hW : BoxS w ⟨nodes, faulty, slot, gap, rho, dmin, dmax, margin, PA, pn, pcap, parts, QA, qn, qcap, ports, RA, rn, rcap, routes⟩ W) => hW.cells.c6
  have d7 := fun W (hW : BoxS w ⟨nodes, faulty, slot, gap, rho, dmin, dmax, margin, PA, pn, pcap, parts, QA, qn, qcap, ports, RA, rn, rcap, routes⟩ W) => hW.cells.c7
  have d8 := fun W (hW : BoxS w ⟨nodes, faulty, slot, gap, rho, dmin, dmax, margin, PA, pn, pcap, parts, QA, qn, qcap, ports, RA, rn, rcap, routes⟩ W) => hW.cells.c8
  have d9 := fun W (hW : BoxS w ⟨nodes, faulty, slot, gap, rho, dmin, dmax, margin, PA, pn, pcap, parts, QA, qn, qcap, ports, RA, rn, rcap, routes⟩ W) => hW.cells.c9
  have d10 := fun W (hW : BoxS w ⟨nodes, faulty, slot, gap, rho, dmin, dmax, margin, PA, pn, pcap, parts, QA, qn, qcap, ports, RA, rn, rcap, routes⟩ W) => hW.cells.c10
  have k0 := d0 _ hst
  have k1 := d1 _ hst
  have k2 := d2 _ hst
  have k3 := d3 _ hst
  have k4 := d4 _ hst
  have k5 := d5 _ hst
  have k6 := d6 _ hst
  have k7 := d7 _ hst
  have k8 := d8 _ hst
  have k9 := d9 _ hst
  have k10 := d10 _ hst
  simp only at d0 d1 d2 d3 d4 d5 d6 d7 d8 d9 d10 k0 k1 k2 k3 k4 k5 k6 k7 k8 k9 k10 hp hp12
  simp only [boxC, cfgCells] at k0 k1 k2 k3 k4 k5 k6 k7 k8 k9 k10 HF
  rw [show (w.alloc (.cells #[.int .i64 nodes, .int .i64 faulty, .int .i64 slot, .int .i64 gap, .int .i64 rho, .int .i64 dmin, .int .i64 dmax, .int .i64 margin, .slice PA pn pcap, .slice QA qn qcap, .slice RA rn rcap] 26)).heap.size = w.heap.size + 1 from Array.size_push _] at HF
  simp only [CfgC.value]
  have hmk := fun W => run_make_row' (P := Try.prog) 38 4 (.bool false) 1 Try.underlying38 infoB1 rfl .i64 .i64 pn (by omega) (by omega) W
  clear hst d0 d1 d2 d3 d4 d5 d6 d7 d8 d9 d10
  by_cases h1 : part < 0
  case pos =>
    have z1 : decide (part < 0) = true := decide_eq_true h1
    clear h1
    go_enter Try.func27, Try.ntmps27
    go_wp2_with fail
    go_ret
    exact HF.out
  have z1 : decide (part < 0) = false := decide_eq_false h1
  have z2 : decide ((pn : Int) ≤ part) = true := decide_eq_true (by omega)
  clear h1
  go_enter Try.func27, Try.ntmps27
  go_wp2_with fail
  go_ret
  exact HF.out

set_option maxHeartbeats 4000000 in
theorem reach_in (x : CfgC) (part : Nat) (w : World) (h : CfgIn w x) (ha : SndP.Allowed x.plain) (hp : part < x.pn) :
    Calls Try.prog 27 #[x.value, .int .i64 (part : Nat)] w (ReachPost x.pn (RchP.Says (RchP.edges x.plain) x.pn part) w) := by
  have hpl := h.plen
  have hp12 : x.pn ≤ 12 := by have h1 : x.parts.length ≤ 12 := ha.parts; omega
  have hE := edges_in ha
  simp only [CfgC.plain] at hE
  rw [hpl] at hE
  have HN := Lib.hid (fun W (hW : BoxS w x W) => nbr_any x W (h.below hW.below) ha)
  have hEl : (RchP.edges x.plain).length ≤ 24 := by unfold RchP.edges; rw [List.length_map]; exact ha.routes
  have HEd := Lib.hid hE
  clear hE
  change Hid (∀ e ∈ RchP.edges x.plain, e.1 < x.pn ∧ e.2 < x.pn) at HEd
  generalize RchP.edges x.plain = E at *
  have hst := BoxS.start w x
  have HS1 : Hid (SeenS w x (boxC w x).heap.size x.pn (List.replicate x.pn false) ((boxC w x).alloc (.cells (madeCells #[.bool false] x.pn) 4))) := Lib.hid (by
    refine ⟨hst.alloc _, ?_⟩
    have h1 := World.ownsRow_lit (e := 4) (size := 1) (base := (boxC w x).heap.size) (boxC w x) (madeCells #[.bool false] x.pn) x.pn (Nat.le_refl _) (by unfold maxLen; omega) (by have := congrArg List.length (toList_madeCells_one (.bool false) x.pn); simpa using this)
    rw [toList_madeCells_one] at h1
    simpa [bitV] using h1)
  have HFin : Hid (∀ v wN W bl, RchS w x wN (boxC w x).heap.size v [] bl W → RchP.Wave E part bl [] (fun _ => False) → bl.length = x.pn → ReachPost x.pn (RchP.Says E x.pn part) w (.returned (.slice (some ⟨w.heap.size + 1, 0, none⟩) x.pn x.pn)) W) := Lib.hid fun v wN W bl h1 h2 h3 => by
    have h4 := h1.seen.2
    rw [boxC_size] at h4
    exact ⟨_, bl, rfl, h3, h2.says h3, h4, h1.seen.1.below⟩
  clear h ha hpl
  obtain ⟨nodes, faulty, slot, gap, rho, dmin, dmax, margin, PA, pn, pcap, parts, QA, qn, qcap, ports, RA, rn, rcap, routes⟩ := x
  have d0 := fun W (hW : BoxS w ⟨nodes, faulty, slot, gap, rho, dmin, dmax, margin, PA, pn, pcap, parts, QA, qn, qcap, ports, RA, rn, rcap, routes⟩ W) => hW.cells.c0
  have d1 := fun W (hW : BoxS w ⟨nodes, faulty, slot, gap, rho, dmin, dmax, margin, PA, pn, pcap, parts, QA, qn, qcap, ports, RA, rn, rcap, routes⟩ W) => hW.cells.c1
  have d2 := fun W (hW : BoxS w ⟨nodes, faulty, slot, gap, rho, dmin, dmax, margin, PA, pn, pcap, parts, QA, qn, qcap, ports, RA, rn, rcap, routes⟩ W) => hW.cells.c2
  have d3 := fun W (hW : BoxS w ⟨nodes, faulty, slot, gap, rho, dmin, dmax, margin, PA, pn, pcap, parts, QA, qn, qcap, ports, RA, rn, rcap, routes⟩ W) => hW.cells.c3
  have d4 := fun W (hW : BoxS w ⟨nodes, faulty, slot, gap, rho, dmin, dmax, margin, PA, pn, pcap, parts, QA, qn, qcap, ports, RA, rn, rcap, routes⟩ W) => hW.cells.c4
  have d5 := fun W (hW : BoxS w ⟨nodes, faulty, slot, gap, rho, dmin, dmax, margin, PA, pn, pcap, parts, QA, qn, qcap, ports, RA, rn, rcap, routes⟩ W) => hW.cells.c5
  have d6 := fun W (hW : BoxS w ⟨nodes, faulty, slot, gap, rho, dmin, dmax, margin, PA, pn, pcap, parts, QA, qn, qcap, ports, RA, rn, rcap, routes⟩ W) => hW.cells.c6
  have d7 := fun W (hW : BoxS w ⟨nodes, faulty, slot, gap, rho, dmin, dmax, margin, PA, pn, pcap, parts, QA, qn, qcap, ports, RA, rn, rcap, routes⟩ W) => hW.cells.c7
  have d8 := fun W (hW : BoxS w ⟨nodes, faulty, slot, gap, rho, dmin, dmax, margin, PA, pn, pcap, parts, QA, qn, qcap, ports, RA, rn, rcap, routes⟩ W) => hW.cells.c8
  have d9 := fun W (hW : BoxS w ⟨nodes, faulty, slot, gap, rho, dmin, dmax, margin, PA, pn, pcap, parts, QA, qn, qcap, ports, RA, rn, rcap, routes⟩ W) => hW.cells.c9
  have d10 := fun W (hW : BoxS w ⟨nodes, faulty, slot, gap, rho, dmin, dmax, margin, PA, pn, pcap, parts, QA, qn, qcap, ports, RA, rn, rcap, routes⟩ W) => hW.cells.c10
  have k0 := d0 _ hst
  have k1 := d1 _ hst
  have k2 := d2 _ hst
  have k3 := d3 _ hst
  have k4 := d4 _ hst
  have k5 := d5 _ hst
  have k6 := d6 _ hst
  have k7 := d7 _ hst
  have k8 := d8 _ hst
  have k9 := d9 _ hst
  have k10 := d10 _ hst
  have kb := fun o => hst.alloc o
  have kb0 := fun o => d0 _ (hst.alloc o)
  have kb1 := fun o => d1 _ (hst.alloc o)
  have kb2 := fun o => d2 _ (hst.alloc o)
  have kb3 := fun o => d3 _ (hst.alloc o)
  have kb4 := fun o => d4 _ (hst.alloc o)
  have kb5 := fun o => d5 _ (hst.alloc o)
  have kb6 := fun o => d6 _ (hst.alloc o)
  have kb7 := fun o => d7 _ (hst.alloc o)
  have kb8 := fun o => d8 _ (hst.alloc o)
  have kb9 := fun o => d9 _ (hst.alloc o)
  have kb10 := fun o => d10 _ (hst.alloc o)
  simp only at d0 d1 d2 d3 d4 d5 d6 d7 d8 d9 d10 k0 k1 k2 k3 k4 k5 k6 k7 k8 k9 k10 kb0 kb1 kb2 kb3 kb4 kb5 kb6 kb7 kb8 kb9 kb10 hp hp12 HEd
  simp only [boxC, cfgCells] at k0 k1 k2 k3 k4 k5 k6 k7 k8 k9 k10 kb0 kb1 kb2 kb3 kb4 kb5 kb6 kb7 kb8 kb9 kb10
  simp only [CfgC.value] at HN ⊢
  have hsz : (w.alloc (.cells #[.int .i64 nodes, .int .i64 faulty, .int .i64 slot, .int .i64 gap, .int .i64 rho, .int .i64 dmin, .int .i64 dmax, .int .i64 margin, .slice PA pn pcap, .slice QA qn qcap, .slice RA rn rcap] 26)).heap.size = w.heap.size + 1 := Array.size_push _
  simp only [boxC, cfgCells] at HS1 HFin
  rw [hsz] at HS1 HFin
  have hmk := fun W => run_make_row' (P := Try.prog) 38 4 (.bool false) 1 Try.underlying38 infoB1 rfl .i64 .i64 pn (by omega) (by omega) W
  have z1 : decide ((part : Int) < 0) = false := decide_eq_false (by omega)
  have z2 : decide ((pn : Int) ≤ (part : Int)) = false := decide_eq_false (by omega)
  have z2n : decide (pn ≤ part) = false := decide_eq_false (by omega)
  have z3 : (part : Int) < (pn : Int) := by omega
  clear hst kb
  go_enter Try.func27, Try.ntmps27
  go_wp2_with fail
  refine (HN.out _ HS1.out.1).mono ?_
  rintro e wN ⟨gN, rfl, hNb, hbN⟩
  clear k0 k1 k2 k3 k4 k5 k6 k7 k8 k9 k10 kb0 kb1 kb2 kb3 kb4 kb5 kb6 kb7 kb8 kb9 kb10 hmk HN
  have HSn := Lib.hid (HS1.out.step hbN)
  have HNb := Lib.hid hNb
  clear HS1 hNb hbN
  have hg := HSn.out.lt.2
  have hc0 := HSn.out.cell (k := part) (b := false) (by rw [List.getElem?_replicate, if_pos hp]) hp
  have hf0 := HSn.out.free part
  have H0 : Hid (RchS w ⟨nodes, faulty, slot, gap, rho, dmin, dmax, margin, PA, pn, pcap, parts, QA, qn, qcap, ports, RA, rn, rcap, routes⟩ wN (w.heap.size + 1) (.slice (some ⟨wN.heap.size, 0, none⟩) 1 1) [part] ((List.replicate pn false).set part true) ((wN.setCell ⟨w.heap.size + 1, part, none⟩ (.bool true)).alloc (.cells #[.int .i64 (part : Nat)] 3))) := Lib.hid (by
    have h1 := HSn.out.stored part true
    have hap : Apart (fun q => q = w.heap.size + 1) wN (wN.setCell ⟨w.heap.size + 1, part, none⟩ (.bool true)) := Apart.setCell (F := fun q => q = w.heap.size + 1) (Apart.refl _ wN) (p := ⟨w.heap.size + 1, part, none⟩) (.inl rfl) (.bool true)
    have hsz2 : (wN.setCell ⟨w.heap.size + 1, part, none⟩ (.bool true)).heap.size = wN.heap.size := by simp
    have h2 := QRow.start wN.heap.size part (wN.setCell ⟨w.heap.size + 1, part, none⟩ (.bool true)) (by rw [hsz2]; omega)
    rw [hsz2] at h2
    have hal : Below (wN.setCell ⟨w.heap.size + 1, part, none⟩ (.bool true)).heap.size (wN.setCell ⟨w.heap.size + 1, part, none⟩ (.bool true)) ((wN.setCell ⟨w.heap.size + 1, part, none⟩ (.bool true)).alloc (.cells #[.int .i64 (part : Nat)] 3)) := (Below.refl _ _).alloc (Nat.le_refl _) _
    exact ⟨hap.trans (Apart.of_below' (F := fun q => q = w.heap.size + 1) hal) (fun _ e => .inl e), h1.step hal, h2⟩)
  have HW0 : Hid (OutW w ⟨nodes, faulty, slot, gap, rho, dmin, dmax, margin, PA, pn, pcap, parts, QA, qn, qcap, ports, RA, rn, rcap, routes⟩ wN (w.heap.size + 1) E part (2 * pn) (.slice (some ⟨wN.heap.size, 0, none⟩) 1 1) ((wN.setCell ⟨w.heap.size + 1, part, none⟩ (.bool true)).alloc (.cells #[.int .i64 (part : Nat)] 3))) := Lib.hid
    ⟨_, _, H0.out, RchP.Wave.begin hp, by
      have h1 := RchP.bare_set (bl := List.replicate pn false) (k := part) (by rw [List.getElem?_replicate, if_pos hp])
      rw [bare_rep] at h1
      simp only [List.length_cons, List.length_nil]
      omega, by simp, by
      have h1 := RchP.bare_set (bl := List.replicate pn false) (k := part) (by rw [List.getElem?_replicate, if_pos hp])
      rw [bare_rep] at h1
      simp only [List.length_cons, List.length_nil]
      omega⟩
  clear H0
  go_wp2_with fail
  go_loopg [7] (2 * pn) (fun G v wr => OutW w ⟨nodes, faulty, slot, gap, rho, dmin, dmax, margin, PA, pn, pcap, parts, QA, qn, qcap, ports, RA, rn, rcap, routes⟩ wN (w.heap.size + 1) E part G v wr)
  case atStart => exact HW0.out
  case round =>
    clear HW0 hc0 hf0
    obtain ⟨bl, l, hS, hWv, hG, hbl, hG2⟩ := hrel
    have HS := Lib.hid hS
    have HWv := Lib.hid hWv
    clear hS hWv
    simp only at hbl hG2
    cases l with
    | nil =>
      obtain ⟨A, cap, hv⟩ := HS.out.q.nil
      have HF := Lib.hid (HFin.out _ _ _ _ HS.out HWv.out hbl)
      subst hv
      clear HFin HS HWv
      go_wp2_with fail
      go_ret
      exact HF.out
    | cons f l =>
      obtain ⟨b, off, cap, hv, hcap, hcf, hq⟩ := HS.out.q.head
      have hfm := HWv.out.waits f (by simp)
      have hfn : f < pn := by have := (List.getElem?_eq_some_iff.1 hfm).1; omega
      obtain ⟨Au, cu, kcN, -⟩ := HNb.out.cell hfn
      obtain ⟨kc, -⟩ := HNb.out.far HSn.out.2 HS.out.ap hfn kcN
      have HkcN := Lib.hid kcN
      have hlen := RchP.nbr_length E f
      have hsl := fun W => run_slice_from (P := Try.prog) W 41 3 Try.underlying41 (fun w => by kernel_rfl) b off (l.length + 1) cap (1 : Int) 1 rfl (by omega)
      simp only [Nat.add_sub_cancel] at hsl
      simp only [List.length_cons] at hG hG2
      have hll : l.length ≤ 24 := by omega
      generalize hvt : (if cap = 1 then (⟨b, off, none⟩ : Addr) else ⟨b, off + 1, none⟩) = at1 at *
      have HI : Hid (InW w ⟨nodes, faulty, slot, gap, rho, dmin, dmax, margin, PA, pn, pcap, parts, QA, qn, qcap, ports, RA, rn, rcap, routes⟩ wN (w.heap.size + 1) E part f (2 * RchP.bare bl + l.length) (.slice (some at1) l.length (cap - 1)) (.int .i64 0) wr) := Lib.hid
        ⟨0, bl, l, Nat.zero_le _, rfl, HS.out.swap hq, HWv.out.pop, hfm, by simp, Nat.le_refl _, hbl⟩
      have hfz : (f : Int) < (pn : Int) := by omega
      have hl0 : decide ((0 : Int) < (l.length : Int) + 1) = true := decide_eq_true (by omega)
      subst hv
      clear HS HWv hq kcN hvt
      try simp only [List.length_cons]
      go_wp2_with fail
      clear hsl kc hcf
      go_loopw [7, 44] (InW w ⟨nodes, faulty, slot, gap, rho, dmin, dmax, margin, PA, pn, pcap, parts, QA, qn, qcap, ports, RA, rn, rcap, routes⟩ wN (w.heap.size + 1) E part f (2 * RchP.bare bl + l.length)) (fun _ j _ => ((RchP.nbr E f).length + 1 - intOf j).toNat)
      case atStart => exact HI.out
      case round =>
        clear HI
        obtain ⟨m, bl2, l2, hm, rfl, hS2, hW2, hf2, hdn, hG3, hbl2⟩ := hrel
        obtain ⟨b2, off2, cap2, hv2⟩ := hS2.q.slice
        have HS2 := Lib.hid hS2
        have HW2 := Lib.hid hW2
        have Hdn := Lib.hid hdn
        clear hS2 hW2 hdn
        simp only at hbl2
        by_cases hml : m < (RchP.nbr E f).length
        case pos =>
          obtain ⟨c, hc⟩ : ∃ y, (RchP.nbr E f)[m]? = some y := ⟨_, List.getElem?_eq_getElem hml⟩
          have hmem := RchP.mem_nbr.1 (List.mem_of_getElem? hc)
          have hcn := (HEd.out _ hmem).2
          simp only at hcn
          obtain ⟨-, hou⟩ := HNb.out.far HSn.out.2 HS2.out.ap hfn HkcN.out
          obtain ⟨bu, hAu, cm⟩ := ord_cell hou hc hml
          have htk : (RchP.nbr E f).take (m + 1) = (RchP.nbr E f).take m ++ [c] := by rw [List.take_add_one, hc]; rfl
          have hcz : (c : Int) < (pn : Int) := by omega
          obtain ⟨y, hy⟩ : ∃ y, bl2[c]? = some y := ⟨_, List.getElem?_eq_getElem (by omega)⟩
          have kb := HS2.out.seen.cell hy hcn
          have hl2 : l2.length ≤ 1000 := by
            have hb0 : RchP.bare bl ≤ bl.length := List.countP_le_length
            omega
          cases y with
          | true =>
            have HR : Hid (InW w ⟨nodes, faulty, slot, gap, rho, dmin, dmax, margin, PA, pn, pcap, parts, QA, qn, qcap, ports, RA, rn, rcap, routes⟩ wN (w.heap.size + 1) E part f (2 * RchP.bare bl + l.length) (.slice (some ⟨b2, off2, none⟩) l2.length cap2) (.int .i64 ((m : Int) + 1)) wr) := Lib.hid
              ⟨m + 1, bl2, l2, by omega, by go_num, by rw [← hv2]; exact HS2.out, HW2.out, hf2, fun d hd => by
                rw [htk] at hd
                rcases List.mem_append.1 hd with hd | hd
                · exact Hdn.out d hd
                · rw [List.mem_singleton.1 hd]; exact hy, hG3, hbl2⟩
            subst hv2 hAu
            clear HS2 HW2 Hdn hou htk hc hmem hy
            go_wp2_with fail
            go_roundw
            case rel => exact HR.out
            case measure => simp [intOf]; omega
          | false =>
            have kf := HS2.out.seen.free c
            have hM := HS2.out.mark hg c
            have hMs := Lib.hid (hM.step ((Below.refl (wr.setCell ⟨w.heap.size + 1, c, none⟩ (.bool true)).heap.size _).alloc (Nat.le_refl _) (.cells #[.int .i64 (c : Nat)] 3)))
            have hsz2 : (wr.setCell ⟨w.heap.size + 1, c, none⟩ (.bool true)).heap.size = wr.heap.size := by simp
            have hnw := heap_alloc_new (wr.setCell ⟨w.heap.size + 1, c, none⟩ (.bool true)) (.cells #[.int .i64 (c : Nat)] 3 (0, 0))
            rw [hsz2] at hnw
            have Hnw := Lib.hid (cell_at hnw 0 rfl)
            have HwN : Hid (wN.heap.size ≤ ((wr.setCell ⟨w.heap.size + 1, c, none⟩ (.bool true)).alloc (.cells #[.int .i64 (c : Nat)] 3)).heap.size) := Lib.hid (by have := hMs.out.ap.size; exact this)
            have HAp : Hid (∀ v' w', QRow wN.heap.size v' (l2 ++ [c]) w' → Apart (fun q => wN.heap.size ≤ q) ((wr.setCell ⟨w.heap.size + 1, c, none⟩ (.bool true)).alloc (.cells #[.int .i64 (c : Nat)] 3)) w' → InW w ⟨nodes, faulty, slot, gap, rho, dmin, dmax, margin, PA, pn, pcap, parts, QA, qn, qcap, ports, RA, rn, rcap, routes⟩ wN (w.heap.size + 1) E part f (2 * RchP.bare bl + l.length) v' (.int .i64 ((m : Int) + 1)) w') := Lib.hid fun v' w' h1 h2 => by
              have hb := RchP.bare_set hy
              exact ⟨m + 1, bl2.set c true, l2 ++ [c], by omega, by go_num, hMs.out.more hg h1 h2, HW2.out.push hf2 hmem (by omega), (RchP.get_set (by omega)).2 (.inr hf2), fun d hd => by
                rw [htk] at hd
                rcases List.mem_append.1 hd with hd | hd
                · exact (RchP.get_set (by omega)).2 (.inr (Hdn.out d hd))
                · exact (RchP.get_set (by omega)).2 (.inl (List.mem_singleton.1 hd)), by rw [List.length_append, List.length_singleton]; omega, by rw [List.length_set]; exact hbl2⟩
            have HQ := Lib.hid hMs.out.q
            subst hv2 hAu
            clear HS2 HW2 Hdn hou htk hc hmem hy hM hMs hnw hsz2
            go_wp2_with (first
            | (at_builtin
               refine wpList_append_q rfl (.tmp 56) (.tmp 58) rfl wN.heap.size _ l2 rfl HQ.out wr.heap.size 1 c rfl Hnw.out hl2 HwN.out ?_
               intro v1 w1 hq1 ha1
               have HR := Lib.hid (HAp.out v1 w1 hq1 ha1)
               clear hq1 ha1)
            | fail)
            go_roundw
            case rel => exact HR.out
            case measure => simp [intOf]; omega
        have hmL : m = (RchP.nbr E f).length := by omega
        have HR : Hid (OutW w ⟨nodes, faulty, slot, gap, rho, dmin, dmax, margin, PA, pn, pcap, parts, QA, qn, qcap, ports, RA, rn, rcap, routes⟩ wN (w.heap.size + 1) E part (2 * RchP.bare bl + l.length) (.slice (some ⟨b2, off2, none⟩) l2.length cap2) wr) := Lib.hid
          ⟨bl2, l2, by rw [← hv2]; exact HS2.out, HW2.out.next (fun d hd => Hdn.out d (by rw [hmL, List.take_length]; exact hd)), hG3, hbl2, by simp only; omega⟩
        subst hv2
        clear HS2 HW2 Hdn
        subst hmL
        go_wp2_with fail
        go_roundg (2 * RchP.bare bl + l.length)
        case measure => omega
        case rel => exact HR.out
end Go.Proofs.Ytpfhkcikjenjiaa
