/- Contracts of the document's At, Next, Idle (chapter 17). Conditions: where the tables' lists lie. -/
import Derived.Test.YtfgpfmhjnccccaaWinA
namespace Go.Proofs.Ytfgpfmhjnccccaa
open Go.RowKit
set_option maxRecDepth 100000

def RLoop (w : World) (x : CfgC) (k : Nat) (i : Value) (W : World) : Prop := k ≤ x.pn ∧ i = .int .i64 (k : Nat) ∧ BoxS w x W
def RAtR (w : World) (x : CfgC) (node t : Int) (i : Value) (W : World) : Prop := ∃ k, RLoop w x k i W ∧ ∀ (j : Nat) (q : TableP.Part), j < k → x.parts[j]? = some q → WinP.inB node t q ≠ true
theorem RLoop.next {w : World} {x : CfgC} {k : Nat} {i : Value} {W W' : World} (h : RLoop w x k i W) (hlt : k < x.pn) (hb : Below W.heap.size W W') : RLoop w x (k + 1) (.int .i64 ((k : Int) + 1)) W' := ⟨hlt, by go_num, h.2.2.step hb⟩

set_option maxHeartbeats 4000000 in
theorem refat_any (x : CfgC) (node t : Int) (ht : -9223372036854775808 ≤ t ∧ t ≤ 9223372036854775807) (w : World) (h : CfgIn w x) (hwk : SndP.Works x.plain) :
    Calls Try.prog 15 #[x.value, .int .i64 node, .int .i64 t] w (IntPost (WinP.atT x.plain node t) w) := by
  have hst := BoxS.start w x
  have hpl := h.plen
  have HP12 : Hid (x.pn ≤ 12) := Lib.hid (by have h1 : x.parts.length ≤ 12 := hwk.allowed.parts; omega)
  have HLow : Hid (∀ W, BoxS w x W → Below w.heap.size w W) := Lib.hid fun W hW => hW.below
  have HPA := Lib.hid (fun W (hW : BoxS w x W) k p (hk : x.parts[k]? = some p) => parts_at (h.parts.below hW.below) hk)
  have HPl := Lib.hid hpl
  have HFit : Hid (∀ (k : Nat) (p : TableP.Part), x.parts[k]? = some p → 0 ≤ p.start ∧ 1 ≤ p.length ∧ p.start + p.length ≤ 1000000000) := Lib.hid fun k p hp => WinP.part_fit hwk hp
  have HIn : Hid (∀ (k : Nat) (p : TableP.Part), x.parts[k]? = some p → p.node = node → p.start ≤ t → t < p.start + p.length → WinP.atT x.plain node t = (k : Int)) := Lib.hid fun k p hp h1 h2 h3 => WinP.at_in (WinP.works_fit hwk) hp (WinP.inB_true.2 ⟨h1, h2, h3⟩)
  have HOut : Hid ((∀ (j : Nat) (q : TableP.Part), j < x.pn → x.parts[j]? = some q → WinP.inB node t q ≠ true) → WinP.atT x.plain node t = -1) := Lib.hid fun h1 => WinP.at_out fun k p hp => h1 k p (by have := (List.getElem?_eq_some_iff.1 hp).1; change k < x.parts.length at this; omega) hp
  have HR0 : Hid (RAtR w x node t (.int .i64 0) (boxC w x)) := Lib.hid ⟨0, ⟨Nat.zero_le _, rfl, hst⟩, fun j q hj => absurd hj (by omega)⟩
  generalize WinP.atT x.plain node t = res at *
  clear h hwk hpl
  obtain ⟨nodes, faulty, slot, gap, rho, dmin, dmax, margin, PA, pn, pcap, parts, QA, qn, qcap, ports, RA, rn, rcap, routes⟩ := x
  obtain ⟨d0, d1, d2, d3, d4, d5, d6, d7, d8, d9, d10⟩ := cfgFacts (fun W (hW : BoxS w ⟨nodes, faulty, slot, gap, rho, dmin, dmax, margin, PA, pn, pcap, parts, QA, qn, qcap, ports, RA, rn, rcap, routes⟩ W) => hW.cells)
  obtain ⟨k0, k1, k2, k3, k4, k5, k6, k7, k8, k9, k10⟩ := eleven hst d0 d1 d2 d3 d4 d5 d6 d7 d8 d9 d10
  simp only at d0 d1 d2 d3 d4 d5 d6 d7 d8 d9 d10 k0 k1 k2 k3 k4 k5 k6 k7 k8 k9 k10 HLow HPA HPl HP12 HR0 HFit HIn HOut
  simp only [boxC, cfgCells] at HR0 k0 k1 k2 k3 k4 k5 k6 k7 k8 k9 k10
  simp only [CfgC.value] at ⊢
  go_enter Try.func15, Try.ntmps15
  go_wp2_with fail
  clear k0 k1 k2 k3 k4 k5 k6 k7 k8 k9 k10 hst
  go_loopw [7] (RAtR w ⟨nodes, faulty, slot, gap, rho, dmin, dmax, margin, PA, pn, pcap, parts, QA, qn, qcap, ports, RA, rn, rcap, routes⟩ node t) (fun i _ => (pn + 1 - intOf i).toNat)
  case atStart => exact HR0.out
  case round =>
    clear HR0
    obtain ⟨k, hl, hno⟩ := hrel
    have hl' := hl
    obtain ⟨hk, rfl, hb⟩ := hl'
    have hp12 := HP12.out
    have hpl := HPl.out
    simp only at hk hpl
    obtain ⟨k0, k1, k2, k3, k4, k5, k6, k7, k8, k9, k10⟩ := eleven hb d0 d1 d2 d3 d4 d5 d6 d7 d8 d9 d10
    by_cases hlt : k < pn
    case pos =>
      obtain ⟨p, hp⟩ : ∃ y, parts[k]? = some y := ⟨_, List.getElem?_eq_getElem (by omega)⟩
      obtain ⟨bp, op, ep, hbp, c0, c1, c2, c3, c4, c5, c6, c7, c8⟩ := HPA.out wr hb k p hp
      obtain ⟨f1, f2, f3⟩ := HFit.out k p hp
      have HIn1 := Lib.hid (HIn.out k p hp)
      have q1 : decide ((k : Int) < (pn : Int)) = true := decide_eq_true (by omega)
      have q0 : decide (k < pn) = true := decide_eq_true hlt
      have e2 : IntKind.i64.wrap ((k : Int) + 1) = (k : Int) + 1 := IntWalk.i64_in _ (by omega)
      have HF := Lib.hid (fun o => HLow.out _ (hb.step ((Below.refl wr.heap.size wr).alloc (Nat.le_refl _) o)))
      have HR1 : WinP.inB node t p ≠ true → Hid (∀ o, RAtR w ⟨nodes, faulty, slot, gap, rho, dmin, dmax, margin, PA, pn, pcap, parts, QA, qn, qcap, ports, RA, rn, rcap, routes⟩ node t (.int .i64 ((k : Int) + 1)) (wr.alloc o)) := fun hin => Lib.hid fun o => ⟨k + 1, hl.next hlt ((Below.refl wr.heap.size wr).alloc (Nat.le_refl _) o), fun j z hj hz => by
          rcases Nat.lt_succ_iff_lt_or_eq.1 hj with h1 | h1
          · exact hno j z h1 hz
          · subst h1
            have hz' : parts[j]? = some z := hz
            rw [hp] at hz'
            obtain rfl := Option.some.inj hz'
            exact hin⟩
      subst ep
      have hbk := WinP.inB_true (node := node) (t := t) (p := p)
      clear hl hb hno HIn HOut HLow hp HPA HFit
      obtain ⟨node1, start, length, budget, words, r0, r1, r2, r3⟩ := p
      simp only at c0 c1 c2 c3 c4 c5 c6 c7 c8 f1 f2 f3 HIn1 hbk
      by_cases hn : node1 = node
      case neg =>
        have q2 : (node1 == node) = false := beq_eq_false_iff_ne.2 hn
        have HR2 := HR1 (fun e => hn (hbk.1 e).1)
        clear HR1 hbk HIn1 HF
        go_wp2_with fail
        go_roundw
        case rel => exact HR2.out _
        case measure => simp [intOf]; omega
      have q2 : (node1 == node) = true := beq_iff_eq.2 hn
      by_cases hs : start ≤ t
      case neg =>
        have q3 : decide (start ≤ t) = false := decide_eq_false hs
        have HR2 := HR1 (fun e => hs (hbk.1 e).2.1)
        clear HR1 hbk HIn1 HF
        go_wp2_with fail
        go_roundw
        case rel => exact HR2.out _
        case measure => simp [intOf]; omega
      have q3 : decide (start ≤ t) = true := decide_eq_true hs
      have e3 : IntKind.i64.wrap (t - start) = t - start := IntWalk.i64_in _ (by omega)
      by_cases hc : t - start < length
      case neg =>
        have q4 : decide (t - start < length) = false := decide_eq_false hc
        have HR2 := HR1 (fun e => hc (by have := (hbk.1 e).2.2; omega))
        clear HR1 hbk HIn1 HF
        go_wp2_with fail
        go_roundw
        case rel => exact HR2.out _
        case measure => simp [intOf]; omega
      have q4 : decide (t - start < length) = true := decide_eq_true hc
      have HE := Lib.hid (HIn1.out hn hs (by omega))
      clear HR1 hbk HIn1
      go_wp2_with fail
      go_ret
      rw [HE.out]
      exact ⟨rfl, HF.out _⟩
    have hkn : k = pn := by omega
    subst hkn
    have q1 : decide ((k : Int) < (k : Int)) = false := decide_eq_false (by omega)
    have HE := Lib.hid (HOut.out hno)
    have HF := Lib.hid (HLow.out _ hb)
    clear hl hb hno HIn HOut HLow HPA HFit
    go_wp2_with fail
    go_ret
    rw [HE.out]
    exact ⟨rfl, HF.out⟩

def RIdR (w : World) (x : CfgC) (node r : Int) (n i : Value) (W : World) : Prop := ∃ k s, RLoop w x k i W ∧ n = .int .i64 (r - s) ∧ s = WinP.sumT (x.parts.take k) node ∧ 0 ≤ s ∧ s ≤ (k : Int) * 1000000000

set_option maxHeartbeats 4000000 in
theorem refidle_any (x : CfgC) (node : Int) (w : World) (h : CfgIn w x) (hwk : SndP.Works x.plain) :
    Calls Try.prog 17 #[x.value, .int .i64 node] w (IntPost (WinP.idleT x.plain node) w) := by
  have hst := BoxS.start w x
  have hpl := h.plen
  have HP12 : Hid (x.pn ≤ 12) := Lib.hid (by have h1 : x.parts.length ≤ 12 := hwk.allowed.parts; omega)
  have HLow : Hid (∀ W, BoxS w x W → Below w.heap.size w W) := Lib.hid fun W hW => hW.below
  have HPA := Lib.hid (fun W (hW : BoxS w x W) k p (hk : x.parts[k]? = some p) => parts_at (h.parts.below hW.below) hk)
  have HPl := Lib.hid hpl
  have HFit : Hid (∀ (k : Nat) (p : TableP.Part), x.parts[k]? = some p → 0 ≤ p.start ∧ 1 ≤ p.length ∧ p.start + p.length ≤ 1000000000) := Lib.hid fun k p hp => WinP.part_fit hwk hp
  have HRd := Lib.hid (refround_any x (boxC w x) hwk.allowed.head)
  have HBig : Hid (0 ≤ SndP.roundT x.plain ∧ SndP.roundT x.plain ≤ 1000000000) := Lib.hid (WinP.round_fit hwk)
  have HIn : Hid (∀ (k : Nat) (p : TableP.Part), x.parts[k]? = some p → WinP.sumT (x.parts.take (k + 1)) node = WinP.sumT (x.parts.take k) node + if p.node = node then p.length else 0) := Lib.hid fun k p hp => WinP.sum_take hp node
  have HOut : Hid (SndP.roundT x.plain - WinP.sumT (x.parts.take x.pn) node = WinP.idleT x.plain node) := Lib.hid (by rw [List.take_of_length_le (by omega)]; rfl)
  generalize WinP.idleT x.plain node = res at *
  generalize SndP.roundT x.plain = rd at *
  clear h hwk hpl
  obtain ⟨nodes, faulty, slot, gap, rho, dmin, dmax, margin, PA, pn, pcap, parts, QA, qn, qcap, ports, RA, rn, rcap, routes⟩ := x
  obtain ⟨d0, d1, d2, d3, d4, d5, d6, d7, d8, d9, d10⟩ := cfgFacts (fun W (hW : BoxS w ⟨nodes, faulty, slot, gap, rho, dmin, dmax, margin, PA, pn, pcap, parts, QA, qn, qcap, ports, RA, rn, rcap, routes⟩ W) => hW.cells)
  obtain ⟨k0, k1, k2, k3, k4, k5, k6, k7, k8, k9, k10⟩ := eleven hst d0 d1 d2 d3 d4 d5 d6 d7 d8 d9 d10
  simp only at d0 d1 d2 d3 d4 d5 d6 d7 d8 d9 d10 k0 k1 k2 k3 k4 k5 k6 k7 k8 k9 k10 HLow HPA HPl HP12 HFit HIn HOut
  simp only [boxC, cfgCells] at HRd k0 k1 k2 k3 k4 k5 k6 k7 k8 k9 k10
  simp only [CfgC.value] at HRd ⊢
  go_enter Try.func17, Try.ntmps17
  go_wp2_with fail
  refine HRd.out.mono ?_
  rintro e w1 ⟨rfl, hb1⟩
  have hd1 := hst.step hb1
  have HR0 : Hid (RIdR w ⟨nodes, faulty, slot, gap, rho, dmin, dmax, margin, PA, pn, pcap, parts, QA, qn, qcap, ports, RA, rn, rcap, routes⟩ node rd (.int .i64 rd) (.int .i64 0) w1) := Lib.hid ⟨0, 0, ⟨Nat.zero_le _, rfl, hd1⟩, by rw [Int.sub_zero], rfl, by omega, by omega⟩
  clear k0 k1 k2 k3 k4 k5 k6 k7 k8 k9 k10 hb1 hst HRd hd1
  go_wp2_with fail
  go_loopw [5, 6] (RIdR w ⟨nodes, faulty, slot, gap, rho, dmin, dmax, margin, PA, pn, pcap, parts, QA, qn, qcap, ports, RA, rn, rcap, routes⟩ node rd) (fun _ i _ => (pn + 1 - intOf i).toNat)
  case atStart => exact HR0.out
  case round =>
    clear HR0
    obtain ⟨k, s, hl, rfl, hs, hs0, hs1⟩ := hrel
    have hl' := hl
    obtain ⟨hk, rfl, hb⟩ := hl'
    have hp12 := HP12.out
    have hpl := HPl.out
    have hbig := HBig.out
    simp only at hk hpl hs
    obtain ⟨k0, k1, k2, k3, k4, k5, k6, k7, k8, k9, k10⟩ := eleven hb d0 d1 d2 d3 d4 d5 d6 d7 d8 d9 d10
    by_cases hlt : k < pn
    case pos =>
      obtain ⟨p, hp⟩ : ∃ y, parts[k]? = some y := ⟨_, List.getElem?_eq_getElem (by omega)⟩
      obtain ⟨bp, op, ep, hbp, c0, c1, c2, c3, c4, c5, c6, c7, c8⟩ := HPA.out wr hb k p hp
      obtain ⟨f1, f2, f3⟩ := HFit.out k p hp
      have HS1 := Lib.hid (HIn.out k p hp)
      have q1 : decide ((k : Int) < (pn : Int)) = true := decide_eq_true (by omega)
      have q0 : decide (k < pn) = true := decide_eq_true hlt
      have e2 : IntKind.i64.wrap ((k : Int) + 1) = (k : Int) + 1 := IntWalk.i64_in _ (by omega)
      have e3 : IntKind.i64.wrap (rd - s - p.length) = rd - (s + p.length) := by rw [IntWalk.i64_in _ (by omega)]; omega
      have HR1 : p.node = node → Hid (RIdR w ⟨nodes, faulty, slot, gap, rho, dmin, dmax, margin, PA, pn, pcap, parts, QA, qn, qcap, ports, RA, rn, rcap, routes⟩ node rd (.int .i64 (rd - (s + p.length))) (.int .i64 ((k : Int) + 1)) wr) := fun hn => Lib.hid ⟨k + 1, s + p.length, hl.next hlt (Below.refl _ _), rfl, by
        have h1 := HS1.out
        rw [if_pos hn] at h1
        show s + p.length = WinP.sumT (parts.take (k + 1)) node
        rw [h1, ← hs], by omega, by rw [Int.natCast_add, Int.add_mul]; omega⟩
      have HR2 : ¬ p.node = node → Hid (RIdR w ⟨nodes, faulty, slot, gap, rho, dmin, dmax, margin, PA, pn, pcap, parts, QA, qn, qcap, ports, RA, rn, rcap, routes⟩ node rd (.int .i64 (rd - s)) (.int .i64 ((k : Int) + 1)) wr) := fun hn => Lib.hid ⟨k + 1, s, hl.next hlt (Below.refl _ _), rfl, by
        have h1 := HS1.out
        rw [if_neg hn, Int.add_zero] at h1
        show s = WinP.sumT (parts.take (k + 1)) node
        rw [h1, ← hs], hs0, by rw [Int.natCast_add, Int.add_mul]; omega⟩
      subst ep
      clear hl hb HIn HOut HLow hp HPA HFit HS1 hs
      by_cases hn : p.node = node
      case neg =>
        have q2 : (p.node == node) = false := beq_eq_false_iff_ne.2 hn
        have HR3 := HR2 hn
        clear HR1 HR2
        go_wp2_with fail
        go_roundw
        case rel => exact HR3.out
        case measure => simp [intOf]; omega
      have q2 : (p.node == node) = true := beq_iff_eq.2 hn
      have HR3 := HR1 hn
      clear HR1 HR2
      go_wp2_with fail
      go_roundw
      case rel => exact HR3.out
      case measure => simp [intOf]; omega
    have hkn : k = pn := by omega
    subst hkn
    have q1 : decide ((k : Int) < (k : Int)) = false := decide_eq_false (by omega)
    have HE : Hid (rd - s = res) := Lib.hid (by rw [hs]; exact HOut.out)
    have HF := Lib.hid (HLow.out _ hb)
    clear hl hb HIn HOut HLow HPA HFit hs
    go_wp2_with fail
    go_ret
    rw [HE.out]
    exact ⟨rfl, HF.out⟩

def RNextR (w : World) (x : CfgC) (node t : Int) (n ok i : Value) (W : World) : Prop := ∃ k b, RLoop w x k i W ∧ n = .int .i64 (Option.getD b 0) ∧ ok = .bool (Option.isSome b) ∧ b = WinP.leastT t (WinP.chg (x.parts.take k) node)
def SameR (b : Option Int) (W : World) (n ok j : Value) (W' : World) : Prop := ∃ m, m ≤ 2 ∧ j = .int .i64 (m : Nat) ∧ n = .int .i64 (b.getD 0) ∧ ok = .bool b.isSome ∧ W' = W

set_option maxHeartbeats 4000000 in
theorem refnext_any (x : CfgC) (node t : Int) (ht : -9223372036854775808 ≤ t ∧ t ≤ 9223372036854775807) (w : World) (h : CfgIn w x) (hwk : SndP.Works x.plain) :
    Calls Try.prog 11 #[x.value, .int .i64 node, .int .i64 t] w (NextPost (WinP.nextT x.plain node t) w) := by
  have hst := BoxS.start w x
  have hpl := h.plen
  have HP12 : Hid (x.pn ≤ 12) := Lib.hid (by have h1 : x.parts.length ≤ 12 := hwk.allowed.parts; omega)
  have HLow : Hid (∀ W, BoxS w x W → Below w.heap.size w W) := Lib.hid fun W hW => hW.below
  have HPA := Lib.hid (fun W (hW : BoxS w x W) k p (hk : x.parts[k]? = some p) => parts_at (h.parts.below hW.below) hk)
  have HPl := Lib.hid hpl
  have HFit : Hid (∀ (k : Nat) (p : TableP.Part), x.parts[k]? = some p → 0 ≤ p.start ∧ 1 ≤ p.length ∧ p.start + p.length ≤ 1000000000) := Lib.hid fun k p hp => WinP.part_fit hwk hp
  have HIn : Hid (∀ (k : Nat) (p : TableP.Part) (b : Option Int), x.parts[k]? = some p → b = WinP.leastT t (WinP.chg (x.parts.take k) node) → (p.node = node → two t b p.start (p.start + p.length) 2 = WinP.leastT t (WinP.chg (x.parts.take (k + 1)) node)) ∧ (¬ p.node = node → b = WinP.leastT t (WinP.chg (x.parts.take (k + 1)) node))) := Lib.hid fun k p b hp hb => by
    have h1 := WinP.next_step (c := x.plain) (node := node) (t := t) hp
    refine ⟨fun hn => ?_, fun hn => ?_⟩
    · rw [if_pos hn] at h1; rw [hb]; exact h1.symm
    · rw [if_neg hn] at h1; rw [hb]; exact h1.symm
  have HOut : Hid (WinP.leastT t (WinP.chg (x.parts.take x.pn) node) = WinP.nextT x.plain node t) := Lib.hid (by rw [List.take_of_length_le (by omega)]; rfl)
  have HR0 : Hid (RNextR w x node t (.int .i64 0) (.bool false) (.int .i64 0) (boxC w x)) := Lib.hid ⟨0, none, ⟨Nat.zero_le _, rfl, hst⟩, rfl, rfl, by simp [WinP.chg, WinP.leastT]⟩
  generalize WinP.nextT x.plain node t = res at *
  clear h hwk hpl
  obtain ⟨nodes, faulty, slot, gap, rho, dmin, dmax, margin, PA, pn, pcap, parts, QA, qn, qcap, ports, RA, rn, rcap, routes⟩ := x
  obtain ⟨d0, d1, d2, d3, d4, d5, d6, d7, d8, d9, d10⟩ := cfgFacts (fun W (hW : BoxS w ⟨nodes, faulty, slot, gap, rho, dmin, dmax, margin, PA, pn, pcap, parts, QA, qn, qcap, ports, RA, rn, rcap, routes⟩ W) => hW.cells)
  obtain ⟨k0, k1, k2, k3, k4, k5, k6, k7, k8, k9, k10⟩ := eleven hst d0 d1 d2 d3 d4 d5 d6 d7 d8 d9 d10
  simp only at d0 d1 d2 d3 d4 d5 d6 d7 d8 d9 d10 k0 k1 k2 k3 k4 k5 k6 k7 k8 k9 k10 HLow HPA HPl HP12 HR0 HFit HIn HOut
  simp only [boxC, cfgCells] at HR0 k0 k1 k2 k3 k4 k5 k6 k7 k8 k9 k10
  simp only [CfgC.value] at ⊢
  go_enter Try.func11, Try.ntmps11
  go_wp2_with fail
  clear k0 k1 k2 k3 k4 k5 k6 k7 k8 k9 k10 hst
  go_loopw [8, 9, 10] (RNextR w ⟨nodes, faulty, slot, gap, rho, dmin, dmax, margin, PA, pn, pcap, parts, QA, qn, qcap, ports, RA, rn, rcap, routes⟩ node t) (fun _ _ i _ => (pn + 1 - intOf i).toNat)
  case atStart => exact HR0.out
  case round =>
    clear HR0
    obtain ⟨k, b, hl, rfl, rfl, hbk⟩ := hrel
    have hl' := hl
    obtain ⟨hk, rfl, hb⟩ := hl'
    have hp12 := HP12.out
    have hpl := HPl.out
    simp only at hk hpl hbk
    obtain ⟨k0, k1, k2, k3, k4, k5, k6, k7, k8, k9, k10⟩ := eleven hb d0 d1 d2 d3 d4 d5 d6 d7 d8 d9 d10
    by_cases hlt : k < pn
    case pos =>
      obtain ⟨p, hp⟩ : ∃ y, parts[k]? = some y := ⟨_, List.getElem?_eq_getElem (by omega)⟩
      obtain ⟨bp, op, ep, hbp, c0, c1, c2, c3, c4, c5, c6, c7, c8⟩ := HPA.out wr hb k p hp
      obtain ⟨f1, f2, f3⟩ := HFit.out k p hp
      obtain ⟨i1, i2⟩ := HIn.out k p b hp hbk
      have q1 : decide ((k : Int) < (pn : Int)) = true := decide_eq_true (by omega)
      have q0 : decide (k < pn) = true := decide_eq_true hlt
      have e2 : IntKind.i64.wrap ((k : Int) + 1) = (k : Int) + 1 := IntWalk.i64_in _ (by omega)
      have e3 : IntKind.i64.wrap (p.start + p.length) = p.start + p.length := IntWalk.i64_in _ (by omega)
      have HR1 : p.node = node → Hid (∀ o1 o2, RNextR w ⟨nodes, faulty, slot, gap, rho, dmin, dmax, margin, PA, pn, pcap, parts, QA, qn, qcap, ports, RA, rn, rcap, routes⟩ node t (.int .i64 ((two t b p.start (p.start + p.length) 2).getD 0)) (.bool (two t b p.start (p.start + p.length) 2).isSome) (.int .i64 ((k : Int) + 1)) ((wr.alloc o1).alloc o2)) := fun hn => Lib.hid fun o1 o2 => ⟨k + 1, _, hl.next hlt (((Below.refl wr.heap.size wr).alloc (Nat.le_refl _) o1).alloc (by simp) o2), rfl, rfl, i1 hn⟩
      have HR2 : ¬ p.node = node → Hid (∀ o1 o2, RNextR w ⟨nodes, faulty, slot, gap, rho, dmin, dmax, margin, PA, pn, pcap, parts, QA, qn, qcap, ports, RA, rn, rcap, routes⟩ node t (.int .i64 (b.getD 0)) (.bool b.isSome) (.int .i64 ((k : Int) + 1)) ((wr.alloc o1).alloc o2)) := fun hn => Lib.hid fun o1 o2 => ⟨k + 1, _, hl.next hlt (((Below.refl wr.heap.size wr).alloc (Nat.le_refl _) o1).alloc (by simp) o2), rfl, rfl, i2 hn⟩
      subst ep
      clear hl hb HIn HOut HLow hp HPA HFit hbk i1 i2
      obtain ⟨node1, start, length, budget, words, r0, r1, r2, r3⟩ := p
      simp only at c0 c1 c2 c3 c4 c5 c6 c7 c8 f1 f2 f3 HR1 HR2 e3
      generalize wr = wo at *
      by_cases hn : node1 = node
      case neg =>
        have q2 : (node1 == node) = false := beq_eq_false_iff_ne.2 hn
        have HR3 := HR2 hn
        clear HR1 HR2
        go_upto_block 8 with (fail)
        clear k0 k1 k2 k3 k4 k5 k6 k7 k8 k9 k10 c0 c1 c2 c3 c4 c5 c6 c7 c8
        go_loopw [8, 9, 13] (SameR b ((wo.alloc (.cells #[.int .i64 node1, .int .i64 start, .int .i64 length, .int .i64 budget, .int .i64 words, .int .u8 (r0 : Nat), .int .u8 (r1 : Nat), .int .u8 (r2 : Nat), .int .u8 (r3 : Nat)] 39)).alloc (.cells #[.int .i64 start, .int .i64 (start + length)] 3))) (fun _ _ j _ => (3 - intOf j).toNat)
        case atStart => exact ⟨0, by omega, rfl, rfl, rfl, rfl⟩
        case round =>
          obtain ⟨m, hm2, rfl, rfl, rfl, rfl⟩ := hrel
          by_cases hm : m < 2
          case neg =>
            obtain rfl : m = 2 := by omega
            go_wp2_with fail
            go_roundw
            case rel => exact HR3.out _ _
            case measure => simp [intOf]; omega
          case pos =>
            have q5 : decide ((m : Int) < 2) = true := decide_eq_true (by omega)
            have q6 : decide (m < 2) = true := decide_eq_true hm
            have e5 : IntKind.i64.wrap ((m : Int) + 1) = (m : Int) + 1 := IntWalk.i64_in _ (by omega)
            go_wp2_with fail
            go_roundw
            case rel => exact ⟨m + 1, hm, by go_num, rfl, rfl, rfl⟩
            case measure => simp [intOf]; omega
      have HR3 := HR1 hn
      clear HR1 HR2
      subst hn
      have HF0 := Lib.hid (TwoR.first t b start (start + length))
      go_upto_block 8 with (fail)
      clear k0 k1 k2 k3 k4 k5 k6 k7 k8 k9 k10 c0 c1 c2 c3 c4 c5 c6 c7 c8
      go_loopw [8, 9, 13] (TwoR t b start (start + length) ((wo.alloc (.cells #[.int .i64 node1, .int .i64 start, .int .i64 length, .int .i64 budget, .int .i64 words, .int .u8 (r0 : Nat), .int .u8 (r1 : Nat), .int .u8 (r2 : Nat), .int .u8 (r3 : Nat)] 39)).alloc (.cells #[.int .i64 start, .int .i64 (start + length)] 3))) (fun _ _ j _ => (3 - intOf j).toNat)
      case atStart => exact HF0.out _
      case round =>
        obtain ⟨m, hm2, rfl, rfl, rfl, rfl⟩ := hrel
        by_cases hm : m < 2
        case neg =>
          obtain rfl : m = 2 := by omega
          go_wp2_with fail
          go_roundw
          case rel => exact HR3.out _ _
          case measure => simp [intOf]; omega
        case pos =>
          rcases (show m = 0 ∨ m = 1 by omega) with rfl | rfl
          case inl =>
            by_cases h2 : t < start
            case neg =>
              have q4 : decide (t < start) = false := decide_eq_false h2
              have HT : Hid (TwoR t b start (start + length) ((wo.alloc (.cells #[.int .i64 node1, .int .i64 start, .int .i64 length, .int .i64 budget, .int .i64 words, .int .u8 (r0 : Nat), .int .u8 (r1 : Nat), .int .u8 (r2 : Nat), .int .u8 (r3 : Nat)] 39)).alloc (.cells #[.int .i64 start, .int .i64 (start + length)] 3)) (.int .i64 ((two t b start (start + length) 0).getD 0)) (.bool (two t b start (start + length) 0).isSome) (.int .i64 (1)) ((wo.alloc (.cells #[.int .i64 node1, .int .i64 start, .int .i64 length, .int .i64 budget, .int .i64 words, .int .u8 (r0 : Nat), .int .u8 (r1 : Nat), .int .u8 (r2 : Nat), .int .u8 (r3 : Nat)] 39)).alloc (.cells #[.int .i64 start, .int .i64 (start + length)] 3))) := Lib.hid ⟨1, by omega, rfl, by rw [show two t b start (start + length) 1 = two t b start (start + length) 0 from WinP.better_no h2], by rw [show two t b start (start + length) 1 = two t b start (start + length) 0 from WinP.better_no h2], rfl⟩
              go_wp2_with fail
              go_roundw
              case rel => exact HT.out
              case measure => simp [intOf]
            have q4 : decide (t < start) = true := decide_eq_true h2
            cases hc : two t b start (start + length) 0 with
            | none =>
              have HT : Hid (TwoR t b start (start + length) ((wo.alloc (.cells #[.int .i64 node1, .int .i64 start, .int .i64 length, .int .i64 budget, .int .i64 words, .int .u8 (r0 : Nat), .int .u8 (r1 : Nat), .int .u8 (r2 : Nat), .int .u8 (r3 : Nat)] 39)).alloc (.cells #[.int .i64 start, .int .i64 (start + length)] 3)) (.int .i64 start) (.bool true) (.int .i64 (1)) ((wo.alloc (.cells #[.int .i64 node1, .int .i64 start, .int .i64 length, .int .i64 budget, .int .i64 words, .int .u8 (r0 : Nat), .int .u8 (r1 : Nat), .int .u8 (r2 : Nat), .int .u8 (r3 : Nat)] 39)).alloc (.cells #[.int .i64 start, .int .i64 (start + length)] 3))) := Lib.hid (two_some (m := 0) (by omega) (show WinP.better t (two t b start (start + length) 0) start = _ from rfl) (by rw [hc]; exact WinP.better_none h2) _ rfl)
              clear hc
              simp only [Option.getD_none, Option.isSome_none]
              go_wp2_with fail
              go_roundw
              case rel => exact HT.out
              case measure => simp [intOf]
            | some u =>
              simp only [Option.getD_some, Option.isSome_some]
              by_cases h3 : start < u
              case pos =>
                have q5 : decide (start < u) = true := decide_eq_true h3
                have HT : Hid (TwoR t b start (start + length) ((wo.alloc (.cells #[.int .i64 node1, .int .i64 start, .int .i64 length, .int .i64 budget, .int .i64 words, .int .u8 (r0 : Nat), .int .u8 (r1 : Nat), .int .u8 (r2 : Nat), .int .u8 (r3 : Nat)] 39)).alloc (.cells #[.int .i64 start, .int .i64 (start + length)] 3)) (.int .i64 start) (.bool true) (.int .i64 (1)) ((wo.alloc (.cells #[.int .i64 node1, .int .i64 start, .int .i64 length, .int .i64 budget, .int .i64 words, .int .u8 (r0 : Nat), .int .u8 (r1 : Nat), .int .u8 (r2 : Nat), .int .u8 (r3 : Nat)] 39)).alloc (.cells #[.int .i64 start, .int .i64 (start + length)] 3))) := Lib.hid (two_some (m := 0) (by omega) (show WinP.better t (two t b start (start + length) 0) start = _ from rfl) (by rw [hc]; exact WinP.better_less h2 h3) _ rfl)
                clear hc
                go_wp2_with fail
                go_roundw
                case rel => exact HT.out
                case measure => simp [intOf]
              case neg =>
                have q5 : decide (start < u) = false := decide_eq_false h3
                have HT : Hid (TwoR t b start (start + length) ((wo.alloc (.cells #[.int .i64 node1, .int .i64 start, .int .i64 length, .int .i64 budget, .int .i64 words, .int .u8 (r0 : Nat), .int .u8 (r1 : Nat), .int .u8 (r2 : Nat), .int .u8 (r3 : Nat)] 39)).alloc (.cells #[.int .i64 start, .int .i64 (start + length)] 3)) (.int .i64 u) (.bool true) (.int .i64 (1)) ((wo.alloc (.cells #[.int .i64 node1, .int .i64 start, .int .i64 length, .int .i64 budget, .int .i64 words, .int .u8 (r0 : Nat), .int .u8 (r1 : Nat), .int .u8 (r2 : Nat), .int .u8 (r3 : Nat)] 39)).alloc (.cells #[.int .i64 start, .int .i64 (start + length)] 3))) := Lib.hid (two_some (m := 0) (by omega) (show WinP.better t (two t b start (start + length) 0) start = _ from rfl) (by rw [hc]; exact WinP.better_more h3) _ rfl)
                clear hc
                go_wp2_with fail
                go_roundw
                case rel => exact HT.out
                case measure => simp [intOf]
          case inr =>
            by_cases h2 : t < (start + length)
            case neg =>
              have q4 : decide (t < (start + length)) = false := decide_eq_false h2
              have HT : Hid (TwoR t b start (start + length) ((wo.alloc (.cells #[.int .i64 node1, .int .i64 start, .int .i64 length, .int .i64 budget, .int .i64 words, .int .u8 (r0 : Nat), .int .u8 (r1 : Nat), .int .u8 (r2 : Nat), .int .u8 (r3 : Nat)] 39)).alloc (.cells #[.int .i64 start, .int .i64 (start + length)] 3)) (.int .i64 ((two t b start (start + length) 1).getD 0)) (.bool (two t b start (start + length) 1).isSome) (.int .i64 (2)) ((wo.alloc (.cells #[.int .i64 node1, .int .i64 start, .int .i64 length, .int .i64 budget, .int .i64 words, .int .u8 (r0 : Nat), .int .u8 (r1 : Nat), .int .u8 (r2 : Nat), .int .u8 (r3 : Nat)] 39)).alloc (.cells #[.int .i64 start, .int .i64 (start + length)] 3))) := Lib.hid ⟨2, by omega, rfl, by rw [show two t b start (start + length) 2 = two t b start (start + length) 1 from WinP.better_no h2], by rw [show two t b start (start + length) 2 = two t b start (start + length) 1 from WinP.better_no h2], rfl⟩
              go_wp2_with fail
              go_roundw
              case rel => exact HT.out
              case measure => simp [intOf]
            have q4 : decide (t < (start + length)) = true := decide_eq_true h2
            cases hc : two t b start (start + length) 1 with
            | none =>
              have HT : Hid (TwoR t b start (start + length) ((wo.alloc (.cells #[.int .i64 node1, .int .i64 start, .int .i64 length, .int .i64 budget, .int .i64 words, .int .u8 (r0 : Nat), .int .u8 (r1 : Nat), .int .u8 (r2 : Nat), .int .u8 (r3 : Nat)] 39)).alloc (.cells #[.int .i64 start, .int .i64 (start + length)] 3)) (.int .i64 (start + length)) (.bool true) (.int .i64 (2)) ((wo.alloc (.cells #[.int .i64 node1, .int .i64 start, .int .i64 length, .int .i64 budget, .int .i64 words, .int .u8 (r0 : Nat), .int .u8 (r1 : Nat), .int .u8 (r2 : Nat), .int .u8 (r3 : Nat)] 39)).alloc (.cells #[.int .i64 start, .int .i64 (start + length)] 3))) := Lib.hid (two_some (m := 1) (by omega) (show WinP.better t (two t b start (start + length) 1) (start + length) = _ from rfl) (by rw [hc]; exact WinP.better_none h2) _ rfl)
              clear hc
              simp only [Option.getD_none, Option.isSome_none]
              go_wp2_with fail
              go_roundw
              case rel => exact HT.out
              case measure => simp [intOf]
            | some u =>
              simp only [Option.getD_some, Option.isSome_some]
              by_cases h3 : (start + length) < u
              case pos =>
                have q5 : decide ((start + length) < u) = true := decide_eq_true h3
                have HT : Hid (TwoR t b start (start + length) ((wo.alloc (.cells #[.int .i64 node1, .int .i64 start, .int .i64 length, .int .i64 budget, .int .i64 words, .int .u8 (r0 : Nat), .int .u8 (r1 : Nat), .int .u8 (r2 : Nat), .int .u8 (r3 : Nat)] 39)).alloc (.cells #[.int .i64 start, .int .i64 (start + length)] 3)) (.int .i64 (start + length)) (.bool true) (.int .i64 (2)) ((wo.alloc (.cells #[.int .i64 node1, .int .i64 start, .int .i64 length, .int .i64 budget, .int .i64 words, .int .u8 (r0 : Nat), .int .u8 (r1 : Nat), .int .u8 (r2 : Nat), .int .u8 (r3 : Nat)] 39)).alloc (.cells #[.int .i64 start, .int .i64 (start + length)] 3))) := Lib.hid (two_some (m := 1) (by omega) (show WinP.better t (two t b start (start + length) 1) (start + length) = _ from rfl) (by rw [hc]; exact WinP.better_less h2 h3) _ rfl)
                clear hc
                go_wp2_with fail
                go_roundw
                case rel => exact HT.out
                case measure => simp [intOf]
              case neg =>
                have q5 : decide ((start + length) < u) = false := decide_eq_false h3
                have HT : Hid (TwoR t b start (start + length) ((wo.alloc (.cells #[.int .i64 node1, .int .i64 start, .int .i64 length, .int .i64 budget, .int .i64 words, .int .u8 (r0 : Nat), .int .u8 (r1 : Nat), .int .u8 (r2 : Nat), .int .u8 (r3 : Nat)] 39)).alloc (.cells #[.int .i64 start, .int .i64 (start + length)] 3)) (.int .i64 u) (.bool true) (.int .i64 (2)) ((wo.alloc (.cells #[.int .i64 node1, .int .i64 start, .int .i64 length, .int .i64 budget, .int .i64 words, .int .u8 (r0 : Nat), .int .u8 (r1 : Nat), .int .u8 (r2 : Nat), .int .u8 (r3 : Nat)] 39)).alloc (.cells #[.int .i64 start, .int .i64 (start + length)] 3))) := Lib.hid (two_some (m := 1) (by omega) (show WinP.better t (two t b start (start + length) 1) (start + length) = _ from rfl) (by rw [hc]; exact WinP.better_more h3) _ rfl)
                clear hc
                go_wp2_with fail
                go_roundw
                case rel => exact HT.out
                case measure => simp [intOf]
    have hkn : k = pn := by omega
    subst hkn
    have q1 : decide ((k : Int) < (k : Int)) = false := decide_eq_false (by omega)
    rw [HOut.out] at hbk
    subst hbk
    have HF := Lib.hid (HLow.out _ hb)
    clear hl hb HIn HOut HLow HPA HFit
    go_wp2_with fail
    refine bodyPost_ret (v := .tuple #[.int .i64 (Option.getD b 0), .bool (Option.isSome b)]) (by simp [results, Try.results11, go_sem]) rfl ?_
    exact ⟨rfl, HF.out⟩
end Go.Proofs.Ytfgpfmhjnccccaa
