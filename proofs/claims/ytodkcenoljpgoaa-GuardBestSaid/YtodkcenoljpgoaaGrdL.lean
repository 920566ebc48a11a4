/- GuardBest: the walk of the law at tables in memory, puts and takes. Conditions: where they lie. -/
import Derived.Test.YtodkcenoljpgoaaGrdH
import Derived.Test.YtodkcenoljpgoaaGrdB
import Derived.Test.YtodkcenoljpgoaaGrdBarg
namespace Go.Proofs.Ytodkcenoljpgoaa
open Go.RowKit
set_option maxRecDepth 100000

theorem infoS9 : (Try.prog.info? 9).map (fun i => (i.zero, i.size, i.bytes)) = some (some (.string ⟨#[]⟩), 1, 16) := by kernel_rfl
theorem conv9 {W : World} {B : Nat} {A : Option Addr} {l : List UInt8} {n cap : Nat} (hn : l.length = n) (h : Bytes W B A l) :
    (convert 53 9 (.slice A n cap)).run Try.prog W = .ok (.string ⟨l.toArray⟩) W :=
  run_convert_b W 53 5 Try.underlying53 Try.underlying5 B A l n cap hn h 9 Try.underlying9
/-- So many puts and takes are done. -/
def BestR (w : World) (x : CfgC) (Q n : Nat) (wv i : Value) (W : World) : Prop :=
  ∃ (k : Nat) (q : List (List UInt8)), k ≤ n ∧ k ≤ 100 ∧ i = .int .i64 (k : Nat) ∧ q.length ≤ 4 ∧ Seg W (boxC w x).heap.size 9 1 wv q.length (q.map strV) ∧ BestS W (boxC w x).heap.size Q q ∧ BoxS w x W

set_option maxHeartbeats 8000000 in
theorem gbest_law (x : CfgC) (A : Option Addr) (n cap : Nat) (f : Nat → BestC) (hn : n ≤ 140737488355328) (w : World) (h : CfgIn w x) (hin : BestsIn w A n f) : Calls Try.prog 5 #[x.value, .slice A n cap] w (TruePost w) := by
  have HA := Lib.hid (fun W => awake9_any W)
  have HWk := Lib.hid (fun W (hW : BoxS w x W) => works_any x W (h.below hW.below))
  have HST := Lib.hid (BoxS.start w x)
  obtain ⟨L, hL⟩ : ∃ L, worksB x = L := ⟨_, rfl⟩
  rw [hL] at HWk
  cases L with
  | false =>
    clear h hL hn hin
    obtain ⟨nodes, faulty, slot, gap, rho, dmin, dmax, margin, PA, pn, pcap, parts, QA, qn, qcap, ports, RA, rn, rcap, routes⟩ := x
    have d0 := fun W (hW : BoxS w ⟨nodes, faulty, slot, gap, rho, dmin, dmax, margin, PA, pn, pcap, parts, QA, qn, qcap, ports, RA, rn, rcap, routes⟩ W) => hW.cells.c0
    have d1 := fun W (hW : BoxS w ⟨nodes, faulty, slot, gap, rho, dmin, dmax, margin, PA, pn, pcap, parts, QA, qn, qcap, ports, RA, rn, rcap, routes⟩ W) => hW.cells.c1
    have d2 := fun W (hW : BoxS w ⟨nodes, faulty, slot, gap, rho, dmin, dmax, margin, PA, pn, pcap, parts, QA, qn, qcap, ports, RA, rn, rcap, routes⟩ W) => hW.cells.c2
    have d3 := fun W (hW : BoxS w ⟨nodes, faulty, slot, gap, rho, dmin, dmax, margin, PA, pn, pcap, parts, QA, qn, qcap, ports, RA, rn, rcap, routes⟩ W) => hW.cells.c3
    have d4 := fun W (hW : BoxS w ⟨nodes, faulty, slot, gap, rho, dmin, dmax, margin, PA, pn, pcap, parts, QA, qn, qcap, ports, RA, rn, rcap, routes⟩ W) => hW.cells.c4
    have d5 := fun W (hW : BoxS w ⟨nodes, faulty, slot, gap, rho, dmin, dmax, margin, PA, pn, pcap, parts, QA, qn, qcap, ports, RA, rn, rcap, routes⟩ W) => hW.cells.c5
    have d6 := fun W (hW : BoxS w ⟨nodes, faulty, slot, gap, rho, dmin, dmax, margin, PA, pn, pcap, parts, QA, qn, qcap, ports, RA, rn, rcap, routes⟩ W) => hW.cells.c6
    have d7 := fun W (hW : BoxS w ⟨nodes, faulty, slot, gap, rho, dmin, dmax, margin, PA, pn, pcap, parts, QA, qn, qcap, ports, RA, rn, rcap, routes⟩ W) => hW.cells.c7
    have d8 := fun W (hW : BoxS w ⟨nodes, faulty, slot, gap, rho, dmin, dmax, margin, PA, pn, pcap, parts, QA, qn, qcap, ports, RA, rn, rcap, routes⟩ W) => hW.cells.c8
    have d9 := fun W (hW : BoxS w ⟨nodes, faulty, slot, gap, rho, dmin, dmax, margin, PA, pn, pcap, parts, QA, qn, qcap, ports, RA, rn, rcap, routes⟩ W) => hW.cells.c9
    have d10 := fun W (hW : BoxS w ⟨nodes, faulty, slot, gap, rho, dmin, dmax, margin, PA, pn, pcap, parts, QA, qn, qcap, ports, RA, rn, rcap, routes⟩ W) => hW.cells.c10
    simp only at d0 d1 d2 d3 d4 d5 d6 d7 d8 d9 d10
    simp only [CfgC.value] at HWk ⊢
    simp only [boxC, cfgCells] at HST
    go_enter Try.func5, Try.ntmps5
    go_wp2_with fail
    refine (HA.out _).mono ?_
    rintro e w1 ⟨rfl, hb1⟩
    have hd1 := HST.out.step hb1
    clear hb1 HA
    have k0 := d0 _ hd1
    have k1 := d1 _ hd1
    have k2 := d2 _ hd1
    have k3 := d3 _ hd1
    have k4 := d4 _ hd1
    have k5 := d5 _ hd1
    have k6 := d6 _ hd1
    have k7 := d7 _ hd1
    have k8 := d8 _ hd1
    have k9 := d9 _ hd1
    have k10 := d10 _ hd1
    have Hd1 := Lib.hid hd1
    clear hd1
    go_wp2_with fail
    refine (HWk.out _ Hd1.out).mono ?_
    rintro e w2 ⟨rfl, hb2⟩
    have hd2 := Hd1.out.step hb2
    clear hb2 Hd1 HWk k0 k1 k2 k3 k4 k5 k6 k7 k8 k9 k10
    have HF := Lib.hid hd2.below
    clear hd2
    go_wp2_with fail
    go_ret
    exact ⟨rfl, HF.out⟩
  | true =>
  have hR : SndP.chk6 x.plain = none := by
    unfold worksB at hL
    simp only [Bool.and_eq_true] at hL
    exact Option.isNone_iff_eq_none.1 hL.2
  have hhd := (SndP.works hR).allowed.head
  have hnum := SndP.nums_in hhd
  have hsl : 0 ≤ x.nodes * x.slot ∧ x.nodes * x.slot ≤ 117440512 := hnum.slots
  have hgp : 0 ≤ x.gap ∧ x.gap ≤ 16777216 := hnum.gap
  have HT1 := Lib.hid (fun a W B Q (hS : BestS W B Q []) => btake_empty x a W B Q hS)
  have HT2 := Lib.hid (fun a (hg : gapB x.plain a = false) W B Q q (hq : 0 < q.length) (hS : BestS W B Q q) => btake_out x a W hhd hg B Q q hq hS)
  have HT3 := Lib.hid (fun a (hg : gapB x.plain a = true) W B Q l r (hS : BestS W B Q (l :: r)) => btake_any x a W hhd hg B Q l r hS)
  have HIn := Lib.hid (fun W (hW : BoxS w x W) => hin.below hW.below)
  have eG : ∀ a, gapB x.plain a = (decide (x.nodes * x.slot ≤ a) && decide (a < x.nodes * x.slot + x.gap)) := fun a => rfl
  simp only [eG] at HT2 HT3
  have e1 : IntKind.i64.wrap (x.nodes * x.slot) = x.nodes * x.slot := IntWalk.i64_in _ (by omega)
  have e2 : IntKind.i64.wrap (x.nodes * x.slot + x.gap) = x.nodes * x.slot + x.gap := IntWalk.i64_in _ (by omega)
  clear hL hR h hin hhd hnum eG
  obtain ⟨nodes, faulty, slot, gap, rho, dmin, dmax, margin, PA, pn, pcap, parts, QA, qn, qcap, ports, RA, rn, rcap, routes⟩ := x
  have d0 := fun W (hW : BoxS w ⟨nodes, faulty, slot, gap, rho, dmin, dmax, margin, PA, pn, pcap, parts, QA, qn, qcap, ports, RA, rn, rcap, routes⟩ W) => hW.cells.c0
  have d1 := fun W (hW : BoxS w ⟨nodes, faulty, slot, gap, rho, dmin, dmax, margin, PA, pn, pcap, parts, QA, qn, qcap, ports, RA, rn, rcap, routes⟩ W) => hW.cells.c1
  have d2 := fun W (hW : BoxS w ⟨nodes, faulty, slot, gap, rho, dmin, dmax, margin, PA, pn, pcap, parts, QA, qn, qcap, ports, RA, rn, rcap, routes⟩ W) => hW.cells.c2
  have d3 := fun W (hW : BoxS w ⟨nodes, faulty, slot, gap, rho, dmin, dmax, margin, PA, pn, pcap, parts, QA, qn, qcap, ports, RA, rn, rcap, routes⟩ W) => hW.cells.c3
  have d4 := fun W (hW : BoxS w ⟨nodes, faulty, slot, gap, rho, dmin, dmax, margin, PA, pn, pcap, parts, QA, qn, qcap, ports, RA, rn, rcap, routes⟩ W) => hW.cells.c4
  have d5 := fun W (hW : BoxS w ⟨nodes, faulty, slot, gap, rho, dmin, dmax, margin, PA, pn, pcap, parts, QA, qn, qcap, ports, RA, rn, rcap, routes⟩ W) => hW.cells.c5
  have d6 := fun W (hW : BoxS w ⟨nodes, faulty, slot, gap, rho, dmin, dmax, margin, PA, pn, pcap, parts, QA, qn, qcap, ports, RA, rn, rcap, routes⟩ W) => hW.cells.c6
  have d7 := fun W (hW : BoxS w ⟨nodes, faulty, slot, gap, rho, dmin, dmax, margin, PA, pn, pcap, parts, QA, qn, qcap, ports, RA, rn, rcap, routes⟩ W) => hW.cells.c7
  have d8 := fun W (hW : BoxS w ⟨nodes, faulty, slot, gap, rho, dmin, dmax, margin, PA, pn, pcap, parts, QA, qn, qcap, ports, RA, rn, rcap, routes⟩ W) => hW.cells.c8
  have d9 := fun W (hW : BoxS w ⟨nodes, faulty, slot, gap, rho, dmin, dmax, margin, PA, pn, pcap, parts, QA, qn, qcap, ports, RA, rn, rcap, routes⟩ W) => hW.cells.c9
  have d10 := fun W (hW : BoxS w ⟨nodes, faulty, slot, gap, rho, dmin, dmax, margin, PA, pn, pcap, parts, QA, qn, qcap, ports, RA, rn, rcap, routes⟩ W) => hW.cells.c10
  simp only at d0 d1 d2 d3 d4 d5 d6 d7 d8 d9 d10 hsl hgp e1 e2 HT2 HT3
  simp only [CfgC.value] at HWk HT1 HT2 HT3 ⊢
  simp only [boxC, cfgCells] at HST
  unfold bestV at HT1 HT2 HT3
  go_enter Try.func5, Try.ntmps5
  go_wp2_with fail
  refine (HA.out _).mono ?_
  rintro e w1 ⟨rfl, hb1⟩
  have hd1 := HST.out.step hb1
  clear hb1 HA
  have k0 := d0 _ hd1
  have k1 := d1 _ hd1
  have k2 := d2 _ hd1
  have k3 := d3 _ hd1
  have k4 := d4 _ hd1
  have k5 := d5 _ hd1
  have k6 := d6 _ hd1
  have k7 := d7 _ hd1
  have k8 := d8 _ hd1
  have k9 := d9 _ hd1
  have k10 := d10 _ hd1
  have Hd1 := Lib.hid hd1
  clear hd1
  go_wp2_with fail
  refine (HWk.out _ Hd1.out).mono ?_
  rintro e w2 ⟨rfl, hb2⟩
  have hd2 := Hd1.out.step hb2
  clear hb2 Hd1 HWk k0 k1 k2 k3 k4 k5 k6 k7 k8 k9 k10
  have k0 := d0 _ hd2
  have k1 := d1 _ hd2
  have k2 := d2 _ hd2
  have k3 := d3 _ hd2
  have k4 := d4 _ hd2
  have k5 := d5 _ hd2
  have k6 := d6 _ hd2
  have k7 := d7 _ hd2
  have k8 := d8 _ hd2
  have k9 := d9 _ hd2
  have k10 := d10 _ hd2
  have HS : Hid (BestR w ⟨nodes, faulty, slot, gap, rho, dmin, dmax, margin, PA, pn, pcap, parts, QA, qn, qcap, ports, RA, rn, rcap, routes⟩ w2.heap.size n (.slice none 0 0) (.int .i64 0) (w2.alloc (.cells #[.slice none 0 0] 51))) := Lib.hid
    ⟨0, [], by omega, by omega, rfl, by simp, Seg.nil _ _ _ _, ⟨.slice none 0 0, [], heap_alloc_new w2 _, World.ownsRow_nil _ _ _ _, rfl, fun i e l he _ => by simp at he, hd2.size⟩, Below.alloc hd2 hd2.size _⟩
  have kk := fun o => (Below.alloc hd2 hd2.size o : BoxS w ⟨nodes, faulty, slot, gap, rho, dmin, dmax, margin, PA, pn, pcap, parts, QA, qn, qcap, ports, RA, rn, rcap, routes⟩ (w2.alloc o))
  have ka0 := fun o => d0 _ (kk o)
  have ka2 := fun o => d2 _ (kk o)
  have ka3 := fun o => d3 _ (kk o)
  clear hd2 kk
  go_wp2_with fail
  go_quiet (fail)
  go_wp2_with fail
  have HSd : Hid (∀ m, BestR w ⟨nodes, faulty, slot, gap, rho, dmin, dmax, margin, PA, pn, pcap, parts, QA, qn, qcap, ports, RA, rn, rcap, routes⟩ w2.heap.size n (.slice none 0 0) (.int .i64 0) ((w2.alloc (.cells #[.slice none 0 0] 51)).drewN m)) := Lib.hid fun m => by
    obtain ⟨k, q, h1, h2, h3, h4, h5, h6, h7⟩ := HS.out
    have hb := below_drewN (Below.refl (w2.alloc (.cells #[.slice none 0 0] 51)).heap.size (w2.alloc (.cells #[.slice none 0 0] 51))) m
    exact ⟨k, q, h1, h2, h3, h4, h5.keep hb, h6.keep hb, h7.step hb⟩
  clear HS k0 k1 k2 k3 k4 k5 k6 k7 k8 k9 k10 ka0 ka2 ka3
  generalize w2.heap.size = Q at *
  go_loopw [6, 9] (BestR w ⟨nodes, faulty, slot, gap, rho, dmin, dmax, margin, PA, pn, pcap, parts, QA, qn, qcap, ports, RA, rn, rcap, routes⟩ Q n) (fun _ i _ => (101 - intOf i).toNat)
  case atStart => exact HSd.out _
  case round =>
    clear HSd
    obtain ⟨k, q, hk, hk2, rfl, hq4, hw, hS, hb⟩ := hrel
    obtain ⟨WA, wcap, rfl, hwc⟩ := Seg.slice hw
    have Hb := Lib.hid hb
    have HSg := Lib.hid hw
    have HSb := Lib.hid hS
    clear hw hS
    by_cases hkn : k < n ∧ k < 100
    case neg =>
      have HF := Lib.hid Hb.out.below
      clear HT1 HT2 HT3 HIn HSg HSb hb
      by_cases hkn1 : k < n
      · obtain rfl : k = 100 := by omega
        have q1 : decide ((100 : Int) < (n : Int)) = true := decide_eq_true (by omega)
        have q2 : decide (100 < n) = true := decide_eq_true (by omega)
        clear hkn hkn1
        go_wp2_with fail
        go_ret
        exact ⟨rfl, HF.out⟩
      · have q1 : decide ((k : Int) < (n : Int)) = false := decide_eq_false (by omega)
        have q2 : decide (k < n) = false := decide_eq_false (by omega)
        clear hkn hkn1
        go_wp2_with fail
        go_ret
        exact ⟨rfl, HF.out⟩
    obtain ⟨hkn, hk100⟩ := hkn
    obtain ⟨ba, oa, ea, hba, hAll⟩ := HIn.out wr hb (by omega)
    have hAct := hAll k hkn
    clear hAll
    have HAc : Hid (∀ W, BoxS w ⟨nodes, faulty, slot, gap, rho, dmin, dmax, margin, PA, pn, pcap, parts, QA, qn, qcap, ports, RA, rn, rcap, routes⟩ W → Bytes W W.heap.size (f k).A (f k).data) := Lib.hid fun W hW => by
      obtain ⟨b1, o1, e1, -, h1⟩ := HIn.out W hW (by omega)
      exact (h1 k hkn).bytes
    subst ea
    obtain ⟨z, hz⟩ : ∃ z, f k = z := ⟨_, rfl⟩
    rw [hz] at hAct HAc
    clear hz
    obtain ⟨tk, tm, DA, m, dcap, data⟩ := z
    have c0 := hAct.take
    have c1 := hAct.time
    have c2 := hAct.text
    have hdl := hAct.len
    have HBy := Lib.hid hAct.bytes
    try simp only at c0 c1 c2 hdl HBy
    have hmost := hAct.most
    have hcm := hAct.cap_
    try simp only at hmost hcm
    try simp only at HAc
    clear hAct
    have q1 : decide ((k : Int) < (n : Int)) = true := decide_eq_true (by omega)
    have q2 : decide (k < n) = true := decide_eq_true hkn
    have q3 : decide ((k : Int) < 100) = true := decide_eq_true (by omega)
    have q4 : decide (k < 100) = true := decide_eq_true hk100
    have ek1 : IntKind.i64.wrap ((k : Int) + 1) = (k : Int) + 1 := IntWalk.i64_in _ (by omega)
    cases tk with
    | false =>
      clear HT1 HT2 HT3 HIn hba hb
      by_cases hok : q.length < 4 ∧ m ≤ 16
      case neg =>
        have hno : 4 ≤ q.length ∨ 16 < m := by omega
        clear HAc
        by_cases hq : q.length < 4
        case pos =>
          have r1 : decide ((q.length : Int) < 4) = true := decide_eq_true (by omega)
          have r2 : decide (q.length < 4) = true := decide_eq_true hq
          have r3 : decide ((m : Int) ≤ 16) = false := decide_eq_false (by omega)
          have r4 : decide (m ≤ 16) = false := decide_eq_false (by omega)
          clear hok hq
          have HOa := Lib.hid (own_empty (wr.alloc (.cells #[.bool false, .int .i64 tm, .slice DA m dcap] 55)) (wr.heap.size + 1) (wr.heap.size + 1) 1 5 (by simp) (by simp))
          have HBa : Hid (Below wr.heap.size wr ((wr.alloc (.cells #[.bool false, .int .i64 tm, .slice DA m dcap] 55)).alloc (.cells #[] 5))) := Lib.hid (((Below.refl wr.heap.size wr).alloc (Nat.le_refl _) _).alloc (by simp) _)
          go_wp2_with (at_builtin
                       refine wpList_append_r rfl (.tmp 59) (.tmp 61) _ rfl (wr.heap.size + 1) 5 (.int .u8 0) Try.underlying53 infoU9 rfl _ (some (wr.heap.size + 1)) [] rfl ⟨rfl, HOa.out⟩ wr.heap.size DA m dcap data rfl hdl (HBy.out.below HBa.out (Nat.le_refl _)) (by simp; omega) (by simp) ?_
                       intro v1 w4 g1 hr1 hm1 ha1
                       obtain ⟨g, rfl⟩ : ∃ g, g1 = some g := by
                         rcases hm1 with rfl | ⟨g, rfl, -⟩
                         · exact ⟨_, rfl⟩
                         · exact ⟨_, rfl⟩
                       have hb4 : Below wr.heap.size wr w4 := HBa.out.trans (ha1.below HBa.out.size (fun q e => by simp only [Option.some.injEq] at e; omega))
                       obtain ⟨A4, cap4, rfl, -, hA4, hby4⟩ := hr1.bytes
                       obtain ⟨o4, rfl⟩ : ∃ o4, A4 = some ⟨g, o4, none⟩ := by
                         have := own_form hr1.2 (show (Value.slice A4 _ cap4).ownBlock = some g from hr1.1)
                         obtain ⟨c, e, -⟩ := this
                         cases e
                         exact ⟨0, rfl⟩
                       simp only [List.nil_append, hdl] at hby4 ⊢
                       have hN4 : w4.heap[wr.heap.size]? = some (.cells #[.bool false, .int .i64 tm, .slice DA m dcap] 55 (0, 0)) := (ha1.block _ (by simp; omega) (fun e => by simp only [Option.some.injEq] at e; omega)).trans ((Below.heap_alloc _ _ _ (by simp)).trans (heap_alloc_new wr _))
                       have hS4 := HSb.out.keep hb4
                       have hw4 := Seg.keep HSg.out hb4
                       have hd4 := Hb.out.step hb4
                       have HP := Lib.hid (bput_no w4 _ Q q hS4 (some ⟨g, o4, none⟩) m cap4 hno)
                       have HS4 := Lib.hid hS4
                       have HW4 := Lib.hid hw4
                       have HD4 := Lib.hid hd4
                       have HN4 := Lib.hid hN4
                       clear hr1 hm1 ha1 hb4 hA4 hby4 hN4 hS4 hw4 hd4)
          clear HOa HBa HSb HSg Hb HBy
          unfold bestV at HP
          refine HP.out.mono ?_
          rintro e w5 ⟨rfl, rfl⟩
          have HR : Hid (BestR w ⟨nodes, faulty, slot, gap, rho, dmin, dmax, margin, PA, pn, pcap, parts, QA, qn, qcap, ports, RA, rn, rcap, routes⟩ Q n (.slice WA q.length wcap) (.int .i64 ((k : Int) + 1)) w5) := Lib.hid ⟨k + 1, q, by omega, by omega, by go_num, hq4, HW4.out, HS4.out, HD4.out⟩
          clear HP HW4 HS4 HD4 HN4
          go_wp2_with fail
          go_roundw
          case rel => exact HR.out
          case measure => simp [intOf]; omega
        have r1 : decide ((q.length : Int) < 4) = false := decide_eq_false (by omega)
        have r2 : decide (q.length < 4) = false := decide_eq_false hq
        clear hok hq
        have HOa := Lib.hid (own_empty (wr.alloc (.cells #[.bool false, .int .i64 tm, .slice DA m dcap] 55)) (wr.heap.size + 1) (wr.heap.size + 1) 1 5 (by simp) (by simp))
        have HBa : Hid (Below wr.heap.size wr ((wr.alloc (.cells #[.bool false, .int .i64 tm, .slice DA m dcap] 55)).alloc (.cells #[] 5))) := Lib.hid (((Below.refl wr.heap.size wr).alloc (Nat.le_refl _) _).alloc (by simp) _)
        go_wp2_with (at_builtin
                     refine wpList_append_r rfl (.tmp 59) (.tmp 61) _ rfl (wr.heap.size + 1) 5 (.int .u8 0) Try.underlying53 infoU9 rfl _ (some (wr.heap.size + 1)) [] rfl ⟨rfl, HOa.out⟩ wr.heap.size DA m dcap data rfl hdl (HBy.out.below HBa.out (Nat.le_refl _)) (by simp; omega) (by simp) ?_
                     intro v1 w4 g1 hr1 hm1 ha1
                     obtain ⟨g, rfl⟩ : ∃ g, g1 = some g := by
                       rcases hm1 with rfl | ⟨g, rfl, -⟩
                       · exact ⟨_, rfl⟩
                       · exact ⟨_, rfl⟩
                     have hb4 : Below wr.heap.size wr w4 := HBa.out.trans (ha1.below HBa.out.size (fun q e => by simp only [Option.some.injEq] at e; omega))
                     obtain ⟨A4, cap4, rfl, -, hA4, hby4⟩ := hr1.bytes
                     obtain ⟨o4, rfl⟩ : ∃ o4, A4 = some ⟨g, o4, none⟩ := by
                       have := own_form hr1.2 (show (Value.slice A4 _ cap4).ownBlock = some g from hr1.1)
                       obtain ⟨c, e, -⟩ := this
                       cases e
                       exact ⟨0, rfl⟩
                     simp only [List.nil_append, hdl] at hby4 ⊢
                     have hN4 : w4.heap[wr.heap.size]? = some (.cells #[.bool false, .int .i64 tm, .slice DA m dcap] 55 (0, 0)) := (ha1.block _ (by simp; omega) (fun e => by simp only [Option.some.injEq] at e; omega)).trans ((Below.heap_alloc _ _ _ (by simp)).trans (heap_alloc_new wr _))
                     have hS4 := HSb.out.keep hb4
                     have hw4 := Seg.keep HSg.out hb4
                     have hd4 := Hb.out.step hb4
                     have HP := Lib.hid (bput_no w4 _ Q q hS4 (some ⟨g, o4, none⟩) m cap4 hno)
                     have HS4 := Lib.hid hS4
                     have HW4 := Lib.hid hw4
                     have HD4 := Lib.hid hd4
                     have HN4 := Lib.hid hN4
                     clear hr1 hm1 ha1 hb4 hA4 hby4 hN4 hS4 hw4 hd4)
        clear HOa HBa HSb HSg Hb HBy
        unfold bestV at HP
        refine HP.out.mono ?_
        rintro e w5 ⟨rfl, rfl⟩
        have HR : Hid (BestR w ⟨nodes, faulty, slot, gap, rho, dmin, dmax, margin, PA, pn, pcap, parts, QA, qn, qcap, ports, RA, rn, rcap, routes⟩ Q n (.slice WA q.length wcap) (.int .i64 ((k : Int) + 1)) w5) := Lib.hid ⟨k + 1, q, by omega, by omega, by go_num, hq4, HW4.out, HS4.out, HD4.out⟩
        clear HP HW4 HS4 HD4 HN4
        go_wp2_with fail
        go_roundw
        case rel => exact HR.out
        case measure => simp [intOf]; omega
      obtain ⟨hq, hm⟩ := hok
      have r1 : decide ((q.length : Int) < 4) = true := decide_eq_true (by omega)
      have r2 : decide (q.length < 4) = true := decide_eq_true hq
      have r3 : decide ((m : Int) ≤ 16) = true := decide_eq_true (by omega)
      have r4 : decide (m ≤ 16) = true := decide_eq_true hm
      have HOa := Lib.hid (own_empty (wr.alloc (.cells #[.bool false, .int .i64 tm, .slice DA m dcap] 55)) (wr.heap.size + 1) (wr.heap.size + 1) 1 5 (by simp) (by simp))
      have HBa : Hid (Below wr.heap.size wr ((wr.alloc (.cells #[.bool false, .int .i64 tm, .slice DA m dcap] 55)).alloc (.cells #[] 5))) := Lib.hid (((Below.refl wr.heap.size wr).alloc (Nat.le_refl _) _).alloc (by simp) _)
      go_wp2_with (at_builtin
                   refine wpList_append_r rfl (.tmp 59) (.tmp 61) _ rfl (wr.heap.size + 1) 5 (.int .u8 0) Try.underlying53 infoU9 rfl _ (some (wr.heap.size + 1)) [] rfl ⟨rfl, HOa.out⟩ wr.heap.size DA m dcap data rfl hdl (HBy.out.below HBa.out (Nat.le_refl _)) (by simp; omega) (by simp) ?_
                   intro v1 w4 g1 hr1 hm1 ha1
                   obtain ⟨g, rfl⟩ : ∃ g, g1 = some g := by
                     rcases hm1 with rfl | ⟨g, rfl, -⟩
                     · exact ⟨_, rfl⟩
                     · exact ⟨_, rfl⟩
                   have hb4 : Below wr.heap.size wr w4 := HBa.out.trans (ha1.below HBa.out.size (fun q e => by simp only [Option.some.injEq] at e; omega))
                   obtain ⟨A4, cap4, rfl, -, hA4, hby4⟩ := hr1.bytes
                   obtain ⟨o4, rfl⟩ : ∃ o4, A4 = some ⟨g, o4, none⟩ := by
                     have := own_form hr1.2 (show (Value.slice A4 _ cap4).ownBlock = some g from hr1.1)
                     obtain ⟨c, e, -⟩ := this
                     cases e
                     exact ⟨0, rfl⟩
                   simp only [List.nil_append, hdl] at hby4 ⊢
                   have hN4 : w4.heap[wr.heap.size]? = some (.cells #[.bool false, .int .i64 tm, .slice DA m dcap] 55 (0, 0)) := (ha1.block _ (by simp; omega) (fun e => by simp only [Option.some.injEq] at e; omega)).trans ((Below.heap_alloc _ _ _ (by simp)).trans (heap_alloc_new wr _))
                   have hS4 := HSb.out.keep hb4
                   have hw4 := Seg.keep HSg.out hb4
                   have hd4 := Hb.out.step hb4
                   have HP := Lib.hid (bput_any w4 _ Q q hd4.size hS4 hq g o4 m cap4 data hdl hm (by simpa using hby4))
                   have HS4 := Lib.hid hS4
                   have HW4 := Lib.hid hw4
                   have HD4 := Lib.hid hd4
                   have HN4 := Lib.hid hN4
                   clear hr1 hm1 ha1 hb4 hA4 hby4 hN4 hS4 hw4 hd4)
      clear HOa HBa HSb HSg Hb HBy
      unfold bestV at HP
      refine HP.out.mono ?_
      rintro e w5 ⟨rfl, hS5, ho5⟩
      have hw5 := ho5.seg HW4.out (by decide) (by decide)
      have hd5 : BoxS w ⟨nodes, faulty, slot, gap, rho, dmin, dmax, margin, PA, pn, pcap, parts, QA, qn, qcap, ports, RA, rn, rcap, routes⟩ w5 := HD4.out.trans (ho5.below HD4.out.size)
      have hN5 := ho5.block HN4.out (by decide) (by decide)
      have hby5 := HAc.out w5 hd5
      have c5 := cell_at hN5 2 rfl
      have hcv := conv9 (cap := dcap) hdl hby5
      have HR5 : Hid (∀ v6 w6, Seg w6 (boxC w ⟨nodes, faulty, slot, gap, rho, dmin, dmax, margin, PA, pn, pcap, parts, QA, qn, qcap, ports, RA, rn, rcap, routes⟩).heap.size 9 1 v6 (q.length + 1) (q.map strV ++ [strV data]) → Apart (fun k => (Value.slice WA q.length wcap).ownBlock = some k) (w5.alloc (.cells #[strV data] 9)) w6 → BestR w ⟨nodes, faulty, slot, gap, rho, dmin, dmax, margin, PA, pn, pcap, parts, QA, qn, qcap, ports, RA, rn, rcap, routes⟩ Q n v6 (.int .i64 ((k : Int) + 1)) w6) := Lib.hid fun v6 w6 h6 a6 => by
        have hb6 : Below w5.heap.size w5 (w5.alloc (.cells #[strV data] 9)) := (Below.refl _ _).alloc (Nat.le_refl _) _
        have hw6 := Seg.keep hw5 hb6
        refine ⟨k + 1, q ++ [data], by omega, by omega, by go_num, by rw [List.length_append, List.length_singleton]; omega, by rw [List.length_append, List.length_singleton, List.map_append]; exact h6, (hS5.keep hb6).beside a6 (fun k cs t hk ht e => ?_), (hd5.step hb6).trans (a6.below (hd5.step hb6).size (fun k hk => (Seg.lt hw6 k hk).1))⟩
        obtain ⟨cur, h1⟩ := Seg.block hw6 k e
        rw [h1] at hk
        simp only [Option.some.injEq, Obj.cells.injEq] at hk
        obtain ⟨-, rfl, -⟩ := hk
        rcases ht with e2 | e2 | e2 <;> exact absurd e2 (by decide)
      have Hw5 := Lib.hid hw5
      have hsz5 : (boxC w ⟨nodes, faulty, slot, gap, rho, dmin, dmax, margin, PA, pn, pcap, parts, QA, qn, qcap, ports, RA, rn, rcap, routes⟩).heap.size ≤ w5.heap.size := hd5.size
      clear hS5 ho5 hw5 hd5 hN5 hby5 HP HS4 HW4 HD4 HN4 HAc
      unfold strV at HR5
      go_wp2_with (at_builtin
                   refine wpList_append_seg rfl (.tmp 67) (.tmp 71) _ rfl (boxC w ⟨nodes, faulty, slot, gap, rho, dmin, dmax, margin, PA, pn, pcap, parts, QA, qn, qcap, ports, RA, rn, rcap, routes⟩).heap.size 9 _ 1 16 Try.underlying52 infoS9 rfl (by omega) _ q.length (q.map strV) rfl (Seg.keep Hw5.out ((Below.refl _ _).alloc (Nat.le_refl _) _)) (some ⟨w5.heap.size, 0, none⟩) 1 1 [.string ⟨data.toArray⟩] rfl rfl (fun _ => ⟨_, rfl, laid_at w5 _ [.string ⟨data.toArray⟩] w5.heap.size rfl⟩) (fun u hu => by simp only [List.mem_singleton] at hu; subst hu; rfl) (by unfold maxLen; omega) (by omega) (by simp; omega) ?_
                   intro v6 w6 h6 a6 _
                   have HR6 := Lib.hid (HR5.out v6 w6 h6 a6)
                   clear h6 a6)
      go_roundw
      case rel => exact HR6.out
      case measure => simp [intOf]; omega
    | true =>
      clear HAc HBy hdl hmost hcm hba
      obtain ⟨O, hO⟩ : ∃ O : Obj, O = .cells #[.bool true, .int .i64 tm, .slice DA m dcap] 55 := ⟨_, rfl⟩
      have hd3 : BoxS w ⟨nodes, faulty, slot, gap, rho, dmin, dmax, margin, PA, pn, pcap, parts, QA, qn, qcap, ports, RA, rn, rcap, routes⟩ (wr.alloc O) := Below.alloc hb hb.size _
      have hN3 : (wr.alloc O).heap[wr.heap.size]? = some (.cells #[.bool true, .int .i64 tm, .slice DA m dcap] 55 (0, 0)) := by rw [hO]; exact heap_alloc_new wr _
      have hb3 : Below wr.heap.size wr (wr.alloc O) := (Below.refl _ _).alloc (Nat.le_refl _) _
      have k0 := d0 _ hd3
      have k1 := d1 _ hd3
      have k2 := d2 _ hd3
      have k3 := d3 _ hd3
      have k4 := d4 _ hd3
      have k5 := d5 _ hd3
      have k6 := d6 _ hd3
      have k7 := d7 _ hd3
      have k8 := d8 _ hd3
      have k9 := d9 _ hd3
      have k10 := d10 _ hd3
      subst hO
      cases q with
      | nil =>
        have HT := Lib.hid (HT1.out tm _ _ Q (HSb.out.keep hb3))
        have HR : Hid (∀ W, Below wr.heap.size wr W → BestR w ⟨nodes, faulty, slot, gap, rho, dmin, dmax, margin, PA, pn, pcap, parts, QA, qn, qcap, ports, RA, rn, rcap, routes⟩ Q n (.slice WA 0 wcap) (.int .i64 ((k : Int) + 1)) W) := Lib.hid fun W hW => ⟨k + 1, [], by omega, by omega, by go_num, by simp, Seg.keep HSg.out hW, HSb.out.keep hW, Hb.out.step hW⟩
        clear HT1 HT2 HT3 HIn HSb HSg hb hN3 hd3 Hb
        simp only [List.length_nil]
        go_wp2_with fail
        refine HT.out.mono ?_
        rintro e w4 ⟨rfl, hb4⟩
        have HR4 := Lib.hid (fun W (hW : Below w4.heap.size w4 W) => HR.out W (hb3.trans ((hb4.trans (hW.mono hb4.size)).mono hb3.size)))
        clear hb3 hb4 HR HT k0 k1 k2 k3 k4 k5 k6 k7 k8 k9 k10 c0 c1 c2
        go_wp2_with fail
        go_quiet (fail)
        go_wp2_with fail
        go_roundw
        case rel => exact HR4.out _ (below_drewN (Below.refl _ _) _)
        case measure => simp [intOf]; omega
      | cons lq r =>
        have hsl1 : (lq :: r).length = r.length + 1 := rfl
        have s1 : decide ((0 : Int) < (r.length : Int) + 1) = true := decide_eq_true (by omega)
        have s2 : decide (0 < r.length + 1) = true := decide_eq_true (by omega)
        by_cases hgap : (decide (nodes * slot ≤ tm) && decide (tm < nodes * slot + gap)) = true
        case neg =>
          have hgf : (decide (nodes * slot ≤ tm) && decide (tm < nodes * slot + gap)) = false := Bool.eq_false_iff.2 hgap
          have HT := Lib.hid (HT2.out tm hgf _ _ Q (lq :: r) (by simp) (HSb.out.keep hb3))
          have HR : Hid (∀ W, Below wr.heap.size wr W → BestR w ⟨nodes, faulty, slot, gap, rho, dmin, dmax, margin, PA, pn, pcap, parts, QA, qn, qcap, ports, RA, rn, rcap, routes⟩ Q n (.slice WA (r.length + 1) wcap) (.int .i64 ((k : Int) + 1)) W) := Lib.hid fun W hW => ⟨k + 1, lq :: r, by omega, by omega, by go_num, hq4, Seg.keep HSg.out hW, HSb.out.keep hW, Hb.out.step hW⟩
          have HN3 := Lib.hid hN3
          clear HT1 HT2 HT3 HIn HSb HSg hb hN3 hd3 Hb hgap
          simp only [hsl1]
          by_cases hlo : nodes * slot ≤ tm
          · have t1 : decide (nodes * slot ≤ tm) = true := decide_eq_true hlo
            have t2 : decide (tm < nodes * slot + gap) = false := by rw [t1, Bool.true_and] at hgf; exact hgf
            clear hgf hlo
            go_wp2_with fail
            refine HT.out.mono ?_
            rintro e w4 ⟨rfl, hb4⟩
            have HR4 := Lib.hid (fun W (hW : Below w4.heap.size w4 W) => HR.out W (hb3.trans ((hb4.trans (hW.mono hb4.size)).mono hb3.size)))
            have hN4 := (hb4.block _ (lt_of_block HN3.out)).trans HN3.out
            have a1 := cell_at hN4 1 rfl
            clear hb3 hb4 HR HT k0 k1 k2 k3 k4 k5 k6 k7 k8 k9 k10 c0 c1 c2 HN3 hN4
            go_wp2_with fail
            go_quiet (fail)
            go_wp2_with fail
            go_roundw
            case rel => exact HR4.out _ (below_drewN (Below.refl _ _) _)
            case measure => simp [intOf]; omega
          · have t1 : decide (nodes * slot ≤ tm) = false := decide_eq_false hlo
            clear hgf hlo
            go_wp2_with fail
            refine HT.out.mono ?_
            rintro e w4 ⟨rfl, hb4⟩
            have HR4 := Lib.hid (fun W (hW : Below w4.heap.size w4 W) => HR.out W (hb3.trans ((hb4.trans (hW.mono hb4.size)).mono hb3.size)))
            have hN4 := (hb4.block _ (lt_of_block HN3.out)).trans HN3.out
            have a1 := cell_at hN4 1 rfl
            clear hb3 hb4 HR HT k0 k1 k2 k3 k4 k5 k6 k7 k8 k9 k10 c0 c1 c2 HN3 hN4
            go_wp2_with fail
            go_quiet (fail)
            go_wp2_with fail
            go_roundw
            case rel => exact HR4.out _ (below_drewN (Below.refl _ _) _)
            case measure => simp [intOf]; omega
        have HT := Lib.hid (HT3.out tm hgap _ _ Q lq r (HSb.out.keep hb3))
        obtain ⟨t1, t2⟩ : decide (nodes * slot ≤ tm) = true ∧ decide (tm < nodes * slot + gap) = true := by rw [Bool.and_eq_true] at hgap; exact hgap
        have HSg3 := Lib.hid (Seg.keep HSg.out hb3)
        have HN3 := Lib.hid hN3
        have HD3 := Lib.hid hd3
        clear HT1 HT2 HT3 HIn HSb HSg hb hN3 hd3 Hb hgap hb3
        simp only [hsl1]
        go_wp2_with fail
        refine HT.out.mono ?_
        rintro e w4 ⟨v4, rfl, ho4, hS4, hon4⟩
        have hd4 : BoxS w ⟨nodes, faulty, slot, gap, rho, dmin, dmax, margin, PA, pn, pcap, parts, QA, qn, qcap, ports, RA, rn, rcap, routes⟩ w4 := HD3.out.trans (hon4.below HD3.out.size)
        have hN4 := hon4.block HN3.out (by decide) (by decide)
        have a1 := cell_at hN4 1 rfl
        have hw4 := hon4.seg HSg3.out (by decide) (by decide)
        obtain ⟨gs, os, cs, e4, hcs⟩ := Seg.form hw4 (by simp)
        simp only [hsl1] at e4 hcs
        cases e4
        have kw : w4.cell? ⟨gs, os, none⟩ = some (strV lq) := by
          have := Seg.cell hw4 (j := 0) (u := strV lq) rfl
          simpa using this
        obtain ⟨A4, cap4, rfl, -, -, hby4, -⟩ := own_bytes ho4
        have hcv := fun j => conv9 (W := w4.drewN j) (cap := cap4) rfl (hby4.keep (fun _ _ => rfl))
        have hcv0 := conv9 (W := w4.drew) (cap := cap4) rfl (hby4.keep (fun _ _ => rfl))
        have hs2 := fun W => run_slice_froms (P := Try.prog) W 52 9 1 Try.underlying52 (fun w => by kernel_rfl) gs os (r.length + 1) wcap 1 1 rfl (by omega)
        have ht := Seg.tail hw4 (k := 1) (by simp)
        obtain ⟨TA, hTA⟩ : ∃ TA : Addr, TA = (if wcap = 1 then (⟨gs, os, none⟩ : Addr) else ⟨gs, os + 1 * 1, none⟩) := ⟨_, rfl⟩
        rw [← hTA] at ht
        simp only [← hTA] at hs2
        clear hTA
        have HR : Hid (∀ W, Below w4.heap.size w4 W → BestR w ⟨nodes, faulty, slot, gap, rho, dmin, dmax, margin, PA, pn, pcap, parts, QA, qn, qcap, ports, RA, rn, rcap, routes⟩ Q n (.slice (some TA) r.length (wcap - 1)) (.int .i64 ((k : Int) + 1)) W) := Lib.hid fun W hW => ⟨k + 1, r, by omega, by omega, by go_num, by simp at hq4; omega, (by have := Seg.keep ht hW; simpa using this), hS4.keep hW, hd4.step hW⟩
        clear ho4 hS4 hon4 hd4 hN4 hw4 ht hby4 HT HSg3 HN3 HD3 k0 k1 k2 k3 k4 k5 k6 k7 k8 k9 k10 c0 c1 c2
        unfold strV at kw
        go_wp2_with fail
        go_quiet (fail)
        go_wp2_with fail
        go_roundw
        case rel => exact HR.out _ (below_drewN (Below.refl _ _) _)
        case measure => simp [intOf]; omega
end Go.Proofs.Ytodkcenoljpgoaa
