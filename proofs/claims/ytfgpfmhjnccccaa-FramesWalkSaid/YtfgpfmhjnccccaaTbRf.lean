/- Contract of the document's Over (texts of errors). Conditions: sizes that each states. · Contract of the document's Check at tables in memory: what stands ahead of the lists. Conditions: where its lists lie. · Contract of the document's Check at tables in memory: the lists. Conditions: where its lists lie. -/
import Derived.Test.YtfgpfmhjnccccaaErrM
import Derived.Test.YtfgpfmhjnccccaaTbM
import Derived.Deep.DeepCutAuto
namespace Go.Proofs.Ytfgpfmhjnccccaa
open Go.RowKit Go.Extern.Stop Go.Stop Go.Extern

def overT (c : Nat) (a : Int) (x : List UInt8) : List UInt8 := if x = [] then [] else atT c a ++ 62 :: x

end Go.Proofs.Ytfgpfmhjnccccaa
namespace Go.Proofs.Ytfgpfmhjnccccaa
open Go.RowKit
set_option maxRecDepth 100000

def RefChkPost (r : Option FrameP.Wrong) (w : World) (e : Ending) (w' : World) : Prop := e = .returned (strV (wrongT r)) ∧ Below w.heap.size w w'

set_option maxHeartbeats 2000000 in
theorem refcheck_head (x : CfgC) (w : World) (h1 : ¬ TableP.headOk x.plain) :
    Calls Try.prog 24 #[x.value] w (RefChkPost (TableP.chk x.plain) w) := by
  have e : TableP.chk x.plain = some (2, -1) := by unfold TableP.chk; rw [if_neg h1]
  rw [e]; clear e
  have HB := Lib.hid (boxC_below w x)
  have HA := Lib.hid (fun W => at_any 2 (-1) W (by omega) (by omega))
  have hT : wrongT (some (2, -1)) = atT 2 (-1) := rfl
  unfold RefChkPost
  rw [hT]
  clear hT
  generalize atT 2 (-1) = t at *
  obtain ⟨nodes, faulty, slot, gap, rho, dmin, dmax, margin, PA, pn, pcap, parts, QA, qn, qcap, ports, RA, rn, rcap, routes⟩ := x
  have HN := Lib.hid h1
  clear h1
  unfold TableP.headOk at HN
  simp only [CfgC.plain] at HN
  simp only [CfgC.value]
  simp only [boxC, cfgCells] at HB
  unfold strV at *
  have U0 := Lib.hid (fun W => up_any nodes 1 7 W)
  have U1 := Lib.hid (fun W => up_any faulty 0 2 W)
  have U2 := Lib.hid (fun W => up_any slot 1 16777216 W)
  have U3 := Lib.hid (fun W => up_any gap 0 16777216 W)
  have U4 := Lib.hid (fun W => up_any rho 0 200 W)
  have U5 := Lib.hid (fun W => up_any dmax 0 1048576 W)
  have U6 := Lib.hid (fun W => up_any dmin 0 dmax W)
  have U7 := Lib.hid (fun W => up_any margin 0 16777216 W)
  go_enter Try.func24, Try.ntmps24
  go_wp2_with fail
  refine (U0.out _).mono ?_
  rintro e w0 ⟨rfl, rfl⟩
  by_cases h0 : TableP.up nodes 1 7
  case neg =>
    rw [decide_eq_false h0]
    clear h0
    go_wp2_with fail
    refine (HA.out _).mono ?_
    rintro e w9 ⟨rfl, hb⟩
    have Hb := Lib.hid hb
    clear hb
    go_wp2_with fail
    go_ret
    exact ⟨rfl, HB.out.trans (Hb.out.mono (by simp))⟩
  rw [decide_eq_true h0]
  have K0 := Lib.hid h0
  clear h0
  go_wp2_with fail
  refine (U1.out _).mono ?_
  rintro e w1 ⟨rfl, rfl⟩
  by_cases h1 : TableP.up faulty 0 2
  case neg =>
    rw [decide_eq_false h1]
    clear h1
    go_wp2_with fail
    refine (HA.out _).mono ?_
    rintro e w9 ⟨rfl, hb⟩
    have Hb := Lib.hid hb
    clear hb
    go_wp2_with fail
    go_ret
    exact ⟨rfl, HB.out.trans (Hb.out.mono (by simp))⟩
  rw [decide_eq_true h1]
  have K1 := Lib.hid h1
  clear h1
  go_wp2_with fail
  refine (U2.out _).mono ?_
  rintro e w2 ⟨rfl, rfl⟩
  by_cases h2 : TableP.up slot 1 16777216
  case neg =>
    rw [decide_eq_false h2]
    clear h2
    go_wp2_with fail
    refine (HA.out _).mono ?_
    rintro e w9 ⟨rfl, hb⟩
    have Hb := Lib.hid hb
    clear hb
    go_wp2_with fail
    go_ret
    exact ⟨rfl, HB.out.trans (Hb.out.mono (by simp))⟩
  rw [decide_eq_true h2]
  have K2 := Lib.hid h2
  clear h2
  go_wp2_with fail
  refine (U3.out _).mono ?_
  rintro e w3 ⟨rfl, rfl⟩
  by_cases h3 : TableP.up gap 0 16777216
  case neg =>
    rw [decide_eq_false h3]
    clear h3
    go_wp2_with fail
    refine (HA.out _).mono ?_
    rintro e w9 ⟨rfl, hb⟩
    have Hb := Lib.hid hb
    clear hb
    go_wp2_with fail
    go_ret
    exact ⟨rfl, HB.out.trans (Hb.out.mono (by simp))⟩
  rw [decide_eq_true h3]
  have K3 := Lib.hid h3
  clear h3
  go_wp2_with fail
  refine (U4.out _).mono ?_
  rintro e w4 ⟨rfl, rfl⟩
  by_cases h4 : TableP.up rho 0 200
  case neg =>
    rw [decide_eq_false h4]
    clear h4
    go_wp2_with fail
    refine (HA.out _).mono ?_
    rintro e w9 ⟨rfl, hb⟩
    have Hb := Lib.hid hb
    clear hb
    go_wp2_with fail
    go_ret
    exact ⟨rfl, HB.out.trans (Hb.out.mono (by simp))⟩
  rw [decide_eq_true h4]
  have K4 := Lib.hid h4
  clear h4
  go_wp2_with fail
  refine (U5.out _).mono ?_
  rintro e w5 ⟨rfl, rfl⟩
  by_cases h5 : TableP.up dmax 0 1048576
  case neg =>
    rw [decide_eq_false h5]
    clear h5
    go_wp2_with fail
    refine (HA.out _).mono ?_
    rintro e w9 ⟨rfl, hb⟩
    have Hb := Lib.hid hb
    clear hb
    go_wp2_with fail
    go_ret
    exact ⟨rfl, HB.out.trans (Hb.out.mono (by simp))⟩
  rw [decide_eq_true h5]
  have K5 := Lib.hid h5
  clear h5
  go_wp2_with fail
  refine (U6.out _).mono ?_
  rintro e w6 ⟨rfl, rfl⟩
  by_cases h6 : TableP.up dmin 0 dmax
  case neg =>
    rw [decide_eq_false h6]
    clear h6
    go_wp2_with fail
    refine (HA.out _).mono ?_
    rintro e w9 ⟨rfl, hb⟩
    have Hb := Lib.hid hb
    clear hb
    go_wp2_with fail
    go_ret
    exact ⟨rfl, HB.out.trans (Hb.out.mono (by simp))⟩
  rw [decide_eq_true h6]
  have K6 := Lib.hid h6
  clear h6
  go_wp2_with fail
  refine (U7.out _).mono ?_
  rintro e w7 ⟨rfl, rfl⟩
  have h7 : ¬ TableP.up margin 0 16777216 := fun h => HN.out ⟨K0.out, K1.out, K2.out, K3.out, K4.out, K5.out, K6.out, h⟩
  rw [decide_eq_false h7]
  clear h7
  go_wp2_with fail
  refine (HA.out _).mono ?_
  rintro e w9 ⟨rfl, hb⟩
  have Hb := Lib.hid hb
  clear hb
  go_wp2_with fail
  go_ret
  exact ⟨rfl, HB.out.trans (Hb.out.mono (by simp))⟩

set_option maxHeartbeats 2000000 in
theorem refcheck_many (x : CfgC) (w : World) (h1 : TableP.headOk x.plain) (h2 : 12 < x.pn ∨ 24 < x.qn ∨ 24 < x.rn) (h : CfgIn w x) :
    Calls Try.prog 24 #[x.value] w (RefChkPost (TableP.chk x.plain) w) := by
  have e : TableP.chk x.plain = some (3, -1) := by
    unfold TableP.chk
    rw [if_pos h1, if_pos (show 12 < x.plain.parts.length ∨ 24 < x.plain.ports.length ∨ 24 < x.plain.routes.length by have := h.plen; have := h.qlen; have := h.rlen; simp only [CfgC.plain]; omega)]
  rw [e]; clear e
  have HB := Lib.hid (boxC_below w x)
  have HA := Lib.hid (fun W => at_any 3 (-1) W (by omega) (by omega))
  have hT : wrongT (some (3, -1)) = atT 3 (-1) := rfl
  unfold RefChkPost
  rw [hT]
  clear hT h
  generalize atT 3 (-1) = t at *
  obtain ⟨nodes, faulty, slot, gap, rho, dmin, dmax, margin, PA, pn, pcap, parts, QA, qn, qcap, ports, RA, rn, rcap, routes⟩ := x
  unfold TableP.headOk at h1
  simp only [CfgC.plain] at h1
  obtain ⟨h0, h3, h4, h5, h6, h7, h8, h9⟩ := h1
  simp only [CfgC.value]
  simp only [boxC, cfgCells] at HB
  simp only at h2
  unfold strV at *
  have U0 := Lib.hid (fun W => up_any nodes 1 7 W)
  rw [decide_eq_true h0] at U0
  have U1 := Lib.hid (fun W => up_any faulty 0 2 W)
  rw [decide_eq_true h3] at U1
  have U2 := Lib.hid (fun W => up_any slot 1 16777216 W)
  rw [decide_eq_true h4] at U2
  have U3 := Lib.hid (fun W => up_any gap 0 16777216 W)
  rw [decide_eq_true h5] at U3
  have U4 := Lib.hid (fun W => up_any rho 0 200 W)
  rw [decide_eq_true h6] at U4
  have U5 := Lib.hid (fun W => up_any dmax 0 1048576 W)
  rw [decide_eq_true h7] at U5
  have U6 := Lib.hid (fun W => up_any dmin 0 dmax W)
  rw [decide_eq_true h8] at U6
  have U7 := Lib.hid (fun W => up_any margin 0 16777216 W)
  rw [decide_eq_true h9] at U7
  clear h0 h3 h4 h5 h6 h7 h8 h9
  by_cases h3 : 12 < pn
  case pos =>
    have q : decide ((12 : Int) < pn) = true := decide_eq_true (by omega)
    clear h2 h3
    go_enter Try.func24, Try.ntmps24
    go_wp2_with fail
    refine (U0.out _).mono ?_
    rintro e w0 ⟨rfl, rfl⟩
    go_wp2_with fail
    refine (U1.out _).mono ?_
    rintro e w1 ⟨rfl, rfl⟩
    go_wp2_with fail
    refine (U2.out _).mono ?_
    rintro e w2 ⟨rfl, rfl⟩
    go_wp2_with fail
    refine (U3.out _).mono ?_
    rintro e w3 ⟨rfl, rfl⟩
    go_wp2_with fail
    refine (U4.out _).mono ?_
    rintro e w4 ⟨rfl, rfl⟩
    go_wp2_with fail
    refine (U5.out _).mono ?_
    rintro e w5 ⟨rfl, rfl⟩
    go_wp2_with fail
    refine (U6.out _).mono ?_
    rintro e w6 ⟨rfl, rfl⟩
    go_wp2_with fail
    refine (U7.out _).mono ?_
    rintro e w7 ⟨rfl, rfl⟩
    go_wp2_with fail
    refine (HA.out _).mono ?_
    rintro e w9 ⟨rfl, hb⟩
    have Hb := Lib.hid hb
    clear hb
    go_wp2_with fail
    go_ret
    exact ⟨rfl, HB.out.trans (Hb.out.mono (by simp))⟩
  have q : decide ((12 : Int) < pn) = false := decide_eq_false (by omega)
  by_cases h4 : 24 < qn
  case pos =>
    have q2 : decide ((24 : Int) < qn) = true := decide_eq_true (by omega)
    clear h2 h3 h4
    go_enter Try.func24, Try.ntmps24
    go_wp2_with fail
    refine (U0.out _).mono ?_
    rintro e w0 ⟨rfl, rfl⟩
    go_wp2_with fail
    refine (U1.out _).mono ?_
    rintro e w1 ⟨rfl, rfl⟩
    go_wp2_with fail
    refine (U2.out _).mono ?_
    rintro e w2 ⟨rfl, rfl⟩
    go_wp2_with fail
    refine (U3.out _).mono ?_
    rintro e w3 ⟨rfl, rfl⟩
    go_wp2_with fail
    refine (U4.out _).mono ?_
    rintro e w4 ⟨rfl, rfl⟩
    go_wp2_with fail
    refine (U5.out _).mono ?_
    rintro e w5 ⟨rfl, rfl⟩
    go_wp2_with fail
    refine (U6.out _).mono ?_
    rintro e w6 ⟨rfl, rfl⟩
    go_wp2_with fail
    refine (U7.out _).mono ?_
    rintro e w7 ⟨rfl, rfl⟩
    go_wp2_with fail
    refine (HA.out _).mono ?_
    rintro e w9 ⟨rfl, hb⟩
    have Hb := Lib.hid hb
    clear hb
    go_wp2_with fail
    go_ret
    exact ⟨rfl, HB.out.trans (Hb.out.mono (by simp))⟩
  have q2 : decide ((24 : Int) < qn) = false := decide_eq_false (by omega)
  have q3 : decide ((24 : Int) < rn) = true := decide_eq_true (by omega)
  clear h2 h3 h4
  go_enter Try.func24, Try.ntmps24
  go_wp2_with fail
  refine (U0.out _).mono ?_
  rintro e w0 ⟨rfl, rfl⟩
  go_wp2_with fail
  refine (U1.out _).mono ?_
  rintro e w1 ⟨rfl, rfl⟩
  go_wp2_with fail
  refine (U2.out _).mono ?_
  rintro e w2 ⟨rfl, rfl⟩
  go_wp2_with fail
  refine (U3.out _).mono ?_
  rintro e w3 ⟨rfl, rfl⟩
  go_wp2_with fail
  refine (U4.out _).mono ?_
  rintro e w4 ⟨rfl, rfl⟩
  go_wp2_with fail
  refine (U5.out _).mono ?_
  rintro e w5 ⟨rfl, rfl⟩
  go_wp2_with fail
  refine (U6.out _).mono ?_
  rintro e w6 ⟨rfl, rfl⟩
  go_wp2_with fail
  refine (U7.out _).mono ?_
  rintro e w7 ⟨rfl, rfl⟩
  go_wp2_with fail
  refine (HA.out _).mono ?_
  rintro e w9 ⟨rfl, hb⟩
  have Hb := Lib.hid hb
  clear hb
  go_wp2_with fail
  go_ret
  exact ⟨rfl, HB.out.trans (Hb.out.mono (by simp))⟩
end Go.Proofs.Ytfgpfmhjnccccaa
namespace Go.Proofs.Ytfgpfmhjnccccaa
open Go.RowKit
set_option maxRecDepth 100000

theorem nat_pred {n : Nat} (h : n ≤ 1000) : IntKind.i64.wrap ((n : Int) - 1) = (n : Int) - 1 := IntWalk.i64_in _ (by omega)

set_option maxHeartbeats 8000000 in
theorem refcheck_rest (x : CfgC) (w : World) (h : CfgIn w x) (h1 : TableP.headOk x.plain) (h2 : ¬ (12 < x.pn ∨ 24 < x.qn ∨ 24 < x.rn)) :
    Calls Try.prog 24 #[x.value] w (RefChkPost (TableP.chk x.plain) w) := by
  have HFr := Lib.hid h
  obtain ⟨hs1, hs2⟩ := chk_parts h1 h2 h.plen h.qlen h.rlen
  have HE1 := Lib.hid hs1
  have HE2 := Lib.hid hs2
  clear hs1 hs2
  have HX := Lib.hid (fun wr hb => box11 (w := w) (wr := wr) (x := x) (t := 26) hb)
  have HB := Lib.hid (boxC_below w x)
  have HS := Lib.hid (boxC_size w x)
  have HA := Lib.hid (fun (c : Nat) (a : Int) W hc ha => at_any c a W hc ha)
  have hn7 : 0 ≤ x.nodes ∧ x.nodes ≤ 7 := by have := h1.1; simp only [TableP.up, CfgC.plain] at this; omega
  have hpl := h.plen
  have hql := h.qlen
  have hrl := h.rlen
  generalize TableP.chk x.plain = R at *
  clear h
  obtain ⟨nodes, faulty, slot, gap, rho, dmin, dmax, margin, PA, pn, pcap, parts, QA, qn, qcap, ports, RA, rn, rcap, routes⟩ := x
  unfold TableP.headOk at h1
  simp only [CfgC.plain] at h1
  obtain ⟨h0, h3, h4, h5, h6, h7, h8, h9⟩ := h1
  simp only [CfgC.value]
  simp only [boxC, cfgCells] at HB HS HX
  simp only at h2 HE1 HE2 hpl hql hrl hn7
  unfold strV at *
  have U0 := Lib.hid (fun W => up_any nodes 1 7 W)
  rw [decide_eq_true h0] at U0
  have U1 := Lib.hid (fun W => up_any faulty 0 2 W)
  rw [decide_eq_true h3] at U1
  have U2 := Lib.hid (fun W => up_any slot 1 16777216 W)
  rw [decide_eq_true h4] at U2
  have U3 := Lib.hid (fun W => up_any gap 0 16777216 W)
  rw [decide_eq_true h5] at U3
  have U4 := Lib.hid (fun W => up_any rho 0 200 W)
  rw [decide_eq_true h6] at U4
  have U5 := Lib.hid (fun W => up_any dmax 0 1048576 W)
  rw [decide_eq_true h7] at U5
  have U6 := Lib.hid (fun W => up_any dmin 0 dmax W)
  rw [decide_eq_true h8] at U6
  have U7 := Lib.hid (fun W => up_any margin 0 16777216 W)
  rw [decide_eq_true h9] at U7
  clear h0 h3 h4 h5 h6 h7 h8 h9
  obtain ⟨nd, rfl⟩ := Int.eq_ofNat_of_zero_le hn7.1
  have q1 : decide ((12 : Int) < pn) = false := decide_eq_false (by omega)
  have q2 : decide ((24 : Int) < qn) = false := decide_eq_false (by omega)
  have q3 : decide ((24 : Int) < rn) = false := decide_eq_false (by omega)
  have hp12 : pn ≤ 12 := by omega
  have hq24 : qn ≤ 24 := by omega
  have hr24 : rn ≤ 24 := by omega
  have hnd : nd ≤ 7 := by omega
  clear h2 hn7
  go_enter Try.func24, Try.ntmps24
  go_wp2_with fail
  refine (U0.out _).mono ?_
  rintro e w0 ⟨rfl, rfl⟩
  clear U0
  go_wp2_with fail
  refine (U1.out _).mono ?_
  rintro e w1 ⟨rfl, rfl⟩
  clear U1
  go_wp2_with fail
  refine (U2.out _).mono ?_
  rintro e w2 ⟨rfl, rfl⟩
  clear U2
  go_wp2_with fail
  refine (U3.out _).mono ?_
  rintro e w3 ⟨rfl, rfl⟩
  clear U3
  go_wp2_with fail
  refine (U4.out _).mono ?_
  rintro e w4 ⟨rfl, rfl⟩
  clear U4
  go_wp2_with fail
  refine (U5.out _).mono ?_
  rintro e w5 ⟨rfl, rfl⟩
  clear U5
  go_wp2_with fail
  refine (U6.out _).mono ?_
  rintro e w6 ⟨rfl, rfl⟩
  clear U6
  go_wp2_with fail
  refine (U7.out _).mono ?_
  rintro e w7 ⟨rfl, rfl⟩
  clear U7
  go_wp2_with fail
  have HST : Hid (Below (w.alloc (.cells #[.int .i64 (nd : Nat), .int .i64 faulty, .int .i64 slot, .int .i64 gap, .int .i64 rho, .int .i64 dmin, .int .i64 dmax, .int .i64 margin, .slice PA pn pcap, .slice QA qn qcap, .slice RA rn rcap] 26)).heap.size (w.alloc (.cells #[.int .i64 (nd : Nat), .int .i64 faulty, .int .i64 slot, .int .i64 gap, .int .i64 rho, .int .i64 dmin, .int .i64 dmax, .int .i64 margin, .slice PA pn pcap, .slice QA qn qcap, .slice RA rn rcap] 26)) (w.alloc (.cells #[.int .i64 (nd : Nat), .int .i64 faulty, .int .i64 slot, .int .i64 gap, .int .i64 rho, .int .i64 dmin, .int .i64 dmax, .int .i64 margin, .slice PA pn pcap, .slice QA qn qcap, .slice RA rn rcap] 26))) := Lib.hid (Below.refl _ _)
  go_loopw [3] (ChkRel (TableP.partOk (nd : Int)) 2 parts pn (w.alloc (.cells #[.int .i64 (nd : Nat), .int .i64 faulty, .int .i64 slot, .int .i64 gap, .int .i64 rho, .int .i64 dmin, .int .i64 dmax, .int .i64 margin, .slice PA pn pcap, .slice QA qn qcap, .slice RA rn rcap] 26))) (fun i _ => (pn + 1 - intOf i).toNat)
  case atStart => exact ⟨0, Nat.zero_le _, rfl, rfl, HST.out⟩
  case round =>
    clear HST
    obtain ⟨k, hk, rfl, hck, hb⟩ := hrel
    have Hb := Lib.hid hb
    have Hck := Lib.hid hck
    have hbw : Below w.heap.size w wr := HB.out.trans (hb.mono (by rw [HS.out]; omega))
    have Hbw := Lib.hid hbw
    have Hfr := Lib.hid (HFr.out.below hbw)
    obtain ⟨k0, -, -, -, -, -, -, -, k8, k9, k10⟩ := HX.out wr hb
    simp only at k0 k8 k9 k10
    have kA : ∀ o, (wr.alloc o).cell? ⟨w.heap.size, 0, none⟩ = some (.int .i64 (nd : Nat)) := fun o => (HX.out _ (hb.alloc hb.size o)).c0
    clear hbw hb hck
    by_cases hlt : k < pn
    · obtain ⟨⟨node, start, length, budget, words, r0, r1, r2, r3⟩, hmk⟩ : ∃ y, parts[k]? = some y := ⟨_, List.getElem?_eq_getElem (by omega)⟩
      obtain ⟨b, off, e, hbl, c0, c1, c2, c3, c4, c5, c6, c7, c8⟩ := parts_at Hfr.out.parts hmk
      simp only at e c0 c1 c2 c3 c4 c5 c6 c7 c8
      have Hst := Lib.hid (first_step (ok := TableP.partOk (nd : Int)) (code := 2) hmk)
      have Hnx : Hid ((TableP.partOk (nd : Int)) ⟨node, start, length, budget, words, r0, r1, r2, r3⟩ → ∀ W, Below wr.heap.size wr W → ChkRel (TableP.partOk (nd : Int)) 2 parts pn (w.alloc (.cells #[.int .i64 (nd : Nat), .int .i64 faulty, .int .i64 slot, .int .i64 gap, .int .i64 rho, .int .i64 dmin, .int .i64 dmax, .int .i64 margin, .slice PA pn pcap, .slice QA qn qcap, .slice RA rn rcap] 26)) (.int .i64 ((k : Int) + 1)) W) := Lib.hid fun hy W hW => by
        refine ⟨k + 1, by omega, by go_num, ?_, Hb.out.trans (hW.mono Hb.out.size)⟩
        rw [← Hck.out, Hst.out, if_pos hy]
      have Hbad : Hid (¬ (TableP.partOk (nd : Int)) ⟨node, start, length, budget, words, r0, r1, r2, r3⟩ → ∀ W, Below wr.heap.size wr W → RefChkPost R w (.returned (.string ⟨(atT 2 (k : Int)).toArray⟩)) W) := Lib.hid fun hy W hW => by
        have h0 := Hck.out
        rw [Hst.out, if_neg hy] at h0
        rw [HE1.out _ h0.symm]
        exact ⟨rfl, Hbw.out.trans (hW.mono Hbw.out.size)⟩
      have HN := Lib.hid (fun W => HA.out 2 (k : Int) W (by omega) (by omega))
      clear hmk Hst Hfr
      subst e
      have hwn := nat_pred (n := nd) (by omega)
      have V0 := Lib.hid (fun W => up_any node 0 ((nd : Int) - 1) W)
      have V1 := Lib.hid (fun W => up_any start 0 268435456 W)
      have V2 := Lib.hid (fun W => up_any length 1 268435456 W)
      have V3 := Lib.hid (fun W => up_any budget 0 64 W)
      have V4 := Lib.hid (fun W => up_any words 0 16 W)
      go_upto_region 9 with (fail)
      go_cut [5] (fun s wx => s = .bool (decide (TableP.up node 0 ((nd : Int) - 1) ∧ TableP.up start 0 268435456 ∧ TableP.up length 1 268435456 ∧ TableP.up budget 0 64 ∧ TableP.up words 0 16)) ∧ wx = (wr.alloc (.cells #[.int .i64 node, .int .i64 start, .int .i64 length, .int .i64 budget, .int .i64 words, .int .u8 (r0 : Nat), .int .u8 (r1 : Nat), .int .u8 (r2 : Nat), .int .u8 (r3 : Nat)] 39)))
      case first =>
        clear Hnx Hbad HN
        go_wp2_with fail
        refine (V0.out _).mono ?_
        rintro e w1 ⟨rfl, rfl⟩
        by_cases h0 : TableP.up node 0 ((nd : Int) - 1)
        case neg =>
          have Y : Hid (decide (TableP.up node 0 ((nd : Int) - 1) ∧ TableP.up start 0 268435456 ∧ TableP.up length 1 268435456 ∧ TableP.up budget 0 64 ∧ TableP.up words 0 16) = false) := Lib.hid (decide_eq_false (fun h => h0 h.1))
          rw [decide_eq_false h0]
          clear h0
          go_wp2_with fail
          go_meet
          exact ⟨by rw [Y.out], rfl⟩
        rw [decide_eq_true h0]
        have K0 := Lib.hid h0
        clear h0
        go_wp2_with fail
        refine (V1.out _).mono ?_
        rintro e w2 ⟨rfl, rfl⟩
        by_cases h1 : TableP.up start 0 268435456
        case neg =>
          have Y : Hid (decide (TableP.up node 0 ((nd : Int) - 1) ∧ TableP.up start 0 268435456 ∧ TableP.up length 1 268435456 ∧ TableP.up budget 0 64 ∧ TableP.up words 0 16) = false) := Lib.hid (decide_eq_false (fun h => h1 h.2.1))
          rw [decide_eq_false h1]
          clear h1
          go_wp2_with fail
          go_meet
          exact ⟨by rw [Y.out], rfl⟩
        rw [decide_eq_true h1]
        have K1 := Lib.hid h1
        clear h1
        go_wp2_with fail
        refine (V2.out _).mono ?_
        rintro e w3 ⟨rfl, rfl⟩
        by_cases h2 : TableP.up length 1 268435456
        case neg =>
          have Y : Hid (decide (TableP.up node 0 ((nd : Int) - 1) ∧ TableP.up start 0 268435456 ∧ TableP.up length 1 268435456 ∧ TableP.up budget 0 64 ∧ TableP.up words 0 16) = false) := Lib.hid (decide_eq_false (fun h => h2 h.2.2.1))
          rw [decide_eq_false h2]
          clear h2
          go_wp2_with fail
          go_meet
          exact ⟨by rw [Y.out], rfl⟩
        rw [decide_eq_true h2]
        have K2 := Lib.hid h2
        clear h2
        go_wp2_with fail
        refine (V3.out _).mono ?_
        rintro e w4 ⟨rfl, rfl⟩
        by_cases h3 : TableP.up budget 0 64
        case neg =>
          have Y : Hid (decide (TableP.up node 0 ((nd : Int) - 1) ∧ TableP.up start 0 268435456 ∧ TableP.up length 1 268435456 ∧ TableP.up budget 0 64 ∧ TableP.up words 0 16) = false) := Lib.hid (decide_eq_false (fun h => h3 h.2.2.2.1))
          rw [decide_eq_false h3]
          clear h3
          go_wp2_with fail
          go_meet
          exact ⟨by rw [Y.out], rfl⟩
        rw [decide_eq_true h3]
        have K3 := Lib.hid h3
        clear h3
        go_wp2_with fail
        refine (V4.out _).mono ?_
        rintro e w5 ⟨rfl, rfl⟩
        by_cases h4 : TableP.up words 0 16
        case neg =>
          have Y : Hid (decide (TableP.up node 0 ((nd : Int) - 1) ∧ TableP.up start 0 268435456 ∧ TableP.up length 1 268435456 ∧ TableP.up budget 0 64 ∧ TableP.up words 0 16) = false) := Lib.hid (decide_eq_false (fun h => h4 h.2.2.2.2))
          rw [decide_eq_false h4]
          clear h4
          go_wp2_with fail
          go_meet
          exact ⟨by rw [Y.out], rfl⟩
        rw [decide_eq_true h4]
        have K4 := Lib.hid h4
        clear h4
        go_wp2_with fail
        have Y : Hid (decide (TableP.up node 0 ((nd : Int) - 1) ∧ TableP.up start 0 268435456 ∧ TableP.up length 1 268435456 ∧ TableP.up budget 0 64 ∧ TableP.up words 0 16) = true) := Lib.hid (decide_eq_true ⟨K0.out, K1.out, K2.out, K3.out, K4.out⟩)
        go_meet
        exact ⟨by rw [Y.out], rfl⟩
      case rest =>
        obtain ⟨rfl, rfl⟩ := hcut
        clear V0 V1 V2 V3 V4 kA c0 c1 c2 c3 c4 c5 c6 c7 c8
        obtain ⟨up, hup⟩ : ∃ up, up = decide (TableP.up node 0 ((nd : Int) - 1) ∧ TableP.up start 0 268435456 ∧ TableP.up length 1 268435456 ∧ TableP.up budget 0 64 ∧ TableP.up words 0 16) := ⟨_, rfl⟩
        have Hup : Hid (up = true ↔ TableP.up node 0 ((nd : Int) - 1) ∧ TableP.up start 0 268435456 ∧ TableP.up length 1 268435456 ∧ TableP.up budget 0 64 ∧ TableP.up words 0 16) := Lib.hid (by rw [hup]; exact decide_eq_true_iff)
        rw [← hup]
        clear hup
        go_wp2_with fail
        go_loopw [5, 6] (fun o i wx => (∃ q : Nat, q ≤ 4 ∧ i = .int .i64 (q : Nat) ∧ ∃ bb : Bool, o = .bool bb ∧ (bb = true ↔ up = true ∧ (0 < q → r0 ≤ 3) ∧ (1 < q → r1 ≤ 3) ∧ (2 < q → r2 ≤ 3) ∧ (3 < q → r3 ≤ 3))) ∧ wx = (wr.alloc (.cells #[.int .i64 node, .int .i64 start, .int .i64 length, .int .i64 budget, .int .i64 words, .int .u8 (r0 : Nat), .int .u8 (r1 : Nat), .int .u8 (r2 : Nat), .int .u8 (r3 : Nat)] 39))) (fun _ i _ => (5 - intOf i).toNat)
        case atStart => exact ⟨⟨0, by omega, rfl, up, rfl, by simp⟩, rfl⟩
        case round =>
          obtain ⟨⟨q, hq, rfl, bb, rfl, hbb⟩, rfl⟩ := hrel
          have Hbb := Lib.hid hbb
          clear hbb
          by_cases hq4 : q < 4
          case neg =>
            obtain rfl : q = 4 := by omega
            have Hy : Hid (bb = true ↔ TableP.partOk (nd : Int) ⟨node, start, length, budget, words, r0, r1, r2, r3⟩) := Lib.hid (by
              rw [Hbb.out, Hup.out]
              simp [TableP.partOk, and_assoc])
            clear Hbb Hup
            cases bb with
            | true =>
              have HR0 := Lib.hid (Hnx.out (Hy.out.1 rfl))
              clear Hnx Hbad Hy HN
              go_wp2_with fail
              go_roundw
              case rel => exact HR0.out _ ((Below.refl _ _).alloc (Nat.le_refl _) _)
              case measure => simp [intOf]; omega
            | false =>
              have HR0 := Lib.hid (Hbad.out (fun h => by have := Hy.out.2 h; cases this))
              clear Hnx Hbad Hy
              go_wp2_with fail
              refine (HN.out _).mono ?_
              rintro e w9 ⟨rfl, hb9⟩
              have Hb9 := Lib.hid hb9
              clear hb9
              go_wp2_with fail
              go_ret
              exact HR0.out _ (((Below.refl _ _).alloc (Nat.le_refl _) _).trans (Hb9.out.mono (by simp)))
          have q5 : decide ((q : Int) < 4) = true := decide_eq_true (by omega)
          cases bb with
          | false =>
            have HR0 : Hid (false = true ↔ up = true ∧ (0 < q + 1 → r0 ≤ 3) ∧ (1 < q + 1 → r1 ≤ 3) ∧ (2 < q + 1 → r2 ≤ 3) ∧ (3 < q + 1 → r3 ≤ 3)) := Lib.hid (Iff.intro (fun h => by cases h) (fun h => Hbb.out.2 ⟨h.1, fun h3 => h.2.1 (by omega), fun h3 => h.2.2.1 (by omega), fun h3 => h.2.2.2.1 (by omega), fun h3 => h.2.2.2.2 (by omega)⟩))
            clear Hbb Hup Hnx Hbad HN
            go_wp2_with fail
            go_roundw
            case rel => exact ⟨⟨q + 1, by omega, by go_num, false, rfl, HR0.out⟩, trivial⟩
            case measure => simp [intOf]; omega
          | true =>
            have hq5 : q = 0 ∨ q = 1 ∨ q = 2 ∨ q = 3 := by omega
            have HU := Lib.hid (Hbb.out.1 rfl)
            clear Hbb Hup Hnx Hbad HN q5 hq4
            rcases hq5 with rfl | rfl | rfl | rfl
            · have y : decide ((r0 : Int) ≤ 3) = decide (r0 ≤ 3) := decide_eq_decide.2 (by omega)
              have HR0 : Hid (decide (r0 ≤ 3) = true ↔ up = true ∧ (0 < 1 → r0 ≤ 3) ∧ (1 < 1 → r1 ≤ 3) ∧ (2 < 1 → r2 ≤ 3) ∧ (3 < 1 → r3 ≤ 3)) := Lib.hid (by
                have hU := HU.out
                rw [decide_eq_true_iff]
                simp at hU ⊢
                simp [hU])
              go_wp2_with fail
              go_roundw
              case rel => exact ⟨⟨1, by omega, rfl, _, rfl, HR0.out⟩, trivial⟩
              case measure => simp [intOf]
            · have y : decide ((r1 : Int) ≤ 3) = decide (r1 ≤ 3) := decide_eq_decide.2 (by omega)
              have HR0 : Hid (decide (r1 ≤ 3) = true ↔ up = true ∧ (0 < 2 → r0 ≤ 3) ∧ (1 < 2 → r1 ≤ 3) ∧ (2 < 2 → r2 ≤ 3) ∧ (3 < 2 → r3 ≤ 3)) := Lib.hid (by
                have hU := HU.out
                rw [decide_eq_true_iff]
                simp at hU ⊢
                simp [hU])
              go_wp2_with fail
              go_roundw
              case rel => exact ⟨⟨2, by omega, rfl, _, rfl, HR0.out⟩, trivial⟩
              case measure => simp [intOf]
            · have y : decide ((r2 : Int) ≤ 3) = decide (r2 ≤ 3) := decide_eq_decide.2 (by omega)
              have HR0 : Hid (decide (r2 ≤ 3) = true ↔ up = true ∧ (0 < 3 → r0 ≤ 3) ∧ (1 < 3 → r1 ≤ 3) ∧ (2 < 3 → r2 ≤ 3) ∧ (3 < 3 → r3 ≤ 3)) := Lib.hid (by
                have hU := HU.out
                rw [decide_eq_true_iff]
                simp at hU ⊢
                simp [hU])
              go_wp2_with fail
              go_roundw
              case rel => exact ⟨⟨3, by omega, rfl, _, rfl, HR0.out⟩, trivial⟩
              case measure => simp [intOf]
            · have y : decide ((r3 : Int) ≤ 3) = decide (r3 ≤ 3) := decide_eq_decide.2 (by omega)
              have HR0 : Hid (decide (r3 ≤ 3) = true ↔ up = true ∧ (0 < 4 → r0 ≤ 3) ∧ (1 < 4 → r1 ≤ 3) ∧ (2 < 4 → r2 ≤ 3) ∧ (3 < 4 → r3 ≤ 3)) := Lib.hid (by
                have hU := HU.out
                rw [decide_eq_true_iff]
                simp at hU ⊢
                simp [hU])
              go_wp2_with fail
              go_roundw
              case rel => exact ⟨⟨4, by omega, rfl, _, rfl, HR0.out⟩, trivial⟩
              case measure => simp [intOf]
    have hkn : pn = k := by omega
    have hnone : TableP.first (TableP.partOk (nd : Int)) 2 0 parts = none := by
      rw [← Hck.out]; exact first_end (by omega)
    obtain ⟨hs1, hs2⟩ := HE2.out hnone
    have HE3 := Lib.hid hs1
    have HE4 := Lib.hid hs2
    clear HE1 HE2 hs1 hs2 hnone Hck kA
    have HST := Lib.hid Hb.out
    clear Hb Hbw Hfr
    subst hkn
    go_wp2_with fail
    clear k0 k8 k9 k10
    go_loopw [7] (ChkRel (TableP.portOk pn) 8 ports qn (w.alloc (.cells #[.int .i64 (nd : Nat), .int .i64 faulty, .int .i64 slot, .int .i64 gap, .int .i64 rho, .int .i64 dmin, .int .i64 dmax, .int .i64 margin, .slice PA pn pcap, .slice QA qn qcap, .slice RA rn rcap] 26))) (fun i _ => (qn + 1 - intOf i).toNat)
    case atStart => exact ⟨0, Nat.zero_le _, rfl, rfl, HST.out⟩
    case round =>
      clear HST
      obtain ⟨k, hk, rfl, hck, hb⟩ := hrel
      have Hb := Lib.hid hb
      have Hck := Lib.hid hck
      have hbw : Below w.heap.size w wr := HB.out.trans (hb.mono (by rw [HS.out]; omega))
      have Hbw := Lib.hid hbw
      have Hfr := Lib.hid (HFr.out.below hbw)
      obtain ⟨k0, -, -, -, -, -, -, -, k8, k9, k10⟩ := HX.out wr hb
      simp only at k0 k8 k9 k10
      have kA : ∀ o, (wr.alloc o).cell? ⟨w.heap.size, 8, none⟩ = some (.slice PA pn pcap) := fun o => (HX.out _ (hb.alloc hb.size o)).c8
      clear hbw hb hck
      by_cases hlt : k < qn
      · obtain ⟨⟨part, kind, out, size, depth, fresh⟩, hmk⟩ : ∃ y, ports[k]? = some y := ⟨_, List.getElem?_eq_getElem (by omega)⟩
        obtain ⟨b, off, e, hbl, c0, c1, c2, c3, c4, c5⟩ := ports_at Hfr.out.ports hmk
        simp only at e c0 c1 c2 c3 c4 c5
        have hwn := nat_pred (n := pn) (by omega)
        have Hst := Lib.hid (first_step (ok := TableP.portOk pn) (code := 8) hmk)
        have Hnx : Hid ((TableP.portOk pn) ⟨part, kind, out, size, depth, fresh⟩ → ∀ W, Below wr.heap.size wr W → ChkRel (TableP.portOk pn) 8 ports qn (w.alloc (.cells #[.int .i64 (nd : Nat), .int .i64 faulty, .int .i64 slot, .int .i64 gap, .int .i64 rho, .int .i64 dmin, .int .i64 dmax, .int .i64 margin, .slice PA pn pcap, .slice QA qn qcap, .slice RA rn rcap] 26)) (.int .i64 ((k : Int) + 1)) W) := Lib.hid fun hy W hW => by
          refine ⟨k + 1, by omega, by go_num, ?_, Hb.out.trans (hW.mono Hb.out.size)⟩
          rw [← Hck.out, Hst.out, if_pos hy]
        have Hbad : Hid (¬ (TableP.portOk pn) ⟨part, kind, out, size, depth, fresh⟩ → ∀ W, Below wr.heap.size wr W → RefChkPost R w (.returned (.string ⟨(atT 8 (k : Int)).toArray⟩)) W) := Lib.hid fun hy W hW => by
          have h0 := Hck.out
          rw [Hst.out, if_neg hy] at h0
          rw [HE3.out _ h0.symm]
          exact ⟨rfl, Hbw.out.trans (hW.mono Hbw.out.size)⟩
        have HN := Lib.hid (fun W => HA.out 8 (k : Int) W (by omega) (by omega))
        clear hmk Hst Hfr
        subst e
        have V0 : Hid (∀ W, Calls Try.prog 32 #[.int .i64 part, .int .i64 0, .int .i64 ((pn : Int) - 1)] W (Pure (.bool (decide (TableP.up part 0 ((pn : Int) - 1)))) W)) := Lib.hid fun W => up_any part 0 ((pn : Int) - 1) W
        have V1 : Hid (∀ W, Calls Try.prog 32 #[.int .i64 size, .int .i64 0, .int .i64 16] W (Pure (.bool (decide (TableP.up size 0 16))) W)) := Lib.hid fun W => up_any size 0 16 W
        have V2 : Hid (∀ W, Calls Try.prog 32 #[.int .i64 fresh, .int .i64 0, .int .i64 8] W (Pure (.bool (decide (TableP.up fresh 0 8))) W)) := Lib.hid fun W => up_any fresh 0 8 W
        have V3 : Hid (∀ W, Calls Try.prog 32 #[.int .i64 depth, .int .i64 1, .int .i64 4] W (Pure (.bool (decide (TableP.up depth 1 4))) W)) := Lib.hid fun W => up_any depth 1 4 W
        by_cases hk1 : kind = 1
        · have y1 : ((kind : Int) == 1) = true := by rw [hk1]; rfl
          by_cases h0 : TableP.up part 0 ((pn : Int) - 1)
          case neg =>
            rw [decide_eq_false h0] at V0
            have HR0 := Lib.hid (Hbad.out (fun h => h0 h.1))
            clear Hnx Hbad
            clear V1 V2 V3 h0 hk1
            go_wp2_with fail
            refine (V0.out _).mono ?_
            rintro e w1 ⟨rfl, rfl⟩
            go_wp2_with fail
            refine (HN.out _).mono ?_
            rintro e w9 ⟨rfl, hb9⟩
            have Hb9 := Lib.hid hb9
            clear hb9
            go_wp2_with fail
            go_ret
            exact HR0.out _ (((Below.refl _ _).alloc (Nat.le_refl _) _).trans (Hb9.out.mono (by simp)))
          rw [decide_eq_true h0] at V0
          by_cases h1 : TableP.up size 0 16
          case neg =>
            rw [decide_eq_false h1] at V1
            have HR0 := Lib.hid (Hbad.out (fun h => h1 h.2.1))
            clear Hnx Hbad
            clear V2 V3 h0 h1 hk1
            go_wp2_with fail
            refine (V0.out _).mono ?_
            rintro e w1 ⟨rfl, rfl⟩
            go_wp2_with fail
            refine (V1.out _).mono ?_
            rintro e w1 ⟨rfl, rfl⟩
            go_wp2_with fail
            refine (HN.out _).mono ?_
            rintro e w9 ⟨rfl, hb9⟩
            have Hb9 := Lib.hid hb9
            clear hb9
            go_wp2_with fail
            go_ret
            exact HR0.out _ (((Below.refl _ _).alloc (Nat.le_refl _) _).trans (Hb9.out.mono (by simp)))
          rw [decide_eq_true h1] at V1
          by_cases h2 : depth = 0
          case neg =>
            have y2 : (depth == 0) = false := by rw [beq_eq_false_iff_ne]; exact h2
            have HR0 := Lib.hid (Hbad.out (fun h => by rcases h.2.2 with ⟨_, h4, _⟩ | ⟨h4, _⟩; exact h2 h4; simp only at h4; omega))
            clear Hnx Hbad
            clear V2 V3 h0 h1 h2 hk1
            go_wp2_with fail
            refine (V0.out _).mono ?_
            rintro e w1 ⟨rfl, rfl⟩
            go_wp2_with fail
            refine (V1.out _).mono ?_
            rintro e w1 ⟨rfl, rfl⟩
            go_wp2_with fail
            refine (HN.out _).mono ?_
            rintro e w9 ⟨rfl, hb9⟩
            have Hb9 := Lib.hid hb9
            clear hb9
            go_wp2_with fail
            go_ret
            exact HR0.out _ (((Below.refl _ _).alloc (Nat.le_refl _) _).trans (Hb9.out.mono (by simp)))
          have y2 : (depth == 0) = true := by rw [h2]; rfl
          by_cases h3 : TableP.up fresh 0 8
          case neg =>
            rw [decide_eq_false h3] at V2
            have HR0 := Lib.hid (Hbad.out (fun h => by rcases h.2.2 with ⟨_, _, h4, _⟩ | ⟨h4, _⟩; exact h3 h4; simp only at h4; omega))
            clear Hnx Hbad
            clear V3 h0 h1 h2 h3 hk1
            go_wp2_with fail
            refine (V0.out _).mono ?_
            rintro e w1 ⟨rfl, rfl⟩
            go_wp2_with fail
            refine (V1.out _).mono ?_
            rintro e w1 ⟨rfl, rfl⟩
            go_wp2_with fail
            refine (V2.out _).mono ?_
            rintro e w1 ⟨rfl, rfl⟩
            go_wp2_with fail
            refine (HN.out _).mono ?_
            rintro e w9 ⟨rfl, hb9⟩
            have Hb9 := Lib.hid hb9
            clear hb9
            go_wp2_with fail
            go_ret
            exact HR0.out _ (((Below.refl _ _).alloc (Nat.le_refl _) _).trans (Hb9.out.mono (by simp)))
          rw [decide_eq_true h3] at V2
          by_cases h4 : out = true
          · by_cases h5 : fresh = 0
            · have y3 : (fresh != 0) = false := by rw [h5]; rfl
              subst h4
              have HR0 := Lib.hid (Hnx.out (⟨h0, h1, .inl ⟨hk1, h2, h3, fun h => h.2 h5⟩⟩))
              clear Hnx Hbad HN
              clear V3 h0 h1 h2 h3 h5 hk1
              go_wp2_with fail
              refine (V0.out _).mono ?_
              rintro e w1 ⟨rfl, rfl⟩
              go_wp2_with fail
              refine (V1.out _).mono ?_
              rintro e w1 ⟨rfl, rfl⟩
              go_wp2_with fail
              refine (V2.out _).mono ?_
              rintro e w1 ⟨rfl, rfl⟩
              go_wp2_with fail
              go_roundw
              case rel => exact HR0.out _ ((Below.refl _ _).alloc (Nat.le_refl _) _)
              case measure => simp [intOf]; omega
            · have y3 : (fresh != 0) = true := by rw [bne_iff_ne]; exact h5
              subst h4
              have HR0 := Lib.hid (Hbad.out (fun h => by rcases h.2.2 with ⟨_, _, _, h4⟩ | ⟨h4, _⟩; exact h4 ⟨rfl, h5⟩; simp only at h4; omega))
              clear Hnx Hbad
              clear V3 h0 h1 h2 h3 h5 hk1
              go_wp2_with fail
              refine (V0.out _).mono ?_
              rintro e w1 ⟨rfl, rfl⟩
              go_wp2_with fail
              refine (V1.out _).mono ?_
              rintro e w1 ⟨rfl, rfl⟩
              go_wp2_with fail
              refine (V2.out _).mono ?_
              rintro e w1 ⟨rfl, rfl⟩
              go_wp2_with fail
              refine (HN.out _).mono ?_
              rintro e w9 ⟨rfl, hb9⟩
              have Hb9 := Lib.hid hb9
              clear hb9
              go_wp2_with fail
              go_ret
              exact HR0.out _ (((Below.refl _ _).alloc (Nat.le_refl _) _).trans (Hb9.out.mono (by simp)))
          · have h5 : out = false := by cases out <;> simp at h4 ⊢
            subst h5
            have HR0 := Lib.hid (Hnx.out (⟨h0, h1, .inl ⟨hk1, h2, h3, fun h => by cases h.1⟩⟩))
            clear Hnx Hbad HN
            clear V3 h0 h1 h2 h3 h4 hk1
            go_wp2_with fail
            refine (V0.out _).mono ?_
            rintro e w1 ⟨rfl, rfl⟩
            go_wp2_with fail
            refine (V1.out _).mono ?_
            rintro e w1 ⟨rfl, rfl⟩
            go_wp2_with fail
            refine (V2.out _).mono ?_
            rintro e w1 ⟨rfl, rfl⟩
            go_wp2_with fail
            go_roundw
            case rel => exact HR0.out _ ((Below.refl _ _).alloc (Nat.le_refl _) _)
            case measure => simp [intOf]; omega
        · have y1 : ((kind : Int) == 1) = false := by rw [beq_eq_false_iff_ne]; omega
          by_cases h0 : TableP.up part 0 ((pn : Int) - 1)
          case neg =>
            rw [decide_eq_false h0] at V0
            have HR0 := Lib.hid (Hbad.out (fun h => h0 h.1))
            clear Hnx Hbad
            clear V1 V2 V3 h0 hk1
            go_wp2_with fail
            refine (V0.out _).mono ?_
            rintro e w1 ⟨rfl, rfl⟩
            go_wp2_with fail
            refine (HN.out _).mono ?_
            rintro e w9 ⟨rfl, hb9⟩
            have Hb9 := Lib.hid hb9
            clear hb9
            go_wp2_with fail
            go_ret
            exact HR0.out _ (((Below.refl _ _).alloc (Nat.le_refl _) _).trans (Hb9.out.mono (by simp)))
          rw [decide_eq_true h0] at V0
          by_cases h1 : TableP.up size 0 16
          case neg =>
            rw [decide_eq_false h1] at V1
            have HR0 := Lib.hid (Hbad.out (fun h => h1 h.2.1))
            clear Hnx Hbad
            clear V2 V3 h0 h1 hk1
            go_wp2_with fail
            refine (V0.out _).mono ?_
            rintro e w1 ⟨rfl, rfl⟩
            go_wp2_with fail
            refine (V1.out _).mono ?_
            rintro e w1 ⟨rfl, rfl⟩
            go_wp2_with fail
            refine (HN.out _).mono ?_
            rintro e w9 ⟨rfl, hb9⟩
            have Hb9 := Lib.hid hb9
            clear hb9
            go_wp2_with fail
            go_ret
            exact HR0.out _ (((Below.refl _ _).alloc (Nat.le_refl _) _).trans (Hb9.out.mono (by simp)))
          rw [decide_eq_true h1] at V1
          by_cases h2 : kind = 2
          case neg =>
            have y2 : ((kind : Int) == 2) = false := by rw [beq_eq_false_iff_ne]; omega
            have HR0 := Lib.hid (Hbad.out (fun h => by rcases h.2.2 with ⟨h4, _⟩ | ⟨h4, _⟩; exact hk1 h4; exact h2 h4))
            clear Hnx Hbad
            clear V2 V3 h0 h1 h2 hk1
            go_wp2_with fail
            refine (V0.out _).mono ?_
            rintro e w1 ⟨rfl, rfl⟩
            go_wp2_with fail
            refine (V1.out _).mono ?_
            rintro e w1 ⟨rfl, rfl⟩
            go_wp2_with fail
            refine (HN.out _).mono ?_
            rintro e w9 ⟨rfl, hb9⟩
            have Hb9 := Lib.hid hb9
            clear hb9
            go_wp2_with fail
            go_ret
            exact HR0.out _ (((Below.refl _ _).alloc (Nat.le_refl _) _).trans (Hb9.out.mono (by simp)))
          have y2 : ((kind : Int) == 2) = true := by rw [h2]; rfl
          by_cases h3 : TableP.up depth 1 4
          case neg =>
            rw [decide_eq_false h3] at V3
            have HR0 := Lib.hid (Hbad.out (fun h => by rcases h.2.2 with ⟨h4, _⟩ | ⟨_, h4, _⟩; exact hk1 h4; exact h3 h4))
            clear Hnx Hbad
            clear V2 h0 h1 h2 h3 hk1
            go_wp2_with fail
            refine (V0.out _).mono ?_
            rintro e w1 ⟨rfl, rfl⟩
            go_wp2_with fail
            refine (V1.out _).mono ?_
            rintro e w1 ⟨rfl, rfl⟩
            go_wp2_with fail
            refine (V3.out _).mono ?_
            rintro e w1 ⟨rfl, rfl⟩
            go_wp2_with fail
            refine (HN.out _).mono ?_
            rintro e w9 ⟨rfl, hb9⟩
            have Hb9 := Lib.hid hb9
            clear hb9
            go_wp2_with fail
            go_ret
            exact HR0.out _ (((Below.refl _ _).alloc (Nat.le_refl _) _).trans (Hb9.out.mono (by simp)))
          rw [decide_eq_true h3] at V3
          by_cases h4 : fresh = 0
          · have y3 : (fresh == 0) = true := by rw [h4]; rfl
            have HR0 := Lib.hid (Hnx.out (⟨h0, h1, .inr ⟨h2, h3, h4⟩⟩))
            clear Hnx Hbad HN
            clear V2 h0 h1 h2 h3 h4 hk1
            go_wp2_with fail
            refine (V0.out _).mono ?_
            rintro e w1 ⟨rfl, rfl⟩
            go_wp2_with fail
            refine (V1.out _).mono ?_
            rintro e w1 ⟨rfl, rfl⟩
            go_wp2_with fail
            refine (V3.out _).mono ?_
            rintro e w1 ⟨rfl, rfl⟩
            go_wp2_with fail
            go_roundw
            case rel => exact HR0.out _ ((Below.refl _ _).alloc (Nat.le_refl _) _)
            case measure => simp [intOf]; omega
          · have y3 : (fresh == 0) = false := by rw [beq_eq_false_iff_ne]; exact h4
            have HR0 := Lib.hid (Hbad.out (fun h => by rcases h.2.2 with ⟨h5, _⟩ | ⟨_, _, h5⟩; exact hk1 h5; exact h4 h5))
            clear Hnx Hbad
            clear V2 h0 h1 h2 h3 h4 hk1
            go_wp2_with fail
            refine (V0.out _).mono ?_
            rintro e w1 ⟨rfl, rfl⟩
            go_wp2_with fail
            refine (V1.out _).mono ?_
            rintro e w1 ⟨rfl, rfl⟩
            go_wp2_with fail
            refine (V3.out _).mono ?_
            rintro e w1 ⟨rfl, rfl⟩
            go_wp2_with fail
            refine (HN.out _).mono ?_
            rintro e w9 ⟨rfl, hb9⟩
            have Hb9 := Lib.hid hb9
            clear hb9
            go_wp2_with fail
            go_ret
            exact HR0.out _ (((Below.refl _ _).alloc (Nat.le_refl _) _).trans (Hb9.out.mono (by simp)))
      have hkn : qn = k := by omega
      have hnone : TableP.first (TableP.portOk pn) 8 0 ports = none := by
        rw [← Hck.out]; exact first_end (by omega)
      have hR := HE4.out hnone
      subst hR
      clear HE3 HE4 hnone Hck kA
      subst hkn
      have HST := Lib.hid Hb.out
      clear Hb Hbw Hfr
      go_wp2_with fail
      clear k0 k8 k9 k10
      go_loopw [10] (ChkRel (TableP.routeOk qn) 72 routes rn (w.alloc (.cells #[.int .i64 (nd : Nat), .int .i64 faulty, .int .i64 slot, .int .i64 gap, .int .i64 rho, .int .i64 dmin, .int .i64 dmax, .int .i64 margin, .slice PA pn pcap, .slice QA qn qcap, .slice RA rn rcap] 26))) (fun i _ => (rn + 1 - intOf i).toNat)
      case atStart => exact ⟨0, Nat.zero_le _, rfl, rfl, HST.out⟩
      case round =>
        clear HST
        obtain ⟨k, hk, rfl, hck, hb⟩ := hrel
        have Hb := Lib.hid hb
        have Hck := Lib.hid hck
        have hbw : Below w.heap.size w wr := HB.out.trans (hb.mono (by rw [HS.out]; omega))
        have Hbw := Lib.hid hbw
        have Hfr := Lib.hid (HFr.out.below hbw)
        obtain ⟨k0, -, -, -, -, -, -, -, k8, k9, k10⟩ := HX.out wr hb
        simp only at k0 k8 k9 k10
        have kA : ∀ o, (wr.alloc o).cell? ⟨w.heap.size, 9, none⟩ = some (.slice QA qn qcap) := fun o => (HX.out _ (hb.alloc hb.size o)).c9
        clear hbw hb hck
        by_cases hlt : k < rn
        · obtain ⟨⟨src, dst⟩, hmk⟩ : ∃ y, routes[k]? = some y := ⟨_, List.getElem?_eq_getElem (by omega)⟩
          obtain ⟨b, off, e, hbl, c0, c1⟩ := routes_at Hfr.out.routes hmk
          simp only at e c0 c1
          have hwn := nat_pred (n := qn) (by omega)
          have hltI : (k : Int) < (rn : Int) := by omega
          have hk0 : (0 : Int) ≤ (k : Int) := by omega
          have Hst := Lib.hid (first_step (ok := TableP.routeOk qn) (code := 72) hmk)
          have Hnx : Hid ((TableP.routeOk qn) ⟨src, dst⟩ → ∀ W, Below wr.heap.size wr W → ChkRel (TableP.routeOk qn) 72 routes rn (w.alloc (.cells #[.int .i64 (nd : Nat), .int .i64 faulty, .int .i64 slot, .int .i64 gap, .int .i64 rho, .int .i64 dmin, .int .i64 dmax, .int .i64 margin, .slice PA pn pcap, .slice QA qn qcap, .slice RA rn rcap] 26)) (.int .i64 ((k : Int) + 1)) W) := Lib.hid fun hy W hW => by
            refine ⟨k + 1, by omega, by go_num, ?_, Hb.out.trans (hW.mono Hb.out.size)⟩
            rw [← Hck.out, Hst.out, if_pos hy]
          have Hbad : Hid (¬ (TableP.routeOk qn) ⟨src, dst⟩ → ∀ W, Below wr.heap.size wr W → RefChkPost (TableP.first (TableP.routeOk qn) 72 0 routes) w (.returned (.string ⟨(atT 72 (k : Int)).toArray⟩)) W) := Lib.hid fun hy W hW => by
            have h0 := Hck.out
            rw [Hst.out, if_neg hy] at h0
            rw [← h0]
            exact ⟨rfl, Hbw.out.trans (hW.mono Hbw.out.size)⟩
          have HN := Lib.hid (fun W => HA.out 72 (k : Int) W (by omega) (by omega))
          clear hmk Hst Hfr
          subst e
          have V0 := Lib.hid (fun W => up_any src 0 ((qn : Int) - 1) W)
          have V1 := Lib.hid (fun W => up_any dst 0 ((qn : Int) - 1) W)
          have hbd : ∀ m, Below wr.heap.size wr (wr.drewN m) := fun m => below_drewN' (Below.refl _ _) m
          have Hbd := Lib.hid hbd
          clear hbd kA
          by_cases h0 : TableP.up src 0 ((qn : Int) - 1)
          case neg =>
            have HR0 := Lib.hid (Hbad.out (fun h => h0 h.1))
            rw [decide_eq_false h0] at V0
            clear Hnx Hbad h0 V1
            go_wp2_with fail
            go_quiet ((go_at_call 32; exact quiet_pure (V0.out _)))
            go_wp2_with fail
            refine (HN.out _).mono ?_
            rintro e w9 ⟨rfl, hb9⟩
            have Hb9 := Lib.hid hb9
            clear hb9
            go_wp2_with fail
            go_ret
            exact HR0.out _ ((Hbd.out _).trans (Hb9.out.mono (Hbd.out _).size))
          rw [decide_eq_true h0] at V0
          by_cases h1 : TableP.up dst 0 ((qn : Int) - 1)
          case neg =>
            have HR0 := Lib.hid (Hbad.out (fun h => h1 h.2))
            rw [decide_eq_false h1] at V1
            clear Hnx Hbad h0 h1
            go_wp2_with fail
            go_quiet ((first | (go_at_call_of 32 src; exact quiet_pure (V0.out _)) | (go_at_call_of 32 dst; exact quiet_pure (V1.out _))))
            go_wp2_with fail
            refine (HN.out _).mono ?_
            rintro e w9 ⟨rfl, hb9⟩
            have Hb9 := Lib.hid hb9
            clear hb9
            go_wp2_with fail
            go_ret
            exact HR0.out _ ((Hbd.out _).trans (Hb9.out.mono (Hbd.out _).size))
          rw [decide_eq_true h1] at V1
          have HR0 := Lib.hid (Hnx.out ⟨h0, h1⟩)
          clear Hnx Hbad h0 h1 HN
          go_wp2_with fail
          go_quiet ((first | (go_at_call_of 32 src; exact quiet_pure (V0.out _)) | (go_at_call_of 32 dst; exact quiet_pure (V1.out _))))
          go_wp2_with fail
          go_roundw
          case rel => exact HR0.out _ (Hbd.out _)
          case measure => simp [intOf]; omega
        have hkn : rn = k := by omega
        have hnone : TableP.first (TableP.routeOk qn) 72 0 routes = none := by
          rw [← Hck.out]; exact first_end (by omega)
        have HF : Hid (RefChkPost (TableP.first (TableP.routeOk qn) 72 0 routes) w (.returned (.string ⟨#[]⟩)) wr) := Lib.hid (by rw [hnone]; exact ⟨rfl, Hbw.out⟩)
        subst hkn
        clear hnone
        go_wp2_with fail
        go_ret
        exact HF.out

/-- The document's Check: of any tables. -/
theorem refcheck_any (x : CfgC) (w : World) (h : CfgIn w x) :
    Calls Try.prog 24 #[x.value] w (RefChkPost (TableP.chk x.plain) w) := by
  by_cases h1 : TableP.headOk x.plain
  · by_cases h2 : 12 < x.pn ∨ 24 < x.qn ∨ 24 < x.rn
    · exact refcheck_many x w h1 h2 h
    · exact refcheck_rest x w h h1 h2
  · exact refcheck_head x w h1
end Go.Proofs.Ytfgpfmhjnccccaa
