/- The walk of the law FaultChain: it tells true, and nothing that was there turns. Conditions: errors.errorType holds the type error; what made makes of the argument. -/
import Derived.Test.YtinjaidmoghjjaaDoorErrU
import Derived.Deep.RegionHeld3
import Derived.IntWalk
namespace Go.Proofs.YtinjaidmoghjjaaDoor
open Go.RowKit Go.Extern.Stop Go.Stop Go.Extern

def InRel (n i : Nat) (W : World) (v : Value) (wr : World) : Prop := ∃ j, i + j ≤ n ∧ v = .int .i64 (j : Nat) ∧ Below W.heap.size W wr

theorem heldB {g i k : Nat} {x y : Value} {w3 W : World} (h : W.cell? ⟨g, i, none⟩ = some x ∧ W.cell? ⟨g, k, none⟩ = some y ∧ Below w3.heap.size w3 W) : Below w3.heap.size w3 W := h.2.2
theorem heldStep {g i k : Nat} {x y : Value} {w3 W w' : World} (hb : Below W.heap.size W w') (hgl : g < w3.heap.size) (h : W.cell? ⟨g, i, none⟩ = some x ∧ W.cell? ⟨g, k, none⟩ = some y ∧ Below w3.heap.size w3 W) :
    w'.cell? ⟨g, i, none⟩ = some x ∧ w'.cell? ⟨g, k, none⟩ = some y ∧ Below w3.heap.size w3 w' := by
  have hs := h.2.2.size
  exact ⟨(hb.cell (p := ⟨g, i, none⟩) (by show g < _; omega)).trans h.1, (hb.cell (p := ⟨g, k, none⟩) (by show g < _; omega)).trans h.2.1, h.2.2.trans (hb.mono hs)⟩

set_option maxRecDepth 100000 in
set_option maxHeartbeats 4000000 in
theorem chain_law (a : Option Addr) (len cap : Nat) (w : World) (hg : HasType w) (hmade : ∀ W, Below w.heap.size w W → Calls Tryd.prog 7 #[.slice a len cap] W (MadePost W)) :
    Calls Tryd.prog 5 #[.slice a len cap] w fun e w' => e = .returned (.bool true) ∧ Below w.heap.size w w' := by
  have HA := Lib.hid (awake_any w hg)
  have HM := Lib.hid hmade
  have Hg := Lib.hid hg
  clear hg hmade
  go_enter Tryd.func5, Tryd.ntmps5
  go_wp2_with fail
  refine HA.out.mono ?_
  rintro e w1 ⟨rfl, hb1⟩
  have K1 := Lib.hid (HM.out w1 hb1)
  have B1 := Lib.hid hb1
  clear hb1
  go_wp2_with fail
  refine K1.out.mono ?_
  rintro e w2 ⟨l, t, rfl, ⟨hl, hin, hgood⟩, hb2⟩
  have B2 := Lib.hid (B1.out.trans (hb2.mono B1.out.size))
  have hg2 : HasType w2 := Hg.out.keep (B2.out.block 0 Hg.out.pos)
  have hl12 : l.length ≤ 12 := by omega
  have K2 : Hid (Calls Tryd.prog 9 #[errV l t] w2 fun e w' => ∃ v, e = .returned v ∧ w'.ownsRow (w2.heap.size + 1) 33 1 v (codes l t).length ((codes l t).map (.int .i64)) ∧ Below w2.heap.size w2 w') :=
    Lib.hid (trail_any w2.heap.size l t w2 (by omega) hg2 (Nat.le_refl _) hin)
  have Hin := Lib.hid hin
  have Hg2 := Lib.hid hg2
  have Hl12 := Lib.hid hl12
  have hn13 : (codes l t).length ≤ 13 := by rw [codes_len]; omega
  have e0 := errAt_zero l t
  rw [← e0] at K2 ⊢
  have hv0 : errAt l t 0 = .nilIface ∨ (∃ m, errAt l t 0 = .iface 33 (.int .i64 m)) ∨ ∃ b, errAt l t 0 = .iface 36 (.pointer (some ⟨b, 0, none⟩)) := by rw [e0]; exact errV_cases l t
  generalize strV (sufT t true l) = tx at *
  generalize hE0 : errAt l t 0 = E0 at *
  have HE0 := Lib.hid hE0
  clear hE0 e0 hb2 hg2 hin hgood hl hl12 B1 K1
  go_wp2_with fail
  refine K2.out.mono ?_
  rintro e w3 ⟨v, rfl, ho, hb3⟩
  have B3 := Lib.hid (B2.out.trans (hb3.mono B2.out.size))
  have HT := Lib.hid (Hg2.out.keep (hb3.block 0 Hg2.out.pos))
  have HI := Lib.hid ((Hin.out.below hb3 (Nat.le_refl _)).mono hb3.size)
  have HA3 : Hid (∀ i, i < (codes l t).length → Asks l t w3 i) := Lib.hid fun i hi => asks l t w3 Hl12.out HT.out HI.out i hi
  have Hv : Hid ((codes l t).length = 0 ∨ ∃ g cap', v = .slice (some ⟨g, 0, none⟩) (codes l t).length cap' ∧ (codes l t).length ≤ cap' ∧ g < w3.heap.size ∧ ∀ j, j < (codes l t).length → w3.cell? ⟨g, j, none⟩ = some (.int .i64 ((codes l t).getD j 0))) := Lib.hid (by
    rcases Nat.eq_zero_or_pos (codes l t).length with h | h
    · exact .inl h
    · refine .inr ?_
      rcases ho.2 with ⟨-, h0⟩ | ⟨g, cp, cur, rfl, -, hgb, hcap, -, hcs, htake⟩
      · omega
      · refine ⟨g, cp, rfl, hcap, (Array.getElem?_eq_some_iff.1 hgb).1, fun j hj => ?_⟩
        rw [cell_of_row w3 g j cur _ (0, 0) hgb]
        have : cur.toList[j]? = ((codes l t).map (Value.int .i64))[j]? := by
          rw [← htake, List.getElem?_take, if_pos (by omega)]
        rw [← Array.getElem?_toList, this, List.getElem?_map, List.getElem?_eq_getElem hj, List.getD_eq_getElem?_getD, List.getElem?_eq_getElem hj]
        rfl)
  have hst : Hid (ChainRel l t w3 E0 (.int .i64 0) w3) := Lib.hid ⟨0, Nat.zero_le _, rfl, HE0.out.symm, Below.refl _ _⟩
  clear ho hb3 HT HI Hin Hg2 B2 HE0
  go_wp2_with fail
  go_loopw [3, 6] (ChainRel l t w3) (fun _ v _ => (codes l t).length - (intOf v).toNat)
  case atStart => exact hst.out
  case round =>
    clear hst
    obtain ⟨i, hi, rfl, rfl, hbr⟩ := hrel
    have Br := Lib.hid (B3.out.trans (hbr.mono B3.out.size))
    have Bw := Lib.hid hbr
    rcases Nat.lt_or_ge i (codes l t).length with hlt | hge
    · obtain ⟨hcode, hroot, htrail, hhas, hunw⟩ := HA3.out i hlt
      obtain ⟨g, cap', rfl, hcp, hgl, hcell⟩ := Hv.out.resolve_left (by omega)
      have hwr : ∀ wr', Below w3.heap.size w3 wr' → ∀ j, j < (codes l t).length → wr'.cell? ⟨g, j, none⟩ = some (.int .i64 ((codes l t).getD j 0)) := fun wr' h j hj => (h.cell (by exact hgl)).trans (hcell j hj)
      have hv := errAt_isErr hlt
      have hnext : Hid (∀ wr', Below w3.heap.size w3 wr' → ChainRel l t w3 (errAt l t (i + 1)) (.int .i64 (↑i + 1)) wr') := Lib.hid fun wr' h => ⟨i + 1, by omega, by simp, rfl, h⟩
      have hv1 : errAt l t (i + 1) = .nilIface ∨ (∃ m, errAt l t (i + 1) = .iface 33 (.int .i64 m)) ∨ ∃ b, errAt l t (i + 1) = .iface 36 (.pointer (some ⟨b, 0, none⟩)) := by
        rcases Nat.lt_or_ge (i + 1) (codes l t).length with h | h
        · exact .inr (errAt_isErr h)
        · exact .inl (errAt_nil (by omega))
      generalize errAt l t (i + 1) = nx at *
      generalize errAt l t i = v at *
      have k0 := hwr wr hbr i hlt
      have k1 := hwr wr hbr ((codes l t).length - 1) (by omega)
      have Hcode := Lib.hid hcode
      have Hroot := Lib.hid hroot
      have Htrail := Lib.hid htrail
      have Hhas := Lib.hid hhas
      have Hunw := Lib.hid hunw
      have Hwr := Lib.hid hwr
      have Hcp := Lib.hid hcp
      clear hcode hroot htrail hhas hunw hwr hcell hbr hcp
      generalize (codes l t).getD i 0 = ci at *
      generalize (codes l t).getD ((codes l t).length - 1) 0 = cr at *
      generalize (codes l t).length = n at *
      rcases hv with ⟨m, rfl⟩ | ⟨b', rfl⟩
      all_goals
        go_wp2_with fail
        have hS := Bw.out
        have d1 : decide ((n : Int) ≤ (i : Int)) = false := by rw [decide_eq_false_iff_not]; omega
        have d2 : decide (n ≤ i) = false := by rw [decide_eq_false_iff_not]; omega
        have x0 : (0 : Int) ≤ (n : Int) - 1 := by omega
        have x1 : (n : Int) - 1 < (n : Int) := by omega
        have x6 : (1 : Int) ≤ (n : Int) := by omega
        have x7 : 1 ≤ n := by omega
        have x8 : 0 < n := by omega
        have x9 : n - 1 < n := by omega
        have x2 : ((n : Int) - 1).toNat = n - 1 := by omega
        have x3 : IntKind.i64.wrap ((n : Int) - 1) = (n : Int) - 1 := IntWalk.i64_in _ (by omega)
        have x4 : ((n - i : Nat) : Int) = (n : Int) - (i : Int) := by omega
        have x5 : IntKind.i64.wrap ((n : Int) - (i : Int)) = (n : Int) - (i : Int) := IntWalk.i64_in _ (by omega)
        go_region_held3 (fun w' => w'.cell? ⟨g, i, none⟩ = some (.int .i64 ci) ∧ w'.cell? ⟨g, n - 1, none⟩ = some (.int .i64 cr) ∧ Below w3.heap.size w3 w')
          (first | assumption | exact ⟨k0, k1, Below.drew hS⟩)
          (first
            | (go_at_call 11; refine (Hcode.out _ (heldB (by assumption))).mono ?_; rintro e w' ⟨rfl, hb⟩; have hh := heldStep (i := i) (k := n - 1) hb hgl (by assumption); clear hb)
            | (go_at_call 12; refine (Hroot.out _ (heldB (by assumption))).mono ?_; rintro e w' ⟨rfl, hb⟩; have hh := heldStep (i := i) (k := n - 1) hb hgl (by assumption); clear hb)
            | (go_at_call 9; refine (Htrail.out _ (heldB (by assumption))).mono ?_; rintro e w' ⟨⟨g2, cap2, rfl⟩, hb⟩; have hh := heldStep (i := i) (k := n - 1) hb hgl (by assumption); clear hb))
        have B5 := Lib.hid (heldB hh)
        clear hh hS d1 d2 x0 x1 x2 x3 x4 x5 x6 x7 x8 x9
        have y1 : (i : Int) ≤ (n : Int) := by omega
        have y2 : ¬ i = cap' := by have := Hcp.out; omega
        have y3 : i ≤ n := by omega
        go_wp2_with fail
        have hst2 : Hid (InRel n i w3 (.int .i64 0) w') := Lib.hid ⟨0, by omega, rfl, B5.out⟩
        clear y1 y2 y3 B5 k0 k1 Br Bw
        go_loopw [60] (InRel n i w3) (fun v _ => n - i - (intOf v).toNat)
        case atStart => exact hst2.out
        case round =>
          clear hst2
          obtain ⟨j, hj, rfl, hbj⟩ := hrel
          rename_i wj
          have Bj := Lib.hid hbj
          rcases Nat.lt_or_ge (i + j) n with hjl | hjg
          · have kj := Hwr.out _ hbj (i + j) hjl
            have hH := Lib.hid (Hhas.out j hjl _ hbj)
            generalize (codes l t).getD (i + j) 0 = cj at *
            have z1 : (j : Int) < ((n - i : Nat) : Int) := by omega
            have z2 : j < n - i := by omega
            clear hbj
            go_wp2_with fail
            refine hH.out.mono ?_
            rintro e w6 ⟨rfl, hb6⟩
            have B6 := Lib.hid (Bj.out.trans (hb6.mono Bj.out.size))
            clear hb6
            go_wp2_with fail
            go_roundw
            case rel => exact ⟨j + 1, by omega, by simp, B6.out⟩
            case measure => simp [intOf]; omega
          · have z1 : ¬ (j : Int) < ((n - i : Nat) : Int) := by omega
            have z2 : ¬ j < n - i := by omega
            have hU := Lib.hid (Hunw.out _ hbj)
            clear hbj
            go_wp2_with fail
            refine hU.out.mono ?_
            rintro e w6 ⟨rfl, rfl⟩
            have HR := Lib.hid (hnext.out _ Bj.out)
            go_wp2_with fail
            go_roundw
            case rel => exact HR.out
            case measure => simp [intOf]; omega
    · obtain rfl : i = (codes l t).length := by omega
      rw [errAt_nil rfl]
      clear hv0 hn13
      go_wp2_with fail
      go_ret
      exact ⟨rfl, Br.out⟩
end Go.Proofs.YtinjaidmoghjjaaDoor
