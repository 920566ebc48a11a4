/- The walk of the law FaultWraps: it tells true, and nothing that was there turns. Conditions: errors.errorType holds the type error; what made makes of the argument. -/
import Derived.Test.YtinjaidmoghjjaaDoorTxtD
import Derived.Test.YtinjaidmoghjjaaDoorErrU
import Derived.Deep.RegionHeld3
import Derived.Deep.QuietTactic
import Derived.BigQuiet
import Derived.IntWalk
namespace Go.Proofs.YtinjaidmoghjjaaDoor
open Go.RowKit Go.Extern.Stop Go.Stop Go.Extern

theorem heldC {g i k : Nat} {x y : Value} {w3 W : World} (h : W.cell? ⟨g, i, none⟩ = some x ∧ W.cell? ⟨g, k, none⟩ = some y ∧ Below w3.heap.size w3 W) : Below w3.heap.size w3 W := h.2.2
theorem heldNext {g i k : Nat} {x y : Value} {w3 W w' : World} (hb : Below W.heap.size W w') (hgl : g < w3.heap.size) (h : W.cell? ⟨g, i, none⟩ = some x ∧ W.cell? ⟨g, k, none⟩ = some y ∧ Below w3.heap.size w3 W) :
    w'.cell? ⟨g, i, none⟩ = some x ∧ w'.cell? ⟨g, k, none⟩ = some y ∧ Below w3.heap.size w3 w' := by
  have hs := h.2.2.size
  exact ⟨(hb.cell (p := ⟨g, i, none⟩) (by show g < _; omega)).trans h.1, (hb.cell (p := ⟨g, k, none⟩) (by show g < _; omega)).trans h.2.1, h.2.2.trans (hb.mono hs)⟩

/-- A slice that reads as a list of numbers. -/
def Reads (w : World) (v : Value) (xs : List Int) : Prop :=
  (xs = [] ∧ (v = .slice none 0 0 ∨ ∃ g cap, v = .slice (some ⟨g, 0, none⟩) 0 cap)) ∨ (0 < xs.length ∧ ∃ g cap, v = .slice (some ⟨g, 0, none⟩) xs.length cap ∧ g < w.heap.size ∧ ∀ j, j < xs.length → w.cell? ⟨g, j, none⟩ = some (.int .i64 (xs.getD j 0)))

theorem reads_of {w : World} {B e : Nat} {v : Value} {xs : List Int} (h : w.ownsRow B e 1 v xs.length (xs.map (.int .i64))) : Reads w v xs := by
  rcases Nat.eq_zero_or_pos xs.length with h0 | hpos
  · rw [h0] at h
    exact .inl ⟨List.length_eq_zero_iff.1 h0, own_zero h⟩
  · refine .inr ⟨hpos, ?_⟩
    rcases h.2 with ⟨-, h0⟩ | ⟨g, cap, cur, rfl, -, hg, -⟩
    · omega
    · obtain ⟨g', cap', he, hat⟩ := own_at h hpos
      simp at he
      obtain ⟨rfl, rfl⟩ := he
      refine ⟨g, cap, rfl, (Array.getElem?_eq_some_iff.1 hg).1, fun j hj => ?_⟩
      rw [hat j hj, List.getElem?_map, List.getElem?_eq_getElem hj, List.getD_eq_getElem?_getD, List.getElem?_eq_getElem hj]
      rfl

theorem Reads.below {w w' : World} {v : Value} {xs : List Int} (h : Reads w v xs) (hb : Below w.heap.size w w') : Reads w' v xs := by
  rcases h with h | ⟨hp, g, cap, rfl, hg, hc⟩
  · exact .inl h
  · exact .inr ⟨hp, g, cap, rfl, Nat.lt_of_lt_of_le hg hb.size, fun j hj => (hb.cell (p := ⟨g, j, none⟩) hg).trans (hc j hj)⟩

def WRel (n : Nat) (w3 : World) (v : Value) (wr : World) : Prop := ∃ i, i ≤ n ∧ v = .int .i64 (i : Nat) ∧ Below w3.heap.size w3 wr

set_option maxRecDepth 100000 in
set_option maxHeartbeats 4000000 in
theorem wraps_law (a : Option Addr) (len cap : Nat) (w : World) (hg : HasType w) (hmade : ∀ W, Below w.heap.size w W → Calls Tryd.prog 7 #[.slice a len cap] W (MadePost W)) :
    Calls Tryd.prog 3 #[.slice a len cap] w fun e w' => e = .returned (.bool true) ∧ Below w.heap.size w w' := by
  have HA := Lib.hid (awake_any w hg)
  have HM := Lib.hid hmade
  have Hg := Lib.hid hg
  clear hg hmade
  go_enter Tryd.func3, Tryd.ntmps3
  go_wp2_with fail
  refine HA.out.mono ?_
  rintro e w1 ⟨rfl, hb1⟩
  have K1 := Lib.hid (HM.out w1 hb1)
  have B1 := Lib.hid hb1
  clear hb1
  go_wp2_with fail
  refine K1.out.mono ?_
  rintro e w2 ⟨l, t, rfl, ⟨hl, hin, hgood⟩, hb2⟩
  have B2 := Lib.hid (B1.out.trans (hb2.mono B1.out.size))
  have T2 := Lib.hid (Hg.out.keep (B2.out.block 0 Hg.out.pos))
  have htl := sufT_len t l true
  have hl12 : l.length ≤ 12 := by omega
  have hn13 : (codes l t).length ≤ 13 := by rw [codes_len]; omega
  have K2 : Hid (Calls Tryd.prog 8 #[errV l t] w2 fun e w' => e = .returned (strV (sufT t true l)) ∧ Below w2.heap.size w2 w') := Lib.hid (read_any w2.heap.size l t w2 hl12 (Nat.le_refl _) hin hgood)
  have K3 : Hid (∀ W, Below w2.heap.size w2 W → (Calls Tryd.prog 9 #[errV l t] W fun e w' => ∃ v, e = .returned v ∧ Reads w' v (codes l t) ∧ Below W.heap.size W w') ∧
      (Calls Tryd.prog 10 #[strV (sufT t true l)] W fun e w' => ∃ v, e = .returned v ∧ Reads w' v (codes l t) ∧ Below W.heap.size W w') ∧
      (Calls Tryd.prog 11 #[errV l t] W fun e w' => e = .returned (.int .i64 (codeOf l t)) ∧ Below W.heap.size W w') ∧
      (Calls Tryd.prog 12 #[errV l t] W fun e w' => e = .returned (.int .i64 (rootOf l t)) ∧ Below W.heap.size W w') ∧
      (Calls Tryd.prog 13 #[errV l t] W fun e w' => e = .returned (.int .i64 (placeOf l)) ∧ Below W.heap.size W w')) := Lib.hid fun W h => by
    have hT := T2.out.keep (h.block 0 T2.out.pos)
    have hI := hin.below h (Nat.le_refl _)
    refine ⟨(trail_any w2.heap.size l t W (by omega) hT h.size hI).mono ?_, ?_, code_any w2.heap.size l t W (by omega) hT h.size hI, root_any w2.heap.size l t W (by omega) hT h.size hI, place_any w2.heap.size l t W (by omega) hT h.size hI⟩
    · rintro e w' ⟨v, rfl, ho, hb⟩
      exact ⟨v, rfl, reads_of ho, hb⟩
    · have := refTrail_any (sufT t true l) W (by omega)
      refine this.mono ?_
      rintro e w' ⟨v, rfl, ho, hb⟩
      rw [trailP_text hgood] at ho
      exact ⟨v, rfl, reads_of ho, hb⟩
  have Hin := Lib.hid hin
  have hcodeE : 0 < (codes l t).length → codeOf l t = (codes l t).getD 0 0 := fun h => by
    unfold codeOf
    rw [List.headD_eq_head?_getD, List.head?_eq_getElem?, List.getD_eq_getElem?_getD]
  have hrootE : 0 < (codes l t).length → rootOf l t = (codes l t).getD ((codes l t).length - 1) 0 := fun h => by
    unfold rootOf
    rw [List.getLastD_eq_getLast?, List.getLast?_eq_getElem?, List.getD_eq_getElem?_getD]
  by_cases hz : (codes l t).length = 0
  · obtain ⟨rfl, rfl⟩ := codes_nil hz
    have e1 : sufT none true [] = [] := rfl
    have e2 : codes [] none = [] := rfl
    have e3 : codeOf [] none = 0 := rfl
    have e4 : rootOf [] none = 0 := rfl
    have e5 : placeOf [] = -1 := rfl
    rw [e1] at K2 K3 ⊢
    rw [e2, e3, e4, e5] at K3
    simp only [errV] at *
    clear hz hcodeE hrootE e1 e2 e3 e4 e5 hin hgood hl hl12 hn13 htl hb2
    unfold strV at *
    go_wp2_with fail
    refine K2.out.mono ?_
    rintro e w3 ⟨rfl, hb3⟩
    have K4 := Lib.hid ((K3.out w3 hb3).1)
    have B3 := Lib.hid (B2.out.trans (hb3.mono B2.out.size))
    have C3 := Lib.hid hb3
    clear hb3
    go_wp2_with fail
    refine K4.out.mono ?_
    rintro e w4 ⟨v4, rfl, r4, hb4⟩
    have C4 := Lib.hid (C3.out.trans (hb4.mono C3.out.size))
    have K5 := Lib.hid ((K3.out w4 C4.out).2.1)
    have B4 := Lib.hid (B3.out.trans (hb4.mono B3.out.size))
    have R4 := Lib.hid r4
    clear hb4 r4
    go_wp2_with fail
    refine K5.out.mono ?_
    rintro e w5 ⟨v5, rfl, r5, hb5⟩
    have C5 := Lib.hid (C4.out.trans (hb5.mono C4.out.size))
    have K6 := Lib.hid ((K3.out w5 C5.out).2.2.1)
    have B5 := Lib.hid (B4.out.trans (hb5.mono B4.out.size))
    rcases R4.out with ⟨-, rfl | ⟨g4, cap4, rfl⟩⟩ | ⟨h0, -⟩
    rotate_left 2
    · simp at h0
    all_goals
      rcases r5 with ⟨-, rfl | ⟨g5, cap5, rfl⟩⟩ | ⟨h0, -⟩
      rotate_left 2
      · simp at h0
      all_goals
        clear hb5
        go_wp2_with fail
        refine wp_loop_rounds 1 ?_
        rw [rounds_succ]
        go_wp2_with fail
        refine K6.out.mono ?_
        rintro e w6 ⟨rfl, hb6⟩
        have C6 := Lib.hid (C5.out.trans (hb6.mono C5.out.size))
        have K7 := Lib.hid ((K3.out w6 C6.out).2.2.2.1)
        have B6 := Lib.hid (B5.out.trans (hb6.mono B5.out.size))
        clear hb6
        go_wp2_with fail
        refine K7.out.mono ?_
        rintro e w7 ⟨rfl, hb7⟩
        have C7 := Lib.hid (C6.out.trans (hb7.mono C6.out.size))
        have K8 := Lib.hid ((K3.out w7 C7.out).2.2.2.2)
        have B7 := Lib.hid (B6.out.trans (hb7.mono B6.out.size))
        clear hb7
        go_wp2_with fail
        refine K8.out.mono ?_
        rintro e w8 ⟨rfl, hb8⟩
        have B8 := Lib.hid (B7.out.trans (hb8.mono B7.out.size))
        clear hb8
        go_wp2_with fail
        go_ret
        exact ⟨rfl, B8.out⟩
  · have hpos : 0 < (codes l t).length := by omega
    rw [hcodeE hpos, hrootE hpos] at K3
    have hne : errV l t ≠ .nilIface := by
      match l, t, hz with
      | [], none, h => exact absurd rfl h
      | [], some _, _ => simp [errV]
      | (_, _, _) :: _, _, _ => simp [errV]
    have htx : (sufT t true l).isEmpty = false := by simpa using sufT_ne hne true
    have hkind : (∃ m, errV l t = .iface 33 (.int .i64 m) ∧ placeOf l = -1) ∨ ∃ b, errV l t = .iface 36 (.pointer (some ⟨b, 0, none⟩)) ∧ ∀ W, Below w2.heap.size w2 W → W.cell? ⟨b, 1, none⟩ = some (.int .i64 (placeOf l)) := by
      match l, t, hne, Hin.out with
      | [], none, h, _ => exact absurd rfl h
      | [], some m, _, _ => exact .inl ⟨m, rfl, rfl⟩
      | (b, c, a) :: r, t, _, hi => exact .inr ⟨b, rfl, fun W h => (cells3 ((h.block b hi.1).trans hi.2.1)).2.1⟩
    clear hcodeE hrootE hin hgood hl hl12 htl hb2 hz
    generalize sufT t true l = tx at *
    generalize placeOf l = pl at *
    generalize errV l t = v at *
    generalize hcs : codes l t = cs at *
    clear hcs
    have hlen : cs.length ≤ 13 := hn13
    unfold strV at *
    clear Hin hn13
    rcases hkind with ⟨m, rfl, rfl⟩ | ⟨b, rfl, hcell⟩
    · clear hne
      go_wp2_with fail
      refine K2.out.mono ?_
      rintro e w3 ⟨rfl, hb3⟩
      have K4 := Lib.hid ((K3.out w3 hb3).1)
      have B3 := Lib.hid (B2.out.trans (hb3.mono B2.out.size))
      have C3 := Lib.hid hb3
      clear hb3
      go_wp2_with fail
      refine K4.out.mono ?_
      rintro e w4 ⟨v4, rfl, r4, hb4⟩
      have C4 := Lib.hid (C3.out.trans (hb4.mono C3.out.size))
      have K5 := Lib.hid ((K3.out w4 C4.out).2.1)
      have B4 := Lib.hid (B3.out.trans (hb4.mono B3.out.size))
      have R4 := Lib.hid r4
      clear hb4 r4
      go_wp2_with fail
      refine K5.out.mono ?_
      rintro e w5 ⟨v5, rfl, r5, hb5⟩
      have C5 := Lib.hid (C4.out.trans (hb5.mono C4.out.size))
      have B5 := Lib.hid (B4.out.trans (hb5.mono B4.out.size))
      obtain ⟨-, g4, cap4, rfl, hg4, hc4⟩ := (R4.out.below hb5).resolve_left (by rintro ⟨h, -⟩; rw [h] at hpos; simp at hpos)
      obtain ⟨-, g5, cap5, rfl, hg5, hc5⟩ := r5.resolve_left (by rintro ⟨h, -⟩; rw [h] at hpos; simp at hpos)
      have H4 : Hid (∀ W, Below w5.heap.size w5 W → ∀ j, j < cs.length → W.cell? ⟨g4, j, none⟩ = some (.int .i64 (cs.getD j 0)) ∧ W.cell? ⟨g5, j, none⟩ = some (.int .i64 (cs.getD j 0))) := Lib.hid fun W h j hj =>
        ⟨(h.cell (p := ⟨g4, j, none⟩) hg4).trans (hc4 j hj), (h.cell (p := ⟨g5, j, none⟩) hg5).trans (hc5 j hj)⟩
      have KQ : Hid (∀ W, Below w5.heap.size w5 W → _) := Lib.hid fun W h => (K3.out W (C5.out.trans (h.mono C5.out.size))).2.2
      have hst : Hid (WRel cs.length w5 (.int .i64 0) w5) := Lib.hid ⟨0, Nat.zero_le _, rfl, Below.refl _ _⟩
      clear hb5 hc4 hc5 r5
      go_wp2_with fail
      go_loopw [40] (WRel cs.length w5) (fun v _ => cs.length - (intOf v).toNat)
      case atStart => exact hst.out
      case round =>
        clear hst
        obtain ⟨i, hi, rfl, hbr⟩ := hrel
        rcases Nat.lt_or_ge i cs.length with hlt | hge
        · obtain ⟨k4, k5⟩ := H4.out _ hbr i hlt
          have hr : Hid (∀ W, Below w5.heap.size w5 W → WRel cs.length w5 (.int .i64 (↑i + 1)) W) := Lib.hid fun W h => ⟨i + 1, by omega, by simp, h⟩
          have Hbr := Lib.hid hbr
          generalize cs.getD i 0 = ci at *
          have x0 : (0 : Int) ≤ (i : Int) := by omega
          have x1 : (i : Int) < (cs.length : Int) := by omega
          clear hbr
          go_wp2_with fail
          go_quiet (fail)
          go_wp2_with fail
          go_roundw
          case rel => exact hr.out _ ⟨Hbr.out.os, Hbr.out.tape, Hbr.out.output, Hbr.out.size, Hbr.out.block⟩
          case measure => simp [intOf]; omega
        · obtain rfl : i = cs.length := by omega
          have hS := hbr
          obtain ⟨-, k0⟩ := H4.out _ hbr 0 hpos
          obtain ⟨-, k1⟩ := H4.out _ hbr (cs.length - 1) (by omega)
          have Bf : Hid (∀ W, Below w5.heap.size w5 W → Below w.heap.size w W) := Lib.hid fun W h => B5.out.trans (h.mono B5.out.size)
          generalize cs.getD 0 0 = c0 at *
          generalize cs.getD (cs.length - 1) 0 = c1 at *
          generalize cs.length = n at *
          have z0 : ((n : Int) == 0) = false := by rw [beq_eq_false_iff_ne]; omega
          have x0 : (0 : Int) ≤ (n : Int) - 1 := by omega
          have x1 : (n : Int) - 1 < (n : Int) := by omega
          have x6 : (1 : Int) ≤ (n : Int) := by omega
          have x7 : 1 ≤ n := by omega
          have x8 : 0 < n := by omega
          have x9 : n - 1 < n := by omega
          have x2 : ((n : Int) - 1).toNat = n - 1 := by omega
          have x3 : IntKind.i64.wrap ((n : Int) - 1) = (n : Int) - 1 := IntWalk.i64_in _ (by omega)
          have x4 : (0 : Int) < (n : Int) := by omega
          have a0 := asFault_E
          clear hbr
          go_wp2_with fail
          go_region_held3 (fun w' => w'.cell? ⟨g5, 0, none⟩ = some (.int .i64 c0) ∧ w'.cell? ⟨g5, n - 1, none⟩ = some (.int .i64 c1) ∧ Below w5.heap.size w5 w')
            (first | assumption | exact ⟨k0, k1, Below.drew hS⟩)
            (first
              | (go_at_call 11; refine ((KQ.out _ (heldC (by assumption))).1).mono ?_; rintro e w' ⟨rfl, hb⟩; have hh := heldNext (i := 0) (k := n - 1) hb hg5 (by assumption); clear hb)
              | (go_at_call 12; refine ((KQ.out _ (heldC (by assumption))).2.1).mono ?_; rintro e w' ⟨rfl, hb⟩; have hh := heldNext (i := 0) (k := n - 1) hb hg5 (by assumption); clear hb)
              | (go_at_call 13; refine ((KQ.out _ (heldC (by assumption))).2.2).mono ?_; rintro e w' ⟨rfl, hb⟩; have hh := heldNext (i := 0) (k := n - 1) hb hg5 (by assumption); clear hb))
          have Hf := Lib.hid (Bf.out _ (heldC hh))
          clear hh hS x0 x1 x2 x3 x4 x6 x7 x8 x9 z0
          go_wp2_with fail
          go_ret
          exact ⟨rfl, Hf.out⟩
    · have Hcell := Lib.hid hcell
      clear hne hcell
      go_wp2_with fail
      refine K2.out.mono ?_
      rintro e w3 ⟨rfl, hb3⟩
      have K4 := Lib.hid ((K3.out w3 hb3).1)
      have B3 := Lib.hid (B2.out.trans (hb3.mono B2.out.size))
      have C3 := Lib.hid hb3
      clear hb3
      go_wp2_with fail
      refine K4.out.mono ?_
      rintro e w4 ⟨v4, rfl, r4, hb4⟩
      have C4 := Lib.hid (C3.out.trans (hb4.mono C3.out.size))
      have K5 := Lib.hid ((K3.out w4 C4.out).2.1)
      have B4 := Lib.hid (B3.out.trans (hb4.mono B3.out.size))
      have R4 := Lib.hid r4
      clear hb4 r4
      go_wp2_with fail
      refine K5.out.mono ?_
      rintro e w5 ⟨v5, rfl, r5, hb5⟩
      have C5 := Lib.hid (C4.out.trans (hb5.mono C4.out.size))
      have B5 := Lib.hid (B4.out.trans (hb5.mono B4.out.size))
      obtain ⟨-, g4, cap4, rfl, hg4, hc4⟩ := (R4.out.below hb5).resolve_left (by rintro ⟨h, -⟩; rw [h] at hpos; simp at hpos)
      obtain ⟨-, g5, cap5, rfl, hg5, hc5⟩ := r5.resolve_left (by rintro ⟨h, -⟩; rw [h] at hpos; simp at hpos)
      have H4 : Hid (∀ W, Below w5.heap.size w5 W → ∀ j, j < cs.length → W.cell? ⟨g4, j, none⟩ = some (.int .i64 (cs.getD j 0)) ∧ W.cell? ⟨g5, j, none⟩ = some (.int .i64 (cs.getD j 0))) := Lib.hid fun W h j hj =>
        ⟨(h.cell (p := ⟨g4, j, none⟩) hg4).trans (hc4 j hj), (h.cell (p := ⟨g5, j, none⟩) hg5).trans (hc5 j hj)⟩
      have KQ : Hid (∀ W, Below w5.heap.size w5 W → _) := Lib.hid fun W h => (K3.out W (C5.out.trans (h.mono C5.out.size))).2.2
      have hst : Hid (WRel cs.length w5 (.int .i64 0) w5) := Lib.hid ⟨0, Nat.zero_le _, rfl, Below.refl _ _⟩
      clear hb5 hc4 hc5 r5
      go_wp2_with fail
      go_loopw [40] (WRel cs.length w5) (fun v _ => cs.length - (intOf v).toNat)
      case atStart => exact hst.out
      case round =>
        clear hst
        obtain ⟨i, hi, rfl, hbr⟩ := hrel
        rcases Nat.lt_or_ge i cs.length with hlt | hge
        · obtain ⟨k4, k5⟩ := H4.out _ hbr i hlt
          have hr : Hid (∀ W, Below w5.heap.size w5 W → WRel cs.length w5 (.int .i64 (↑i + 1)) W) := Lib.hid fun W h => ⟨i + 1, by omega, by simp, h⟩
          have Hbr := Lib.hid hbr
          generalize cs.getD i 0 = ci at *
          have x0 : (0 : Int) ≤ (i : Int) := by omega
          have x1 : (i : Int) < (cs.length : Int) := by omega
          clear hbr
          go_wp2_with fail
          go_quiet (fail)
          go_wp2_with fail
          go_roundw
          case rel => exact hr.out _ ⟨Hbr.out.os, Hbr.out.tape, Hbr.out.output, Hbr.out.size, Hbr.out.block⟩
          case measure => simp [intOf]; omega
        · obtain rfl : i = cs.length := by omega
          have hS := hbr
          obtain ⟨-, k0⟩ := H4.out _ hbr 0 hpos
          obtain ⟨-, k1⟩ := H4.out _ hbr (cs.length - 1) (by omega)
          have Bf : Hid (∀ W, Below w5.heap.size w5 W → Below w.heap.size w W) := Lib.hid fun W h => B5.out.trans (h.mono B5.out.size)
          generalize cs.getD 0 0 = c0 at *
          generalize cs.getD (cs.length - 1) 0 = c1 at *
          generalize cs.length = n at *
          have z0 : ((n : Int) == 0) = false := by rw [beq_eq_false_iff_ne]; omega
          have x0 : (0 : Int) ≤ (n : Int) - 1 := by omega
          have x1 : (n : Int) - 1 < (n : Int) := by omega
          have x6 : (1 : Int) ≤ (n : Int) := by omega
          have x7 : 1 ≤ n := by omega
          have x8 : 0 < n := by omega
          have x9 : n - 1 < n := by omega
          have x2 : ((n : Int) - 1).toNat = n - 1 := by omega
          have x3 : IntKind.i64.wrap ((n : Int) - 1) = (n : Int) - 1 := IntWalk.i64_in _ (by omega)
          have x4 : (0 : Int) < (n : Int) := by omega
          have a0 := asFault_F
          have kb := Hcell.out _ (C5.out.trans (hbr.mono C5.out.size))
          clear hbr
          go_wp2_with fail
          go_region_held3 (fun w' => w'.cell? ⟨g5, 0, none⟩ = some (.int .i64 c0) ∧ w'.cell? ⟨g5, n - 1, none⟩ = some (.int .i64 c1) ∧ Below w5.heap.size w5 w')
            (first | assumption | exact ⟨k0, k1, Below.drew hS⟩)
            (first
              | (go_at_call 11; refine ((KQ.out _ (heldC (by assumption))).1).mono ?_; rintro e w' ⟨rfl, hb⟩; have hh := heldNext (i := 0) (k := n - 1) hb hg5 (by assumption); clear hb)
              | (go_at_call 12; refine ((KQ.out _ (heldC (by assumption))).2.1).mono ?_; rintro e w' ⟨rfl, hb⟩; have hh := heldNext (i := 0) (k := n - 1) hb hg5 (by assumption); clear hb)
              | (go_at_call 13; refine ((KQ.out _ (heldC (by assumption))).2.2).mono ?_; rintro e w' ⟨rfl, hb⟩; have hh := heldNext (i := 0) (k := n - 1) hb hg5 (by assumption); clear hb))
          have Hf := Lib.hid (Bf.out _ (heldC hh))
          clear hh hS x0 x1 x2 x3 x4 x6 x7 x8 x9 z0
          go_wp2_with fail
          go_ret
          exact ⟨rfl, Hf.out⟩
end Go.Proofs.YtinjaidmoghjjaaDoor
