/- HealthRow: the walk of the law at a number and ints in memory. Conditions: where the ints lie. -/
import Derived.Test.YtabndibenffngaaDoorHeaG
import Derived.Test.YtabndibenffngaaDoorMidBa
namespace Go.Proofs.YtabndibenffngaaDoor
open Go.RowKit HeaP
set_option maxRecDepth 100000

theorem MonG.ok {W : World} {B b node : Nat} {rec : List (List Nat)} {m : Mon} (h : MonG W B b node rec m) : MonV rec m := by
  obtain ⟨-, vp, vr, h1⟩ := h
  exact h1.v
/-- A Restart's report of the one partition. -/
def RowH (W : World) (B r q d : Nat) (e : Ending) (w' : World) : Prop :=
  e = .returned (.tuple #[.int .u8 (d : Nat), .nilIface]) ∧ ∃ m', MonG w' B B 0 recA m' ∧ lastOf m' 0 = r + 1 ∧ rowOf m' 0 = q ∧ Below B W w'
theorem hrow_rep {W : World} {B : Nat} {m : Mon} (h : MonG W B B 0 recA m) {r q : Nat} (hr : r < 1048576) (hq : nextRow m 0 r = q) (d : Nat) (hd : (if 3 ≤ q then 2 else 1) = d) :
    Calls Tryd.prog 24 #[monH B, .int .u32 (r : Nat), .int .i64 0, .int .u8 2] W (RowH W B r q d) := by
  have hv := h.ok
  have h1 : recOf recA 0 2 = 1 := by decide
  refine (hrep1 h (by decide) r ((0 : Nat) : Int) 2).mono fun e w' h2 => ?_
  obtain ⟨he, hg, hb⟩ := h2
  have hrep := report_ok (recover := recA) (node := 0) (m := m) (p := 0) (k := 2) (by decide) (by decide) hr
  have hdid : didT recA m r 0 2 = d := by unfold didT; rw [if_pos h1, hq]; exact hd
  rw [hrep] at he hg
  refine ⟨by rw [he, hdid]; rfl, _, hg, ?_, ?_, hb⟩
  · rw [last_next, if_pos ⟨h1, rfl, by rw [hv.ok.last]; decide⟩]
  · rw [row_next, if_pos ⟨h1, rfl, by rw [hv.ok.row]; decide⟩, hq]

theorem mod3_of (x : Int) : ∃ g : Nat, (IntKind.u64.wrap x).tmod 3 = (g : Int) ∧ g < 3 := by
  have h : 0 ≤ IntKind.u64.wrap x := by rw [IntKind.wrap_u64]; omega
  refine ⟨((IntKind.u64.wrap x) % 3).toNat, ?_, by omega⟩
  rw [Int.tmod_eq_emod_of_nonneg h]
  omega
def RowR (w : World) (B n : Nat) (vr vw vi : Value) (W : World) : Prop := ∃ k rd row m, k ≤ n ∧ k ≤ 60 ∧ row ≤ k ∧ rd ≤ 1000 + 2 * k ∧ vr = .int .u32 (rd : Nat) ∧ vw = .int .i64 (row : Nat) ∧ vi = .int .i64 (k : Nat) ∧ MonG W B B 0 recA m ∧ Below w.heap.size w W ∧ (k = 0 ∧ m = Mon.start 1 ∨ 0 < k ∧ lastOf m 0 = rd + 1 ∧ rowOf m 0 = row)

set_option maxHeartbeats 4000000 in
theorem hrow_law (f : Nat) (A : Option Addr) (n cap : Nat) (l : List Int) (hl : l.length = n) (w : World) (h : IntsIn w A l) :
    Calls Tryd.prog 5 #[.int .u32 (f : Nat), .slice A n cap] w (HTrue w) := by
  have HW := Lib.hid (awake15_any w)
  have HI := Lib.hid h
  have Hl := Lib.hid hl
  have hm : ((f : Nat) : Int).tmod 1000 = ((f % 1000 : Nat) : Int) := by rw [Int.tmod_eq_emod_of_nonneg (by omega)]; omega
  have hf : f % 1000 < 1000 := by omega
  have HN : Hid (∀ W, Below w.heap.size w W → ∀ vs, vs = (itemsV partVals [⟨0, 0, 0, 0, 0, 0, 0, 1, 0⟩]).toArray → ∀ M, M = W.heap.size → Calls Tryd.prog 19 #[.int .i64 0, .slice (some ⟨M, 0, none⟩) 1 1] (W.alloc (.cells vs 50)) (fun e w' => ∃ B, e = .returned (monH B) ∧ MonG w' B B 0 recA (Mon.start 1) ∧ w.heap.size ≤ B ∧ Below w.heap.size w w')) := Lib.hid fun W hW vs hvs M hM => by
    have hb : Below w.heap.size w (W.alloc (.cells vs 50)) := hW.alloc hW.size _
    refine (hnew1 hb _ 1 1 [⟨0, 0, 0, 0, 0, 0, 0, 1, 0⟩] rfl (by omega) 0 (by omega) (parts_laid W _ vs hvs M hM) recA rfl).mono fun e w' h => ?_
    exact ⟨_, h.1, h.2.1, hb.size, h.2.2⟩
  generalize f % 1000 = f0 at *
  clear h hl
  go_enter Tryd.func5, Tryd.ntmps5
  go_wp2_with fail
  refine HW.out.mono ?_
  rintro e w1 ⟨rfl, hb1⟩
  have HB1 := Lib.hid hb1
  clear hb1 HW
  go_wp2_with fail
  refine (HN.out w1 HB1.out _ rfl _ rfl).mono ?_
  rintro e w2 ⟨B, rfl, hg, hB, hb2⟩
  have HBz := Lib.hid hB
  have HS0 : Hid (RowR w B n (.int .u32 (f0 : Nat)) (.int .i64 0) (.int .i64 0) w2) := Lib.hid ⟨0, f0, 0, _, Nat.zero_le _, by omega, by omega, by omega, rfl, rfl, rfl, hg, hb2, .inl ⟨rfl, rfl⟩⟩
  clear hg hB hb2 HN HB1 hf hm
  unfold monH
  go_wp2_with fail
  go_loopw [6, 7, 8] (RowR w B n) (fun _ _ i _ => (n + 1 - intOf i).toNat)
  case atStart => exact HS0.out
  case round =>
    clear HS0
    obtain ⟨k, rd, row, m, hk, hk60, hrow, hrd, rfl, rfl, rfl, hg, hb, hst⟩ := hrel
    have HG := Lib.hid hg
    have HB := Lib.hid hb
    clear hg hb
    by_cases hlt : k < n ∧ k < 60
    case neg =>
      clear hst HG
      by_cases h60 : k < n
      · have e60 : k = 60 := by omega
        subst e60
        clear hlt
        go_wp2_with fail
        go_ret
        exact ⟨rfl, HB.out⟩
      · have hkn : n = k := by omega
        subst hkn
        clear hlt h60
        go_wp2_with fail
        go_ret
        exact ⟨rfl, HB.out⟩
    obtain ⟨hlt, h60⟩ := hlt
    obtain ⟨x, hx⟩ : ∃ x, l[k]? = some x := ⟨_, List.getElem?_eq_getElem (by rw [Hl.out]; exact hlt)⟩
    obtain ⟨b, off, rfl, hbl, hc⟩ := (HI.out.below HB.out) (by rw [Hl.out]; omega)
    have c0 := hc k x hx
    obtain ⟨g, hgm, hg3⟩ := mod3_of x
    have hgw : IntKind.u32.wrap (g : Int) = (g : Int) := by rw [IntKind.wrap_u32]; omega
    clear hc hx hbl
    have HNext : Hid (∀ r q w', r ≤ 1000 + 2 * (k + 1) → q ≤ k + 1 → (∃ m', MonG w' B B 0 recA m' ∧ lastOf m' 0 = r + 1 ∧ rowOf m' 0 = q ∧ Below B wr w') → RowR w B n (.int .u32 (r : Nat)) (.int .i64 (q : Nat)) (.int .i64 ((k : Int) + 1)) w') := Lib.hid fun r q w' h1 h2 ⟨m', h3, h4, h5, h6⟩ =>
      ⟨k + 1, r, q, m', by omega, by omega, h2, h1, rfl, rfl, by go_num, h3, HB.out.trans (h6.mono HBz.out), .inr ⟨by omega, h4, h5⟩⟩
    rcases hst with ⟨hk0, hm0⟩ | ⟨hk0, hlast, hrw⟩
    · subst hm0 hk0
      have HR := Lib.hid (hrow_rep HG.out (r := rd) (q := 1) (by omega) row_first 1 rfl)
      have HX := Lib.hid (HNext.out rd 1)
      clear HNext
      simp only [Nat.add_zero] at c0
      unfold monH at HR
      go_wp2_with fail
      refine HR.out.mono ?_
      rintro e w3 ⟨rfl, h3⟩
      have HF := Lib.hid (HX.out w3 (by omega) (by omega) h3)
      clear h3
      go_wp2_with fail
      go_roundw
      case rel => exact HF.out
      case measure => simp [intOf] <;> omega
    · have hkp : ((k : Int) == 0) = false := by rw [beq_eq_false_iff_ne]; omega
      have hkp2 : decide ((0 : Int) < (k : Int)) = true := decide_eq_true (by omega)
      have hkp3 : decide (0 < k) = true := decide_eq_true hk0
      have hsum : IntKind.u32.wrap ((rd : Int) + (g : Int)) = ((rd + g : Nat) : Int) := by rw [IntKind.wrap_u32]; omega
      by_cases h2 : g = 2
      · have hg2 : ((g : Int) == 2) = true := by rw [beq_iff_eq]; omega
        have HR := Lib.hid (hrow_rep HG.out (r := rd + g) (q := 1) (by omega) (by rw [h2]; exact row_rest hlast) 1 rfl)
        have HX := Lib.hid (HNext.out (rd + g) 1)
        have hr2 : rd + g ≤ 1000 + 2 * (k + 1) := by omega
        clear HNext hlast hrw hrd h2
        generalize rd + g = r at *
        unfold monH at HR
        go_wp2_with fail
        refine HR.out.mono ?_
        rintro e w3 ⟨rfl, h3⟩
        have HF := Lib.hid (HX.out w3 (by omega) (by omega) h3)
        clear h3
        go_wp2_with fail
        go_roundw
        case rel => exact HF.out
        case measure => simp [intOf] <;> omega
      · have hg1 : g ≤ 1 := by omega
        have hg2 : ((g : Int) == 2) = false := by rw [beq_eq_false_iff_ne]; omega
        have hnx := row_on hlast hg1
        rw [hrw] at hnx
        have hr2 : rd + g ≤ 1000 + 2 * (k + 1) := by omega
        by_cases h3 : 3 ≤ row + 1
        · have HR := Lib.hid (hrow_rep HG.out (r := rd + g) (q := row + 1) (by omega) hnx 2 (if_pos h3))
          have HX := Lib.hid (HNext.out (rd + g) (row + 1))
          have q1 : decide ((3 : Int) ≤ (row : Int) + 1) = true := decide_eq_true (by omega)
          have q2 : decide (3 ≤ row + 1) = true := decide_eq_true h3
          clear HNext hlast hrw hrd hnx
          generalize rd + g = r at *
          unfold monH at HR
          go_wp2_with fail
          refine HR.out.mono ?_
          rintro e w3 ⟨rfl, h3⟩
          have HF := Lib.hid (HX.out w3 (by omega) (by omega) h3)
          clear h3
          go_wp2_with fail
          go_roundw
          case rel => exact HF.out
          case measure => simp [intOf] <;> omega
        · have HR := Lib.hid (hrow_rep HG.out (r := rd + g) (q := row + 1) (by omega) hnx 1 (if_neg h3))
          have HX := Lib.hid (HNext.out (rd + g) (row + 1))
          have q1 : decide ((3 : Int) ≤ (row : Int) + 1) = false := decide_eq_false (by omega)
          have q2 : decide (3 ≤ row + 1) = false := decide_eq_false h3
          clear HNext hlast hrw hrd hnx
          generalize rd + g = r at *
          unfold monH at HR
          go_wp2_with fail
          refine HR.out.mono ?_
          rintro e w3 ⟨rfl, h3⟩
          have HF := Lib.hid (HX.out w3 (by omega) (by omega) h3)
          clear h3
          go_wp2_with fail
          go_roundw
          case rel => exact HF.out
          case measure => simp [intOf] <;> omega
end Go.Proofs.YtabndibenffngaaDoor
