/- Contracts of survivor, count and Most, of the document's Most and of SameInts. Conditions: where the ints lie. -/
import Derived.Test.YtkahecdnmeofkaaMidBa
import Derived.Test.YtkahecdnmeofkaaMem
namespace Go.Proofs.Ytkahecdnmeofkaa
open Go.RowKit
set_option maxRecDepth 100000

def SurvR (l : List Int) (w : World) (nv lead i : Value) (W : World) : Prop :=
  ∃ k n ld m, k ≤ l.length ∧ i = .int .i64 (k : Nat) ∧ nv = .int .i64 n ∧ lead = .int .i64 ld ∧ MidP.Lead (l.take k) n ld ∧ W = w.drewN m
def SurvP (l : List Int) (w : World) (e : Ending) (w' : World) : Prop := ∃ n ld, MidP.Lead l n ld ∧ Quiet (.int .i64 n) w e w'
set_option maxHeartbeats 1000000 in
theorem survivor_any (A : Option Addr) (n cap : Nat) (l : List Int) (hl : l.length = n) (hn : n ≤ 1000000) (w : World) (h : IntsIn w A l) : Calls Try.prog 38 #[.slice A n cap] w (SurvP l w) := by
  have HI := Lib.hid h
  have Hl := Lib.hid hl
  have HS0 : Hid (SurvR l w (.int .i64 0) (.int .i64 0) (.int .i64 0) w) := Lib.hid ⟨0, 0, 0, 0, Nat.zero_le _, rfl, rfl, rfl, MidP.lead_start, rfl⟩
  clear h hl
  go_enter Try.func38, Try.ntmps38
  go_wp2_with fail
  go_loopw [3, 4, 9] (SurvR l w) (fun _ _ i _ => (n + 1 - intOf i).toNat)
  case atStart => exact HS0.out
  case round =>
    clear HS0
    obtain ⟨k, nv, ld, m, hk, rfl, rfl, rfl, hL, rfl⟩ := hrel
    by_cases hkn : k < n
    case neg =>
      obtain rfl : k = n := by have := Hl.out; omega
      have HF : Hid (∀ m', SurvP l w (.returned (.int .i64 nv)) (w.drewN m')) := Lib.hid fun m' => ⟨nv, ld, by rw [← Hl.out, List.take_length] at hL; exact hL, rfl, _, rfl⟩
      have q1 : decide ((k : Int) < (k : Int)) = false := decide_eq_false (by omega)
      clear hL hk hkn HI
      go_wp2_with fail
      go_ret
      exact HF.out _
    obtain ⟨x, hx⟩ : ∃ x, l[k]? = some x := ⟨_, List.getElem?_eq_getElem (by rw [Hl.out]; exact hkn)⟩
    obtain ⟨ba, oa, rfl, -, c0⟩ := HI.out.at_ hx
    have q1 : decide ((k : Int) < (n : Int)) = true := decide_eq_true (by omega)
    have hkz : (k : Int) < (n : Int) := by omega
    have e1 : IntKind.i64.wrap ((k : Int) + 1) = (k : Int) + 1 := IntWalk.i64_in _ (by omega)
    have et : l.take (k + 1) = l.take k ++ [x] := by rw [List.take_add_one, hx]; rfl
    have hld : 0 ≤ ld ∧ ld ≤ k := ⟨hL.1, by have := hL.2.1; rw [List.length_take] at this; omega⟩
    have hkl : k + 1 ≤ l.length := by rw [Hl.out]; exact hkn
    by_cases h0 : ld = 0
    case pos =>
      subst h0
      have HR : Hid (∀ m', SurvR l w (.int .i64 x) (.int .i64 1) (.int .i64 ((k : Int) + 1)) (w.drewN m')) := Lib.hid fun m' => ⟨k + 1, x, 1, m', hkl, by go_num, rfl, rfl, by rw [et]; exact MidP.lead_new hL x, rfl⟩
      clear hL hk hx et hkl hld HI
      go_wp2_with fail
      go_roundw
      case rel => exact HR.out _
      case measure => simp [intOf]; omega
    have q2 : (ld == 0) = false := by rw [beq_eq_false_iff_ne]; exact h0
    by_cases hxn : x = nv
    case pos =>
      subst hxn
      have e2 : IntKind.i64.wrap (ld + 1) = ld + 1 := IntWalk.i64_in _ (by omega)
      have HR : Hid (∀ m', SurvR l w (.int .i64 x) (.int .i64 (ld + 1)) (.int .i64 ((k : Int) + 1)) (w.drewN m')) := Lib.hid fun m' => ⟨k + 1, x, ld + 1, m', hkl, by go_num, rfl, rfl, by rw [et]; exact MidP.lead_same hL, rfl⟩
      clear hL hk hx et hkl hld HI h0
      go_wp2_with fail
      go_roundw
      case rel => exact HR.out _
      case measure => simp [intOf]; omega
    · have q3 : (x == nv) = false := by rw [beq_eq_false_iff_ne]; exact hxn
      have e2 : IntKind.i64.wrap (ld - 1) = ld - 1 := IntWalk.i64_in _ (by omega)
      have HR : Hid (∀ m', SurvR l w (.int .i64 nv) (.int .i64 (ld - 1)) (.int .i64 ((k : Int) + 1)) (w.drewN m')) := Lib.hid fun m' => ⟨k + 1, nv, ld - 1, m', hkl, by go_num, rfl, rfl, by rw [et]; exact MidP.lead_other hL h0 hxn, rfl⟩
      clear hL hk hx et hkl hld HI h0 hxn
      go_wp2_with fail
      go_roundw
      case rel => exact HR.out _
      case measure => simp [intOf]; omega

def CntR (l : List Int) (x : Int) (w : World) (c i : Value) (W : World) : Prop := ∃ k m, k ≤ l.length ∧ i = .int .i64 (k : Nat) ∧ c = .int .i64 (MidP.cnt x (l.take k) : Nat) ∧ W = w.drewN m
set_option maxHeartbeats 1000000 in
theorem count_any (A : Option Addr) (n cap : Nat) (l : List Int) (hl : l.length = n) (hn : n ≤ 1000000) (x : Int) (w : World) (h : IntsIn w A l) : Calls Try.prog 39 #[.slice A n cap, .int .i64 x] w (Quiet (.int .i64 (MidP.cnt x l : Nat)) w) := by
  have HI := Lib.hid h
  have Hl := Lib.hid hl
  have HS0 : Hid (CntR l x w (.int .i64 0) (.int .i64 0) w) := Lib.hid ⟨0, 0, Nat.zero_le _, rfl, rfl, rfl⟩
  clear h hl
  go_enter Try.func39, Try.ntmps39
  go_wp2_with fail
  go_loopw [5, 10] (CntR l x w) (fun _ i _ => (n + 1 - intOf i).toNat)
  case atStart => exact HS0.out
  case round =>
    clear HS0
    obtain ⟨k, m, hk, rfl, rfl, rfl⟩ := hrel
    by_cases hkn : k < n
    case neg =>
      obtain rfl : k = n := by have := Hl.out; omega
      have HF : Hid (∀ m', Quiet (.int .i64 (MidP.cnt x l : Nat)) w (.returned (.int .i64 (MidP.cnt x (l.take k) : Nat))) (w.drewN m')) := Lib.hid fun m' => ⟨by rw [← Hl.out, List.take_length], _, rfl⟩
      generalize MidP.cnt x (l.take k) = c at *
      have q1 : decide ((k : Int) < (k : Int)) = false := decide_eq_false (by omega)
      clear hk hkn HI
      go_wp2_with fail
      go_ret
      exact HF.out _
    obtain ⟨y, hy⟩ : ∃ y, l[k]? = some y := ⟨_, List.getElem?_eq_getElem (by rw [Hl.out]; exact hkn)⟩
    obtain ⟨ba, oa, rfl, -, c0⟩ := HI.out.at_ hy
    have q1 : decide ((k : Int) < (n : Int)) = true := decide_eq_true (by omega)
    have hkz : (k : Int) < (n : Int) := by omega
    have e1 : IntKind.i64.wrap ((k : Int) + 1) = (k : Int) + 1 := IntWalk.i64_in _ (by omega)
    have hkl : k + 1 ≤ l.length := by rw [Hl.out]; exact hkn
    have hc := MidP.cnt_le x (l.take k)
    rw [List.length_take] at hc
    have ec := MidP.cnt_take x hy
    by_cases hyx : y = x
    · subst hyx
      rw [if_pos rfl] at ec
      have HR : Hid (∀ m', CntR l y w (.int .i64 ((MidP.cnt y (l.take k) : Nat) + 1 : Int)) (.int .i64 ((k : Int) + 1)) (w.drewN m')) := Lib.hid fun m' => ⟨k + 1, m', hkl, by go_num, by rw [ec]; go_num, rfl⟩
      generalize MidP.cnt y (l.take k) = c at *
      have e2 : IntKind.i64.wrap ((c : Int) + 1) = (c : Int) + 1 := IntWalk.i64_in _ (by omega)
      clear hk hy hkl HI ec hc
      go_wp2_with fail
      go_roundw
      case rel => exact HR.out _
      case measure => simp [intOf]; omega
    · have q3 : (y == x) = false := by rw [beq_eq_false_iff_ne]; exact hyx
      simp only [if_neg hyx, Nat.add_zero] at ec
      have HR : Hid (∀ m', CntR l x w (.int .i64 (MidP.cnt x (l.take k) : Nat)) (.int .i64 ((k : Int) + 1)) (w.drewN m')) := Lib.hid fun m' => ⟨k + 1, m', hkl, by go_num, by rw [ec], rfl⟩
      generalize MidP.cnt x (l.take k) = c at *
      clear hk hy hkl HI ec hyx hc
      go_wp2_with fail
      go_roundw
      case rel => exact HR.out _
      case measure => simp [intOf]; omega

/-- What Most answers. -/
def MostP (l : List Int) (w : World) (e : Ending) (w' : World) : Prop := Quiet (.tuple #[.int .i64 (MidP.mostT l).1, .bool (MidP.mostT l).2]) w e w'
set_option maxHeartbeats 1000000 in
theorem most_any (A : Option Addr) (n cap : Nat) (l : List Int) (hl : l.length = n) (hn : n ≤ 1000000) (w : World) (h : IntsIn w A l) : Calls Try.prog 32 #[.slice A n cap] w (MostP l w) := by
  have HS := Lib.hid (survivor_any A n cap l hl hn w h)
  have HC := Lib.hid (fun x m => count_any A n cap l hl hn x (w.drewN m) (h.below (below_drewNc (Below.refl _ _) m)))
  have Hl := Lib.hid hl
  clear h hl
  go_enter Try.func32, Try.ntmps32
  go_wp2_with fail
  refine HS.out.mono ?_
  rintro e w1 ⟨x, ld, hL, rfl, m, rfl⟩
  have hm := MidP.lead_most hL
  have hc := MidP.cnt_le x l
  rw [Hl.out] at hc hm
  have HC2 := Lib.hid (HC.out x m)
  generalize MidP.cnt x l = c at *
  have et : ((n : Int)).tdiv 2 = (n : Int) / 2 := Int.tdiv_eq_ediv_of_nonneg (by omega)
  have e0 : IntKind.i64.wrap ((n : Int).tdiv 2) = (n : Int).tdiv 2 := IntWalk.i64_in _ (by omega)
  have e1 : IntKind.i64.wrap ((n : Int) / 2) = (n : Int) / 2 := IntWalk.i64_in _ (by omega)
  by_cases hq : c ≤ n / 2
  · rw [if_pos hq] at hm
    have HF : Hid (∀ m', MostP l w (.returned (.tuple #[.int .i64 0, .bool false])) (w.drewN m')) := Lib.hid fun m' => ⟨by rw [hm], _, rfl⟩
    have q1 : decide ((c : Int) ≤ (n : Int) / 2) = true := decide_eq_true (by omega)
    have q2 : decide (c ≤ n / 2) = true := decide_eq_true hq
    clear hL hm hc HC HS et hq
    go_wp2_with fail
    refine HC2.out.mono ?_
    rintro e w2 ⟨rfl, m2, rfl⟩
    go_wp2_with fail
    go_ret2
    exact HF.out _
  · rw [if_neg hq] at hm
    have HF : Hid (∀ m', MostP l w (.returned (.tuple #[.int .i64 x, .bool true])) (w.drewN m')) := Lib.hid fun m' => ⟨by rw [hm], _, rfl⟩
    have q1 : decide ((c : Int) ≤ (n : Int) / 2) = false := decide_eq_false (by omega)
    have q2 : decide (c ≤ n / 2) = false := decide_eq_false hq
    clear hL hm hc HC HS et hq
    go_wp2_with fail
    refine HC2.out.mono ?_
    rintro e w2 ⟨rfl, m2, rfl⟩
    go_wp2_with fail
    go_ret2
    exact HF.out _

def RMoR (l : List Int) (w : World) (i : Value) (W : World) : Prop := ∃ k m, k ≤ l.length ∧ i = .int .i64 (k : Nat) ∧ (∀ j x, j < k → l[j]? = some x → ¬ MidP.Most l x) ∧ W = w.drewN m
set_option maxHeartbeats 1000000 in
theorem isame_any (A A' : Option Addr) (n c c' : Nat) (l : List Int) (hl : l.length = n) (hn : n ≤ 1000000) (w : World) (h : IntsIn w A l) (h' : IntsIn w A' l) : Calls Try.prog 17 #[.slice A n c, .slice A' n c'] w (Quiet (.bool true) w) := by
  have HI := Lib.hid h
  have HI' := Lib.hid h'
  have Hl := Lib.hid hl
  clear h h' hl
  go_enter Try.func17, Try.ntmps17
  go_wp2_with fail
  go_loopw [5] (fun i wr => ∃ k m, k ≤ n ∧ i = .int .i64 (k : Nat) ∧ wr = w.drewN m) (fun i _ => (n + 1 - intOf i).toNat)
  case atStart => exact ⟨0, 0, Nat.zero_le _, rfl, rfl⟩
  case round =>
    obtain ⟨k, m, hk, rfl, rfl⟩ := hrel
    by_cases hkn : k < n
    case neg =>
      obtain rfl : k = n := by omega
      have q1 : decide ((k : Int) < (k : Int)) = false := decide_eq_false (by omega)
      clear hk hkn HI HI'
      go_wp2_with fail
      go_ret
      exact ⟨rfl, _, rfl⟩
    obtain ⟨x, hx⟩ : ∃ x, l[k]? = some x := ⟨_, List.getElem?_eq_getElem (by rw [Hl.out]; exact hkn)⟩
    obtain ⟨ba, oa, rfl, -, c0⟩ := HI.out.at_ hx
    obtain ⟨bb, ob, rfl, -, c1⟩ := HI'.out.at_ hx
    have q1 : decide ((k : Int) < (n : Int)) = true := decide_eq_true (by omega)
    have hkz : (k : Int) < (n : Int) := by omega
    have e1 : IntKind.i64.wrap ((k : Int) + 1) = (k : Int) + 1 := IntWalk.i64_in _ (by omega)
    have HR : Hid (∀ m', ∃ k' m'', k' ≤ n ∧ Value.int .i64 ((k : Int) + 1) = .int .i64 (k' : Nat) ∧ w.drewN m' = w.drewN m'') := Lib.hid fun m' => ⟨k + 1, m', by omega, by go_num, rfl⟩
    clear hk hx HI HI'
    go_wp2_with fail
    go_quiet (fail)
    go_wp2_with fail
    go_roundw
    case rel => exact HR.out _
    case measure => simp [intOf]; omega
end Go.Proofs.Ytkahecdnmeofkaa
