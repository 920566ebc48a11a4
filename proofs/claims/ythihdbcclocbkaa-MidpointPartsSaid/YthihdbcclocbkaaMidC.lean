/- Contracts of halfway, of the program's Middle and of the document's down (at 2), E. Conditions: where the ints lie, that they are ints. -/
import Derived.Test.YthihdbcclocbkaaMidB
import Derived.Test.YthihdbcclocbkaaQuiet
namespace Go.Proofs.Ythihdbcclocbkaa
open Go.RowKit Go.Sort
set_option maxRecDepth 100000

set_option maxHeartbeats 1000000 in
theorem halfway_any (a b : Int) (h1 : -9223372036854775808 ≤ a) (h2 : a ≤ b) (h3 : b ≤ 9223372036854775807) (w : World) :
    Calls Try.prog 22 #[.int .i64 a, .int .i64 b] w (Quiet (.int .i64 ((a + b) / 2)) w) := by
  have HF : Hid (wrap64 (a + wrap64 (IntKind.u64.wrap ((IntKind.u64.wrap (IntKind.u64.wrap b - IntKind.u64.wrap a)).tdiv 2))) = (a + b) / 2) := Lib.hid (by
    have e : ∀ x : Int, IntKind.u64.wrap x = x % 18446744073709551616 := fun x => by simp [IntKind.wrap, IntKind.bits, IntKind.signed]
    simp only [e]
    have e2 : (b % 18446744073709551616 - a % 18446744073709551616) % 18446744073709551616 = b - a := by omega
    rw [e2, Int.tdiv_eq_ediv_of_nonneg (by omega)]
    have e3 : (b - a) / 2 % 18446744073709551616 = (b - a) / 2 := by omega
    rw [e3, IntWalk.wrap64_in ((b - a) / 2) ⟨by omega, by omega⟩, MidP.halfway_is]
    exact IntWalk.wrap64_in _ ⟨by omega, by omega⟩)
  clear h1 h2 h3
  go_enter Try.func22, Try.ntmps22
  go_wp2_with fail
  go_ret
  exact ⟨congrArg (fun z => Ending.returned (.int .i64 z)) HF.out, 0, rfl⟩

set_option maxHeartbeats 1000000 in
theorem refhalf_any (a : Int) (h1 : -9223372036854775808 ≤ a) (h3 : a ≤ 9223372036854775807) (w : World) :
    Calls Try.prog 23 #[.int .i64 a, .int .i64 2] w (Quiet (.int .i64 (a / 2)) w) := by
  have hp := Int.mul_tdiv_add_tmod a 2
  have hp2 : -2 < a.tmod 2 ∧ a.tmod 2 < 2 := by
    by_cases h : 0 ≤ a
    · rw [Int.tmod_eq_emod_of_nonneg h]; omega
    · have := Int.neg_tmod (a := -a) (b := 2)
      rw [Int.neg_neg] at this
      rw [this, Int.tmod_eq_emod_of_nonneg (by omega)]
      omega
  have e0 : IntKind.i64.wrap (a.tmod 2) = a.tmod 2 := IntWalk.i64_in _ (by omega)
  by_cases h : a.tmod 2 < 0
  · have q1 : decide (a.tmod 2 < 0) = true := decide_eq_true h
    have e1 : IntKind.i64.wrap (a.tmod 2 + 2) = a.tmod 2 + 2 := IntWalk.i64_in _ (by omega)
    have e2 : IntKind.i64.wrap (a - (a.tmod 2 + 2)) = a - (a.tmod 2 + 2) := IntWalk.i64_in _ (by omega)
    have e3 : (a - (a.tmod 2 + 2)).tdiv 2 = a / 2 := by
      have h4 : a - (a.tmod 2 + 2) = 2 * (a.tdiv 2 - 1) := by omega
      rw [h4, Int.mul_tdiv_cancel_left _ (by decide)]
      omega
    have e4 : IntKind.i64.wrap (a / 2) = a / 2 := IntWalk.i64_in _ (by omega)
    clear h1 h3 hp hp2 h
    go_enter Try.func23, Try.ntmps23
    go_wp2_with fail
    go_ret
    exact ⟨rfl, 0, rfl⟩
  · have q1 : decide (a.tmod 2 < 0) = false := decide_eq_false h
    have e2 : IntKind.i64.wrap (a - a.tmod 2) = a - a.tmod 2 := IntWalk.i64_in _ (by omega)
    have e3 : (a - a.tmod 2).tdiv 2 = a / 2 := by
      have h4 : a - a.tmod 2 = 2 * a.tdiv 2 := by omega
      rw [h4, Int.mul_tdiv_cancel_left _ (by decide)]
      omega
    have e4 : IntKind.i64.wrap (a / 2) = a / 2 := IntWalk.i64_in _ (by omega)
    clear h1 h3 hp hp2 h
    go_enter Try.func23, Try.ntmps23
    go_wp2_with fail
    go_ret
    exact ⟨rfl, 0, rfl⟩

/-- What Middle answers where it is an error. -/
def MidBad (w : World) (e : Ending) (w' : World) : Prop := e = .returned (.tuple #[.int .i64 0, .iface 44 (.int .i64 2)]) ∧ Below w.heap.size w w'
/-- .. and where it is none. -/
def MidGood (m : Int) (w : World) (e : Ending) (w' : World) : Prop := e = .returned (.tuple #[.int .i64 m, .nilIface]) ∧ Below w.heap.size w w'
/-- Ints of the kind int. -/
def Ints (l : List Int) : Prop := MidP.In (-9223372036854775808) 9223372036854775807 l

set_option maxHeartbeats 1000000 in
theorem mid_bad (A : Option Addr) (n cap : Nat) (hn : n ≤ 1000000) (f : Int) (hf : ¬ Cuts n f) (w : World) : Calls Try.prog 12 #[.slice A n cap, .int .i64 f] w (MidBad w) := by
  have HC := Lib.hid (cut_bad A n cap hn f hf w)
  clear hf
  go_enter Try.func12, Try.ntmps12
  go_wp2_with fail
  refine HC.out.mono ?_
  rintro e w1 ⟨rfl, rfl⟩
  go_wp2_with fail
  go_ret2
  exact ⟨rfl, Below.refl _ _⟩

set_option maxHeartbeats 1000000 in
theorem mid_good (A : Option Addr) (n cap : Nat) (l : List Int) (hl : l.length = n) (hn : n ≤ 1000000) (f : Nat) (hf : 2 * f + 1 ≤ n) (w : World) (h : IntsIn w A l) (hi : Ints l) : Calls Try.prog 12 #[.slice A n cap, .int .i64 (f : Nat)] w (MidGood (MidP.midT l f) w) := by
  have HC := Lib.hid (cut_good A n cap l hl hn f hf w h)
  obtain ⟨k, hk⟩ : ∃ k, l.length - 2 * f = k + 1 := ⟨l.length - 2 * f - 1, by omega⟩
  have H1 := Lib.hid (MidP.first_at (l := l) (f := f) (by omega))
  have H2 : Hid ((MidP.cutT l f)[k]? = some (MidP.lastT l f)) := Lib.hid (by
    have := MidP.last_at (l := l) (f := f) (by omega)
    rwa [hk, Nat.add_sub_cancel] at this)
  obtain ⟨⟨i1, i2⟩, i3, i4⟩ := MidP.ends_in hi (f := f) (by omega)
  have i5 := MidP.first_le_last (l := l) (f := f) (by omega)
  have HH := Lib.hid (fun W => halfway_any (MidP.firstT l f) (MidP.lastT l f) i1 i5 i4 W)
  have HM : Hid ((MidP.firstT l f + MidP.lastT l f) / 2 = MidP.midT l f) := Lib.hid rfl
  unfold CutGood at HC
  rw [hk] at HC
  have eK : IntKind.i64.wrap (k : Int) = (k : Int) := IntWalk.i64_in _ (by omega)
  generalize MidP.firstT l f = a at *
  generalize MidP.lastT l f = b at *
  generalize MidP.midT l f = m at *
  generalize MidP.cutT l f = c at *
  clear h hi hl i1 i2 i3 i4 i5 hk hf
  go_enter Try.func12, Try.ntmps12
  go_wp2_with fail
  refine HC.out.mono ?_
  rintro e w1 ⟨g, off, cp, rfl, hs, hb⟩
  have k0 : w1.cell? ⟨g, off, none⟩ = some (.int .i64 a) := hs.cell (intV_get H1.out)
  have k1 : w1.cell? ⟨g, off + k, none⟩ = some (.int .i64 b) := hs.cell (intV_get H2.out)
  have Hb := Lib.hid hb
  clear hs hb HC H1 H2
  go_wp2_with fail
  go_quiet ((go_at_call 22; exact quiet_quiet (HH.out _)))
  go_wp2_with fail
  go_ret2
  exact ⟨congrArg (fun z => Ending.returned (.tuple #[.int .i64 z, .nilIface])) HM.out, below_drewNc Hb.out _⟩
end Go.Proofs.Ythihdbcclocbkaa
