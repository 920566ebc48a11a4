/- Contracts of just, Has, With, Without, Len, Of, List (sets as bits), and of the document's Has, Len. Conditions: sets of eight bits; where the numbers lie. -/
import Derived.Test.YtkahecdnmeofkaaMidBa
import Derived.Test.YtkahecdnmeofkaaMbrQ
namespace Go.Proofs.Ytkahecdnmeofkaa
open Go.RowKit
set_option maxRecDepth 100000

def PureM (v : Value) (w : World) (e : Ending) (w' : World) : Prop := e = .returned v ∧ w = w'
def setV (s : Nat) : Value := .int .u8 (s : Nat)
theorem just_any (n : Int) (w : World) : Calls Try.prog 29 #[.int .i64 n] w (PureM (setV (MbrP.just n)) w) := by
  unfold setV
  by_cases h1 : n < 0
  · have q1 : decide (n < 0) = true := decide_eq_true h1
    rw [MbrP.just_out (by omega)]
    clear h1
    go_enter Try.func29, Try.ntmps29
    go_wp2_with fail
    go_ret
    exact ⟨rfl, rfl⟩
  have q1 : decide (n < 0) = false := decide_eq_false h1
  by_cases h2 : 7 ≤ n
  · have q2 : decide (n ≥ 7) = true := decide_eq_true h2
    rw [MbrP.just_out (by omega)]
    clear h1 h2
    go_enter Try.func29, Try.ntmps29
    go_wp2_with fail
    go_ret
    exact ⟨rfl, rfl⟩
  have q2 : decide (n ≥ 7) = false := decide_eq_false h2
  obtain ⟨k, rfl⟩ := Int.eq_ofNat_of_zero_le (show 0 ≤ n by omega)
  have HJ : Hid ((2 : Int) ^ k % 256 = ((MbrP.just (k : Int) : Nat) : Int)) := Lib.hid (by
    have h2 : ∀ j : Fin 7, (2 : Int) ^ j.1 % 256 = ((2 ^ j.1 : Nat) : Int) := by decide +kernel
    rw [MbrP.just_in (by omega)]
    exact h2 ⟨k, by omega⟩)
  have hk : (k : Int) < 7 := by omega
  go_enter Try.func29, Try.ntmps29
  go_wp2_with fail
  go_ret
  exact ⟨congrArg (fun z => Ending.returned (.int .u8 z)) HJ.out, rfl⟩

theorem has_any (s : Nat) (hs : s < 256) (n : Int) (w : World) : Calls Try.prog 11 #[setV s, .int .i64 n] w (PureM (.bool (MbrP.hasT s n)) w) := by
  have H := Lib.hid (just_any n w)
  have HB := Lib.hid (MbrP.bits_and hs (Nat.lt_trans (MbrP.just_small n) (show 128 < 256 by decide)))
  have HF : Hid ((((s &&& MbrP.just n : Nat) : Int) != 0) = MbrP.hasT s n) := Lib.hid (by
    unfold MbrP.hasT
    by_cases h : s &&& MbrP.just n = 0
    · rw [h]; rfl
    · have h2 : ((s &&& MbrP.just n : Nat) : Int) ≠ 0 := by omega
      rw [bne_iff_ne.2 h, bne_iff_ne.2 h2])
  unfold setV at H ⊢
  clear hs
  go_enter Try.func11, Try.ntmps11
  go_wp2_with fail
  refine H.out.mono ?_
  rintro e w1 ⟨rfl, rfl⟩
  go_wp2_with fail
  go_ret
  exact ⟨by rw [HB.out, ← HF.out]; rfl, rfl⟩
theorem with_any (s : Nat) (hs : s < 256) (n : Int) (w : World) : Calls Try.prog 13 #[setV s, .int .i64 n] w (PureM (setV (MbrP.withT s n)) w) := by
  have H := Lib.hid (just_any n w)
  have HB := Lib.hid (MbrP.bits_or hs (Nat.lt_trans (MbrP.just_small n) (show 128 < 256 by decide)))
  unfold setV at H ⊢
  clear hs
  go_enter Try.func13, Try.ntmps13
  go_wp2_with fail
  refine H.out.mono ?_
  rintro e w1 ⟨rfl, rfl⟩
  go_wp2_with fail
  go_ret
  exact ⟨congrArg (fun z => Ending.returned (.int .u8 z)) HB.out, rfl⟩
theorem without_any (s : Nat) (hs : s < 256) (n : Int) (w : World) : Calls Try.prog 14 #[setV s, .int .i64 n] w (PureM (setV (MbrP.outT s n)) w) := by
  have H := Lib.hid (just_any n w)
  have HB := Lib.hid (MbrP.bits_out hs (Nat.lt_trans (MbrP.just_small n) (show 128 < 256 by decide)))
  unfold setV at H ⊢
  clear hs
  go_enter Try.func14, Try.ntmps14
  go_wp2_with fail
  refine H.out.mono ?_
  rintro e w1 ⟨rfl, rfl⟩
  go_wp2_with fail
  go_ret
  exact ⟨congrArg (fun z => Ending.returned (.int .u8 z)) HB.out, rfl⟩

theorem pop8_is : ∀ s : Fin 256, wrap64 ((Lib.pop8tab[s.1]'(by rw [Lib.pop8tab_size]; exact s.2)).toNat : Int) = (MbrP.len8 s.1 : Int) := by decide +kernel
theorem ones_any (s : Nat) (hs : s < 256) (w : World) : Calls Try.prog 30 #[setV s] w (PureM (.int .i64 (MbrP.len8 s : Nat)) w) := by
  unfold setV
  go_enter Try.func30, Try.ntmps30
  go_wp2_with fail
  go_ret
  exact ⟨congrArg (fun z => Ending.returned (.int .i64 z)) (pop8_is ⟨s, hs⟩), rfl⟩
theorem len_any (s : Nat) (hs : s < 256) (w : World) : Calls Try.prog 15 #[setV s] w (PureM (.int .i64 (MbrP.len8 s : Nat)) w) := by
  have H := Lib.hid (ones_any s hs w)
  unfold setV at H ⊢
  clear hs
  go_enter Try.func15, Try.ntmps15
  go_wp2_with fail
  refine H.out.mono ?_
  rintro e w1 ⟨rfl, rfl⟩
  go_wp2_with fail
  go_ret
  exact ⟨rfl, rfl⟩

theorem refhas_any (s : Nat) (hs : s < 256) (n : Int) (w : World) : Calls Try.prog 12 #[setV s, .int .i64 n] w (PureM (.bool (MbrP.hasT s n)) w) := by
  unfold setV
  by_cases h1 : 0 ≤ n
  case neg =>
    have q1 : decide (n ≥ 0) = false := decide_eq_false (by omega)
    rw [MbrP.hasT_zero (MbrP.just_out (by omega))]
    clear h1
    go_enter Try.func12, Try.ntmps12
    go_wp2_with fail
    go_ret
    exact ⟨rfl, rfl⟩
  have q1 : decide (n ≥ 0) = true := decide_eq_true h1
  by_cases h2 : n < 7
  case neg =>
    have q2 : decide (n < 7) = false := decide_eq_false h2
    rw [MbrP.hasT_zero (MbrP.just_out (by omega))]
    clear h1 h2
    go_enter Try.func12, Try.ntmps12
    go_wp2_with fail
    go_ret
    exact ⟨rfl, rfl⟩
  obtain ⟨k, rfl⟩ := Int.eq_ofNat_of_zero_le h1
  have q2 : decide ((k : Int) < 7) = true := decide_eq_true h2
  have HB := Lib.hid (MbrP.shr_bit hs (k := k) (by omega))
  have HT := Lib.hid (MbrP.hasT_in hs (k := k) (by omega))
  go_enter Try.func12, Try.ntmps12
  go_wp2_with fail
  go_ret
  refine ⟨?_, rfl⟩
  rw [HT.out]
  refine congrArg (fun z => Ending.returned (.bool z)) ?_
  have h3 := HB.out
  simp only [Int.toNat_natCast] at h3
  rw [h3]
  cases s.testBit k <;> rfl

end Go.Proofs.Ytkahecdnmeofkaa
