/- Contracts of behindPoint's closures, of behindPoint at each of them, of primes, squares and cubes. Conditions: those that each states. -/
import Derived.Test.YtpabgkmjhcmonaaDigA
import Derived.Test.YtpabgkmjhcmonaaDigQ
namespace Go.Proofs.Ytpabgkmjhcmonaa
open Go.RowKit
set_option maxRecDepth 100000

theorem sq_any (b p x : Nat) (_hp : p < 4294967296) (hx : x < 34359738368) (w : World) (hc : w.cell? ⟨b, 0, none⟩ = some (.int .u64 p)) :
    Calls Try.prog 22 #[.int .u64 x, .pointer (some ⟨b, 0, none⟩)] w fun e w' => e = .returned (.bool (DigP.sqB p x)) ∧ w = w' := by
  have H := Lib.hid (fun W => mul64_any x x (by omega) (by omega) W)
  go_enter Try.func22, Try.ntmps22
  go_wp2_with fail
  refine (H.out _).mono ?_
  rintro e w' ⟨rfl, rfl⟩
  have hr : decide (x * x / 18446744073709551616 < p) = DigP.sqB p x := rfl
  generalize x * x / 18446744073709551616 = y at *
  generalize x * x % 18446744073709551616 = z
  have HR := Lib.hid hr
  clear hr
  go_wp2_with fail
  go_ret
  exact ⟨congrArg (fun b => Ending.returned (.bool b)) HR.out, rfl⟩
theorem cb_any (b p x : Nat) (hp : p < 4294967296) (hx : x < 34359738368) (w : World) (hc : w.cell? ⟨b, 0, none⟩ = some (.int .u64 p)) :
    Calls Try.prog 20 #[.int .u64 x, .pointer (some ⟨b, 0, none⟩)] w fun e w' => e = .returned (.bool (DigP.cbB p x)) ∧ w = w' := by
  have H := Lib.hid (fun W => mul64_any x x (by omega) (by omega) W)
  have hlo : x * x % 18446744073709551616 < 18446744073709551616 := Nat.mod_lt _ (by decide)
  have H2 := Lib.hid (fun W => mul64_any (x * x % 18446744073709551616) x hlo (by omega) W)
  have hhi : x * x / 18446744073709551616 < 64 := by
    have := Nat.mul_le_mul (Nat.le_of_lt_succ hx) (Nat.le_of_lt_succ hx)
    omega
  have hca : x * x % 18446744073709551616 * x / 18446744073709551616 ≤ 34359738368 := by
    refine Nat.div_le_of_le_mul ?_
    have := Nat.mul_le_mul (Nat.le_of_lt hlo) (Nat.le_of_lt hx)
    omega
  have hpr : x * x / 18446744073709551616 * x ≤ 64 * 34359738368 := Nat.mul_le_mul (Nat.le_of_lt hhi) (Nat.le_of_lt hx)
  go_enter Try.func20, Try.ntmps20
  go_wp2_with fail
  refine (H.out _).mono ?_
  rintro e w' ⟨rfl, rfl⟩
  have hr : decide (((x * x / 18446744073709551616 * x : Nat) : Int) + ((x * x % 18446744073709551616 * x / 18446744073709551616 : Nat) : Int) < (p : Int) * 4294967296) = DigP.cbB p x := by
    unfold DigP.cbB
    generalize x * x / 18446744073709551616 * x = y at *
    generalize x * x % 18446744073709551616 * x / 18446744073709551616 = y2 at *
    congr 1
    refine propext ⟨fun h => ?_, fun h => ?_⟩ <;> omega
  generalize x * x / 18446744073709551616 = y at *
  generalize x * x % 18446744073709551616 = z at *
  have HR := Lib.hid hr
  clear hr
  go_wp2_with fail
  refine (H2.out _).mono ?_
  rintro e w' ⟨rfl, rfl⟩
  generalize z * x / 18446744073709551616 = y2 at *
  generalize z * x % 18446744073709551616 = z2 at *
  have em : IntKind.u64.wrap ((y : Int) * (x : Int)) = ((y * x : Nat) : Int) := by rw [← Int.natCast_mul, u64_lit _ (by omega)]
  generalize y * x = q at *
  have ea : IntKind.u64.wrap ((q : Int) + (y2 : Int)) = ((q + y2 : Nat) : Int) := by rw [← Int.natCast_add, u64_lit _ (by omega)]
  clear hx hlo hhi hca hpr
  go_wp2_with fail
  go_ret
  exact ⟨congrArg (fun b => Ending.returned (.bool b)) HR.out, rfl⟩
theorem behind_sq (b p : Nat) (hp : p < 4294967296) (w : World) (hc : w.cell? ⟨b, 0, none⟩ = some (.int .u64 p)) :
    Calls Try.prog 19 #[.func (.func 22) #[] #[.pointer (some ⟨b, 0, none⟩)]] w fun e w' => e = .returned (.int .u32 (DigP.pointT (DigP.sqB p) : Nat)) ∧ w = w' := by
  have H := Lib.hid (fun x hx => sq_any b p x hp hx w hc)
  generalize hB : DigP.sqB p = B at *
  go_enter Try.func19, Try.ntmps19
  go_wp2_with fail
  go_loop [3, 4] (fun v i => ∃ k : Nat, k ≤ 35 ∧ v = .int .u64 (DigP.rootT B k : Nat) ∧ i = .int .u64 ((2 ^ 34 / 2 ^ k : Nat) : Int)) (fun _ i => (intOf i).toNat)
  case atStart => exact ⟨0, by omega, rfl, rfl⟩
  case round =>
    obtain ⟨k, hk, rfl, rfl⟩ := hrel
    have hq := DigP.rootT_lt B k
    have hbl := DigP.bit_le k
    have hn : DigP.rootT B (k + 1) = if B (DigP.rootT B k ||| 2 ^ 34 / 2 ^ k) then DigP.rootT B k ||| 2 ^ 34 / 2 ^ k else DigP.rootT B k := rfl
    have hb2 : 2 ^ 34 / 2 ^ (k + 1) = 2 ^ 34 / 2 ^ k / 2 := DigP.half_bit k
    by_cases hlt : k < 35
    · have hpos : 0 < 2 ^ 34 / 2 ^ k := Nat.div_pos (Nat.pow_le_pow_right (by decide) (by omega)) (Nat.pow_pos (by decide))
      generalize 2 ^ 34 / 2 ^ k = bit at *
      generalize DigP.rootT B k = q at *
      have hor : bits BinOp.or IntKind.u64 (q : Int) (bit : Int) = ((q ||| bit : Nat) : Int) := u64_or_nat q bit (by omega) (by omega)
      have hol := DigP.or35 hq (b := bit) (by omega)
      have g1 : decide ((0 : Int) < (bit : Int)) = true := by simp; omega
      generalize q ||| bit = x at *
      have HC := Lib.hid (H.out x hol)
      have Hb2 := Lib.hid hb2
      have Hk := Lib.hid hk
      clear hb2 hk
      cases hx : B x with
      | true =>
        rw [hx] at hn HC
        have Hn := Lib.hid hn
        clear hn
        go_wp2_with fail
        refine (HC.out).mono ?_
        rintro e w' ⟨rfl, rfl⟩
        go_wp2_with fail
        go_round
        case rel => exact ⟨k + 1, by omega, by rw [Hn.out]; rfl, by rw [Hb2.out]; simp⟩
        case measure => simp [intOf]; omega
      | false =>
        rw [hx] at hn HC
        have Hn := Lib.hid hn
        clear hn
        go_wp2_with fail
        refine (HC.out).mono ?_
        rintro e w' ⟨rfl, rfl⟩
        go_wp2_with fail
        go_round
        case rel => exact ⟨k + 1, by omega, by rw [Hn.out]; rfl, by rw [Hb2.out]; simp⟩
        case measure => simp [intOf]; omega
    · have hk2 : k = 35 := by omega
      subst hk2
      have g0 : ((2 ^ 34 / 2 ^ 35 : Nat) : Int) = 0 := by decide
      rw [g0]
      have hw : IntKind.u32.wrap (DigP.rootT B 35 : Nat) = (DigP.pointT B : Nat) := by
        unfold DigP.pointT
        generalize DigP.rootT B 35 = q
        rw [IntKind.wrap_u32]
        omega
      have Hw := Lib.hid hw
      clear hw
      generalize DigP.rootT B 35 = q at *
      clear hn hb2 hbl hk
      go_wp2_with fail
      go_ret
      exact ⟨ret_int Hw.out, rfl⟩
theorem behind_cb (b p : Nat) (hp : p < 4294967296) (w : World) (hc : w.cell? ⟨b, 0, none⟩ = some (.int .u64 p)) :
    Calls Try.prog 19 #[.func (.func 20) #[] #[.pointer (some ⟨b, 0, none⟩)]] w fun e w' => e = .returned (.int .u32 (DigP.pointT (DigP.cbB p) : Nat)) ∧ w = w' := by
  have H := Lib.hid (fun x hx => cb_any b p x hp hx w hc)
  generalize hB : DigP.cbB p = B at *
  go_enter Try.func19, Try.ntmps19
  go_wp2_with fail
  go_loop [3, 4] (fun v i => ∃ k : Nat, k ≤ 35 ∧ v = .int .u64 (DigP.rootT B k : Nat) ∧ i = .int .u64 ((2 ^ 34 / 2 ^ k : Nat) : Int)) (fun _ i => (intOf i).toNat)
  case atStart => exact ⟨0, by omega, rfl, rfl⟩
  case round =>
    obtain ⟨k, hk, rfl, rfl⟩ := hrel
    have hq := DigP.rootT_lt B k
    have hbl := DigP.bit_le k
    have hn : DigP.rootT B (k + 1) = if B (DigP.rootT B k ||| 2 ^ 34 / 2 ^ k) then DigP.rootT B k ||| 2 ^ 34 / 2 ^ k else DigP.rootT B k := rfl
    have hb2 : 2 ^ 34 / 2 ^ (k + 1) = 2 ^ 34 / 2 ^ k / 2 := DigP.half_bit k
    by_cases hlt : k < 35
    · have hpos : 0 < 2 ^ 34 / 2 ^ k := Nat.div_pos (Nat.pow_le_pow_right (by decide) (by omega)) (Nat.pow_pos (by decide))
      generalize 2 ^ 34 / 2 ^ k = bit at *
      generalize DigP.rootT B k = q at *
      have hor : bits BinOp.or IntKind.u64 (q : Int) (bit : Int) = ((q ||| bit : Nat) : Int) := u64_or_nat q bit (by omega) (by omega)
      have hol := DigP.or35 hq (b := bit) (by omega)
      have g1 : decide ((0 : Int) < (bit : Int)) = true := by simp; omega
      generalize q ||| bit = x at *
      have HC := Lib.hid (H.out x hol)
      have Hb2 := Lib.hid hb2
      have Hk := Lib.hid hk
      clear hb2 hk
      cases hx : B x with
      | true =>
        rw [hx] at hn HC
        have Hn := Lib.hid hn
        clear hn
        go_wp2_with fail
        refine (HC.out).mono ?_
        rintro e w' ⟨rfl, rfl⟩
        go_wp2_with fail
        go_round
        case rel => exact ⟨k + 1, by omega, by rw [Hn.out]; rfl, by rw [Hb2.out]; simp⟩
        case measure => simp [intOf]; omega
      | false =>
        rw [hx] at hn HC
        have Hn := Lib.hid hn
        clear hn
        go_wp2_with fail
        refine (HC.out).mono ?_
        rintro e w' ⟨rfl, rfl⟩
        go_wp2_with fail
        go_round
        case rel => exact ⟨k + 1, by omega, by rw [Hn.out]; rfl, by rw [Hb2.out]; simp⟩
        case measure => simp [intOf]; omega
    · have hk2 : k = 35 := by omega
      subst hk2
      have g0 : ((2 ^ 34 / 2 ^ 35 : Nat) : Int) = 0 := by decide
      rw [g0]
      have hw : IntKind.u32.wrap (DigP.rootT B 35 : Nat) = (DigP.pointT B : Nat) := by
        unfold DigP.pointT
        generalize DigP.rootT B 35 = q
        rw [IntKind.wrap_u32]
        omega
      have Hw := Lib.hid hw
      clear hw
      generalize DigP.rootT B 35 = q at *
      clear hn hb2 hbl hk
      go_wp2_with fail
      go_ret
      exact ⟨ret_int Hw.out, rfl⟩
end Go.Proofs.Ytpabgkmjhcmonaa
