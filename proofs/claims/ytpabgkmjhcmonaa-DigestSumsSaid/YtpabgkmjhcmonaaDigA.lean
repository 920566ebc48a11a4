/- Contracts of the word operations: bits.RotateLeft32, digest.right, the document's right, digest.word, bits.Mul64. Conditions: those that each states. -/
import Derived.Test.YtpabgkmjhcmonaaChecked
import Derived.Test.YtpabgkmjhcmonaaDigP
import Derived.Test.YtpabgkmjhcmonaaMem
import Derived.KernelRfl
import Derived.Laws.BitsAllLaws
namespace Go.Proofs.Ytpabgkmjhcmonaa
open Go.RowKit
set_option maxRecDepth 100000

theorem turn_count : ∀ n : Fin 32, 0 < n.val → bits BinOp.and IntKind.u64 (IntKind.u64.wrap (-(n.val : Int))) 31 = ((32 - n.val : Nat) : Int) := by decide +kernel
theorem rot_or (x n m : Nat) (hx : x < 4294967296) (hn : n + m = 32) : bits BinOp.or IntKind.u32 ((x : Int) * 2 ^ m % 4294967296) ((x : Int) / 2 ^ n) = (DigP.rotr x n : Nat) := by
  have h := u32_or_nat (x * 2 ^ m % 4294967296) (x / 2 ^ n) (Nat.mod_lt _ (by decide)) (Nat.lt_of_le_of_lt (Nat.div_le_self _ _) hx)
  have e1 : (x : Int) * 2 ^ m % 4294967296 = ((x * 2 ^ m % 4294967296 : Nat) : Int) := by
    have : ((x * 2 ^ m : Nat) : Int) = (x : Int) * 2 ^ m := by simp
    rw [← this]
    generalize x * 2 ^ m = y
    omega
  have e2 : (x : Int) / 2 ^ n = ((x / 2 ^ n : Nat) : Int) := by simp
  rw [e1, e2, h, Nat.or_comm]
  obtain rfl : m = 32 - n := by omega
  rfl

theorem rotl_any (x n : Nat) (hx : x < 4294967296) (hn : n < 32) (h0 : 0 < n) (w : World) :
    Calls Try.prog 28 #[.int .u32 x, .int .i64 (-(n : Int))] w fun e w' => e = .returned (.int .u32 (DigP.rotr x n : Nat)) ∧ w = w' := by
  have hc := turn_count ⟨n, hn⟩ h0
  simp only at hc
  obtain ⟨m, hm⟩ : ∃ m, 32 - n = m := ⟨_, rfl⟩
  rw [hm] at hc
  have hm2 : m < 32 := by omega
  have HR := Lib.hid (rot_or x n m hx (by omega))
  obtain rfl : n = 32 - m := by omega
  clear hm
  go_enter Try.func28, Try.ntmps28
  go_wp2_with fail
  go_ret
  exact ⟨ret_int HR.out, rfl⟩

theorem right_any (x n : Nat) (hx : x < 4294967296) (hn : n < 32) (h0 : 0 < n) (w : World) :
    Calls Try.prog 27 #[.int .u32 x, .int .i64 n] w fun e w' => e = .returned (.int .u32 (DigP.rotr x n : Nat)) ∧ w = w' := by
  have H := Lib.hid (fun W => rotl_any x n hx hn h0 W)
  have hw : IntKind.i64.wrap (-(n : Int)) = -(n : Int) := IntWalk.i64_in _ (by omega)
  go_enter Try.func27, Try.ntmps27
  go_wp2_with fail
  refine (H.out _).mono ?_
  rintro e w' ⟨rfl, rfl⟩
  go_wp2_with fail
  go_ret
  exact ⟨rfl, rfl⟩
theorem refright_any (x n : Nat) (hx : x < 4294967296) (hn : n < 32) (h0 : 0 < n) (w : World) :
    Calls Try.prog 18 #[.int .u32 x, .int .i64 n] w (Quiet (.int .u32 (DigP.rotr x n : Nat)) w) := by
  have HR := Lib.hid (rot_or x n (32 - n) hx (by omega))
  have e0 : ∀ a b, bits BinOp.or IntKind.u32 a b = bits BinOp.or IntKind.u32 b a := fun a b => by simp [bits, Nat.or_comm]
  go_enter Try.func18, Try.ntmps18
  go_wp2_with fail
  go_quiet (fail)
  go_wp2_with fail
  go_ret
  exact ⟨ret_int (by rw [e0, HR.out]), _, rfl⟩

/-- Four bytes, the highest first. -/
theorem or_add {x y : Nat} (i : Nat) (hy : y < 2 ^ i) : x * 2 ^ i ||| y = x * 2 ^ i + y := by
  have := Nat.shiftLeft_add_eq_or_of_lt (i := i) hy x
  rw [Nat.shiftLeft_eq] at this
  exact this.symm
theorem word_or (a b c d : Nat) (ha : a < 256) (hb : b < 256) (hc : c < 256) (hd : d < 256) :
    bits BinOp.or IntKind.u32 (bits BinOp.or IntKind.u32 (bits BinOp.or IntKind.u32 ((a : Int) * 16777216) ((b : Int) * 65536)) ((c : Int) * 256)) (d : Int) = ((((a * 256 + b) * 256 + c) * 256 + d : Nat) : Int) := by
  have o1 : a * 16777216 ||| b * 65536 = a * 16777216 + b * 65536 := or_add (x := a) (y := b * 65536) 24 (by omega)
  have o2 : (a * 256 + b) * 65536 ||| c * 256 = (a * 256 + b) * 65536 + c * 256 := or_add (x := a * 256 + b) (y := c * 256) 16 (by omega)
  have o3 : ((a * 256 + b) * 256 + c) * 256 ||| d = ((a * 256 + b) * 256 + c) * 256 + d := or_add (x := (a * 256 + b) * 256 + c) (y := d) 8 (by omega)
  have h1 := u32_or_nat (a * 16777216) (b * 65536) (by omega) (by omega)
  rw [o1, show a * 16777216 + b * 65536 = (a * 256 + b) * 65536 by omega] at h1
  have h2 := u32_or_nat ((a * 256 + b) * 65536) (c * 256) (by omega) (by omega)
  rw [o2, show (a * 256 + b) * 65536 + c * 256 = ((a * 256 + b) * 256 + c) * 256 by omega] at h2
  have h3 := u32_or_nat (((a * 256 + b) * 256 + c) * 256) d (by omega) (by omega)
  rw [o3] at h3
  rw [show (a : Int) * 16777216 = ((a * 16777216 : Nat) : Int) by omega, show (b : Int) * 65536 = ((b * 65536 : Nat) : Int) by omega, show (c : Int) * 256 = ((c * 256 : Nat) : Int) by omega, h1, h2, h3]
theorem word_any (g o : Nat) (cap : Nat) (n : Nat) (w : World) (x0 x1 x2 x3 : UInt8) (hn : 4 ≤ n) (h0 : w.cell? ⟨g, o, none⟩ = some (.int .u8 (x0.toNat : Nat))) (h1 : w.cell? ⟨g, o + 1, none⟩ = some (.int .u8 (x1.toNat : Nat)))
    (h2 : w.cell? ⟨g, o + 2, none⟩ = some (.int .u8 (x2.toNat : Nat))) (h3 : w.cell? ⟨g, o + 3, none⟩ = some (.int .u8 (x3.toNat : Nat))) :
    Calls Try.prog 26 #[.slice (some ⟨g, o, none⟩) n cap] w (Quiet (.int .u32 ((((x0.toNat * 256 + x1.toNat) * 256 + x2.toNat) * 256 + x3.toNat : Nat) : Int)) w) := by
  have l0 := x0.toNat_lt
  have l1 := x1.toNat_lt
  have l2 := x2.toNat_lt
  have l3 := x3.toNat_lt
  generalize x0.toNat = a at *
  generalize x1.toNat = b at *
  generalize x2.toNat = c at *
  generalize x3.toNat = d at *
  have HR := Lib.hid (word_or a b c d l0 l1 l2 l3)
  go_enter Try.func26, Try.ntmps26
  go_wp2_with fail
  go_quiet (fail)
  go_wp2_with fail
  go_ret
  exact ⟨ret_int HR.out, _, rfl⟩

theorem u64_lit (a : Nat) (h : a < 18446744073709551616) : IntKind.u64.wrap (a : Int) = (a : Int) := by
  have e : ((2 : Int) ^ (64 : Nat)) = 18446744073709551616 := by decide
  simp only [IntKind.wrap, IntKind.signed, IntKind.bits, e]
  simp
  omega
theorem u64_mod (a : Nat) : IntKind.u64.wrap (a : Int) = ((a % 18446744073709551616 : Nat) : Int) := by
  have e : ((2 : Int) ^ (64 : Nat)) = 18446744073709551616 := by decide
  simp only [IntKind.wrap, IntKind.signed, IntKind.bits, e]
  simp
theorem u64_low (x : Nat) (hx : x < 18446744073709551616) : bits BinOp.and IntKind.u64 (x : Int) 4294967295 = ((x % 4294967296 : Nat) : Int) := by
  have h := u64_and_nat x 4294967295 hx (by decide)
  rw [show x &&& 4294967295 = x % 4294967296 from Nat.and_two_pow_sub_one_eq_mod x 32] at h
  exact h
theorem prod_lt {a b : Nat} (ha : a < 4294967296) (hb : b < 4294967296) : a * b ≤ 18446744065119617025 := by
  have := Nat.mul_le_mul (Nat.le_of_lt_succ ha) (Nat.le_of_lt_succ hb)
  omega
theorem mul_hi (x y : Nat) (hx : x < 18446744073709551616) (hy : y < 18446744073709551616) : IntKind.u64.wrap
              (IntKind.u64.wrap
                  (IntKind.u64.wrap ((x : Int) / 4294967296 * ((y : Int) / 4294967296)) +
                    IntKind.u64.wrap
                        (IntKind.u64.wrap ((x : Int) / 4294967296 * bits BinOp.and IntKind.u64 (y : Int) 4294967295) +
                          IntKind.u64.wrap
                              (bits BinOp.and IntKind.u64 (x : Int) 4294967295 *
                                bits BinOp.and IntKind.u64 (y : Int) 4294967295) /
                            4294967296) /
                      4294967296) +
                IntKind.u64.wrap
                    (bits BinOp.and IntKind.u64
                        (IntKind.u64.wrap
                          (IntKind.u64.wrap ((x : Int) / 4294967296 * bits BinOp.and IntKind.u64 (y : Int) 4294967295) +
                            IntKind.u64.wrap
                                (bits BinOp.and IntKind.u64 (x : Int) 4294967295 *
                                  bits BinOp.and IntKind.u64 (y : Int) 4294967295) /
                              4294967296))
                        4294967295 +
                      IntKind.u64.wrap (bits BinOp.and IntKind.u64 (x : Int) 4294967295 * ((y : Int) / 4294967296))) /
                  4294967296) = ((x * y / 18446744073709551616 : Nat) : Int) := by
  rw [u64_low x hx, u64_low y hy]
  have x1 : x / 4294967296 < 4294967296 := by omega
  have y1 : y / 4294967296 < 4294967296 := by omega
  have x0 : x % 4294967296 < 4294967296 := by omega
  have y0 : y % 4294967296 < 4294967296 := by omega
  have ex : x = x / 4294967296 * 4294967296 + x % 4294967296 := by omega
  have ey : y = y / 4294967296 * 4294967296 + y % 4294967296 := by omega
  have cx : (x : Int) / 4294967296 = ((x / 4294967296 : Nat) : Int) := by omega
  have cy : (y : Int) / 4294967296 = ((y / 4294967296 : Nat) : Int) := by omega
  rw [cx, cy]
  have em : x * y = x / 4294967296 * (y / 4294967296) * 18446744073709551616 + (x / 4294967296 * (y % 4294967296) + x % 4294967296 * (y / 4294967296)) * 4294967296 + x % 4294967296 * (y % 4294967296) := by
    have h1 : x * y = (x / 4294967296 * 4294967296 + x % 4294967296) * (y / 4294967296 * 4294967296 + y % 4294967296) := by rw [← ex, ← ey]
    rw [h1]
    generalize x / 4294967296 = p
    generalize y / 4294967296 = q
    generalize x % 4294967296 = r
    generalize y % 4294967296 = s
    grind
  have b11 := prod_lt x1 y1
  have b10 := prod_lt x1 y0
  have b01 := prod_lt x0 y1
  have b00 := prod_lt x0 y0
  rw [em]
  simp only [← Int.natCast_mul]
  clear em ex ey cx cy hx hy
  generalize x / 4294967296 * (y / 4294967296) = P11 at *
  generalize x / 4294967296 * (y % 4294967296) = P10 at *
  generalize x % 4294967296 * (y / 4294967296) = P01 at *
  generalize x % 4294967296 * (y % 4294967296) = P00 at *
  clear x0 x1 y0 y1
  rw [u64_lit P11 (by omega), u64_lit P10 (by omega), u64_lit P01 (by omega), u64_lit P00 (by omega)]
  have t0 : (P10 : Int) + (P00 : Int) / 4294967296 = ((P10 + P00 / 4294967296 : Nat) : Int) := by omega
  rw [t0, u64_lit _ (by omega), u64_low _ (by omega)]
  obtain ⟨T, hT⟩ : ∃ T, P10 + P00 / 4294967296 = T := ⟨_, rfl⟩
  rw [hT]
  have t1 : ((T % 4294967296 : Nat) : Int) + (P01 : Int) = ((T % 4294967296 + P01 : Nat) : Int) := by omega
  have t2 : (P11 : Int) + (T : Int) / 4294967296 = ((P11 + T / 4294967296 : Nat) : Int) := by omega
  rw [t1, t2, u64_lit _ (by omega), u64_lit _ (by omega)]
  have t3 : ((P11 + T / 4294967296 : Nat) : Int) + ((T % 4294967296 + P01 : Nat) : Int) / 4294967296 = ((P11 + T / 4294967296 + (T % 4294967296 + P01) / 4294967296 : Nat) : Int) := by omega
  rw [t3, u64_lit _ (by omega)]
  congr 1
  omega
theorem mul_lo (x y : Nat) : IntKind.u64.wrap ((x : Int) * (y : Int)) = ((x * y % 18446744073709551616 : Nat) : Int) := by
  rw [← Int.natCast_mul, u64_mod]
theorem mul64_any (x y : Nat) (hx : x < 18446744073709551616) (hy : y < 18446744073709551616) (w : World) :
    Calls Try.prog 21 #[.int .u64 x, .int .u64 y] w fun e w' => e = .returned (.tuple #[.int .u64 ((x * y / 18446744073709551616 : Nat) : Int), .int .u64 ((x * y % 18446744073709551616 : Nat) : Int)]) ∧ w = w' := by
  have H1 := Lib.hid (mul_hi x y hx hy)
  have H2 := Lib.hid (mul_lo x y)
  go_enter Try.func21, Try.ntmps21
  go_wp2_with fail
  go_ret2
  exact ⟨by rw [H1.out, H2.out]; rfl, rfl⟩
end Go.Proofs.Ytpabgkmjhcmonaa
