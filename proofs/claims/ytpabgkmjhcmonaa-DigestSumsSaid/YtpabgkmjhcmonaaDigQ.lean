/- Plain: the first primes by division, and roots bit by bit (chapter 18's numbers). No conditions beyond those that each states. -/
import Derived.Test.YtpabgkmjhcmonaaDigP
namespace DigP

/-- The primes among 2 .. k + 1. -/
def sieve : Nat → List Nat
  | 0 => []
  | k + 1 => if (sieve k).any (fun p => (k + 2) % p == 0) then sieve k else sieve k ++ [k + 2]
theorem sieve_le : ∀ k, (sieve k).length ≤ (sieve (k + 1)).length := fun k => by
  show _ ≤ (if (sieve k).any (fun p => (k + 2) % p == 0) then sieve k else sieve k ++ [k + 2]).length
  split
  · exact Nat.le_refl _
  · rw [List.length_append]; omega
theorem sieve_mono {j k : Nat} (h : j ≤ k) : (sieve j).length ≤ (sieve k).length := by
  induction h with
  | refl => exact Nat.le_refl _
  | step _ ih => exact Nat.le_trans ih (sieve_le _)
def primesT : List Nat := [2, 3, 5, 7, 11, 13, 17, 19, 23, 29, 31, 37, 41, 43, 47, 53, 59, 61, 67, 71, 73, 79, 83, 89, 97, 101, 103, 107, 109, 113, 127, 131, 137, 139, 149, 151, 157, 163, 167, 173, 179, 181, 191, 193, 197, 199, 211, 223, 227, 229, 233, 239, 241, 251, 257, 263, 269, 271, 277, 281, 283, 293, 307, 311]
theorem sieve_309 : (sieve 309).length = 63 := by decide +kernel
theorem sieve_310 : sieve 310 = primesT := by decide +kernel
theorem sieve_less {k : Nat} (h : k < 310) : (sieve k).length < 64 := by
  have := sieve_mono (show k ≤ 309 by omega)
  rw [sieve_309] at this
  omega
theorem sieve_pos : ∀ k, ∀ p ∈ sieve k, 2 ≤ p ∧ p ≤ k + 1
  | 0, p, h => by cases h
  | k + 1, p, h => by
    have ih := sieve_pos k
    unfold sieve at h
    split at h
    · have := ih p h; omega
    · rcases List.mem_append.1 h with h | h
      · have := ih p h; omega
      · rw [List.mem_singleton.1 h]; omega
/-- A root, the first k of its 35 bits. -/
def rootT (below : Nat → Bool) : Nat → Nat
  | 0 => 0
  | k + 1 => if below (rootT below k ||| 2 ^ 34 / 2 ^ k) then rootT below k ||| 2 ^ 34 / 2 ^ k else rootT below k
theorem or35 {a b : Nat} (ha : a < 34359738368) (hb : b < 34359738368) : a ||| b < 34359738368 := Nat.or_lt_two_pow (n := 35) ha hb
theorem bit_le (k : Nat) : 2 ^ 34 / 2 ^ k ≤ 17179869184 := Nat.div_le_self _ _
theorem half_bit (k : Nat) : 2 ^ 34 / 2 ^ (k + 1) = 2 ^ 34 / 2 ^ k / 2 := by rw [Nat.pow_succ 2 k, Nat.div_div_eq_div_mul]
theorem rootT_lt (below : Nat → Bool) : ∀ k, rootT below k < 34359738368
  | 0 => Nat.succ_pos _
  | k + 1 => by
    have ih := rootT_lt below k
    show (if below (rootT below k ||| 2 ^ 34 / 2 ^ k) then rootT below k ||| 2 ^ 34 / 2 ^ k else rootT below k) < _
    have := bit_le k
    split
    · exact or35 ih (by omega)
    · exact ih
def sqB (p x : Nat) : Bool := decide (x * x / 18446744073709551616 < p)
def cbB (p x : Nat) : Bool := decide (x * x / 18446744073709551616 * x + x * x % 18446744073709551616 * x / 18446744073709551616 < p * 4294967296)
def pointT (below : Nat → Bool) : Nat := rootT below 35 % 4294967296
theorem sq_all : (primesT.take 8).map (fun p => pointT (sqB p)) = Reg.start.list := by decide +kernel
theorem cb_all : primesT.map (fun p => pointT (cbB p)) = ks := by decide +kernel
theorem primes_len : primesT.length = 64 := rfl
theorem primes_le : ∀ p ∈ primesT, 2 ≤ p ∧ p ≤ 311 := by decide +kernel
theorem point_lt (below : Nat → Bool) : pointT below < 4294967296 := Nat.mod_lt _ (by decide)
end DigP
