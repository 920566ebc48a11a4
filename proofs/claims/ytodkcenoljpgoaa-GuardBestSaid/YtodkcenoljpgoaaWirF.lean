/- Contracts of the Reader's Take and Text. Conditions: where the Reader lies. -/
import Derived.Test.YtodkcenoljpgoaaWirE
namespace Go.Proofs.Ytodkcenoljpgoaa
open Go.RowKit

theorem or_byte (q c : Nat) (hq : q < 16777216) (hc : c < 256) : bits .or .u32 ((q : Int) * 256) (c : Int) = ((q * 256 + c : Nat) : Int) := by
  have h := u32_or_nat (q * 256) c (by omega) (by omega)
  have e : ((q : Int) * 256) = ((q * 256 : Nat) : Int) := by omega
  rw [e, h]
  congr 1
  have := Nat.two_pow_add_eq_or_of_lt (i := 8) (b := c) (by omega) q
  rw [show q * 256 = 2 ^ 8 * q by omega, this]

end Go.Proofs.Ytodkcenoljpgoaa
