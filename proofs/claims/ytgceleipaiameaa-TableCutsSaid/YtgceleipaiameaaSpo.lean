/- Plain: of sealed bytes one other byte, and they are not sealed. No conditions. -/
import Derived.Test.YtgceleipaiameaaCrcP
namespace CrcP

theorem xor_cancel_right {a b c : Nat} (h : a ^^^ c = b ^^^ c) : a = b := by
  have : (a ^^^ c) ^^^ c = (b ^^^ c) ^^^ c := by rw [h]
  simpa [Nat.xor_assoc] using this
theorem xor_cancel_left {a b c : Nat} (h : c ^^^ a = c ^^^ b) : a = b := by
  have : c ^^^ (c ^^^ a) = c ^^^ (c ^^^ b) := by rw [h]
  simpa [← Nat.xor_assoc] using this

/-- The register goes on without loss. -/
theorem reg_inj : ∀ (l : List UInt8) {a b : Nat}, a < 2 ^ 32 → b < 2 ^ 32 → reg a l = reg b l → a = b
  | [], _, _, _, _, h => h
  | c :: l, a, b, ha, hb, h => by
    have h1 : steps 8 (a ^^^ c.toNat) = steps 8 (b ^^^ c.toNat) := reg_inj l (step8_lt ha c) (step8_lt hb c) h
    have h2 := steps_inj 8 (Nat.xor_lt_two_pow ha (Nat.lt_trans c.toNat_lt (by decide))) (Nat.xor_lt_two_pow hb (Nat.lt_trans c.toNat_lt (by decide))) h1
    exact xor_cancel_right h2

theorem seal_spoil {x y p q : List UInt8} {c d : UInt8} (h1 : x ++ c :: y = seal4 p) (h2 : x ++ d :: y = seal4 q) : c = d := by
  have e1 := reg_seal p
  have e2 := reg_seal q
  rw [← h1, reg_append] at e1
  rw [← h2, reg_append] at e2
  have hx := reg_lt x ones_lt
  have h3 : reg (steps 8 (reg ones x ^^^ c.toNat)) y = reg (steps 8 (reg ones x ^^^ d.toNat)) y := e1.trans e2.symm
  have h4 := reg_inj y (step8_lt hx c) (step8_lt hx d) h3
  have h5 := steps_inj 8 (Nat.xor_lt_two_pow hx (Nat.lt_trans c.toNat_lt (by decide))) (Nat.xor_lt_two_pow hx (Nat.lt_trans d.toNat_lt (by decide))) h4
  exact UInt8.toNat_inj.1 (xor_cancel_left h5)

/-- The same by the place. -/
theorem seal_spoil_at {l p q : List UInt8} {i : Nat} {d : UInt8} (hi : i < l.length) (h1 : l = seal4 p) (h2 : l.set i d = seal4 q) : l[i] = d := by
  have e1 : l = l.take i ++ l[i] :: l.drop (i + 1) := by
    rw [← List.drop_eq_getElem_cons hi, List.take_append_drop]
  have e2 : l.set i d = l.take i ++ d :: l.drop (i + 1) := by
    rw [List.set_eq_take_append_cons_drop, if_pos hi]
  exact seal_spoil (e1.symm.trans h1) (e2.symm.trans h2)
end CrcP
