/- What an error is in memory (errV, ErrIn), and the contract of fault.New. No conditions beyond the readings of memory that each states. -/
import Derived.Test.YthihdbcclocbkaaChecked
import Derived.WalkKit
import Derived.LaidEql
import Derived.Stop.Asserts
import Derived.RowKitTokens
import Derived.Lib.Hide
namespace Go.Proofs.Ythihdbcclocbkaa
open Go.RowKit Go.Extern.Stop Go.Stop Go.Extern

/-- An error: faults (block, code, place), the outermost first, and perhaps a bare number below them. -/
def errV : List (Nat × Int × Int) → Option Int → Value
  | [], none => .nilIface
  | [], some n => .iface 44 (.int .i64 n)
  | (b, _, _) :: _, _ => .iface 51 (.pointer (some ⟨b, 0, none⟩))

/-- Its faults lie in memory, each in a block below the one that wraps it. -/
def ErrIn (w : World) (t : Option Int) : Nat → List (Nat × Int × Int) → Prop
  | _, [] => True
  | B, (b, c, a) :: r => b < B ∧ w.heap[b]? = some (.cells #[.int .i64 c, .int .i64 a, errV r t] 53 (0, 0)) ∧ ErrIn w t b r

theorem ErrIn.mono {w : World} {t : Option Int} : ∀ {l : List (Nat × Int × Int)} {B B' : Nat}, ErrIn w t B l → B ≤ B' → ErrIn w t B' l
  | [], _, _, _, _ => trivial
  | (_, _, _) :: _, _, _, ⟨h1, h2, h3⟩, hB => ⟨Nat.lt_of_lt_of_le h1 hB, h2, h3⟩

theorem ErrIn.keep {w w' : World} {t : Option Int} : ∀ {l : List (Nat × Int × Int)} {B : Nat}, ErrIn w t B l → (∀ k, k < B → w'.heap[k]? = w.heap[k]?) → ErrIn w' t B l
  | [], _, _, _ => trivial
  | (_, _, _) :: _, _, ⟨h1, h2, h3⟩, hk => ⟨h1, (hk _ h1).trans h2, h3.keep (fun k hk' => hk k (Nat.lt_trans hk' h1))⟩

theorem ErrIn.below {w w' : World} {t : Option Int} {l : List (Nat × Int × Int)} {B C : Nat} (h : ErrIn w t B l) (hb : Below C w w') (hB : B ≤ C) : ErrIn w' t B l :=
  h.keep fun k hk => hb.block k (by omega)

theorem ErrIn.tail {w : World} {t : Option Int} {B : Nat} {x : Nat × Int × Int} {l : List (Nat × Int × Int)} (h : ErrIn w t B (x :: l)) : ErrIn w t B l := by
  obtain ⟨b, c, a⟩ := x
  exact h.2.2.mono (Nat.le_of_lt h.1)

theorem ErrIn.drop {w : World} {t : Option Int} {B : Nat} : ∀ {l : List (Nat × Int × Int)} (n : Nat), ErrIn w t B l → ErrIn w t B (l.drop n)
  | _, 0, h => by simpa using h
  | [], _ + 1, _ => trivial
  | _ :: l, n + 1, h => by simpa using ErrIn.drop n h.tail

theorem cells3 {w : World} {b : Nat} {x y z : Value} {t : TypeId} (h : w.heap[b]? = some (.cells #[x, y, z] t (0, 0))) :
    w.cell? ⟨b, 0, none⟩ = some x ∧ w.cell? ⟨b, 1, none⟩ = some y ∧ w.cell? ⟨b, 2, none⟩ = some z := by
  refine ⟨?_, ?_, ?_⟩ <;> simp [World.cell?, h]

theorem asErrno_E (n : Value) (w : World) : (Instr.typeAssert (.iface 44 n) 25 44 true).run Try.prog w = .ok (.tuple #[n, .bool true]) w := by kernel_rfl
theorem asErrno_F (n : Value) (w : World) : (Instr.typeAssert (.iface 51 n) 25 44 true).run Try.prog w = .ok (.tuple #[.int .i64 0, .bool false]) w := by kernel_rfl
theorem asFault_F (n : Value) (w : World) : (Instr.typeAssert (.iface 51 n) 25 51 true).run Try.prog w = .ok (.tuple #[n, .bool true]) w := by kernel_rfl
theorem asFault_E (n : Value) (w : World) : (Instr.typeAssert (.iface 44 n) 25 51 true).run Try.prog w = .ok (.tuple #[.pointer none, .bool false]) w := by kernel_rfl

def place (a : Int) : Int := if a < -1 then -1 else a

end Go.Proofs.Ythihdbcclocbkaa
