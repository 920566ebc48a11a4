/- Two like digests are equal. Conditions: none. -/
import Derived.Test.YtpabgkmjhcmonaaDigM
import Derived.ChangeKeysEq
import Derived.Test.YtpabgkmjhcmonaaLawM
namespace Go.Proofs.Ytpabgkmjhcmonaa
open Go.RowKit
set_option maxRecDepth 100000

theorem eq_items (dd : Nat) (l : List UInt8) (W : World) : ∀ is : List Nat, (∀ i ∈ is, i < l.length) → (Op.eqItems (dd + 1) 5 1 (bytesV l).toArray (bytesV l).toArray is).run Try.prog W = .ok true W
  | [], _ => by simp [Op.eqItems]
  | i :: is, h => by
    have hi := h i (List.mem_cons_self ..)
    have ih := eq_items dd l W is (fun j hj => h j (List.mem_cons_of_mem _ hj))
    have hp : (part 5 (bytesV l).toArray (i * 1)).run Try.prog W = .ok (.int .u8 (l[i].toNat : Nat)) W := by
      have ha : (isAgg 5).run Try.prog W = .ok false W := by kernel_rfl
      have hc : (bytesV l).toArray[i * 1]? = some (.int .u8 (l[i].toNat : Nat)) := by
        rw [Nat.mul_one, List.getElem?_toArray]
        exact bytesV_get (List.getElem?_eq_getElem hi)
      unfold part
      rw [Sem.run_bind, ha]
      simp only [Result.andThen_ok, Bool.false_eq_true, if_false, hc]
      rfl
    have he : (Op.equalIn (dd + 1) 5 (.int .u8 (l[i].toNat : Nat)) (.int .u8 (l[i].toNat : Nat))).run Try.prog W = .ok true W := by
      rw [run_equalIn_int (k' := .u8) W dd 5 .u8 _ _ Try.underlying5]
      simp
    simp only [Op.eqItems, Sem.run_bind, hp, he, ih, Result.andThen_ok, Bool.not_true, Bool.false_eq_true, if_false]
theorem equal_arr (d : Nat) (t : TypeId) (l : List UInt8) (hl : l.length = 32) (ht : Try.prog.underlying t = some (.array 32 5)) (W : World) : (Op.equalIn (d + 2) t (.agg (bytesV l).toArray) (.agg (bytesV l).toArray)).run Try.prog W = .ok true W := by
  have h := eq_items d l W (List.range 32) (fun i hi => by rw [hl]; exact List.mem_range.1 hi)
  obtain ⟨i, hi, -, -, -⟩ := info_parts infoU8d
  rw [run_equalIn_array W (d + 1) _ _ ht hi, cells_u8]
  exact h
theorem equal_32 (l : List UInt8) (hl : l.length = 32) (t : TypeId) (ht : Try.prog.underlying t = some (.array 32 5)) (W : World) : (Op.equalIn 10000 t (.agg (bytesV l).toArray) (.agg (bytesV l).toArray)).run Try.prog W = .ok true W := equal_arr 9998 t l hl ht W
theorem eql_32 (l : List UInt8) (hl : l.length = 32) (t : TypeId) (ht : Try.prog.underlying t = some (.array 32 5)) (W : World) : (binOp .eql t (.agg (bytesV l).toArray) (.agg (bytesV l).toArray)).run Try.prog W = .ok (.bool true) W := by
  have h := fun W => equal_32 l hl t ht W
  simp [go_sem, h]
end Go.Proofs.Ytpabgkmjhcmonaa
