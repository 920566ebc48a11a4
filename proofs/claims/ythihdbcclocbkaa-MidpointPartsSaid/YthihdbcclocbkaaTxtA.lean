/- Contract of the document's Number, E, At and Over: the texts that they make. Conditions: the number is an int64. -/
import Derived.Test.YthihdbcclocbkaaChecked
import Derived.WalkKit
import Derived.Lib.Hide
import Derived.ShutString
namespace Go.Proofs.Ythihdbcclocbkaa
open Go.RowKit Go.Extern.Stop Go.Stop Go.Extern

def digs : Nat → Nat → List UInt8 → List UInt8
  | 0, _, acc => acc
  | f + 1, n, acc => if n / 10 = 0 then (48 + UInt8.ofNat (n % 10)) :: acc else digs f (n / 10) ((48 + UInt8.ofNat (n % 10)) :: acc)

def numN (n : Nat) : List UInt8 := digs 20 n []

def strV (l : List UInt8) : Value := .string ⟨l.toArray⟩

theorem conv1 (b : Int) (w : World) : (convert 68 9 (.slice (some ⟨w.heap.size, 0, none⟩) 1 1)).run Try.prog (w.alloc (.cells #[.int .u8 b] 5)) = .ok (.string ⟨#[UInt8.ofNat b.toNat]⟩) (w.alloc (.cells #[.int .u8 b] 5)) := by
  rw [run_convert_bytes_string _ _ _ 5 _ _ _ Try.underlying68 Try.underlying5 Try.underlying9]
  rw [run_bytesToString _ _ 1 1 [b] ?_]
  · rfl
  · have hc : (w.alloc (.cells #[.int .u8 b] 5)).cell? ⟨w.heap.size, 0, none⟩ = some (.int .u8 b) := by
      rw [World.cell?_alloc_at _ _ _ _ rfl]; rfl
    simp [loadCells, go_sem, hc]

def NumRel (n : Nat) (w : World) (v s : Value) (wr : World) : Prop :=
  ∃ f m acc, v = .int .i64 (m : Nat) ∧ s = strV acc ∧ m < 10 ^ f ∧ m ≤ 9223372036854775807 ∧ f ≤ 20 ∧ 1 ≤ f ∧ acc.length + f = 20 ∧ digs f m acc = numN n ∧ Below w.heap.size w wr

set_option maxRecDepth 100000 in
set_option maxHeartbeats 1000000 in
theorem number_pos (n : Nat) (w : World) (hn : n ≤ 9223372036854775807) :
    Calls Try.prog 29 #[.int .i64 n] w fun e w' => e = .returned (strV (numN n)) ∧ Below w.heap.size w w' := by
  have h1 : ((n : Int) == -9223372036854775808) = false := by rw [beq_eq_false_iff_ne]; omega
  have h2 : decide ((n : Int) < 0) = false := by rw [decide_eq_false_iff_not]; omega
  have hcv := conv1
  have Hn := Lib.hid hn
  clear hn
  go_enter Try.func29, Try.ntmps29
  go_wp2_with fail
  go_loopw [0, 3] (NumRel n w) (fun v _ _ => (intOf v).toNat)
  case atStart => exact ⟨20, n, [], rfl, rfl, by have := Hn.out; omega, Hn.out, by omega, by omega, rfl, rfl, Below.refl _ _⟩
  case round =>
    obtain ⟨f, m, acc, rfl, rfl, hm, hm2, hf, hf1, hacc, hd, hb⟩ := hrel
    unfold strV
    have Hb := Lib.hid hb
    have Hd := Lib.hid hd
    have Hm := Lib.hid hm
    have Hm2 := Lib.hid hm2
    have Ha := Lib.hid hacc
    have Hf := Lib.hid hf1
    have hal : acc.length ≤ 20 := by omega
    clear hb hd hm hm2 hacc hf hf1 h1 h2
    have hw : Hid (wrap64 ((m : Int) / 10) = ((m / 10 : Nat) : Int)) := Lib.hid (by unfold wrap64; have := Hm2.out; omega)
    have hcat : Hid (∀ x : UInt8, ByteArray.mk #[x] ++ ByteArray.mk acc.toArray = ByteArray.mk (x :: acc).toArray) := Lib.hid fun x => ByteArray.mk_append_mk [x] acc
    by_cases hz : m / 10 = 0
    · have hz2 : (wrap64 ((m : Int) / 10) == 0) = true := by rw [hw.out, hz]; rfl
      have Hz := Lib.hid hz
      clear hz
      go_wp2_with fail
      go_ret
      refine ⟨?_, (Hb.out.alloc Hb.out.size _)⟩
      have hd := Hd.out
      obtain ⟨f', rfl⟩ : ∃ f', f = f' + 1 := ⟨f - 1, by have := Hf.out; omega⟩
      simp only [digs, if_pos Hz.out] at hd
      rw [← hd]
      show Ending.returned (Value.string _) = _
      rw [hcat.out]; rfl
    · have hz2 : (wrap64 ((m : Int) / 10) == 0) = false := by rw [hw.out, beq_eq_false_iff_ne]; omega
      have Hz := Lib.hid hz
      clear hz
      go_wp2_with fail
      go_roundw
      case rel =>
        rw [hw.out, hcat.out]
        have hd := Hd.out
        have ha := Ha.out
        have hm2 := Hm2.out
        have hm := Hm.out
        obtain ⟨f', rfl⟩ : ∃ f', f = f' + 1 := ⟨f - 1, by have := Hf.out; omega⟩
        simp only [digs, if_neg Hz.out] at hd
        have h10 : m / 10 < 10 ^ f' := by rw [Nat.pow_succ] at hm; omega
        have h1f : 1 ≤ f' := by
          rcases Nat.eq_zero_or_pos f' with rfl | h
          · simp at h10; exact absurd h10 (by have := Hz.out; omega)
          · exact h
        exact ⟨f', m / 10, _, rfl, rfl, h10, by omega, by omega, h1f, by simp; omega, hd, Hb.out.alloc Hb.out.size _⟩
      case measure => rw [hw.out]; simp only [intOf]; have := Hz.out; omega
end Go.Proofs.Ythihdbcclocbkaa
