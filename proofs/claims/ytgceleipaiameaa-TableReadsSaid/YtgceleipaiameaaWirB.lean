/- Contracts of the Writer's Put (any size), Text and Bytes. Conditions: where the Writer lies; it holds at most 100000000 bytes. -/
import Derived.Test.YtgceleipaiameaaWirA
namespace Go.Proofs.Ytgceleipaiameaa
open Go.RowKit

theorem put_other (bw B : Nat) (g : Option Nat) (l : List UInt8) (n : Nat) (s : Int) (hs : ¬ (1 ≤ s ∧ s ≤ 4)) (w : World) (h : WriterAt w B bw g l) :
    Calls Try.prog 22 #[.pointer (some ⟨bw, 0, none⟩), .int .u32 n, .int .i64 s] w (PutPost B bw g l (WireP.put n s) w) := by
  rw [WireP.put_other n s hs]
  have HF := Lib.hid (PutPost.none_ h)
  have s1 : (s == 4) = false := by rw [beq_eq_false_iff_ne]; omega
  have s2 : (s == 3) = false := by rw [beq_eq_false_iff_ne]; omega
  have s3 : (s == 2) = false := by rw [beq_eq_false_iff_ne]; omega
  have s4 : (s == 1) = false := by rw [beq_eq_false_iff_ne]; omega
  clear h hs
  go_enter Try.func22, Try.ntmps22
  go_wp2_with fail
  go_end0
  exact HF.out

/-- Put: a number in any size. -/
theorem put_any (bw B : Nat) (g : Option Nat) (l : List UInt8) (n : Nat) (s : Int) (hn : n < 4294967296) (w : World) (hl : l.length ≤ 100000000) (hB : B ≤ w.heap.size) (h : WriterAt w B bw g l) :
    Calls Try.prog 22 #[.pointer (some ⟨bw, 0, none⟩), .int .u32 n, .int .i64 s] w (PutPost B bw g l (WireP.put n s) w) := by
  by_cases hs : 1 ≤ s ∧ s ≤ 4
  · have : s = 1 ∨ s = 2 ∨ s = 3 ∨ s = 4 := by omega
    rcases this with rfl | rfl | rfl | rfl
    · exact put_one bw B g l n w hl hB h
    · exact put_two bw B g l n w hl hB h
    · exact put_three bw B g l n w hl hB h
    · exact put_four bw B g l n hn w hl hB h
  · exact put_other bw B g l n s hs w h

theorem put_nil (n s : Value) (w : World) :
    Calls Try.prog 22 #[.pointer none, n, s] w fun e w' => e = .returned (.tuple #[]) ∧ w = w' := by
  go_enter Try.func22, Try.ntmps22
  go_wp2_with fail
  refine bodyPost_ret (results_none rfl _ _ _) rfl ?_
  exact ⟨rfl, rfl⟩

theorem bytes_nil (w : World) :
    Calls Try.prog 24 #[.pointer none] w fun e w' => e = .returned (.slice none 0 0) ∧ w = w' := by
  go_enter Try.func24, Try.ntmps24
  go_wp2_with fail
  go_ret
  exact ⟨rfl, rfl⟩

/-- What Bytes answers: a new slice of the bytes. -/
def BytesPost (l : List UInt8) (w : World) (e : Ending) (w' : World) : Prop :=
  ∃ v g, e = .returned v ∧ Row w' w.heap.size 5 g v l ∧ Below w.heap.size w w'

set_option maxHeartbeats 400000 in
theorem bytes_any (bw B : Nat) (g : Option Nat) (l : List UInt8) (w : World) (hl : l.length ≤ 100000000) (h : WriterAt w B bw g l) :
    Calls Try.prog 24 #[.pointer (some ⟨bw, 0, none⟩)] w (BytesPost l w) := by
  obtain ⟨v, k0, f0, h4⟩ := h.cell
  obtain ⟨A, cap, rfl, h5, -, h6⟩ := h4.bytes
  have H6 := Lib.hid h6
  have HN := Lib.hid (Row.nil w w.heap.size 5)
  clear h h4 h6
  go_enter Try.func24, Try.ntmps24
  go_wp2_with (at_builtin
               refine wpList_append_r rfl (.const (.slice none 0 0)) (.tmp 8) _ rfl w.heap.size 5 (.int .u8 0) Try.underlying30 infoB rfl _ none [] rfl HN.out w.heap.size A l.length cap l rfl rfl H6.out (by simp; omega) (Nat.le_refl _) ?_
               intro v1 w1 g1 hr1 hm1 ha1
               have HF : Hid (BytesPost l w (.returned v1) w1) := Lib.hid ⟨v1, g1, rfl, hr1, ha1.below (Nat.le_refl _) (by simp)⟩
               clear hr1 hm1 ha1)
  go_ret
  exact HF.out

/-- Behind the number: the bytes. -/
theorem text_last {B bw : Nat} {g g1 g2 : Option Nat} {l t : List UInt8} {k : Nat} {v2 : Value} {w w1 w2 : World} (hk : k = min t.length 255) (hw : WriterAt w B bw g l) (h1 : WriterAt w1 B bw g1 (l ++ WireP.put k 1)) (hm1 : Moved w g g1) (ha1 : Apart (WF bw g) w w1)
    (hr : Row w2 B 5 g2 v2 (l ++ WireP.put k 1 ++ t.take k)) (hm : Moved w1 g1 g2) (ha : Apart (fun k => g1 = some k) w1 w2) : PutPost B bw g l (WireP.text t) w (.returned (.tuple #[])) (w2.setCell ⟨bw, 0, none⟩ v2) := by
  have he : WireP.put k 1 ++ t.take k = WireP.text t := by
    rw [WireP.put_1]
    rcases Nat.le_total t.length 255 with h | h
    · rw [Nat.min_eq_left h] at hk
      subst hk
      have e1 : t.length % 256 = t.length := Nat.mod_eq_of_lt (by omega)
      rw [e1, List.take_of_length_le (Nat.le_refl _)]
      simp only [WireP.text]
      rw [Nat.min_eq_left h, List.take_of_length_le h]
      rfl
    · rw [Nat.min_eq_right h] at hk
      subst hk
      simp only [WireP.text]
      rw [Nat.min_eq_right h]
      rfl
  obtain ⟨h2, h3⟩ := writer_put h1 hr hm ha
  exact PutPost.step hw hm1 ha1 he ⟨g2, rfl, h2, hm, h3⟩

/-- A new Writer. -/
theorem WriterAt.new (w : World) (B : Nat) (hB : B ≤ w.heap.size) : WriterAt (w.alloc (.cells #[.slice none 0 0] 52)) B w.heap.size none [] :=
  ⟨hB, by simp, .slice none 0 0, heap_alloc_new w _, Row.nil _ _ _⟩
end Go.Proofs.Ytgceleipaiameaa
