/- Contracts of the Writer's Put (any size), Text and Bytes. Conditions: where the Writer lies; it holds at most 100000000 bytes. -/
import Derived.Test.YtmhpdmpihmahdaaWirA
namespace Go.Proofs.Ytmhpdmpihmahdaa
open Go.RowKit

theorem put_other (bw B : Nat) (g : Option Nat) (l : List UInt8) (n : Nat) (s : Int) (hs : ¬ (1 ≤ s ∧ s ≤ 4)) (w : World) (h : WriterAt w B bw g l) :
    Calls Try.prog 22 #[.pointer (some ⟨bw, 0, none⟩), .int .u32 n, .int .i64 s] w (PutPost B bw g l (WireP.put n s) w) := by
  rw [WireP.put_other n s hs]
  have HF := Lib.hid (PutPost.none_ h)
  have s1 : (s == 4) = false := by rw [beq_eq_false_iff_ne]; omega
  have s2 : (s == 3) = false := by rw [beq_eq_false_iff_ne]; omega
  have s3 : (s == 2) = false := by rw [beq_eq_false_iff_ne]; omega
  have s4 : (s == 1) = false := by rw [beq_eq_false_iff_ne]; omega
  clear h hs
  go_enter Try.func22, Try.ntmps22
  go_wp2_with fail
  go_end0
  exact HF.out

/-- Put: a number in any size. -/
theorem put_any (bw B : Nat) (g : Option Nat) (l : List UInt8) (n : Nat) (s : Int) (hn : n < 4294967296) (w : World) (hl : l.length ≤ 100000000) (hB : B ≤ w.heap.size) (h : WriterAt w B bw g l) :
    Calls Try.prog 22 #[.pointer (some ⟨bw, 0, none⟩), .int .u32 n, .int .i64 s] w (PutPost B bw g l (WireP.put n s) w) := by
  by_cases hs : 1 ≤ s ∧ s ≤ 4
  · have : s = 1 ∨ s = 2 ∨ s = 3 ∨ s = 4 := by omega
    rcases this with rfl | rfl | rfl | rfl
    · exact put_one bw B g l n w hl hB h
    · exact put_two bw B g l n w hl hB h
    · exact put_three bw B g l n w hl hB h
    · exact put_four bw B g l n hn w hl hB h
  · exact put_other bw B g l n s hs w h

theorem put_nil (n s : Value) (w : World) :
    Calls Try.prog 22 #[.pointer none, n, s] w fun e w' => e = .returned (.tuple #[]) ∧ w = w' := by
  go_enter Try.func22, Try.ntmps22
  go_wp2_with fail
  refine bodyPost_ret (results_none rfl _ _ _) rfl ?_
  exact ⟨rfl, rfl⟩

theorem text_nil (b : Value) (w : World) :
    Calls Try.prog 56 #[.pointer none, b] w fun e w' => e = .returned (.tuple #[]) ∧ w = w' := by
  go_enter Try.func56, Try.ntmps56
  go_wp2_with fail
  refine bodyPost_ret (results_none rfl _ _ _) rfl ?_
  exact ⟨rfl, rfl⟩

theorem bytes_nil (w : World) :
    Calls Try.prog 27 #[.pointer none] w fun e w' => e = .returned (.slice none 0 0) ∧ w = w' := by
  go_enter Try.func27, Try.ntmps27
  go_wp2_with fail
  go_ret
  exact ⟨rfl, rfl⟩

/-- What Bytes answers: a new slice of the bytes. -/
def BytesPost (l : List UInt8) (w : World) (e : Ending) (w' : World) : Prop :=
  ∃ v g, e = .returned v ∧ Row w' w.heap.size 5 g v l ∧ Below w.heap.size w w'

set_option maxHeartbeats 400000 in
theorem bytes_any (bw B : Nat) (g : Option Nat) (l : List UInt8) (w : World) (hl : l.length ≤ 100000000) (h : WriterAt w B bw g l) :
    Calls Try.prog 27 #[.pointer (some ⟨bw, 0, none⟩)] w (BytesPost l w) := by
  obtain ⟨v, k0, f0, h4⟩ := h.cell
  obtain ⟨A, cap, rfl, h5, -, h6⟩ := h4.bytes
  have H6 := Lib.hid h6
  have HN := Lib.hid (Row.nil w w.heap.size 5)
  clear h h4 h6
  go_enter Try.func27, Try.ntmps27
  go_wp2_with (at_builtin
               refine wpList_append_r rfl (.const (.slice none 0 0)) (.tmp 8) _ rfl w.heap.size 5 (.int .u8 0) Try.underlying35 infoB rfl _ none [] rfl HN.out w.heap.size A l.length cap l rfl rfl H6.out (by simp; omega) (Nat.le_refl _) ?_
               intro v1 w1 g1 hr1 hm1 ha1
               have HF : Hid (BytesPost l w (.returned v1) w1) := Lib.hid ⟨v1, g1, rfl, hr1, ha1.below (Nat.le_refl _) (by simp)⟩
               clear hr1 hm1 ha1)
  go_ret
  exact HF.out

/-- Behind the number: the bytes. -/
theorem text_last {B bw : Nat} {g g1 g2 : Option Nat} {l t : List UInt8} {k : Nat} {v2 : Value} {w w1 w2 : World} (hk : k = min t.length 255) (hw : WriterAt w B bw g l) (h1 : WriterAt w1 B bw g1 (l ++ WireP.put k 1)) (hm1 : Moved w g g1) (ha1 : Apart (WF bw g) w w1)
    (hr : Row w2 B 5 g2 v2 (l ++ WireP.put k 1 ++ t.take k)) (hm : Moved w1 g1 g2) (ha : Apart (fun k => g1 = some k) w1 w2) : PutPost B bw g l (WireP.text t) w (.returned (.tuple #[])) (w2.setCell ⟨bw, 0, none⟩ v2) := by
  have he : WireP.put k 1 ++ t.take k = WireP.text t := by
    rw [WireP.put_1]
    rcases Nat.le_total t.length 255 with h | h
    · rw [Nat.min_eq_left h] at hk
      subst hk
      have e1 : t.length % 256 = t.length := Nat.mod_eq_of_lt (by omega)
      rw [e1, List.take_of_length_le (Nat.le_refl _)]
      simp only [WireP.text]
      rw [Nat.min_eq_left h, List.take_of_length_le h]
      rfl
    · rw [Nat.min_eq_right h] at hk
      subst hk
      simp only [WireP.text]
      rw [Nat.min_eq_right h]
      rfl
  obtain ⟨h2, h3⟩ := writer_put h1 hr hm ha
  exact PutPost.step hw hm1 ha1 he ⟨g2, rfl, h2, hm, h3⟩

set_option maxHeartbeats 400000 in
theorem text_small (bw B : Nat) (g : Option Nat) (l : List UInt8) (A : Option Addr) (n cap : Nat) (t : List UInt8) (hn : t.length = n) (hsm : (n : Int) ≤ 255) (hcap : n ≤ cap) (w : World) (hl : l.length ≤ 100000000) (hB : B ≤ w.heap.size) (h : WriterAt w B bw g l)
    (ht : Bytes w w.heap.size A t) (hA : 0 < t.length → ∀ k, blockOf A = some k → ¬ WF bw g k) :
    Calls Try.prog 56 #[.pointer (some ⟨bw, 0, none⟩), .slice A n cap] w (PutPost B bw g l (WireP.text t) w) := by
  have HP := Lib.hid (put_one bw B g l n w hl hB h)
  have HF := Lib.hid (fun (g1 g2 : Option Nat) (v2 : Value) (w1 w2 : World) => text_last (k := n) (g1 := g1) (g2 := g2) (v2 := v2) (w1 := w1) (w2 := w2) (t := t) (by omega) h)
  have Ht := Lib.hid (ht.take n)
  have HA := Lib.hid hA
  have HB := Lib.hid hB
  have Hn := Lib.hid hn
  have hsl := fun W => run_slice_to (P := Try.prog) W 35 5 Try.underlying35 (fun w => by kernel_rfl) A n cap (n : Int) (by omega) (by omega)
  simp only [Int.toNat_natCast] at hsl
  clear h ht hA hB hn
  go_enter Try.func56, Try.ntmps56
  go_wp2_with fail
  refine HP.out.mono ?_
  rintro e w1 ⟨g1, rfl, hw1, hm1, ha1⟩
  obtain ⟨v1, k1, f1, hr1⟩ := hw1.cell
  have Hr1 := Lib.hid hr1
  have Hw1 := Lib.hid hw1
  have Hm1 := Lib.hid hm1
  have Ha1 := Lib.hid ha1
  have HB1 := Lib.hid (Nat.le_trans HB.out ha1.size)
  have Ht1 := Lib.hid ((Ht.out.apart0 ha1 (Nat.le_refl _) (fun hl => HA.out (by simp at hl; omega))))
  clear hw1 hm1 ha1 hr1 HP Ht HA
  go_wp2_with fail
  have hl1 : (l ++ WireP.put n 1).length + n ≤ 140737488355328 := by rw [List.length_append]; have := WireP.put_length n 1; omega
  go_region_law (
                 refine step_append_r rfl (.tmp 18) (.tmp 21) _ rfl B 5 (.int .u8 0) Try.underlying35 infoB rfl _ _ _ rfl Hr1.out w.heap.size A n cap (t.take n) rfl (by rw [List.length_take, Hn.out]; omega) Ht1.out hl1 HB1.out ?_
                 intro v2 w2 g2 hr2 hm2 ha2
                 replace ha2 := ha2.undrew
                 replace hm2 := hm2.undrew
                 obtain ⟨A2, n2, c2, rfl⟩ := hr2.slice
                 obtain ⟨⟨x2, k2⟩, f2⟩ := writer_cell Hw1.out ha2
                 have HFF := Lib.hid (HF.out _ _ _ _ _ Hw1.out Hm1.out Ha1.out hr2 hm2 ha2)
                 clear hr2 hm2 ha2)
  go_end0
  exact HFF.out

set_option maxHeartbeats 400000 in
theorem text_large (bw B : Nat) (g : Option Nat) (l : List UInt8) (A : Option Addr) (n cap : Nat) (t : List UInt8) (hn : t.length = n) (hsm : (255 : Int) < n) (hcap : n ≤ cap) (w : World) (hl : l.length ≤ 100000000) (hB : B ≤ w.heap.size) (h : WriterAt w B bw g l)
    (ht : Bytes w w.heap.size A t) (hA : 0 < t.length → ∀ k, blockOf A = some k → ¬ WF bw g k) :
    Calls Try.prog 56 #[.pointer (some ⟨bw, 0, none⟩), .slice A n cap] w (PutPost B bw g l (WireP.text t) w) := by
  have HP := Lib.hid (put_one bw B g l 255 w hl hB h)
  have HF := Lib.hid (fun (g1 g2 : Option Nat) (v2 : Value) (w1 w2 : World) => text_last (k := 255) (g1 := g1) (g2 := g2) (v2 := v2) (w1 := w1) (w2 := w2) (t := t) (by omega) h)
  have Ht := Lib.hid (ht.take 255)
  have HA := Lib.hid hA
  have HB := Lib.hid hB
  have Hn := Lib.hid hn
  have hsl := fun W => run_slice_to (P := Try.prog) W 35 5 Try.underlying35 (fun w => by kernel_rfl) A n cap (255 : Int) (by omega) (by omega)
  clear h ht hA hB hn
  go_enter Try.func56, Try.ntmps56
  go_wp2_with fail
  refine HP.out.mono ?_
  rintro e w1 ⟨g1, rfl, hw1, hm1, ha1⟩
  obtain ⟨v1, k1, f1, hr1⟩ := hw1.cell
  have Hr1 := Lib.hid hr1
  have Hw1 := Lib.hid hw1
  have Hm1 := Lib.hid hm1
  have Ha1 := Lib.hid ha1
  have HB1 := Lib.hid (Nat.le_trans HB.out ha1.size)
  have Ht1 := Lib.hid ((Ht.out.apart0 ha1 (Nat.le_refl _) (fun hl => HA.out (by simp at hl; omega))))
  clear hw1 hm1 ha1 hr1 HP Ht HA
  go_wp2_with fail
  have hl1 : (l ++ WireP.put 255 1).length + 255 ≤ 140737488355328 := by rw [List.length_append]; have := WireP.put_length 255 1; omega
  go_region_law (
                 refine step_append_r rfl (.tmp 18) (.tmp 21) _ rfl B 5 (.int .u8 0) Try.underlying35 infoB rfl _ _ _ rfl Hr1.out w.heap.size A 255 cap (t.take 255) rfl (by rw [List.length_take, Hn.out]; omega) Ht1.out hl1 HB1.out ?_
                 intro v2 w2 g2 hr2 hm2 ha2
                 replace ha2 := ha2.undrew
                 replace hm2 := hm2.undrew
                 obtain ⟨A2, n2, c2, rfl⟩ := hr2.slice
                 obtain ⟨⟨x2, k2⟩, f2⟩ := writer_cell Hw1.out ha2
                 have HFF := Lib.hid (HF.out _ _ _ _ _ Hw1.out Hm1.out Ha1.out hr2 hm2 ha2)
                 clear hr2 hm2 ha2)
  go_end0
  exact HFF.out

/-- Text: bytes, wherever they lie but in the Writer itself, with their number ahead. -/
theorem text_any (bw B : Nat) (g : Option Nat) (l : List UInt8) (A : Option Addr) (n cap : Nat) (t : List UInt8) (hn : t.length = n) (hcap : n ≤ cap) (w : World) (hl : l.length ≤ 100000000) (hB : B ≤ w.heap.size) (h : WriterAt w B bw g l)
    (ht : Bytes w w.heap.size A t) (hA : 0 < t.length → ∀ k, blockOf A = some k → ¬ WF bw g k) :
    Calls Try.prog 56 #[.pointer (some ⟨bw, 0, none⟩), .slice A n cap] w (PutPost B bw g l (WireP.text t) w) := by
  by_cases h255 : (n : Int) ≤ 255
  · exact text_small bw B g l A n cap t hn h255 hcap w hl hB h ht hA
  · exact text_large bw B g l A n cap t hn (by omega) hcap w hl hB h ht hA
/-- A new Writer. -/
theorem WriterAt.new (w : World) (B : Nat) (hB : B ≤ w.heap.size) : WriterAt (w.alloc (.cells #[.slice none 0 0] 61)) B w.heap.size none [] :=
  ⟨hB, by simp, .slice none 0 0, heap_alloc_new w _, Row.nil _ _ _⟩
end Go.Proofs.Ytmhpdmpihmahdaa
