/- Contract of the law's fixed facts (Awake): true. No conditions. -/
import Derived.Test.YtnjkfkfanjkajaaWirG
import Derived.Lib.SlBytesConst
namespace Go.Proofs.Ytnjkfkfanjkajaa
open Go.RowKit

def AwakePost (W : World) (e : Ending) (w' : World) : Prop := e = .returned (.bool true) ∧ Below W.heap.size W w'

theorem bytes_new (w : World) (l : List UInt8) (e : TypeId) (f : Nat × Nat) : Bytes (w.alloc (.cells (bytesV l).toArray e f)) (w.heap.size + 1) (some ⟨w.heap.size, 0, none⟩) l := fun _ =>
  ⟨w.heap.size, 0, rfl, by omega, fun i c hi => by
    have h : (w.alloc (.cells (bytesV l).toArray e f)).cell? ⟨w.heap.size, i, none⟩ = (bytesV l).toArray[i]? := by simp only [World.cell?, World.alloc]; simp
    rw [Nat.zero_add, h]
    simp [bytesV, hi]⟩

/-- A new Writer. -/
theorem WriterAt.new (w : World) (B : Nat) (hB : B ≤ w.heap.size) : WriterAt (w.alloc (.cells #[.slice none 0 0] 26)) B w.heap.size none [] :=
  ⟨hB, by simp, .slice none 0 0, heap_alloc_new w _, Row.nil _ _ _⟩

/-- string(b) of bytes in memory. -/
theorem conv_any {w : World} {A : Option Addr} {n cap : Nat} {l : List UInt8} (hn : l.length = n) (h : Bytes w w.heap.size A l) : (convert 24 9 (.slice A n cap)).run Try.prog w = .ok (strV l) w :=
  run_convert_b w 24 5 Try.underlying24 Try.underlying5 w.heap.size A l n cap hn h 9 Try.underlying9

def six : List UInt8 := [1, 35, 69, 2, 97, 98]
theorem put_six : WireP.put 74565 3 = [1, 35, 69] := by decide +kernel
theorem text_six : WireP.text [97, 98] = [2, 97, 98] := by decide +kernel
theorem take_six : WireP.take six 0 false 3 = ⟨74565, 3, false⟩ := by kernel_rfl
theorem tell_six : WireP.tell six 3 false = ⟨[97, 98], 6, false⟩ := by kernel_rfl

set_option maxHeartbeats 1000000 in
theorem awake_any (w : World) : Calls Try.prog 8 #[] w (AwakePost w) := by
  have HP := Lib.hid (put_three w.heap.size w.heap.size none [] 74565 (w.alloc (.cells #[.slice none 0 0] 26)) (by simp) (by simp) (WriterAt.new w w.heap.size (Nat.le_refl _)))
  have kc := fun (w : World) (C : Array Value) (n c : Nat) => Lib.run_convert_bytes_const (P := Try.prog) w 24 5 C n c Try.underlying24 Try.underlying5
  rw [put_six] at HP
  go_enter Try.func8, Try.ntmps8
  go_wp2_with fail
  refine HP.out.mono ?_
  rintro e w1 ⟨g1, rfl, hw1, hm1, ha1⟩
  have hb1 : Below w.heap.size w w1 := ((Below.refl _ _).alloc (Nat.le_refl _) _).trans (ha1.below (B := w.heap.size) (by simp) (by
    rintro k (rfl | h)
    · exact Nat.le_refl _
    · cases h))
  have Hw1 := Lib.hid hw1
  have Hb1 := Lib.hid hb1
  clear hw1 hm1 ha1 hb1 HP
  have hA2 : Apart (fun _ => False) w1 (w1.alloc (.cells (bytesV [97, 98]).toArray 5 (2, 3))) := (Apart.refl _ _).alloc _
  have HT := Lib.hid (text_any w.heap.size w.heap.size g1 ([] ++ [1, 35, 69]) (some ⟨w1.heap.size, 0, none⟩) 2 2 [97, 98] rfl (Nat.le_refl _) (w1.alloc (.cells (bytesV [97, 98]).toArray 5 (2, 3))) (by simp) (by have := Hb1.out.size; simp; omega) (Hw1.out.apart hA2 (fun h => h) (fun _ _ h => h))
    (by simpa using bytes_new w1 [97, 98] 5 (2, 3)) (by
      intro _ k hk
      obtain rfl : w1.heap.size = k := by simpa [blockOf] using hk
      rintro (h | h)
      · have := Hw1.out.lt; omega
      · have := (Hw1.out.glt _ h).2; omega))
  have Hb2 := Lib.hid (Hb1.out.alloc Hb1.out.size (.cells (bytesV [97, 98]).toArray 5 (2, 3)))
  rw [text_six] at HT
  clear hA2
  go_wp2_with fail
  refine HT.out.mono ?_
  rintro e w2 ⟨g2, rfl, hw2, hm2, ha2⟩
  have hb2 : Below w.heap.size w w2 := Hb2.out.trans (ha2.below (B := w.heap.size) Hb2.out.size (by
    rintro k (rfl | h)
    · exact Nat.le_refl _
    · exact (Hw1.out.glt _ h).1))
  have e6 : ([] ++ [1, 35, 69] ++ [2, 97, 98] : List UInt8) = six := rfl
  rw [e6] at hw2
  have Hw2 := Lib.hid hw2
  have Hb2' := Lib.hid hb2
  clear hw2 hm2 ha2 hb2 HT Hb2 Hb1 Hw1 e6
  go_wp2_with fail
  refine (bytes_any w.heap.size w.heap.size g2 six w2 (by simp [six]) Hw2.out).mono ?_
  rintro e w3 ⟨v3, g3, rfl, hr3, hb3⟩
  obtain ⟨A3, cap3, rfl, hc3, hg3, hby3⟩ := hr3.bytes
  have Hby3 := Lib.hid hby3
  have Hw3 := Lib.hid (Hw2.out.apart (F := fun _ => False) (Apart.of_below' hb3) (fun h => h) (fun _ _ h => h))
  have Hb3 := Lib.hid (Hb2'.out.trans (hb3.mono Hb2'.out.size))
  clear hr3 hb3 hc3 hg3 hby3 Hw2 Hb2'
  go_wp2_with fail
  refine (read_new A3 six.length cap3 six rfl (by simp [six]) w3 Hby3.out).mono ?_
  rintro e w4 ⟨br, A4, cap4, rfl, hbr, hA4, hr4, hb4⟩
  have Hr4 := Lib.hid hr4
  have Hw4 := Lib.hid (Hw3.out.apart (F := fun _ => False) (Apart.of_below' hb4) (fun h => h) (fun _ _ h => h))
  have Hb4 := Lib.hid (Hb3.out.trans (hb4.mono Hb3.out.size))
  have Hbr := Lib.hid (Nat.le_trans Hb3.out.size hbr)
  clear hbr hA4 hr4 hb4 Hw3 Hb3 Hby3
  go_wp2_with fail
  refine (bytes_any w.heap.size w.heap.size g2 six w4 (by simp [six]) Hw4.out).mono ?_
  rintro e w5 ⟨v5, g5, rfl, hr5, hb5⟩
  obtain ⟨A5, cap5, hv5, hc5, hg5, hby5⟩ := hr5.bytes
  replace hv5 : v5 = .slice A5 6 cap5 := hv5
  subst hv5
  have k5 : (convert 24 9 (.slice A5 6 cap5)).run Try.prog w5 = .ok (.string ⟨#[1, 35, 69, 2, 97, 98]⟩) w5 := conv_any rfl hby5
  have Hr5 := Lib.hid (Hr4.out.below hb5)
  have Hb5 := Lib.hid (Hb4.out.trans (hb5.mono Hb4.out.size))
  clear hr5 hb5 hc5 hg5 hby5 Hr4 Hb4 Hw4
  go_wp2_with fail
  refine (take_any br A4 _ cap4 six 0 false 3 w5 Hr5.out).mono ?_
  rw [take_six]
  rintro e w6 ⟨rfl, h6, ha6⟩
  have Hr6 := Lib.hid h6
  have Hb6 := Lib.hid (Hb5.out.trans (ha6.below (B := w.heap.size) Hb5.out.size (fun k e => by have := Hbr.out; have : k = br := e; omega)))
  clear h6 ha6 Hr5 Hb5 k5
  go_wp2_with fail
  refine (tell_any br A4 _ cap4 six 3 false w6 Hr6.out).mono ?_
  rw [tell_six]
  rintro e w7 ⟨v7, g7, rfl, hr7, h7, ha7⟩
  obtain ⟨A7, cap7, hv7, hc7, hg7, hby7⟩ := hr7.bytes
  replace hv7 : v7 = .slice A7 2 cap7 := hv7
  subst hv7
  have k7 : (convert 24 9 (.slice A7 2 cap7)).run Try.prog w7 = .ok (.string ⟨#[97, 98]⟩) w7 := conv_any rfl hby7
  have Hr7 := Lib.hid h7
  have Hb7 := Lib.hid (Hb6.out.trans (ha7.below (B := w.heap.size) Hb6.out.size (fun k e => by have := Hbr.out; have : k = br := e; omega)))
  clear hr7 ha7 hc7 hg7 hby7 h7 Hr6 Hb6
  go_wp2_with fail
  refine (end_any br A4 _ cap4 six 6 false w7 Hr7.out).mono ?_
  rintro e w8 ⟨v8, rfl, -, h8, hb8⟩
  have h8' : v8 = .nilIface := h8
  subst h8'
  have Hb8 := Lib.hid (Hb7.out.trans (hb8.mono Hb7.out.size))
  clear hb8 h8 Hr7 Hb7 k7
  go_wp2_with fail
  go_ret
  exact ⟨rfl, Hb8.out⟩
end Go.Proofs.Ytnjkfkfanjkajaa
