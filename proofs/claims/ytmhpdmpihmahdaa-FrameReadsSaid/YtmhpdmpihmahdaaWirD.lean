/- Contract of the document's Text: a new slice. Conditions: where the bytes lie. -/
import Derived.Test.YtmhpdmpihmahdaaWirC
namespace Go.Proofs.Ytmhpdmpihmahdaa
open Go.RowKit

theorem row_one (w : World) (k : Nat) (hk : k ≤ 255) (e : TypeId) : Row (w.alloc (.cells #[.int .u8 ((k : Nat) : Int)] e)) w.heap.size e (some w.heap.size) (.slice (some ⟨w.heap.size, 0, none⟩) 1 1) [UInt8.ofNat k] := by
  have h := World.ownsRow_lit (base := w.heap.size) (e := e) (size := 1) w #[.int .u8 ((k : Nat) : Int)] 1 (Nat.le_refl _) (by unfold maxLen; omega) rfl
  have e1 : bytesV [UInt8.ofNat k] = [.int .u8 ((k : Nat) : Int)] := by
    simp [bytesV]
    omega
  refine ⟨rfl, ?_⟩
  rw [e1]
  exact h

theorem text_new {t : List UInt8} {k : Nat} {v1 : Value} {w w1 : World} {g1 : Option Nat} (hk : k = min t.length 255) (hr : Row w1 w.heap.size 5 g1 v1 ([UInt8.ofNat k] ++ t.take k)) (hb : Below w.heap.size (w.alloc (.cells #[.int .u8 ((k : Nat) : Int)] 5)) w1) :
    BytesPost (WireP.text t) w (.returned v1) w1 := by
  have he : [UInt8.ofNat k] ++ t.take k = WireP.text t := by
    rcases Nat.le_total t.length 255 with h | h
    · rw [Nat.min_eq_left h] at hk
      subst hk
      rw [List.take_of_length_le (Nat.le_refl _)]
      simp only [WireP.text]
      rw [Nat.min_eq_left h, List.take_of_length_le h]
      rfl
    · rw [Nat.min_eq_right h] at hk
      subst hk
      simp only [WireP.text]
      rw [Nat.min_eq_right h]
      rfl
  rw [he] at hr
  exact ⟨v1, g1, rfl, hr, ((Below.refl _ _).alloc (Nat.le_refl _) _).trans hb⟩

set_option maxHeartbeats 400000 in
theorem reftext_small (A : Option Addr) (n cap : Nat) (t : List UInt8) (hn : t.length = n) (hsm : n ≤ 255) (w : World) (ht : Bytes w w.heap.size A t) :
    Calls Try.prog 30 #[.slice A n cap] w (BytesPost (WireP.text t) w) := by
  have hg : decide ((255 : Int) < n) = false := by rw [decide_eq_false_iff_not]; omega
  have HF := Lib.hid (fun (v1 : Value) (w1 : World) (g1 : Option Nat) => text_new (v1 := v1) (w1 := w1) (g1 := g1) (w := w) (t := t) (k := n) (by omega))
  have HR := Lib.hid (row_one w n (by omega) 5)
  have Ht := Lib.hid ((ht.take n).alloc (Nat.le_refl _) (.cells #[.int .u8 ((n : Nat) : Int)] 5))
  have Hl : Hid ((t.take n).length = n) := Lib.hid (by rw [List.length_take]; omega)
  clear ht hn
  go_enter Try.func30, Try.ntmps30
  go_wp2_with (at_builtin
               refine wpList_append_r rfl (.tmp 11) (.tmp 12) _ rfl w.heap.size 5 (.int .u8 0) Try.underlying35 infoB rfl _ _ _ rfl HR.out w.heap.size A n cap (t.take n) rfl Hl.out Ht.out (by simp <;> omega) (by simp) ?_
               intro v1 w1 g1 hr1 hm1 ha1
               have HH := Lib.hid (HF.out v1 w1 g1 hr1 (ha1.below (B := w.heap.size) (by simp) (fun k e => by injection e with e; omega)))
               clear hr1 hm1 ha1)
  go_ret
  exact HH.out

set_option maxHeartbeats 400000 in
theorem reftext_large (A : Option Addr) (n cap : Nat) (t : List UInt8) (hn : t.length = n) (hsm : 255 < n) (hcap : n ≤ cap) (w : World) (ht : Bytes w w.heap.size A t) :
    Calls Try.prog 30 #[.slice A n cap] w (BytesPost (WireP.text t) w) := by
  have hg : decide ((255 : Int) < n) = true := by rw [decide_eq_true_iff]; omega
  have HF := Lib.hid (fun (v1 : Value) (w1 : World) (g1 : Option Nat) => text_new (v1 := v1) (w1 := w1) (g1 := g1) (w := w) (t := t) (k := 255) (by omega))
  have HR := Lib.hid (row_one w 255 (by omega) 5)
  have Ht := Lib.hid ((ht.take 255).alloc (Nat.le_refl _) (.cells #[.int .u8 ((255 : Nat) : Int)] 5))
  have Hl : Hid ((t.take 255).length = 255) := Lib.hid (by rw [List.length_take]; omega)
  have hsl := fun W => run_slice_to (P := Try.prog) W 35 5 Try.underlying35 (fun w => by kernel_rfl) A n cap (255 : Int) (by omega) (by omega)
  clear ht hn
  go_enter Try.func30, Try.ntmps30
  go_wp2_with (at_builtin
               refine wpList_append_r rfl (.tmp 11) (.tmp 12) _ rfl w.heap.size 5 (.int .u8 0) Try.underlying35 infoB rfl _ _ _ rfl HR.out w.heap.size A 255 cap (t.take 255) rfl Hl.out Ht.out (by simp <;> omega) (by simp) ?_
               intro v1 w1 g1 hr1 hm1 ha1
               have HH := Lib.hid (HF.out v1 w1 g1 hr1 (ha1.below (B := w.heap.size) (by simp) (fun k e => by injection e with e; omega)))
               clear hr1 hm1 ha1)
  go_ret
  exact HH.out

/-- The document's Text. -/
theorem reftext_any (A : Option Addr) (n cap : Nat) (t : List UInt8) (hn : t.length = n) (hcap : n ≤ cap) (w : World) (ht : Bytes w w.heap.size A t) :
    Calls Try.prog 30 #[.slice A n cap] w (BytesPost (WireP.text t) w) := by
  by_cases h : n ≤ 255
  · exact reftext_small A n cap t hn h w ht
  · exact reftext_large A n cap t hn (by omega) hcap w ht
end Go.Proofs.Ytmhpdmpihmahdaa
