/- Contract of the law's fixed facts (Awake): true. No conditions. -/
import Derived.Test.YtpabgkmjhcmonaaDigK
import Derived.Lib.SlBytesConst
namespace Go.Proofs.Ytpabgkmjhcmonaa
open Go.RowKit
set_option maxRecDepth 100000

def hexN : List UInt8 := [101, 51, 98, 48, 99, 52, 52, 50, 57, 56, 102, 99, 49, 99, 49, 52, 57, 97, 102, 98, 102, 52, 99, 56, 57, 57, 54, 102, 98, 57, 50, 52, 50, 55, 97, 101, 52, 49, 101, 52, 54, 52, 57, 98, 57, 51, 52, 99, 97, 52, 57, 53, 57, 57, 49, 98, 55, 56, 53, 50, 98, 56, 53, 53]
def hexA : List UInt8 := [98, 97, 55, 56, 49, 54, 98, 102, 56, 102, 48, 49, 99, 102, 101, 97, 52, 49, 52, 49, 52, 48, 100, 101, 53, 100, 97, 101, 50, 50, 50, 51, 98, 48, 48, 51, 54, 49, 97, 51, 57, 54, 49, 55, 55, 97, 57, 99, 98, 52, 49, 48, 102, 102, 54, 49, 102, 50, 48, 48, 49, 53, 97, 100]
theorem hex_nil : DigP.hexT (DigP.ofT []) = hexN := by rw [DigP.of_nil]; decide +kernel
theorem hex_abc : DigP.hexT (DigP.ofT [97, 98, 99]) = hexA := by rw [DigP.of_abc]; decide +kernel
def DTrue (W : World) (e : Ending) (w' : World) : Prop := e = .returned (.bool true) ∧ Below W.heap.size W w'

theorem bytes_new18 (w : World) (l : List UInt8) (e : TypeId) (f : Nat × Nat) : Bytes (w.alloc (.cells (bytesV l).toArray e f)) (w.heap.size + 1) (some ⟨w.heap.size, 0, none⟩) l := fun _ =>
  ⟨w.heap.size, 0, rfl, by omega, fun i c hi => by
    have h : (w.alloc (.cells (bytesV l).toArray e f)).cell? ⟨w.heap.size, i, none⟩ = (bytesV l).toArray[i]? := by simp only [World.cell?, World.alloc]; simp
    rw [Nat.zero_add, h]
    simp [bytesV, hi]⟩

set_option maxHeartbeats 1000000 in
theorem awake18_any (w : World) : Calls Try.prog 7 #[] w (DTrue w) := by
  have HO0 := Lib.hid (of_any [] none 0 0 rfl (Nat.le_refl _) (by omega) (by omega) w Bytes.none_)
  have HH0 : Hid (∀ W, Calls Try.prog 10 #[.agg (bytesV (DigP.ofT [])).toArray] W fun e w' => e = .returned (.string ⟨#[101, 51, 98, 48, 99, 52, 52, 50, 57, 56, 102, 99, 49, 99, 49, 52, 57, 97, 102, 98, 102, 52, 99, 56, 57, 57, 54, 102, 98, 57, 50, 52, 50, 55, 97, 101, 52, 49, 101, 52, 54, 52, 57, 98, 57, 51, 52, 99, 97, 52, 57, 53, 57, 57, 49, 98, 55, 56, 53, 50, 98, 56, 53, 53]⟩) ∧ Below W.heap.size W w') := Lib.hid fun W => by
    have h := hex_any (DigP.ofT []) (DigP.of_len _) W
    rw [hex_nil] at h
    exact h
  have HO1 : Hid (∀ (W : World) (f : Nat × Nat), Calls Try.prog 8 #[.slice (some ⟨W.heap.size, 0, none⟩) 3 3] (W.alloc (.cells #[.int .u8 97, .int .u8 98, .int .u8 99] 5 f)) fun e w' => e = .returned (.agg (bytesV (DigP.ofT [97, 98, 99])).toArray) ∧ Below W.heap.size W w') := Lib.hid fun W f => by
    refine (of_any [97, 98, 99] (some ⟨W.heap.size, 0, none⟩) 3 3 rfl (Nat.le_refl _) (by omega) (by omega) (W.alloc (.cells (bytesV [97, 98, 99]).toArray 5 f)) (by simpa using bytes_new18 W [97, 98, 99] 5 f)).mono ?_
    rintro e w' ⟨h1, h2⟩
    exact ⟨h1, ((Below.refl W.heap.size W).alloc (Nat.le_refl _) _).trans (h2.mono (by simp))⟩
  have HH1 : Hid (∀ W, Calls Try.prog 10 #[.agg (bytesV (DigP.ofT [97, 98, 99])).toArray] W fun e w' => e = .returned (.string ⟨#[98, 97, 55, 56, 49, 54, 98, 102, 56, 102, 48, 49, 99, 102, 101, 97, 52, 49, 52, 49, 52, 48, 100, 101, 53, 100, 97, 101, 50, 50, 50, 51, 98, 48, 48, 51, 54, 49, 97, 51, 57, 54, 49, 55, 55, 97, 57, 99, 98, 52, 49, 48, 102, 102, 54, 49, 102, 50, 48, 48, 49, 53, 97, 100]⟩) ∧ Below W.heap.size W w') := Lib.hid fun W => by
    have h := hex_any (DigP.ofT [97, 98, 99]) (DigP.of_len _) W
    rw [hex_abc] at h
    exact h
  have kc := fun (w : World) (C : Array Value) (n c : Nat) => Lib.run_convert_bytes_const (P := Try.prog) w 22 5 C n c Try.underlying22 Try.underlying5
  generalize bytesV (DigP.ofT []) = O0 at *
  generalize bytesV (DigP.ofT [97, 98, 99]) = O1 at *
  go_enter Try.func7, Try.ntmps7
  go_wp2_with fail
  refine HO0.out.mono ?_
  rintro e w1 ⟨rfl, hb1⟩
  have Hb1 := Lib.hid hb1
  clear hb1
  go_wp2_with fail
  refine (HH0.out _).mono ?_
  rintro e w2 ⟨rfl, hb2⟩
  have Hb2 := Lib.hid (Hb1.out.trans (hb2.mono Hb1.out.size))
  clear hb2 Hb1
  go_wp2_with fail
  refine (HO1.out _ _).mono ?_
  rintro e w3 ⟨rfl, hb3⟩
  have Hb3 := Lib.hid (Hb2.out.trans (hb3.mono Hb2.out.size))
  clear hb3 Hb2
  go_wp2_with fail
  refine (HH1.out _).mono ?_
  rintro e w4 ⟨rfl, hb4⟩
  have Hb4 := Lib.hid (Hb3.out.trans (hb4.mono Hb3.out.size))
  clear hb4 Hb3
  go_wp2_with fail
  go_ret
  exact ⟨rfl, Hb4.out⟩
end Go.Proofs.Ytpabgkmjhcmonaa
