/- Contract of the law's fixed facts (Awake): true. No conditions. -/
import Derived.Test.YtccjlebdakcnjaaCrcE
import Derived.Lib.SlBytesConst
namespace Go.Proofs.Ytccjlebdakcnjaa
open Go.RowKit

def digits : List UInt8 := [49, 50, 51, 52, 53, 54, 55, 56, 57]
theorem sum_digits : CrcP.sum digits = 3421780262 := by decide +kernel
theorem sum_none : CrcP.sum [] = 0 := by decide +kernel

def AwakePost (W : World) (e : Ending) (w' : World) : Prop := e = .returned (.bool true) ∧ Below W.heap.size W w'

theorem bytes_new (w : World) (l : List UInt8) (e : TypeId) (f : Nat × Nat) : Bytes (w.alloc (.cells (bytesV l).toArray e f)) (w.heap.size + 1) (some ⟨w.heap.size, 0, none⟩) l := fun _ =>
  ⟨w.heap.size, 0, rfl, by omega, fun i c hi => by
    have h : (w.alloc (.cells (bytesV l).toArray e f)).cell? ⟨w.heap.size, i, none⟩ = (bytesV l).toArray[i]? := by simp only [World.cell?, World.alloc]; simp
    rw [Nat.zero_add, h]
    simp [bytesV, hi]⟩

theorem open_small (A : Option Addr) (cap : Nat) (w : World) (hcap : 1 ≤ cap) (h : Bytes w w.heap.size A [0]) :
    Calls Try.prog 10 #[.slice A 1 cap] w fun e w' => e = .returned (.tuple #[.slice none 0 0, .bool false]) ∧ Below w.heap.size w w' := by
  refine (open_any A [0] 1 cap rfl w (by omega) hcap h).mono ?_
  rintro e w' (⟨p, v, h1, -, -, -⟩ | ⟨-, h2, h3⟩)
  · have := congrArg List.length h1
    rw [seal4_len] at this
    simp at this
  · exact ⟨h2, h3⟩

theorem cell_bcell {W w1 : World} (hb : Below W.heap.size W w1) : ∀ b o, b < W.heap.size → w1.cell? ⟨b, o, none⟩ = W.cell? ⟨b, o, none⟩ := fun b o h => hb.cell (p := ⟨b, o, none⟩) h

set_option maxHeartbeats 400000 in
theorem awake_any (w : World) : Calls Try.prog 9 #[] w (AwakePost w) := by
  have HO := Lib.hid (open_small (some ⟨w.heap.size, 0, none⟩) 1 (w.alloc (.cells #[.int .u8 0] 5)) (by omega) (by simpa [bytesV] using bytes_new w [0] 5 (0, 0)))
  have HS : Hid (∀ (W : World) (f : Nat × Nat), Calls Try.prog 12 #[.slice (some ⟨W.heap.size, 0, none⟩) 9 9] (W.alloc (.cells #[.int .u8 49, .int .u8 50, .int .u8 51, .int .u8 52, .int .u8 53, .int .u8 54, .int .u8 55, .int .u8 56, .int .u8 57] 5 f)) fun e w' => e = .returned (.int .u32 3421780262) ∧ (W.alloc (.cells #[.int .u8 49, .int .u8 50, .int .u8 51, .int .u8 52, .int .u8 53, .int .u8 54, .int .u8 55, .int .u8 56, .int .u8 57] 5 f)) = w') := Lib.hid fun W f => by
    have h := sum_any (some ⟨W.heap.size, 0, none⟩) digits 9 (W.alloc (.cells (bytesV digits).toArray 5 f)) (by decide) (by simpa using bytes_new W digits 5 f)
    rw [sum_digits] at h
    exact h
  have HN : Hid (∀ W : World, Calls Try.prog 12 #[.slice none 0 0] W fun e w' => e = .returned (.int .u32 0) ∧ W = w') := Lib.hid fun W => by
    have h := sum_any none [] 0 W (by decide) Bytes.none_
    rw [sum_none] at h
    exact h
  have kc := fun (w : World) (C : Array Value) (n c : Nat) => Lib.run_convert_bytes_const (P := Try.prog) w 22 5 C n c Try.underlying22 Try.underlying5
  go_enter Try.func9, Try.ntmps9
  go_wp2_with fail
  refine HO.out.mono ?_
  rintro e w1 ⟨rfl, hb⟩
  have Hb := Lib.hid hb
  clear hb
  go_wp2_with fail
  refine (HS.out _ _).mono ?_
  rintro e w2 ⟨rfl, rfl⟩
  go_wp2_with fail
  refine (HN.out _).mono ?_
  rintro e w2 ⟨rfl, rfl⟩
  go_wp2_with fail
  go_ret
  have hb := Hb.out
  have hs := hb.size
  simp at hs
  exact ⟨rfl, (((Below.refl w.heap.size w).alloc (Nat.le_refl _) _).trans (hb.mono (by simp))).alloc (by omega) _⟩
end Go.Proofs.Ytccjlebdakcnjaa
