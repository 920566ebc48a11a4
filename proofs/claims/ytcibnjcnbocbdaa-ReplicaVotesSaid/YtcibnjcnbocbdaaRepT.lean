/- Contract of the document's Image; Awake. Conditions: where the table lies. -/
import Derived.Test.YtcibnjcnbocbdaaRepS
namespace Go.Proofs.Ytcibnjcnbocbdaa
open Go.RowKit RepP Go.Maps
set_option maxRecDepth 100000

set_option maxHeartbeats 1000000 in
theorem refimage_any (w : World) (b : Nat) (t : T) (n : Nat) (h : RefT w b t n) : Calls Try.prog 16 #[repV b] w (ImaP14 t w) := by
  have HR0 := Lib.hid h
  have HS0 : Hid (ImaR14 .i64 t w (.slice none 0 0) (.int .i64 0) w) := Lib.hid ⟨0, by omega, rfl, ⟨rfl, .inl ⟨rfl, rfl⟩⟩, Below.refl _ _⟩
  clear h
  unfold repV
  go_enter Try.func16, Try.ntmps16
  go_wp2_with fail
  go_loopw [3, 4] (ImaR14 .i64 t w) (fun _ i _ => (9 - intOf i).toNat)
  case atStart => exact HS0.out
  case round =>
    clear HS0
    obtain ⟨k, hk, rfl, hO, hB⟩ := hrel
    obtain ⟨Av, cv, rfl, -⟩ := own_slice hO
    have hR := HR0.out.below hB
    by_cases hk8 : k < 8
    case neg =>
      obtain rfl : k = 8 := by omega
      have HF : Hid (ImaP14 t w (.returned (.slice Av (imageK t 8).length cv)) wr) := Lib.hid ⟨_, _, rfl, hO, hB⟩
      clear hO hB hR HR0
      go_wp2_with fail
      go_ret
      exact HF.out
    have q1 : decide ((k : Int) < 8) = true := decide_eq_true (by omega)
    have hk8' : (k : Int) < 8 := by omega
    have e1 : IntKind.i64.wrap ((k : Int) + 1) = (k : Int) + 1 := IntWalk.i64_in _ (by omega)
    have e2 : IntKind.u8.wrap (k : Int) = (k : Int) := IntWalk.u8_in _ (by omega)
    have kv := hR.2.val (valsT_at (t := t) (k := k) (by rw [hR.1]; exact hk8))
    have kh := hR.2.has (hasT_at (t := t) (k := k) (by rw [hR.1]; exact hk8))
    have hlen := image_len t k
    cases ht : tat t k with
    | none =>
      simp only [ht, Option.isSome_none] at kh
      have HR : Hid (ImaR14 .i64 t w (.slice Av (imageK t k).length cv) (.int .i64 ((k : Int) + 1)) wr) := Lib.hid ⟨k + 1, hk8, by go_num, by rw [image_none ht]; exact hO, hB⟩
      generalize (imageK t k).length = ln at *
      clear hO hB hR ht HR0 hk hk8 kv
      go_wp2_with fail
      go_roundw
      case rel => exact HR.out
      case measure => simp [intOf]; omega
    | some y =>
      simp only [ht, Option.getD_some, Option.isSome_some] at kh kv
      have HR : Hid (∀ v' w', w'.ownsRow w.heap.size 38 4 v' (imageK t k ++ [cmdOf k y]).length (itemsV cmdVals (imageK t k ++ [cmdOf k y])) → Below w.heap.size wr w' → ImaR14 .i64 t w v' (.int .i64 ((k : Int) + 1)) w') := Lib.hid fun v' w' h1 h2 => ⟨k + 1, hk8, by go_num, by rw [image_some ht]; exact h1, hB.trans h2⟩
      have HO := Lib.hid hO
      have HBs := Lib.hid hB.size
      clear hO hB hR ht HR0 hk hk8
      go_wp2_with (first | (at_builtin; refine wpList_cmd1 rfl (.tmp 15) (.tmp 25) rfl w.heap.size _ (imageK t k) rfl HO.out k y rfl (by omega) HBs.out ?_; intro v2 w2 ho2 hb2) | fail)
      go_roundw
      case rel => exact HR.out _ _ ho2 hb2
      case measure => simp [intOf]; omega

end Go.Proofs.Ytcibnjcnbocbdaa
