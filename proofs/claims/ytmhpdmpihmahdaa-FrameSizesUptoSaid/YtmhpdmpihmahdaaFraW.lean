/- Awake of stage 4: true. Conditions: none. -/
import Derived.Test.YtmhpdmpihmahdaaFraH
import Derived.Test.YtmhpdmpihmahdaaFraJ
namespace Go.Proofs.Ytmhpdmpihmahdaa
open Go.RowKit
set_option maxRecDepth 100000

def AwakePost (w : World) (e : Ending) (w' : World) : Prop := e = .returned (.bool true) ∧ Below w.heap.size w w'

theorem zero_bytes : CrcP.seal4 (FrameP.enc zeroF) = [0, 0, 0, 0, 0, 0, 0, 0, 0, 0, 0, 0, 0, 0, 199, 121, 187, 209] := by kernel_rfl

theorem zero_in (W : World) : FrameIn W zeroC := by
  obtain ⟨x, h1, h2, h3⟩ := FrameAt.zero W
  exact ⟨fun h => absurd h (by simp [zeroC]), rfl, Nat.le_refl _, by simp [zeroC], fun h => absurd h (by simp [zeroC]), rfl, Nat.le_refl _, by simp [zeroC], by constructor <;> simp [zeroC, FrameC.plain]⟩

theorem awake_any (w : World) : Calls Try.prog 10 #[] w (AwakePost w) := by
  have HE : Hid (Calls Try.prog 12 #[zeroC.value] w (EncGood zeroF w)) := Lib.hid (encode_good zeroC w (zero_in w) (by decide))
  unfold zeroC FrameC.value at HE
  go_enter Try.func10, Try.ntmps10
  go_wp2_with fail
  refine HE.out.mono ?_
  rintro e w1 ⟨v, g, rfl, hr, hb⟩
  rw [zero_bytes] at hr
  obtain ⟨A, c, rfl, -, -, hby⟩ := hr.bytes
  have kc := conv_w (cap := c) rfl hby
  have Hb := Lib.hid hb
  simp only [List.length_cons, List.length_nil, Nat.zero_add, Nat.reduceAdd] at kc
  clear hr hb hby
  go_wp2_with fail
  go_ret
  exact ⟨rfl, Hb.out⟩
end Go.Proofs.Ytmhpdmpihmahdaa
