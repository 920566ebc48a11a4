/- Commands of the call's own, in a row; contracts of both Images. Conditions: where the tables lie. -/
import Derived.Test.YtcibnjcnbocbdaaRepE
import Derived.Test.YtcibnjcnbocbdaaLawM
namespace Go.Proofs.Ytcibnjcnbocbdaa
open Go.RowKit RepP Go.Maps
set_option maxRecDepth 100000

theorem infoC14 : (Try.prog.info? 38).map (fun i => (i.zero, i.size, i.bytes)) = some (some (.agg #[.int .u8 0, .int .u8 0, .int .u16 0, .int .u16 0]), 4, 6) := by kernel_rfl
theorem cmdVals_len (c : Cmd) : (cmdVals c).length = 4 := rfl
theorem cmdVals_one (c : Cmd) : ∀ u ∈ cmdVals c, u.oneCell' = true := by
  intro u hu; simp [cmdVals] at hu; rcases hu with rfl | rfl | rfl | rfl <;> rfl
theorem wpList_cmd1 {w0 : World} {ops : Array Oper} {rest : List Oper} {o : Oper} {a : Act} {Q : Exit → Act → World → Prop} (hgd : o.guard = none) (s x : Operand)
    (ho : o.op = .call { callee := .builtin .append, args := #[s, x], argTypes := #[22, 22] }) (B : Nat) (v : Value) (l : List Cmd) (hs : a.eval s = v) (hown : w0.ownsRow B 38 4 v l.length (itemsV cmdVals l))
    (k y : Nat) (hx : a.eval x = .slice (some ⟨w0.heap.size, 0, none⟩) 1 1) (hn : l.length ≤ 1000000) (hB : B ≤ w0.heap.size)
    (h : ∀ v' w', w'.ownsRow B 38 4 v' (l ++ [cmdOf k y]).length (itemsV cmdVals (l ++ [cmdOf k y])) → Below B w0 w' → wpList Try.prog ops Q rest (a.put o.dst v') w') :
    wpList Try.prog ops Q (o :: rest) a (w0.alloc (.cells #[.int .u8 1, .int .u8 (k : Nat), .int .u16 (y : Nat), .int .u16 0] 38)) := by
  refine wpList_append_s hgd s x 22 ho B 38 _ 4 6 Try.underlying22 infoC14 rfl (by decide) v l.length (itemsV cmdVals l) hs (hown.alloc _) (some ⟨w0.heap.size, 0, none⟩) 1 1 (cmdVals (cmdOf k y)) hx rfl
    (fun _ => ⟨_, rfl, laid_at w0 _ (cmdVals (cmdOf k y)) w0.heap.size rfl⟩) (cmdVals_one _) (by unfold maxLen; omega) (by omega) (by simp; omega) ?_
  intro v' w' h1 h2 _
  refine h v' w' ?_ (((Below.refl B w0).alloc hB _).trans (h2.below (by simp; omega) (fun k e => ((hown.lt k e).1))))
  rw [List.length_append, itemsV_append, itemsV_one']
  exact h1

theorem u8_next {k : Nat} (h : k < 8) : IntKind.u8.wrap ((k : Int) + 1) = (k : Int) + 1 := by
  have : ∀ j : Fin 8, IntKind.u8.wrap ((j.val : Int) + 1) = (j.val : Int) + 1 := by decide
  exact this ⟨k, h⟩
def ImaP14 (t : T) (w : World) (e : Ending) (w' : World) : Prop := ∃ A cap, e = .returned (.slice A (imageT t).length cap) ∧ w'.ownsRow w.heap.size 38 4 (.slice A (imageT t).length cap) (imageT t).length (itemsV cmdVals (imageT t)) ∧ Below w.heap.size w w'
def ImaR14 (kd : IntKind) (t : T) (w : World) (v i : Value) (W : World) : Prop := ∃ k, k ≤ 8 ∧ i = .int kd (k : Nat) ∧ W.ownsRow w.heap.size 38 4 v (imageK t k).length (itemsV cmdVals (imageK t k)) ∧ Below w.heap.size w W
theorem own_keep14 {w w' : World} {B n : Nat} {v : Value} {xs : List Value} (h : w.ownsRow B 38 4 v n xs) (hb : Below w.heap.size w w') : w'.ownsRow B 38 4 v n xs := own_apart (F := fun _ => False) h (Apart.of_below' hb) (fun _ _ h => h)

set_option maxHeartbeats 1000000 in
theorem rimage_any (w : World) (b : Nat) (m : Option Nat) (t : T) (n k : Nat) (h : RepIn w b m t n k) : Calls Try.prog 15 #[repV b] w (ImaP14 t w) := by
  have HR0 := Lib.hid h
  have HS0 : Hid (ImaR14 .u8 t w (.slice none 0 0) (.int .u8 0) w) := Lib.hid ⟨0, by omega, rfl, ⟨rfl, .inl ⟨rfl, rfl⟩⟩, Below.refl _ _⟩
  clear h
  unfold repV
  go_enter Try.func15, Try.ntmps15
  go_wp2_with fail
  go_loopw [3, 9] (ImaR14 .u8 t w) (fun _ i _ => (9 - intOf i).toNat)
  case atStart => exact HS0.out
  case round =>
    clear HS0
    obtain ⟨k, hk, rfl, hO, hB⟩ := hrel
    obtain ⟨Av, cv, rfl, -⟩ := own_slice hO
    have hR := HR0.out.below hB
    have k0 := hR.c0
    by_cases hk8 : k < 8
    case neg =>
      obtain rfl : k = 8 := by omega
      have HF : Hid (ImaP14 t w (.returned (.slice Av (imageK t 8).length cv)) wr) := Lib.hid ⟨_, _, rfl, hO, hB⟩
      clear hO hB hR k0 HR0
      go_wp2_with fail
      go_ret
      exact HF.out
    have q1 : decide ((k : Int) < 8) = true := decide_eq_true (by omega)
    have hk8' : (k : Int) < 8 := by omega
    have e1 := u8_next hk8
    have hlk := hR.mp.look (k := k) (by omega)
    have hlen := image_len t k
    cases ht : tat t k with
    | none =>
      simp only [ht, Option.getD_none, Option.isSome_none] at hlk
      have HR : Hid (ImaR14 .u8 t w (.slice Av (imageK t k).length cv) (.int .u8 ((k : Int) + 1)) wr) := Lib.hid ⟨k + 1, hk8, by go_num, by rw [image_none ht]; exact hO, hB⟩
      generalize (imageK t k).length = ln at *
      clear hO hB hR ht HR0 hk hk8
      go_wp2_with fail
      go_roundw
      case rel => exact HR.out
      case measure => simp [intOf]; omega
    | some y =>
      simp only [ht, Option.getD_some, Option.isSome_some] at hlk
      have HR : Hid (∀ v' w', w'.ownsRow w.heap.size 38 4 v' (imageK t k ++ [cmdOf k y]).length (itemsV cmdVals (imageK t k ++ [cmdOf k y])) → Below w.heap.size wr w' → ImaR14 .u8 t w v' (.int .u8 ((k : Int) + 1)) w') := Lib.hid fun v' w' h1 h2 => ⟨k + 1, hk8, by go_num, by rw [image_some ht]; exact h1, hB.trans h2⟩
      have HO := Lib.hid hO
      have HBs := Lib.hid hB.size
      clear hO hB hR ht HR0 hk hk8
      go_wp2_with (first | (at_builtin; refine wpList_cmd1 rfl (.tmp 22) (.tmp 26) rfl w.heap.size _ (imageK t k) rfl HO.out k y rfl (by omega) HBs.out ?_; intro v2 w2 ho2 hb2) | fail)
      go_roundw
      case rel => exact HR.out _ _ ho2 hb2
      case measure => simp [intOf]; omega
end Go.Proofs.Ytcibnjcnbocbdaa
