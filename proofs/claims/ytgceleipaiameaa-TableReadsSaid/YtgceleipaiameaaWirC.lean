/- Contracts of the document's Num and Text: new slices. Conditions: where the bytes lie; a size from 1 on. -/
import Derived.Test.YtgceleipaiameaaWirB
namespace Go.Proofs.Ytgceleipaiameaa
open Go.RowKit

theorem wnum_at (n : Nat) : ∀ (s j : Nat), j < s → (WireP.num n s)[j]? = some (UInt8.ofNat (n / 256 ^ (s - 1 - j) % 256))
  | 0, j, h => absurd h (by omega)
  | s + 1, 0, _ => by simp [WireP.num]
  | s + 1, j + 1, h => by
    have := wnum_at n s j (by omega)
    simp only [WireP.num, List.getElem?_cons_succ, this]
    rw [show s + 1 - 1 - (j + 1) = s - 1 - j from by omega]

def WNumRel (n s : Nat) (W : World) (v i : Value) (wr : World) : Prop :=
  ∃ k g, k ≤ s ∧ i = .int .i64 ((k : Int) - 1) ∧ Row wr W.heap.size 5 g v ((WireP.num n s).take (s - k)) ∧ Below W.heap.size W wr

theorem wnum_step {n s k : Nat} {W w1 : World} {v : Value} {g : Option Nat} (hk : k + 1 ≤ s) (h : Row w1 W.heap.size 5 g v ((WireP.num n s).take (s - (k + 1)) ++ [UInt8.ofNat (n / 256 ^ k % 256)])) (hb : Below W.heap.size W w1) : WNumRel n s W v (.int .i64 ((k : Int) - 1)) w1 := by
  refine ⟨k, g, by omega, rfl, ?_, hb⟩
  have e1 := wnum_at n s (s - (k + 1)) (by omega)
  rw [show s - 1 - (s - (k + 1)) = k by omega] at e1
  have e2 : (WireP.num n s).take (s - k) = (WireP.num n s).take (s - (k + 1)) ++ [UInt8.ofNat (n / 256 ^ k % 256)] := by
    rw [show s - k = (s - (k + 1)) + 1 by omega, List.take_add_one, e1]; rfl
  rw [e2]
  exact h

theorem wnum_end {n s : Nat} {W w1 : World} {v : Value} {g : Option Nat} (h : Row w1 W.heap.size 5 g v ((WireP.num n s).take (s - 0))) (hb : Below W.heap.size W w1) (hs : 1 ≤ s ∧ s ≤ 4) : BytesPost (WireP.put n s) W (.returned v) w1 := by
  rw [Nat.sub_zero, List.take_of_length_le (by rw [WireP.num_length]; omega)] at h
  refine ⟨v, g, rfl, ?_, hb⟩
  have e : WireP.put n (s : Int) = WireP.num n s := by
    unfold WireP.put
    rw [if_pos (by omega), Int.toNat_natCast]
  rw [e]
  exact h

set_option maxHeartbeats 1000000 in
theorem refnum_in (n s : Nat) (hn : n < 4294967296) (hs : 1 ≤ s ∧ s ≤ 4) (w : World) :
    Calls Try.prog 47 #[.int .u32 n, .int .i64 s] w (BytesPost (WireP.put n s) w) := by
  have hs4 : decide ((s : Int) ≤ 4) = true := by rw [decide_eq_true_iff]; omega
  have H0 : Hid (WNumRel n s w (.slice none 0 0) (.int .i64 ((s : Int) - 1)) w) := Lib.hid ⟨s, none, by omega, rfl, by rw [Nat.sub_self]; exact Row.nil _ _ _, Below.refl _ _⟩
  go_enter Try.func47, Try.ntmps47
  go_wp2_with fail
  go_loopw [5, 6] (WNumRel n s w) (fun _ i _ => (intOf i + 1).toNat)
  case atStart => exact H0.out
  case round =>
    clear H0
    obtain ⟨k, g, hk, rfl, hr, hb⟩ := hrel
    have hk5 : k = 0 ∨ k = 1 ∨ k = 2 ∨ k = 3 ∨ k = 4 := by omega
    have Hb := Lib.hid hb.size
    rcases hk5 with rfl | rfl | rfl | rfl | rfl
    · have HF := Lib.hid (wnum_end hr hb hs)
      clear hr hb
      go_wp2_with fail
      go_ret
      exact HF.out
    · have hle : ((WireP.num n s).take (s - 1)).length + 1 ≤ 140737488355328 := by rw [List.length_take, WireP.num_length]; omega
      have HS := Lib.hid (fun v1 w1 g1 h => wnum_step (n := n) (s := s) (k := 0) (W := w) (v := v1) (g := g1) (w1 := w1) hk h)
      have Hr := Lib.hid hr
      have HB := Lib.hid hb
      clear hr hb
      go_wp2_with (at_builtin
                   refine wpList_append_r1 rfl (.tmp 17) (.tmp 23) _ rfl w.heap.size 5 (.int .u8 0) Try.underlying30 infoB rfl _ _ _ rfl Hr.out _ 1 _ rfl rfl (UInt8.ofNat (n % 256)) ?c1 hle Hb.out ?_
                   case c1 => simp <;> omega
                   intro v1 w1 g1 hr1 hm1 ha1
                   have HF := Lib.hid (HS.out v1 w1 g1 (by simpa using hr1) ((HB.out).trans (ha1.below Hb.out (fun k hk => (Hr.out.lt k hk).1))))
                   clear hr1 hm1 ha1)
      go_roundw
      case rel => exact HF.out
      case measure => simp [intOf]
    · have hle : ((WireP.num n s).take (s - 2)).length + 1 ≤ 140737488355328 := by rw [List.length_take, WireP.num_length]; omega
      have HS := Lib.hid (fun v1 w1 g1 h => wnum_step (n := n) (s := s) (k := 1) (W := w) (v := v1) (g := g1) (w1 := w1) hk h)
      have Hr := Lib.hid hr
      have HB := Lib.hid hb
      clear hr hb
      go_wp2_with (at_builtin
                   refine wpList_append_r1 rfl (.tmp 17) (.tmp 23) _ rfl w.heap.size 5 (.int .u8 0) Try.underlying30 infoB rfl _ _ _ rfl Hr.out _ 1 _ rfl rfl (UInt8.ofNat (n / 256 % 256)) ?c2 hle Hb.out ?_
                   case c2 => simp <;> omega
                   intro v1 w1 g1 hr1 hm1 ha1
                   have HF := Lib.hid (HS.out v1 w1 g1 (by simpa using hr1) ((HB.out).trans (ha1.below Hb.out (fun k hk => (Hr.out.lt k hk).1))))
                   clear hr1 hm1 ha1)
      go_roundw
      case rel => exact HF.out
      case measure => simp [intOf]
    · have hle : ((WireP.num n s).take (s - 3)).length + 1 ≤ 140737488355328 := by rw [List.length_take, WireP.num_length]; omega
      have HS := Lib.hid (fun v1 w1 g1 h => wnum_step (n := n) (s := s) (k := 2) (W := w) (v := v1) (g := g1) (w1 := w1) hk h)
      have Hr := Lib.hid hr
      have HB := Lib.hid hb
      clear hr hb
      go_wp2_with (at_builtin
                   refine wpList_append_r1 rfl (.tmp 17) (.tmp 23) _ rfl w.heap.size 5 (.int .u8 0) Try.underlying30 infoB rfl _ _ _ rfl Hr.out _ 1 _ rfl rfl (UInt8.ofNat (n / 65536 % 256)) ?c3 hle Hb.out ?_
                   case c3 => simp <;> omega
                   intro v1 w1 g1 hr1 hm1 ha1
                   have HF := Lib.hid (HS.out v1 w1 g1 (by simpa using hr1) ((HB.out).trans (ha1.below Hb.out (fun k hk => (Hr.out.lt k hk).1))))
                   clear hr1 hm1 ha1)
      go_roundw
      case rel => exact HF.out
      case measure => simp [intOf]
    · have hle : ((WireP.num n s).take (s - 4)).length + 1 ≤ 140737488355328 := by rw [List.length_take, WireP.num_length]; omega
      have HS := Lib.hid (fun v1 w1 g1 h => wnum_step (n := n) (s := s) (k := 3) (W := w) (v := v1) (g := g1) (w1 := w1) hk h)
      have Hr := Lib.hid hr
      have HB := Lib.hid hb
      clear hr hb
      go_wp2_with (at_builtin
                   refine wpList_append_r1 rfl (.tmp 17) (.tmp 23) _ rfl w.heap.size 5 (.int .u8 0) Try.underlying30 infoB rfl _ _ _ rfl Hr.out _ 1 _ rfl rfl (UInt8.ofNat (n / 16777216 % 256)) ?c4 hle Hb.out ?_
                   case c4 => simp <;> omega
                   intro v1 w1 g1 hr1 hm1 ha1
                   have HF := Lib.hid (HS.out v1 w1 g1 (by simpa using hr1) ((HB.out).trans (ha1.below Hb.out (fun k hk => (Hr.out.lt k hk).1))))
                   clear hr1 hm1 ha1)
      go_roundw
      case rel => exact HF.out
      case measure => simp [intOf]

theorem refnum_out (n s : Nat) (hs : 4 < s) (hs2 : s ≤ 9223372036854775807) (w : World) :
    Calls Try.prog 47 #[.int .u32 n, .int .i64 s] w (BytesPost (WireP.put n s) w) := by
  rw [WireP.put_other n s (by omega)]
  have hs4 : decide ((s : Int) ≤ 4) = false := by rw [decide_eq_false_iff_not]; omega
  have hs0 : decide ((0 : Int) ≤ (s : Int) - 1) = true := by rw [decide_eq_true_iff]; omega
  have HF : Hid (BytesPost [] w (.returned (.slice none 0 0)) w) := Lib.hid ⟨_, none, rfl, Row.nil _ _ _, Below.refl _ _⟩
  go_enter Try.func47, Try.ntmps47
  go_wp2_with fail
  go_loopw [5, 6] (fun v i wr => v = .slice none 0 0 ∧ i = .int .i64 ((s : Int) - 1) ∧ wr = w) (fun _ _ _ => 0)
  case atStart => exact ⟨rfl, rfl, rfl⟩
  case round =>
    obtain ⟨rfl, rfl, rfl⟩ := hrel
    go_wp2_with fail
    go_ret
    exact HF.out

/-- The document's Num, of a size from 1 on. -/
theorem refnum_any (n : Nat) (s : Int) (hn : n < 4294967296) (hs : 1 ≤ s) (hs2 : s ≤ 9223372036854775807) (w : World) :
    Calls Try.prog 47 #[.int .u32 n, .int .i64 s] w (BytesPost (WireP.put n s) w) := by
  obtain ⟨k, rfl⟩ := Int.eq_ofNat_of_zero_le (show 0 ≤ s by omega)
  by_cases h4 : k ≤ 4
  · exact refnum_in n k hn ⟨by omega, h4⟩ w
  · exact refnum_out n k (by omega) (by omega) w

end Go.Proofs.Ytgceleipaiameaa
