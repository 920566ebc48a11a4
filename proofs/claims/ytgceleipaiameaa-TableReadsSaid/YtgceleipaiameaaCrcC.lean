/- Contracts of crc.Seal and of the document's Seal at bytes in memory: a new slice of the sealed bytes. Conditions: where the bytes lie; at most 100000000 of them. -/
import Derived.Test.YtgceleipaiameaaCrcB
namespace Go.Proofs.Ytgceleipaiameaa
open Go.RowKit
set_option maxRecDepth 100000

theorem infoB2 : (Try.prog.info? 5).map (fun i => (i.zero, i.size, i.bytes)) = some (some (.int .u8 0), 1, 1) := by kernel_rfl

/-- What sealing answers: a slice of the call's own that holds the sealed bytes. -/
def SealPost (l : List UInt8) (W : World) (e : Ending) (w' : World) : Prop :=
  ∃ v, e = .returned v ∧ w'.ownsRow W.heap.size 5 1 v (l.length + 4) (bytesV (CrcP.seal4 l)) ∧ Below W.heap.size W w'

theorem bytes4_at (x k : Nat) (hk : k < 4) : (CrcP.bytes 4 x)[k]? = some (UInt8.ofNat (x / 256 ^ k % 256)) := by
  have h4 : k = 0 ∨ k = 1 ∨ k = 2 ∨ k = 3 := by omega
  rcases h4 with rfl | rfl | rfl | rfl <;> simp only [CrcP.bytes, List.getElem?_cons_zero, List.getElem?_cons_succ, Nat.div_div_eq_div_mul, Nat.reducePow, Nat.reduceMul, Nat.div_one]

def SealRel (l : List UInt8) (W : World) (v i : Value) (wr : World) : Prop :=
  ∃ k, k ≤ 4 ∧ i = .int .i64 (k : Nat) ∧ wr.ownsRow W.heap.size 5 1 v (l.length + k) (bytesV (l ++ (CrcP.bytes 4 (CrcP.sum l)).take k)) ∧ Below W.heap.size W wr

theorem seal_step (l : List UInt8) (W w1 : World) (v : Value) (k : Nat) (hk : k < 4) (ho : w1.ownsRow W.heap.size 5 1 v (l.length + k + 1) (bytesV (l ++ (CrcP.bytes 4 (CrcP.sum l)).take k) ++ [.int .u8 ((CrcP.sum l / 256 ^ k % 256 : Nat) : Int)])) (hb : Below W.heap.size W w1) :
    SealRel l W v (.int .i64 ((k : Int) + 1)) w1 := by
  refine ⟨k + 1, by omega, by go_num, ?_, hb⟩
  have hl : (CrcP.bytes 4 (CrcP.sum l)).length = 4 := CrcP.bytes_length 4 _
  have e1 := bytes4_at (CrcP.sum l) k hk
  have e2 : (CrcP.bytes 4 (CrcP.sum l)).take (k + 1) = (CrcP.bytes 4 (CrcP.sum l)).take k ++ [UInt8.ofNat (CrcP.sum l / 256 ^ k % 256)] := by
    rw [List.take_add_one, e1]; rfl
  rw [e2, ← List.append_assoc, bytesV_append]
  have e3 : bytesV [UInt8.ofNat (CrcP.sum l / 256 ^ k % 256)] = [Value.int .u8 ((CrcP.sum l / 256 ^ k % 256 : Nat) : Int)] := by
    simp [bytesV]
  rw [e3]
  exact ho

theorem seal_step' (l : List UInt8) (W w1 : World) (v : Value) (k : Nat) (x : Int) (hk : k < 4) (ho : w1.ownsRow W.heap.size 5 1 v (l.length + k + 1) (bytesV (l ++ (CrcP.bytes 4 (CrcP.sum l)).take k) ++ [.int .u8 x])) (hb : Below W.heap.size W w1) (hx : x = ((CrcP.sum l / 256 ^ k % 256 : Nat) : Int)) :
    SealRel l W v (.int .i64 ((k : Int) + 1)) w1 := by
  rw [hx] at ho
  exact seal_step l W w1 v k hk ho hb

theorem seal_end (l : List UInt8) (W w1 : World) (v : Value) (ho : w1.ownsRow W.heap.size 5 1 v (l.length + 4) (bytesV (l ++ (CrcP.bytes 4 (CrcP.sum l)).take 4))) (hb : Below W.heap.size W w1) :
    SealPost l W (.returned v) w1 := by
  refine ⟨v, rfl, ?_, hb⟩
  rw [List.take_of_length_le (by rw [CrcP.bytes_length]; omega)] at ho
  exact ho

set_option maxHeartbeats 400000 in
theorem seal_any (A : Option Addr) (l : List UInt8) (n cap : Nat) (hn : l.length = n) (w : World) (hl : n ≤ 100000000) (h : Bytes w w.heap.size A l) :
    Calls Try.prog 19 #[.slice A n cap] w (SealPost l w) := by
  subst hn
  obtain ⟨i0, hi, hz0, hz1, hz2⟩ := info_parts infoB2
  have H := Lib.hid h
  have hs := CrcP.sum_lt l
  have HP := Lib.hid (fun i hi W => part_any (CrcP.sum l) i hs hi W)
  have HS := Lib.hid (sum_any A l cap w (by omega) h)
  have HR : Hid (∀ v w1, w1.ownsRow w.heap.size 5 1 v l.length (bytesV l) → Below w.heap.size w w1 → SealRel l w v (.int .i64 0) w1) := Lib.hid fun v w1 ho hb => ⟨0, by omega, rfl, by simpa using ho, hb⟩
  clear h
  go_enter Try.func19, Try.ntmps19
  go_wp2_with fail
  refine HS.out.mono ?_
  rintro e w' ⟨rfl, rfl⟩
  clear HS
  go_wp2_with (first
    | (at_make
       refine wpList_make_own _ rfl _ _ _ rfl w.heap.size 5 i0 (.int .u8 0) 1 Try.underlying30 hi hz0 hz1 .i64 .i64 _ (l.length + 4) rfl rfl ?c1 ?c2 ?c3 ?c4 ?_
       case c1 => go_num
       case c2 => rw [hz2]; omega
       case c3 => unfold maxLen; omega
       case c4 => exact Nat.le_refl _
       intro w1 hown1 hg1
       have Ho1 := Lib.hid hown1
       have Hb1 := Lib.hid ((Below.refl w.heap.size w).grown hg1 (Nat.le_refl _) (by simp))
       clear hown1 hg1)
    | (at_builtin
       refine wpList_append_b rfl (.tmp 12) (.tmp 13) _ rfl w.heap.size 5 (.int .u8 0) Try.underlying30 infoB2 rfl _ 0 [] rfl Ho1.out w.heap.size A l.length cap l rfl rfl (H.out.below Hb1.out (Nat.le_refl _)) (by omega) Hb1.out.size ?_
       intro v2 w2 hown2 _ hb2
       have HRR := Lib.hid (HR.out v2 w2 (by simpa using hown2) (Hb1.out.trans hb2))
       clear hown2 hb2)
    | fail)
  go_loopw [4, 15] (SealRel l w) (fun _ i _ => (4 - intOf i).toNat)
  case atStart => exact HRR.out
  case round =>
    clear HRR HR Ho1 Hb1 H
    obtain ⟨k, hk, rfl, ho, hb⟩ := hrel
    by_cases hlt : k < 4
    · have Ho := Lib.hid ho
      have Hb := Lib.hid hb
      have hx := hb.size
      have HP' := Lib.hid (HP.out k hlt)
      clear ho hb
      go_wp2_with fail
      refine (HP'.out _).mono ?_
      rintro e w' ⟨rfl, rfl⟩
      go_wp2_with (at_builtin
                   refine wpList_append_1 rfl (.tmp 18) (.tmp 22) _ rfl w.heap.size 5 (.int .u8 0) Try.underlying30 infoB2 rfl _ (l.length + k) _ rfl Ho.out 1 _ rfl rfl (by omega) hx ?_
                   intro v3 w3 ho3 hb3
                   have HR := Lib.hid (seal_step l w w3 v3 k hlt ho3 (Hb.out.trans hb3))
                   clear ho3 hb3)
      go_roundw
      case rel => exact HR.out
      case measure => simp [intOf]; omega
    · obtain rfl : k = 4 := by omega
      have HF := Lib.hid (seal_end l w wr _ ho hb)
      clear ho hb
      go_wp2_with fail
      go_ret
      exact HF.out

set_option maxHeartbeats 400000 in
theorem refseal_any (A : Option Addr) (l : List UInt8) (n cap : Nat) (hn : l.length = n) (w : World) (hl : n ≤ 100000000) (h : Bytes w w.heap.size A l) :
    Calls Try.prog 27 #[.slice A n cap] w (SealPost l w) := by
  subst hn
  obtain ⟨i0, hi, hz0, hz1, hz2⟩ := info_parts infoB2
  have H := Lib.hid h
  have hs := CrcP.sum_lt l
  have HS := Lib.hid (refsum_any A l cap w (by omega) h)
  have Hb1 := Lib.hid ((Below.refl w.heap.size w).alloc (Nat.le_refl _) (.cells #[] 5))
  have Ho1 := Lib.hid (World.ownsRow_lit (base := w.heap.size) (e := 5) (size := 1) w #[] 0 (Nat.le_refl _) (by unfold maxLen; omega) rfl)
  have HR : Hid (∀ v w1, w1.ownsRow w.heap.size 5 1 v l.length (bytesV l) → Below w.heap.size w w1 → SealRel l w v (.int .i64 0) w1) := Lib.hid fun v w1 ho hb => ⟨0, by omega, rfl, by simpa using ho, hb⟩
  clear h
  go_enter Try.func27, Try.ntmps27
  go_wp2_with fail
  refine HS.out.mono ?_
  rintro e w' ⟨rfl, rfl⟩
  clear HS
  go_wp2_with (first
    | (at_builtin
       refine wpList_append_b rfl (.tmp 8) (.tmp 9) _ rfl w.heap.size 5 (.int .u8 0) Try.underlying30 infoB2 rfl _ 0 [] rfl Ho1.out w.heap.size A l.length cap l rfl rfl (H.out.below Hb1.out (Nat.le_refl _)) (by omega) Hb1.out.size ?_
       intro v2 w2 hown2 _ hb2
       have HRR := Lib.hid (HR.out v2 w2 (by simpa using hown2) (Hb1.out.trans hb2))
       clear hown2 hb2)
    | fail)
  go_loopw [4, 5] (SealRel l w) (fun _ i _ => (4 - intOf i).toNat)
  case atStart => exact HRR.out
  case round =>
    clear HRR HR Ho1 Hb1 H
    obtain ⟨k, hk, rfl, ho, hb⟩ := hrel
    by_cases hlt : k < 4
    · have Ho := Lib.hid ho
      have Hb := Lib.hid hb
      have hx := hb.size
      clear ho hb
      have h4 : k = 0 ∨ k = 1 ∨ k = 2 ∨ k = 3 := by omega
      rcases h4 with rfl | rfl | rfl | rfl
      all_goals
        go_wp2_with (at_builtin
                     refine wpList_append_1 rfl (.tmp 15) (.tmp 21) _ rfl w.heap.size 5 (.int .u8 0) Try.underlying30 infoB2 rfl _ (l.length + _) _ rfl Ho.out 1 _ rfl rfl (by omega) hx ?_
                     intro v3 w3 ho3 hb3
                     have HR := Lib.hid (seal_step' l w w3 v3 _ _ hlt ho3 (Hb.out.trans hb3) (by simp only [Nat.reducePow]; omega))
                     clear ho3 hb3)
        go_roundw
        case rel => exact HR.out
        case measure => simp [intOf]
    · obtain rfl : k = 4 := by omega
      have HF := Lib.hid (seal_end l w wr _ ho hb)
      clear ho hb
      go_wp2_with fail
      go_ret
      exact HF.out
end Go.Proofs.Ytgceleipaiameaa
