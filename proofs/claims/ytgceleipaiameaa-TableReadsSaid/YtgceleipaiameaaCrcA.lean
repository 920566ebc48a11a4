/- Contracts of crc.moved, crc.part, crc.Sum and of the document's Sum at bytes in memory. Conditions: where the bytes lie. -/
import Derived.Test.YtgceleipaiameaaChecked
import Derived.Test.YtgceleipaiameaaCrcP
import Derived.Test.YtgceleipaiameaaByt
import Derived.WalkKit
import Derived.Lib.Hide
import Derived.Outline
import Derived.OwnWalk
import Derived.Laws.BitsAllLaws
namespace Go.Proofs.Ytgceleipaiameaa
open Go.RowKit

theorem and_one (q : Nat) (hq : q < 4294967296) : bits .and .u32 (q : Int) 1 = ((q % 2 : Nat) : Int) := by
  rw [show (1 : Int) = ((1 : Nat) : Int) from rfl, u32_and_nat q 1 hq (by decide), nat_mask1]
theorem xor_poly (q : Nat) (hq : q < 4294967296) : bits .xor .u32 ((q : Int) / 2) 3988292384 = ((q / 2 ^^^ CrcP.poly : Nat) : Int) := by
  have h := u32_xor_nat (q / 2) CrcP.poly (by omega) (by decide)
  exact h

set_option maxHeartbeats 400000 in
theorem moved_any (r : Nat) (hr : r < 4294967296) (w : World) :
    Calls Try.prog 60 #[.int .u32 r] w fun e w' => e = .returned (.int .u32 (CrcP.steps 8 r : Nat)) ∧ w = w' := by
  go_enter Try.func60, Try.ntmps60
  go_wp2
  go_loop [0, 4] (fun v i => ∃ k q : Nat, k ≤ 8 ∧ q < 4294967296 ∧ i = .int .i64 k ∧ v = .int .u32 q ∧ CrcP.steps (8 - k) q = CrcP.steps 8 r) (fun _ i => (8 - intOf i).toNat)
  case atStart => exact ⟨0, r, by omega, hr, rfl, rfl, rfl⟩
  case round =>
    obtain ⟨k, q, hk, hq, rfl, rfl, he⟩ := hrel
    by_cases hlt : k < 8
    · have hs : CrcP.steps (8 - (k + 1)) (CrcP.step q) = CrcP.steps 8 r := by
        rw [← he, show 8 - k = (8 - (k + 1)) + 1 from by omega]; rfl
      have hb := CrcP.step_lt (r := q) hq
      rcases Nat.mod_two_eq_zero_or_one q with h2 | h2
      · have e1 : (bits BinOp.and IntKind.u32 (↑q) 1 == 1) = false := by rw [and_one q hq, h2]; rfl
        have es : CrcP.step q = q / 2 := by simp [CrcP.step, h2]
        rw [es] at hs hb
        have He := Lib.hid hs
        clear he h2 es hs
        go_wp2
        go_round
        case rel => exact ⟨k + 1, q / 2, by omega, hb, by go_num, rfl, He.out⟩
        case measure => simp [intOf]; omega
      · have e1 : (bits BinOp.and IntKind.u32 (↑q) 1 == 1) = true := by rw [and_one q hq, h2]; rfl
        have es : CrcP.step q = q / 2 ^^^ CrcP.poly := by simp [CrcP.step, h2]
        rw [es] at hs hb
        have He := Lib.hid hs
        have Hx := Lib.hid (xor_poly q hq)
        clear he h2 es hs
        go_wp2
        go_round
        case rel => exact ⟨k + 1, q / 2 ^^^ CrcP.poly, by omega, hb, by go_num, by rw [Hx.out], He.out⟩
        case measure => simp [intOf]; omega
    · have : k = 8 := by omega
      subst this
      have hf : CrcP.steps 8 r = q := he.symm
      have Hf := Lib.hid hf
      clear hf he hr
      go_wp2
      go_ret
      exact ⟨ret_int (by rw [Hf.out]), rfl⟩

theorem xor_byte (q c : Nat) (hq : q < 4294967296) (hc : c < 256) : bits .xor .u32 (q : Int) (c : Int) = ((q ^^^ c : Nat) : Int) := u32_xor_nat q c hq (by omega)
theorem not_u32 (q : Nat) (hq : q < 4294967296) : bits .xor .u32 IntKind.u32.max (q : Int) = ((q ^^^ CrcP.ones : Nat) : Int) := by
  have h := u32_xor_nat CrcP.ones q (by decide) hq
  rw [Nat.xor_comm] at h
  exact h

set_option maxHeartbeats 400000 in
theorem sum_any (A : Option Addr) (l : List UInt8) (cap : Nat) (w : World) (hl : l.length ≤ 1000000000000) (h : Bytes w w.heap.size A l) :
    Calls Try.prog 44 #[.slice A l.length cap] w fun e w' => e = .returned (.int .u32 (CrcP.sum l : Nat)) ∧ w = w' := by
  have H := Lib.hid h
  clear h
  go_enter Try.func44, Try.ntmps44
  go_wp2
  go_loop [3, 8] (fun v i => ∃ k : Nat, k ≤ l.length ∧ i = .int .i64 k ∧ v = .int .u32 (CrcP.reg CrcP.ones (l.take k) : Nat)) (fun _ i => (l.length - intOf i).toNat)
  case atStart => exact ⟨0, by omega, rfl, rfl⟩
  case round =>
    obtain ⟨k, hk, rfl, rfl⟩ := hrel
    have hq := CrcP.reg_lt (l.take k) CrcP.ones_lt
    by_cases hlt : k < l.length
    · obtain ⟨b, o, rfl, hb, hc⟩ := H.out.at_ hlt
      have hc2 : l[k].toNat < 256 := l[k].toNat_lt
      have hn : CrcP.reg CrcP.ones (l.take (k + 1)) = CrcP.steps 8 (CrcP.reg CrcP.ones (l.take k) ^^^ l[k].toNat) := by
        rw [List.take_succ_eq_append_getElem hlt, CrcP.reg_append]; rfl
      have Hn := Lib.hid hn
      clear hn
      generalize hgr : CrcP.reg CrcP.ones (l.take k) = q at *
      generalize hgc : l[k].toNat = c at *
      clear hgr hgc
      have hx := xor_byte q c hq hc2
      have hx2 : q ^^^ c < 4294967296 := Nat.xor_lt_two_pow (n := 32) hq (by omega)
      have Hc := Lib.hid (fun W => moved_any (q ^^^ c) hx2 W)
      go_wp2_with fail
      refine (Hc.out _).mono ?_
      rintro e w' ⟨rfl, rfl⟩
      go_wp2_with fail
      go_round
      case rel => exact ⟨k + 1, by omega, by go_num, by rw [Hn.out]⟩
      case measure => simp [intOf]; omega
    · have : k = l.length := by omega
      subst this
      rw [List.take_length] at hq
      rw [List.take_length]
      have hn : CrcP.reg CrcP.ones l ^^^ CrcP.ones = CrcP.sum l := rfl
      generalize hgr : CrcP.reg CrcP.ones l = q at *
      clear hgr
      have hx := Lib.hid ((not_u32 q hq).trans (congrArg (fun n : Nat => (n : Int)) hn))
      clear hn
      go_wp2_with fail
      go_ret
      exact ⟨ret_int hx.out, rfl⟩

/-- crc.part: one byte of a sum. -/
theorem part_any (s i : Nat) (hs : s < 4294967296) (hi : i < 4) (w : World) :
    Calls Try.prog 45 #[.int .u32 s, .int .i64 i] w fun e w' => e = .returned (.int .u8 ((s / 256 ^ i % 256 : Nat) : Int)) ∧ w = w' := by
  have h4 : i = 0 ∨ i = 1 ∨ i = 2 ∨ i = 3 := by omega
  rcases h4 with rfl | rfl | rfl | rfl
  all_goals
    clear hi
    go_enter Try.func45, Try.ntmps45
    go_wp2_with fail
    go_ret
    exact ⟨ret_int (by simp only [Nat.reducePow]; omega), rfl⟩

end Go.Proofs.Ytgceleipaiameaa
