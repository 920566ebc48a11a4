/- Contract of the document's Sum (bit by bit) at bytes in memory. Conditions: where the bytes lie. -/
import Derived.Test.YtgceleipaiameaaCrcA
namespace Go.Proofs.Ytgceleipaiameaa
open Go.RowKit

theorem bit_test (q c e : Nat) (hq : q < 4294967296) (hc : c < 256) :
    (bits BinOp.xor IntKind.u32 (bits BinOp.and IntKind.u32 (↑q) 1) (bits BinOp.and IntKind.u32 ((c : Int) / 2 ^ e % 4294967296) 1) == 1) = decide ((q % 2 + c / 2 ^ e % 2) % 2 = 1) := by
  have h1 : c / 2 ^ e < 4294967296 := Nat.lt_of_le_of_lt (Nat.div_le_self _ _) (by omega)
  have h2 : ((c : Int) / 2 ^ e % 4294967296) = ((c / 2 ^ e : Nat) : Int) := by
    have : ((c : Int) / 2 ^ e) = ((c / 2 ^ e : Nat) : Int) := by simp
    rw [this]
    generalize c / 2 ^ e = x at *
    omega
  rw [h2, and_one q hq, and_one _ h1, u32_xor_nat _ _ (by omega) (by omega)]
  generalize c / 2 ^ e = x at *
  rcases Nat.mod_two_eq_zero_or_one q with h | h <;> rcases Nat.mod_two_eq_zero_or_one x with h' | h' <;> rw [h, h'] <;> rfl

set_option maxHeartbeats 400000 in
theorem refsum_any (A : Option Addr) (l : List UInt8) (cap : Nat) (w : World) (hl : l.length ≤ 1000000000000) (h : Bytes w w.heap.size A l) :
    Calls Try.prog 48 #[.slice A l.length cap] w fun e w' => e = .returned (.int .u32 (CrcP.sum l : Nat)) ∧ w = w' := by
  have H := Lib.hid h
  clear h
  go_enter Try.func48, Try.ntmps48
  go_wp2
  go_loop [3, 4] (fun v i => ∃ k : Nat, k ≤ 8 * l.length ∧ i = .int .i64 k ∧ v = .int .u32 (CrcP.bitR l k : Nat)) (fun _ i => (8 * l.length - intOf i).toNat)
  case atStart => exact ⟨0, by omega, rfl, rfl⟩
  case round =>
    obtain ⟨k, hk, rfl, rfl⟩ := hrel
    have hq := CrcP.bitR_lt l k
    by_cases hlt : k < 8 * l.length
    · obtain ⟨b, o, rfl, hb, hc⟩ := H.out.at_ (k := k / 8) (by omega)
      have hc2 : l[k / 8].toNat < 256 := l[k / 8].toNat_lt
      have hs : CrcP.bitR l (k + 1) = if (CrcP.bitR l k % 2 + l[k / 8].toNat / 2 ^ (k % 8) % 2) % 2 = 1 then CrcP.bitR l k / 2 ^^^ CrcP.poly else CrcP.bitR l k / 2 := by
        rw [CrcP.bit_num l k (by omega)]
        exact CrcP.step_bit _ _ (Nat.mod_lt _ (by decide))
      have ht := bit_test (CrcP.bitR l k) l[k / 8].toNat (k % 8) hq hc2
      generalize hgr : CrcP.bitR l k = q at *
      generalize hgc : l[k / 8].toNat = c at *
      clear hgr hgc
      by_cases hbit : (q % 2 + c / 2 ^ (k % 8) % 2) % 2 = 1
      · rw [if_pos hbit] at hs
        rw [decide_eq_true hbit] at ht
        have Hs := Lib.hid hs
        have Hx := Lib.hid (xor_poly q hq)
        clear hs hbit
        go_wp2_with fail
        go_round
        case rel => exact ⟨k + 1, by omega, by go_num, by rw [Hx.out, Hs.out]⟩
        case measure => simp [intOf]; omega
      · rw [if_neg hbit] at hs
        rw [decide_eq_false hbit] at ht
        have Hs := Lib.hid hs
        clear hs hbit
        go_wp2_with fail
        go_round
        case rel => exact ⟨k + 1, by omega, by go_num, by rw [Hs.out]; rfl⟩
        case measure => simp [intOf]; omega
    · have : k = 8 * l.length := by omega
      subst this
      rw [CrcP.bitR_end] at hq
      rw [CrcP.bitR_end]
      have hn : CrcP.reg CrcP.ones l ^^^ CrcP.ones = CrcP.sum l := rfl
      generalize hgr : CrcP.reg CrcP.ones l = q at *
      clear hgr
      have hx := Lib.hid ((not_u32 q hq).trans (congrArg (fun n : Nat => (n : Int)) hn))
      clear hn
      go_wp2_with fail
      go_ret
      exact ⟨ret_int hx.out, rfl⟩
end Go.Proofs.Ytgceleipaiameaa
