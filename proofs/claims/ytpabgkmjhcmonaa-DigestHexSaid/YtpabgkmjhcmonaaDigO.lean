/- DigestHex: the walk of the law. Conditions: none. -/
import Derived.Test.YtpabgkmjhcmonaaDigL
namespace Go.Proofs.Ytpabgkmjhcmonaa
open Go.RowKit
set_option maxRecDepth 100000

theorem str_at {l : List UInt8} {k : Nat} {c : UInt8} (h : l[k]? = some c) (W : World) : (Instr.index 9 (.string ⟨l.toArray⟩) (.int .i64 (k : Nat))).run Try.prog W = .ok (.int .u8 (c.toNat : Nat)) W := by
  have hk := (List.getElem?_eq_some_iff.1 h).1
  have e : (⟨l.toArray⟩ : ByteArray)[k]? = some c := by
    have h1 : k < (⟨l.toArray⟩ : ByteArray).size := hk
    rw [getElem?_pos (⟨l.toArray⟩ : ByteArray) k h1]
    have h2 := (List.getElem?_eq_some_iff.1 h).2
    rw [← h2]
    rfl
  simp [Instr.index, run_underlying Try.underlying9, asIntOf, e]
/-- A digit of the text: its number. -/
theorem hex_at {s : List UInt8} {q : Nat} {b : UInt8} (h : s[q]? = some b) : (DigP.hexT s)[2 * q]? = some (DigP.digit (b.toNat / 16)) ∧ (DigP.hexT s)[2 * q + 1]? = some (DigP.digit (b.toNat % 16)) := by
  induction s generalizing q with
  | nil => cases h
  | cons a s ih =>
    match q with
    | 0 =>
      cases h
      exact ⟨rfl, rfl⟩
    | q + 1 =>
      have h2 := ih (q := q) h
      refine ⟨?_, ?_⟩
      · show (DigP.digit (a.toNat / 16) :: DigP.digit (a.toNat % 16) :: DigP.hexT s)[2 * (q + 1)]? = _
        rw [show 2 * (q + 1) = 2 * q + 1 + 1 by omega]
        exact h2.1
      · show (DigP.digit (a.toNat / 16) :: DigP.digit (a.toNat % 16) :: DigP.hexT s)[2 * (q + 1) + 1]? = _
        rw [show 2 * (q + 1) + 1 = 2 * q + 1 + 1 + 1 by omega]
        exact h2.2
theorem digit_num : ∀ v : Fin 16, ((v.val < 10 ∧ (DigP.digit v.val).toNat = 48 + v.val) ∨ (10 ≤ v.val ∧ (DigP.digit v.val).toNat = 87 + v.val)) := by decide +kernel
theorem low15 (c : Nat) (hc : c < 256) : bits BinOp.and IntKind.u8 (c : Int) 15 = ((c % 16 : Nat) : Int) := low4 ⟨c, hc⟩

set_option maxHeartbeats 2000000 in
theorem dhex_law (s : List UInt8) (hs : s.length = 32) (w : World) : Calls Try.prog 5 #[.agg (bytesV s).toArray] w (DTrue w) := by
  have HAw := Lib.hid (fun W => awake18_any W)
  have HHx := Lib.hid (fun W => hex_any s hs W)
  have HL : Hid ((bytesV s).length = 32) := Lib.hid (by rw [bytesV_length, hs])
  have HX : Hid (∀ q, q < 32 → ∃ b : UInt8, s[q]? = some b ∧ (bytesV s)[q]? = some (.int .u8 (b.toNat : Nat))) := Lib.hid fun k hk => by
    have h1 : s[k]? = some (s[k]'(by omega)) := List.getElem?_eq_getElem _
    exact ⟨_, h1, bytesV_get h1⟩
  have Hlen : Hid ((DigP.hexT s).toArray.size = 64) := Lib.hid (by rw [List.size_toArray, hex_len, hs])
  have HA0 := Lib.hid (ArrIn.new w (bytesV s) 24)
  have HB0 : Hid (Below w.heap.size w (w.alloc (.cells (bytesV s).toArray 24))) := Lib.hid ((Below.refl _ _).alloc (Nat.le_refl _) _)
  generalize bytesV s = M at HL HX HA0 HB0 HHx ⊢
  clear hs
  go_enter Try.func5, Try.ntmps5
  go_upto_region 1 with (fail)
  generalize w.alloc (.cells M.toArray 24) = w1 at *
  go_wp2_with fail
  refine (HAw.out _).mono ?_
  rintro e w2 ⟨rfl, hb2⟩
  have HA2 := Lib.hid (HA0.out.keep hb2 HA0.out.lt)
  have HB2 := Lib.hid (HB0.out.trans (hb2.mono HB0.out.size))
  clear hb2 HA0 HB0 HAw
  go_upto_region 3 with (fail)
  refine wp_region_lit ?_
  refine wpList_load_row rfl _ (.tmp 1) rfl w.heap.size rfl _ M.toArray (0, 0) _ HA2.out Try.underlying24 rfl (by simp only [List.size_toArray, HL.out]; kernel_rfl) ?_
  go_wp2_with fail
  refine (HHx.out _).mono ?_
  rintro e w3 ⟨rfl, hb3⟩
  have HA3 := Lib.hid (HA2.out.keep hb3 HA2.out.lt)
  have HB3 := Lib.hid (HB2.out.trans (hb3.mono HB2.out.size))
  clear hb3 HA2 HB2 HHx
  have hsz := Hlen.out
  have HSA : Hid (∀ (k : Nat) (c : UInt8), (DigP.hexT s)[k]? = some c → ∀ W, (Instr.index 9 (.string ⟨(DigP.hexT s).toArray⟩) (.int .i64 (k : Nat))).run Try.prog W = .ok (.int .u8 (c.toNat : Nat)) W) := Lib.hid fun k c hc W => str_at hc W
  have HT : Hid (∀ (q : Nat) (b : UInt8), s[q]? = some b → (DigP.hexT s)[2 * q]? = some (DigP.digit (b.toNat / 16)) ∧ (DigP.hexT s)[2 * q + 1]? = some (DigP.digit (b.toNat % 16))) := Lib.hid fun q b h => hex_at h
  generalize hT : DigP.hexT s = T at *
  generalize hU : T.toArray = U at *
  clear hT
  go_wp2_with fail
  go_loop [4] (fun i => ∃ k : Nat, k ≤ 64 ∧ i = .int .i64 (k : Nat)) (fun i => (65 - intOf i).toNat)
  case atStart => exact ⟨0, by omega, rfl⟩
  case round =>
    obtain ⟨k, hk, rfl⟩ := hrel
    by_cases hlt : k < 64
    case neg =>
      have hki : (k : Int) = 64 := by omega
      rw [hki]
      clear hk hlt hki
      go_wp2_with fail
      go_ret
      exact ⟨rfl, HB3.out⟩
    obtain ⟨b, hb, hbM⟩ := HX.out (k / 2) (by omega)
    have hcb : w3.cell? ⟨w.heap.size, k / 2, none⟩ = some (.int .u8 (b.toNat : Nat)) := HA3.out.cell hbM
    have hb256 : b.toNat < 256 := b.toNat_lt
    have ht := HT.out (k / 2) b hb
    have ik : (k : Int) < 64 := by omega
    have ik2 : k / 2 < 32 := by omega
    rcases Nat.mod_two_eq_zero_or_one k with h2 | h2
    · have hm : (k : Int) % 2 = 0 := by omega
      have hidx := HSA.out k _ (by rw [show k = 2 * (k / 2) by omega]; exact ht.1)
      obtain ⟨v, hv⟩ : ∃ v, b.toNat / 16 = v := ⟨_, rfl⟩
      rw [hv] at hidx
      have hv16 : v < 16 := by omega
      have ea : ((b.toNat : Nat) : Int) / 16 = (v : Int) := by omega
      have eb : bits BinOp.and IntKind.u8 (v : Int) 15 = (v : Int) := by rw [low15 v (by omega)]; congr 1; omega
      have hdn := digit_num ⟨v, hv16⟩
      simp only at hdn
      generalize (DigP.digit v).toNat = c at *
      generalize b.toNat = bn at *
      clear ht hb hbM hv hk hlt
      rcases hdn with ⟨h10, hc⟩ | ⟨h10, hc⟩
      · have q1 : decide ((48 : Int) ≤ (c : Int)) = true := decide_eq_true (by omega)
        have q2 : decide ((c : Int) ≤ 57) = true := decide_eq_true (by omega)
        have q3 : IntKind.u8.wrap ((c : Int) - 48) = (v : Int) := by rw [IntKind.wrap_u8]; omega
        clear hc h10
        go_wp2_with fail
        go_round
        case rel => exact ⟨k + 1, by omega, rfl⟩
        case measure => simp [intOf]; omega
      · have q1 : decide ((48 : Int) ≤ (c : Int)) = true := decide_eq_true (by omega)
        have q2 : decide ((c : Int) ≤ 57) = false := decide_eq_false (by omega)
        have q4 : decide ((97 : Int) ≤ (c : Int)) = true := decide_eq_true (by omega)
        have q5 : decide ((c : Int) ≤ 102) = true := decide_eq_true (by omega)
        obtain ⟨va, hva⟩ : ∃ va, v = va + 10 := ⟨v - 10, by omega⟩
        have q3 : IntKind.u8.wrap ((c : Int) - 97) = (va : Int) := by rw [IntKind.wrap_u8]; omega
        have q6 : (va : Int) + 10 = (v : Int) := by omega
        clear hc h10 hva
        go_wp2_with fail
        go_round
        case rel => exact ⟨k + 1, by omega, rfl⟩
        case measure => simp [intOf]; omega
    · have hm : (k : Int) % 2 = 1 := by omega
      have hidx := HSA.out k _ (by rw [show k = 2 * (k / 2) + 1 by omega]; exact ht.2)
      obtain ⟨v, hv⟩ : ∃ v, b.toNat % 16 = v := ⟨_, rfl⟩
      rw [hv] at hidx
      have hv16 : v < 16 := by omega
      have eb : bits BinOp.and IntKind.u8 ((b.toNat : Nat) : Int) 15 = (v : Int) := by rw [low15 _ hb256, hv]
      have hdn := digit_num ⟨v, hv16⟩
      simp only at hdn
      generalize (DigP.digit v).toNat = c at *
      generalize b.toNat = bn at *
      clear ht hb hbM hv hk hlt
      rcases hdn with ⟨h10, hc⟩ | ⟨h10, hc⟩
      · have q1 : decide ((48 : Int) ≤ (c : Int)) = true := decide_eq_true (by omega)
        have q2 : decide ((c : Int) ≤ 57) = true := decide_eq_true (by omega)
        have q3 : IntKind.u8.wrap ((c : Int) - 48) = (v : Int) := by rw [IntKind.wrap_u8]; omega
        clear hc h10
        go_wp2_with fail
        go_round
        case rel => exact ⟨k + 1, by omega, rfl⟩
        case measure => simp [intOf]; omega
      · have q1 : decide ((48 : Int) ≤ (c : Int)) = true := decide_eq_true (by omega)
        have q2 : decide ((c : Int) ≤ 57) = false := decide_eq_false (by omega)
        have q4 : decide ((97 : Int) ≤ (c : Int)) = true := decide_eq_true (by omega)
        have q5 : decide ((c : Int) ≤ 102) = true := decide_eq_true (by omega)
        obtain ⟨va, hva⟩ : ∃ va, v = va + 10 := ⟨v - 10, by omega⟩
        have q3 : IntKind.u8.wrap ((c : Int) - 97) = (va : Int) := by rw [IntKind.wrap_u8]; omega
        have q6 : (va : Int) + 10 = (v : Int) := by omega
        clear hc h10 hva
        go_wp2_with fail
        go_round
        case rel => exact ⟨k + 1, by omega, rfl⟩
        case measure => simp [intOf]; omega
end Go.Proofs.Ytpabgkmjhcmonaa
