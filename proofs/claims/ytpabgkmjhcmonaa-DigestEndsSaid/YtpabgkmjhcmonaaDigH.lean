/- Contract of letters.takeAll at bytes in memory. Conditions: where the bytes lie. -/
import Derived.Test.YtpabgkmjhcmonaaDigG
namespace Go.Proofs.Ytpabgkmjhcmonaa
open Go.RowKit
set_option maxRecDepth 100000

def sliceLen : Value → Nat
  | .slice _ n _ => n
  | _ => 0
/-- While takeAll works: k blocks are taken, m bytes are left. -/
structure TaR (w : World) (hb kb : Nat) (L : List UInt8) (j n k : Nat) (v : Value) (W : World) : Prop where
  h : ArrIn W hb 42 (u32V (DigP.blocksT L (j + k)).list)
  s : ∃ m A c, v = .slice A m c ∧ m + 64 * k = n ∧ m ≤ c ∧ (0 < m → ∃ g o, A = some ⟨g, o, none⟩ ∧ g < w.heap.size ∧ ∀ i, i < m → ∃ x, L[64 * (j + k) + i]? = some x ∧ w.cell? ⟨g, o + i, none⟩ = some (.int .u8 (x.toNat : Nat)))
  ap : Apart (fun b => b = hb) w W

theorem byte_not_reg {w : World} {hb g o : Nat} {r : DigP.Reg} {x : UInt8} (h : ArrIn w hb 42 (u32V r.list)) (hc : w.cell? ⟨g, o, none⟩ = some (.int .u8 (x.toNat : Nat))) : g ≠ hb := by
  rintro rfl
  have h1 : w.cell? ⟨g, o, none⟩ = (u32V r.list).toArray[o]? := by
    unfold World.cell?
    rw [h]
    rfl
  rw [h1, List.getElem?_toArray] at hc
  simp only [u32V, List.getElem?_map] at hc
  cases hq : r.list[o]? with
  | none => rw [hq] at hc; cases hc
  | some y => rw [hq] at hc; simp at hc

set_option maxHeartbeats 2000000 in
theorem takeAll_any (hb kb : Nat) (L : List UInt8) (j : Nat) (A : Option Addr) (n cap : Nat) (hcap : n ≤ cap) (hcb : cap ≤ 9223372036854775807) (hn : 64 * j + n ≤ L.length) (w : World) (hh : ArrIn w hb 42 (u32V (DigP.blocksT L j).list)) (hk : ArrIn w kb 39 (u32V DigP.ks)) (h : Bytes w w.heap.size A ((L.drop (64 * j)).take n)) :
    Calls Try.prog 14 #[.pointer (some ⟨hb, 0, none⟩), .slice A n cap, .pointer (some ⟨kb, 0, none⟩)] w fun e w' => e = .returned (.tuple #[]) ∧ ArrIn w' hb 42 (u32V (DigP.blocksT L (j + n / 64)).list) ∧ Apart (fun b => b = hb) w w' := by
  have HS : Hid (TaR w hb kb L j n 0 (.slice A n cap) w) := Lib.hid ⟨hh, ⟨n, A, cap, rfl, by omega, hcap, fun hp => by
    have hl : ((L.drop (64 * j)).take n).length = n := by rw [List.length_take, List.length_drop]; omega
    obtain ⟨g, o, e, hg, hc⟩ := h (by omega)
    refine ⟨g, o, e, hg, fun i hi => ?_⟩
    have h1 : ((L.drop (64 * j)).take n)[i]? = L[64 * j + i]? := by rw [List.getElem?_take_of_lt hi, List.getElem?_drop]
    have h2 : L[64 * j + i]? = some (L[64 * j + i]'(by omega)) := List.getElem?_eq_getElem _
    exact ⟨_, h2, hc i _ (h1.trans h2)⟩⟩, Apart.refl _ _⟩
  have HK := Lib.hid hk
  have HC := Lib.hid hcb
  have hkh : kb ≠ hb := by
    rintro rfl
    have := hh.symm.trans hk
    simp only [Option.some.injEq, Obj.cells.injEq] at this
    exact absurd this.2.1 (by decide)
  have HKH := Lib.hid hkh
  have HH := Lib.hid hh
  clear hh hk h hkh hcb hn
  go_enter Try.func14, Try.ntmps14
  go_wp2_with fail
  go_loopw [1] (fun v W => ∃ k, TaR w hb kb L j n k v W) (fun v _ => sliceLen v)
  case atStart => exact ⟨0, HS.out⟩
  case round =>
    clear HS
    obtain ⟨k, ht⟩ := hrel
    obtain ⟨m, A, c, rfl, hm, hmc, hA⟩ := ht.s
    by_cases hlt : 64 ≤ m
    case neg =>
      have hq : n / 64 = k := by omega
      have HF := Lib.hid ht
      have q0 : decide ((64 : Int) ≤ (m : Int)) = false := decide_eq_false (by omega)
      have Hq := Lib.hid hq
      clear ht hA hm hmc hq hlt
      go_wp2_with fail
      refine bodyPost_end (results_none rfl _ _ _) rfl ⟨rfl, ?_, HF.out.ap⟩
      rw [Hq.out]
      exact HF.out.h
    obtain ⟨g, o, rfl, hg, hc⟩ := hA (by omega)
    have q0 : decide ((64 : Int) ≤ (m : Int)) = true := decide_eq_true (by omega)
    have hgh : g ≠ hb := by
      obtain ⟨x, _, h2⟩ := hc 0 (by omega)
      exact byte_not_reg HH.out h2
    have hcw : ∀ i, i < m → ∃ x, L[64 * (j + k) + i]? = some x ∧ wr.cell? ⟨g, o + i, none⟩ = some (.int .u8 (x.toNat : Nat)) := fun i hi => by
      obtain ⟨x, h1, h2⟩ := hc i hi
      exact ⟨x, h1, (World.cell?_of_block (ht.ap.block g hg hgh)).trans h2⟩
    have hgw : g < wr.heap.size := Nat.lt_of_lt_of_le hg ht.ap.size
    have HT := Lib.hid (take_any hb kb (DigP.blocksT L (j + k)) (DigP.RegOk.blocks L _) g o c (by omega) L (64 * (j + k)) wr ht.h (HK.out.apart ht.ap HKH.out) ⟨hgw, fun i hi => hcw i (by omega)⟩)
    have hs1 : ∀ W, (Instr.slice 22 (.slice (some ⟨g, o, none⟩) m c) none (some (.int .i64 64)) none).run Try.prog W = .ok (.slice (some ⟨g, o, none⟩) 64 c) W := fun W => run_slice_front W 22 5 1 Try.underlying22 (fun w => by kernel_rfl) _ m c 64 64 rfl (by omega)
    obtain ⟨A2, hA2, hA3⟩ : ∃ A2, (if c = 64 then (⟨g, o, none⟩ : Addr) else ⟨g, o + 64 * 1, none⟩) = A2 ∧ (0 < m - 64 → A2 = ⟨g, o + 64, none⟩) := ⟨_, rfl, fun hp => by rw [if_neg (by omega)]⟩
    have hs2 : ∀ W, (Instr.slice 22 (.slice (some ⟨g, o, none⟩) m c) (some (.int .i64 64)) none none).run Try.prog W = .ok (.slice (some A2) (m - 64) (c - 64)) W := fun W => by
      have := run_slice_froms W 22 5 1 Try.underlying22 (fun w => by kernel_rfl) g o m c 64 64 rfl (by omega)
      rw [hA2] at this
      exact this
    have HN : Hid (∀ W, ArrIn W hb 42 (u32V (DigP.blockT L (64 * (j + k)) (DigP.blocksT L (j + k))).list) → Apart (fun b => b = hb) wr W → TaR w hb kb L j n (k + 1) (.slice (some A2) (m - 64) (c - 64)) W) := Lib.hid fun W hW hap =>
      ⟨hW, ⟨m - 64, some A2, c - 64, rfl, by omega, by omega, fun hp => ⟨g, o + 64, by rw [hA3 hp], hg, fun i hi => by
        obtain ⟨x, h1, h2⟩ := hc (64 + i) (by omega)
        exact ⟨x, by rw [← h1]; congr 1; omega, by rw [← h2]; congr 2; omega⟩⟩⟩, ht.ap.trans hap (fun _ e => .inl e)⟩
    clear ht hA hm hmc hc hcw hgw hg hgh hA2 hA3
    go_wp2_with fail
    refine HT.out.mono ?_
    rintro e w2 ⟨rfl, h2, h3⟩
    have HN2 := Lib.hid (HN.out w2 h2 h3)
    clear HT HN h2 h3
    go_wp2_with fail
    go_roundw
    case rel => exact ⟨k + 1, HN2.out⟩
    case measure => simp [sliceLen]; omega
end Go.Proofs.Ytpabgkmjhcmonaa
