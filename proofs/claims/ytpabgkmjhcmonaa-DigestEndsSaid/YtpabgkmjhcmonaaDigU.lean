/- DigestEnds: the walk of the law. Conditions: none. -/
import Derived.Test.YtpabgkmjhcmonaaDigN
import Derived.Test.YtpabgkmjhcmonaaDigEq
namespace Go.Proofs.Ytpabgkmjhcmonaa
open Go.RowKit
set_option maxRecDepth 100000

theorem bytes_rep_set (n k : Nat) (c : UInt8) (hk : k < n) : (List.replicate k c ++ List.replicate (n - k) 0).set k c = List.replicate (k + 1) c ++ List.replicate (n - (k + 1)) 0 := by
  rw [List.set_append_right _ _ (by rw [List.length_replicate]; exact Nat.le_refl _), List.length_replicate, Nat.sub_self, show n - k = (n - (k + 1)) + 1 by omega, List.replicate_succ, List.set_cons_zero, List.replicate_succ', List.append_assoc]
  rfl

set_option maxHeartbeats 2000000 in
theorem dends_law (a : Int) (c : Nat) (hc : c < 256) (w : World) : Calls Try.prog 4 #[.int .i64 a, .int .u8 c] w (DTrue w) := by
  have HAw := Lib.hid (fun W => awake18_any W)
  obtain ⟨n, hn, en⟩ : ∃ n : Nat, n < 260 ∧ wrap64 ((IntKind.u64.wrap a).tmod 260) = (n : Int) := by
    have e : IntKind.u64.wrap a = a % 18446744073709551616 := by simp [IntKind.wrap, IntKind.bits, IntKind.signed]
    rw [e, Int.tmod_eq_emod_of_nonneg (Int.emod_nonneg _ (by decide))]
    generalize hd : a % 18446744073709551616 % 260 = d
    have h2 : 0 ≤ d ∧ d < 260 := by omega
    exact ⟨d.toNat, by omega, by rw [IntWalk.wrap64_in d ⟨by omega, by omega⟩]; omega⟩
  have e0 : IntKind.i64.wrap (n : Int) = (n : Int) := IntWalk.i64_in _ (by omega)
  go_enter Try.func4, Try.ntmps4
  go_wp2_with fail
  refine (HAw.out _).mono ?_
  rintro e w2 ⟨rfl, hb2⟩
  have HB2 := Lib.hid hb2
  clear hb2 HAw
  have hmk : ∀ W, (Instr.makeSlice 22 (.int .i64 (n : Nat)) (.int .i64 (n : Nat))).run Try.prog W = .ok (.slice (some ⟨W.heap.size, 0, none⟩) n n) (W.alloc (.cells (madeCells #[.int .u8 0] n) 5)) := fun W => run_make_row' (P := Try.prog) 22 5 (.int .u8 0) 1 Try.underlying22 infoU8d rfl .i64 .i64 n (by omega) (by omega) W
  rw [made_bytes] at hmk
  go_upto_region 5 with (fail)
  clear hmk
  have HS0 : Hid (ArrIn (w2.alloc (.cells (bytesV (List.replicate n 0)).toArray 5)) w2.heap.size 5 (bytesV (List.replicate 0 (UInt8.ofNat c) ++ List.replicate (n - 0) 0)) ∧ Below w2.heap.size w2 (w2.alloc (.cells (bytesV (List.replicate n 0)).toArray 5))) := Lib.hid ⟨ArrIn.new w2 _ _, (Below.refl _ _).alloc (Nat.le_refl _) _⟩
  generalize w2.alloc (.cells (bytesV (List.replicate n 0)).toArray 5) = w3 at *
  have hcc : ((c : Nat) : Int) = ((UInt8.ofNat c).toNat : Nat) := by simp; omega
  rw [hcc]
  generalize UInt8.ofNat c = ch at *
  clear hcc
  go_wp2_with fail
  go_loopw [17] (fun i W => ∃ k, k ≤ n ∧ i = .int .i64 (k : Nat) ∧ ArrIn W w2.heap.size 5 (bytesV (List.replicate k ch ++ List.replicate (n - k) 0)) ∧ Below w2.heap.size w2 W) (fun i _ => (n + 1 - intOf i).toNat)
  case atStart => exact ⟨0, by omega, rfl, HS0.out⟩
  case round =>
    clear HS0
    obtain ⟨k, hk, rfl, ha, hb⟩ := hrel
    by_cases hlt : k < n
    case pos =>
      have k0 : wr.cell? ⟨w2.heap.size, k, none⟩ = some (.int .u8 0) := ha.cell (bytesV_get (c := 0) (by rw [List.getElem?_append_right (by rw [List.length_replicate]; exact Nat.le_refl _), List.length_replicate, Nat.sub_self, List.getElem?_replicate, if_pos (by omega)]))
      have f0 := ha.free k
      have ik : (k : Int) < (n : Int) := by omega
      have HN : Hid (ArrIn (wr.setCell ⟨w2.heap.size, k, none⟩ (.int .u8 (ch.toNat : Nat))) w2.heap.size 5 (bytesV (List.replicate (k + 1) ch ++ List.replicate (n - (k + 1)) 0)) ∧ Below w2.heap.size w2 (wr.setCell ⟨w2.heap.size, k, none⟩ (.int .u8 (ch.toNat : Nat)))) := Lib.hid (by
        have h4 := ha.set k (.int .u8 (ch.toNat : Nat))
        rw [bytesV_set, bytes_rep_set n k ch hlt] at h4
        exact ⟨h4, hb.setCell (Nat.le_refl _) _⟩)
      clear ha hb
      go_wp2_with fail
      exact ⟨⟨k + 1, by omega, rfl, HN.out⟩, by simp [intOf]; omega⟩
    have hkn : k = n := by omega
    have hki : (k : Int) = (n : Int) := by omega
    rw [hkn, Nat.sub_self, List.replicate_zero, List.append_nil] at ha
    have hll : (List.replicate n ch).length = n := List.length_replicate
    have HBy : Hid (Bytes wr wr.heap.size (some ⟨w2.heap.size, 0, none⟩) (List.replicate n ch)) := Lib.hid fun _ => ⟨w2.heap.size, 0, rfl, ha.lt, fun i x hx => by
      rw [Nat.zero_add]
      exact ha.cell (bytesV_get hx)⟩
    have HB3 := Lib.hid (HB2.out.trans (hb.mono HB2.out.size))
    generalize List.replicate n ch = l at *
    have HOf := Lib.hid (of_any l (some ⟨w2.heap.size, 0, none⟩) n n hll (Nat.le_refl _) (by omega) (by omega) wr HBy.out)
    have HRf : Hid (∀ W, Below wr.heap.size wr W → Calls Try.prog 9 #[.slice (some ⟨w2.heap.size, 0, none⟩) n n] W fun e w' => e = .returned (.agg (bytesV (DigP.ofT l)).toArray) ∧ Below W.heap.size W w') := Lib.hid fun W hW => refof_any l (some ⟨w2.heap.size, 0, none⟩) n n hll (by omega) W ((HBy.out.below hW (Nat.le_refl _)).more hW.size)
    have HEq := Lib.hid (fun W => equal_32 (DigP.ofT l) (DigP.of_len l) 24 Try.underlying24 W)
    have HEq2 := Lib.hid (fun W => eql_32 (DigP.ofT l) (DigP.of_len l) 24 Try.underlying24 W)
    generalize bytesV (DigP.ofT l) = O at HOf HRf HEq HEq2
    rw [hki]
    clear ha hb hk hlt hkn hki hll
    go_wp2_with fail
    refine HOf.out.mono ?_
    rintro e w5 ⟨rfl, hb5⟩
    have HB5 := Lib.hid (HB3.out.trans (hb5.mono HB3.out.size))
    have HR := Lib.hid (HRf.out w5 hb5)
    clear hb5 HOf
    go_wp2_with fail
    refine HR.out.mono ?_
    rintro e w6 ⟨rfl, hb6⟩
    have HB6 := Lib.hid (HB5.out.trans (hb6.mono HB5.out.size))
    have he1 := HEq.out
    have he2 := HEq2.out
    clear hb6 HR
    go_wp2_with fail
    go_ret
    exact ⟨rfl, HB6.out⟩
end Go.Proofs.Ytpabgkmjhcmonaa
