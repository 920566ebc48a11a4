/- Contract of end at bytes in memory: what is put behind them. Conditions: where the bytes lie. -/
import Derived.Test.YtpabgkmjhcmonaaDigH
import Derived.Deep.DeepCutAuto
import Derived.Deep.CutBlock
import Derived.Deep.OwnRows
import Derived.Laws.CopyOwn
namespace Go.Proofs.Ytpabgkmjhcmonaa
open Go.RowKit
set_option maxRecDepth 100000

theorem slice_from (A : Option Addr) (n cap k : Nat) (hk : k ≤ n) (hn : n ≤ cap) : ∃ A', (∀ W, (Instr.slice 22 (.slice A n cap) (some (.int .i64 (k : Nat))) none none).run Try.prog W = .ok (.slice A' (n - k) (cap - k)) W) ∧ (∀ b o, A = some ⟨b, o, none⟩ → k < n → A' = some ⟨b, o + k, none⟩) := by
  have ht' : Try.prog.underlying 22 = some (.slice (Try.prog.elem 22)) := by kernel_rfl
  have hs : ∀ w, (Go.sizeOf (Try.prog.elem 22)).run Try.prog w = .ok 1 w := fun w => by kernel_rfl
  refine ⟨if cap = k then A else A.map fun x => x.add (k * 1), fun W => ?_, fun b o e hlt => ?_⟩
  · rw [run_slice_l W _ _ _ _ ht' .i64 _ (by omega) (by omega), hs]
    simp only [Result.andThen, sliced, Int.toNat_natCast]
  · subst e
    rw [if_neg (by omega)]
    show some ((⟨b, o, none⟩ : Addr).add (k * 1)) = _
    rw [addr_addB, Nat.mul_one]

/-- What is put behind: the last bytes, 80, zeros, the number of bits. -/
def rowT (tail : List UInt8) (S N k : Nat) : List UInt8 := tail ++ (0x80 : UInt8) :: (List.replicate (S - tail.length - 1 - k) 0 ++ (DigP.be8 N).drop (8 - k))
theorem be8_len (N : Nat) : (DigP.be8 N).length = 8 := rfl

theorem infoU8d : (Try.prog.info? 5).map (fun i => (i.zero, i.size, i.bytes)) = some (some (.int .u8 0), 1, 1) := by kernel_rfl
theorem made_bytes (S : Nat) : madeCells #[.int .u8 0] S = (bytesV (List.replicate S 0)).toArray := by
  have e := toList_madeCells_one (.int .u8 0) S
  have e2 : bytesV (List.replicate S 0) = List.replicate S (.int .u8 0) := by simp [bytesV]
  rw [e2, ← e]
theorem bytesV_set (l : List UInt8) (k : Nat) (c : UInt8) : (bytesV l).set k (.int .u8 (c.toNat : Nat)) = bytesV (l.set k c) := by simp [bytesV, List.map_set]
theorem bytesV_get {l : List UInt8} {k : Nat} {c : UInt8} (h : l[k]? = some c) : (bytesV l)[k]? = some (.int .u8 (c.toNat : Nat)) := by simp only [bytesV, List.getElem?_map, h]; rfl
theorem be8_at (N : Nat) {k : Nat} (hk : k < 8) : (DigP.be8 N)[7 - k]? = some (UInt8.ofNat (N / 256 ^ k)) := by
  have h8 : k = 0 ∨ k = 1 ∨ k = 2 ∨ k = 3 ∨ k = 4 ∨ k = 5 ∨ k = 6 ∨ k = 7 := by omega
  rcases h8 with rfl | rfl | rfl | rfl | rfl | rfl | rfl | rfl
  all_goals
    simp only [DigP.be8, DigP.be4, List.cons_append, List.nil_append, Nat.reduceSub, Nat.reducePow]
    simp only [List.getElem?_cons_succ, List.getElem?_cons_zero, Nat.div_div_eq_div_mul, Nat.reduceMul, Nat.div_one]
theorem rowT_next {tail : List UInt8} {S N k : Nat} (hk : k < 8) (hS : tail.length + 9 ≤ S) : (rowT tail S N k).set (S - 1 - k) (UInt8.ofNat (N / 256 ^ k)) = rowT tail S N (k + 1) := by
  unfold rowT
  have e1 : S - tail.length - 1 - k = (S - tail.length - 1 - (k + 1)) + 1 := by omega
  rw [List.set_append_right _ _ (by omega), show S - 1 - k - tail.length = (S - tail.length - 1 - (k + 1)) + 1 by omega, List.set_cons_succ, e1, List.replicate_succ', List.append_assoc, List.set_append_right _ _ (by rw [List.length_replicate]; exact Nat.le_refl _), List.length_replicate, Nat.sub_self]
  have e2 : (DigP.be8 N).drop (8 - (k + 1)) = UInt8.ofNat (N / 256 ^ k) :: (DigP.be8 N).drop (8 - k) := by
    have h1 := be8_at N hk
    have hlt := (List.getElem?_eq_some_iff.1 h1).1
    rw [show 8 - (k + 1) = 7 - k by omega, List.drop_eq_getElem_cons hlt, (List.getElem?_eq_some_iff.1 h1).2, show 7 - k + 1 = 8 - k by omega]
  rw [e2]
  rfl
theorem rowT_zero {tail : List UInt8} {S N k : Nat} (hk : k < 8) (hS : tail.length + 9 ≤ S) : (rowT tail S N k)[S - 1 - k]? = some 0 := by
  unfold rowT
  rw [List.getElem?_append_right (by omega), show S - 1 - k - tail.length = (S - tail.length - 1 - (k + 1)) + 1 by omega, List.getElem?_cons_succ, List.getElem?_append_left (by rw [List.length_replicate]; omega), List.getElem?_replicate, if_pos (by omega)]

theorem shr_byte (N k : Nat) : (N : Int) / 2 ^ (8 * k) % 256 = (((UInt8.ofNat (N / 256 ^ k)).toNat : Nat) : Int) := by
  have e : (256 : Nat) ^ k = 2 ^ (8 * k) := by rw [show (256 : Nat) = 2 ^ 8 from rfl, ← Nat.pow_mul]
  have e2 : ((2 : Int) ^ (8 * k)) = ((2 ^ (8 * k) : Nat) : Int) := by simp
  have e3 : (UInt8.ofNat (N / 256 ^ k)).toNat = N / 256 ^ k % 256 := by simp
  rw [e3, e2, ← e]
  generalize 256 ^ k = q
  rfl

set_option maxHeartbeats 2000000 in
theorem end_any (l : List UInt8) (A : Option Addr) (n cap : Nat) (hl : l.length = n) (hcap : n ≤ cap) (hn : n ≤ 1000000000000) (w : World) (h : Bytes w w.heap.size A l) :
    Calls Try.prog 15 #[.slice A n cap] w fun e w' => ∃ m, e = .returned (.slice (some ⟨w.heap.size, 0, none⟩) m m) ∧ 64 * (n / 64) + m = (DigP.padT l).length ∧ Bytes w' w'.heap.size (some ⟨w.heap.size, 0, none⟩) ((DigP.padT l).drop (64 * (n / 64))) ∧ Below w.heap.size w w' := by
  obtain ⟨left, hleft⟩ : ∃ left, n % 64 = left := ⟨_, rfl⟩
  have hl64 : left < 64 := by omega
  have e1 : (n : Int) % 64 = (left : Int) := by omega
  go_enter Try.func15, Try.ntmps15
  go_upto_if 14 with (fail)
  obtain ⟨S, hS⟩ : ∃ S, (if 64 < left + 9 then 128 else 64) = S := ⟨_, rfl⟩
  go_cut [3, 4] (fun x y wx => x = .int .i64 (left : Nat) ∧ y = .int .i64 (S : Nat) ∧ wx = w)
  case first =>
    by_cases h1 : 64 < left + 9
    case pos =>
      rw [if_pos h1] at hS
      subst hS
      have q0 : decide ((64 : Int) < (left : Int) + 1 + 8) = true := decide_eq_true (by omega)
      go_wp2_with fail
      go_meet
      exact ⟨by rw [e1], rfl, rfl⟩
    rw [if_neg h1] at hS
    subst hS
    have q0 : decide ((64 : Int) < (left : Int) + 1 + 8) = false := decide_eq_false (by omega)
    go_wp2_with fail
    go_meet
    exact ⟨by rw [e1], rfl, rfl⟩
  case rest =>
    obtain ⟨rfl, rfl, rfl⟩ := hcut
    have hS1 : S = 64 ∨ S = 128 := by
      by_cases h1 : 64 < left + 9
      · rw [if_pos h1] at hS; omega
      · rw [if_neg h1] at hS; omega
    have hS2 : left + 9 ≤ S := by
      by_cases h1 : 64 < left + 9
      · rw [if_pos h1] at hS; omega
      · rw [if_neg h1] at hS; omega
    have hS3 : S < left + 73 := by
      by_cases h1 : 64 < left + 9
      · rw [if_pos h1] at hS; omega
      · rw [if_neg h1] at hS; omega
    clear hS
    obtain ⟨A', hsl, hA'⟩ := slice_from A n cap (n - left) (by omega) hcap
    have e2 : IntKind.i64.wrap ((n : Int) - (left : Int)) = ((n - left : Nat) : Int) := by rw [IntWalk.i64_in _ (by omega)]; omega
    have hmk : ∀ W, (Instr.makeSlice 22 (.int .i64 (S : Nat)) (.int .i64 (S : Nat))).run Try.prog W = .ok (.slice (some ⟨W.heap.size, 0, none⟩) S S) (W.alloc (.cells (madeCells #[.int .u8 0] S) 5)) := fun W => run_make_row' (P := Try.prog) 22 5 (.int .u8 0) 1 Try.underlying22 infoU8d rfl .i64 .i64 S (by omega) (by omega) W
    rw [made_bytes] at hmk
    have htl : (l.drop (n - left)).length = left := by rw [List.length_drop]; omega
    have hsrc : 0 < left → ∃ ad, A' = some ad ∧ ∀ j v, (bytesV (l.drop (n - left)))[j]? = some v → wc.cell? (ad.add j) = some v := fun hp => by
      obtain ⟨b, o, e, hb, hc⟩ := h (by omega)
      refine ⟨_, hA' b o e (by omega), fun j v hj => ?_⟩
      obtain ⟨x, hx, rfl⟩ := bytesV_at hj
      rw [addr_addB, Nat.add_assoc]
      exact hc _ _ (by rw [← List.getElem?_drop]; exact hx)
    have hold : ∀ W, Below wc.heap.size wc W → 0 < left → ∃ ad, A' = some ad ∧ ∀ j v, (bytesV (l.drop (n - left)))[j]? = some v → W.cell? (ad.add j) = some v := fun W hW hp => by
      obtain ⟨b, o, e, hb, hc⟩ := h (by omega)
      refine ⟨_, hA' b o e (by omega), fun j v hj => ?_⟩
      obtain ⟨x, hx, rfl⟩ := bytesV_at hj
      rw [addr_addB, Nat.add_assoc]
      exact (hW.cell (p := ⟨b, o + (n - left + j), none⟩) hb).trans (hc _ _ (by rw [← List.getElem?_drop]; exact hx))
    have hpad : (DigP.padT l).drop (64 * (n / 64)) = rowT (l.drop (n - left)) S (8 * n) 8 := by
      unfold DigP.padT rowT
      rw [List.drop_append_of_le_length (by omega), show 64 * (n / 64) = n - left by omega, htl, hl]
      have : DigP.lackT n = S - left - 1 - 8 := by unfold DigP.lackT; omega
      rw [this]
      rfl
    have hplen : 64 * (n / 64) + S = (DigP.padT l).length := by
      have h1 := (DigP.pad_len l).1
      rw [hl] at h1
      have : DigP.lackT n = S - left - 9 := by unfold DigP.lackT; omega
      omega
    have Hpad := Lib.hid hpad
    have Hplen := Lib.hid hplen
    generalize l.drop (n - left) = tail at *
    generalize hpd : DigP.padT l = pd at *
    have HPd := Lib.hid hpd
    clear hpd
    have Hold := Lib.hid hold
    have Hcl : Hid ((bytesV tail).length = Nat.min (n - (n - left)) S) := Lib.hid (by rw [bytesV_length, htl, show n - (n - left) = left by omega, show Nat.min left S = left from Nat.min_eq_left (by omega)])
    have Hcf : Hid (0 + (bytesV tail).length ≤ (bytesV (List.replicate S 0)).length) := Lib.hid (by rw [bytesV_length, bytesV_length, htl, List.length_replicate]; omega)
    have Htl := Lib.hid htl
    have HN0 := Lib.hid hn
    have HS1 := Lib.hid hS1
    have HS2 := Lib.hid hS2
    clear hpad hplen hsrc hold htl h hl e1 hA' hcap hleft hl64 hS1 hS2 hS3
    go_upto_region 6 with (fail)
    have ha1 : ArrIn (wc.alloc (.cells (bytesV (List.replicate S 0)).toArray 5)) wc.heap.size 5 (bytesV (List.replicate S 0)) := ArrIn.new wc _ _
    have hb1 : Below wc.heap.size wc (wc.alloc (.cells (bytesV (List.replicate S 0)).toArray 5)) := (Below.refl _ _).alloc (Nat.le_refl _) _
    generalize wc.alloc (.cells (bytesV (List.replicate S 0)).toArray 5) = w1 at *
    clear hmk
    have HA1 := Lib.hid ha1
    have HB1 := Lib.hid hb1
    clear ha1 hb1
    go_upto_region 7 with (first | (refine wpList_copy_splice rfl (.tmp 19) (.tmp 25) _ _ rfl 5 Try.underlying22 (by kernel_rfl) _ _ S S (n - (n - left)) (cap - (n - left)) rfl rfl wc.heap.size 0 (bytesV (List.replicate S 0)) 5 HA1.out (bytesV tail) Hcl.out (fun hp => ⟨rfl, Hold.out w1 HB1.out (by rw [bytesV_length, Htl.out] at hp; exact hp)⟩) Hcf.out (bytesV_one _) wc.heap.size wc HB1.out (Nat.le_refl _) ?_; intro w2 h2 hb2) | fail)
    have ha2 : ArrIn w2 wc.heap.size 5 (bytesV (tail ++ List.replicate (S - left) 0)) := by
      have h3 := h2.out
      unfold ArrIn
      rw [h3]
      have e3 : splice (bytesV (List.replicate S 0)) 0 (bytesV tail) = bytesV (tail ++ List.replicate (S - left) 0) := by
        unfold splice
        rw [List.take_zero, List.nil_append, Nat.zero_add, bytesV_append, bytesV_length, Htl.out]
        congr 1
        simp only [bytesV, ← List.map_drop, List.drop_replicate]
      rw [e3]
    have hrow0 : (tail ++ List.replicate (S - left) 0).set left (0x80 : UInt8) = rowT tail S (8 * n) 0 := by
      have o2 := HS2.out
      have o3 := Htl.out
      unfold rowT
      rw [List.set_append_right _ _ (by omega), o3, Nat.sub_self, show S - left = (S - left - 1) + 1 by omega, List.replicate_succ, List.set_cons_zero]
      simp [be8_len]
    have k0 : w2.cell? ⟨wc.heap.size, left, none⟩ = some (.int .u8 0) := ha2.cell (by
      have o2 := HS2.out
      have o3 := Htl.out
      exact bytesV_get (c := 0) (by rw [List.getElem?_append_right (by omega), o3, Nat.sub_self, List.getElem?_replicate, if_pos (by omega)]))
    have f0 := ha2.free left
    have HR0 : Hid (ArrIn (w2.setCell ⟨wc.heap.size, left, none⟩ (.int .u8 128)) wc.heap.size 5 (bytesV (rowT tail S (8 * n) 0)) ∧ Below wc.heap.size wc (w2.setCell ⟨wc.heap.size, left, none⟩ (.int .u8 128))) := Lib.hid (by
      have h4 := ha2.set left (.int .u8 ((0x80 : UInt8).toNat : Nat))
      rw [bytesV_set, hrow0] at h4
      exact ⟨h4, hb2.setCell (Nat.le_refl _) _⟩)
    have hls : (left : Int) < (S : Int) := by have := HS2.out; omega
    have hls2 : left < S := by have := HS2.out; omega
    have eN : IntKind.u64.wrap (8 * (n : Int)) = ((8 * n : Nat) : Int) := by rw [show 8 * (n : Int) = ((8 * n : Nat) : Int) by omega, u64_lit _ (by omega)]
    have hNb : 8 * n < 18446744073709551616 := by omega
    clear h2 hb2 ha2 hrow0 Hold Hcl Hcf HA1 HB1 hsl e2
    generalize 8 * n = N at *
    go_wp2_with fail
    go_loopw [34] (fun i W => ∃ k, k ≤ 8 ∧ i = .int .i64 (k : Nat) ∧ ArrIn W wc.heap.size 5 (bytesV (rowT tail S N k)) ∧ Below wc.heap.size wc W) (fun i _ => (9 - intOf i).toNat)
    case atStart => exact ⟨0, by omega, rfl, HR0.out⟩
    case round =>
      clear HR0 k0 f0
      obtain ⟨k, hk, rfl, ha, hb⟩ := hrel
      by_cases hlt : k < 8
      case pos =>
        have o1 := HS1.out
        have o2 := HS2.out
        have o3 := Htl.out
        have e5 : IntKind.i64.wrap ((S : Int) - 1) = ((S - 1 : Nat) : Int) := by rw [IntWalk.i64_in _ (by omega)]; omega
        have e6 : IntKind.i64.wrap (((S - 1 : Nat) : Int) - (k : Int)) = ((S - 1 - k : Nat) : Int) := by rw [IntWalk.i64_in _ (by omega)]; omega
        have k1 : wr.cell? ⟨wc.heap.size, S - 1 - k, none⟩ = some (.int .u8 0) := ha.cell (bytesV_get (c := 0) (rowT_zero hlt (by omega)))
        have f1 := ha.free (S - 1 - k)
        have i1 : ((S - 1 - k : Nat) : Int) < (S : Int) := by omega
        have i2 : S - 1 - k < S := by omega
        obtain ⟨D, hD⟩ : ∃ D, S - 1 - k = D := ⟨_, rfl⟩
        have HN : Hid (ArrIn (wr.setCell ⟨wc.heap.size, D, none⟩ (.int .u8 ((UInt8.ofNat (N / 256 ^ k)).toNat : Nat))) wc.heap.size 5 (bytesV (rowT tail S N (k + 1))) ∧ Below wc.heap.size wc (wr.setCell ⟨wc.heap.size, D, none⟩ (.int .u8 ((UInt8.ofNat (N / 256 ^ k)).toNat : Nat)))) := Lib.hid (by
          have h4 := ha.set D (.int .u8 ((UInt8.ofNat (N / 256 ^ k)).toNat : Nat))
          rw [bytesV_set, ← hD, rowT_next hlt (by omega)] at h4
          rw [← hD]
          exact ⟨h4, hb.setCell (Nat.le_refl _) _⟩)
        rw [hD] at e6 k1 f1 i1 i2
        clear ha hb o1 o2 o3 hD
        go_wp2_with fail
        have HN2 := HN.out
        rw [← shr_byte] at HN2
        exact ⟨⟨k + 1, by omega, rfl, HN2⟩, by simp [intOf]; omega⟩
      have hk8 : k = 8 := by omega
      have hki : (k : Int) = 8 := by omega
      rw [hk8, ← Hpad.out] at ha
      rw [hki]
      have hlen : (pd.drop (64 * (n / 64))).length = S := by have := Hplen.out; rw [List.length_drop]; omega
      have HBy : Hid (Bytes wr wr.heap.size (some ⟨wc.heap.size, 0, none⟩) (pd.drop (64 * (n / 64)))) := Lib.hid fun _ => ⟨wc.heap.size, 0, rfl, ha.lt, fun i c hi => by
        rw [Nat.zero_add]
        exact ha.cell (bytesV_get hi)⟩
      have HB := Lib.hid hb
      clear ha hb hk8 hki hk hlt hlen
      go_wp2_with fail
      go_ret
      refine ⟨S, rfl, ?_, ?_, HB.out⟩
      · rw [HPd.out]; exact Hplen.out
      · rw [HPd.out]; exact HBy.out
end Go.Proofs.Ytpabgkmjhcmonaa
