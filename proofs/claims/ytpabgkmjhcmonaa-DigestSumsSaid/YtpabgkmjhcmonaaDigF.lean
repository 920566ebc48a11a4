/- Contract of spread at a block in memory. Conditions: where the block lies. -/
import Derived.Test.YtpabgkmjhcmonaaDigE
namespace Go.Proofs.Ytpabgkmjhcmonaa
open Go.RowKit
set_option maxRecDepth 100000

/-- The 64 bytes of L from at_ on, in memory. -/
def BlkIn (w : World) (g o : Nat) (L : List UInt8) (at_ : Nat) : Prop := g < w.heap.size ∧ ∀ i, i < 64 → ∃ c, L[at_ + i]? = some c ∧ w.cell? ⟨g, o + i, none⟩ = some (.int .u8 (c.toNat : Nat))
theorem BlkIn.below {w w' : World} {g o at_ : Nat} {L : List UInt8} (h : BlkIn w g o L at_) (hb : Below w.heap.size w w') : BlkIn w' g o L at_ :=
  ⟨by have := hb.size; have := h.1; omega, fun i hi => by
    obtain ⟨c, h1, h2⟩ := h.2 i hi
    exact ⟨c, h1, (hb.cell (p := ⟨g, o + i, none⟩) h.1).trans h2⟩⟩

theorem low0_is (x : Nat) (hx : x < 4294967296) : bits BinOp.xor IntKind.u32 (bits BinOp.xor IntKind.u32 ((DigP.rotr x 7 : Nat) : Int) ((DigP.rotr x 18 : Nat) : Int)) ((x : Int) / 8) = (DigP.low0 x : Nat) := by
  have e : (x : Int) / 8 = ((x / 8 : Nat) : Int) := by omega
  rw [e]
  exact xor_three _ _ _ (DigP.rotr_lt hx) (DigP.rotr_lt hx) (by omega)
theorem low1_is (x : Nat) (hx : x < 4294967296) : bits BinOp.xor IntKind.u32 (bits BinOp.xor IntKind.u32 ((DigP.rotr x 17 : Nat) : Int) ((DigP.rotr x 19 : Nat) : Int)) ((x : Int) / 1024) = (DigP.low1 x : Nat) := by
  have e : (x : Int) / 1024 = ((x / 1024 : Nat) : Int) := by omega
  rw [e]
  exact xor_three _ _ _ (DigP.rotr_lt hx) (DigP.rotr_lt hx) (by omega)

/-- While spread works. -/
structure SpR (w : World) (L : List UInt8) (at_ k : Nat) (W : World) : Prop where
  le : k ≤ 64
  out : ArrIn W w.heap.size 39 (u32V (fillN 64 []))
  row : ArrIn W (w.heap.size + 1) 39 (u32V (fillN 64 (DigP.wordsT L at_ k)))
  below : Below w.heap.size w W
theorem SpR.start (w : World) (L : List UInt8) (at_ : Nat) : SpR w L at_ 0 ((w.alloc (.cells (u32V (fillN 64 [])).toArray 39)).alloc (.cells (u32V (fillN 64 [])).toArray 39)) := by
  have b1 : Below w.heap.size w (w.alloc (.cells (u32V (fillN 64 [])).toArray 39)) := (Below.refl _ _).alloc (Nat.le_refl _) _
  have a1 := ArrIn.new w (u32V (fillN 64 [])) 39
  have s1 : (w.alloc (.cells (u32V (fillN 64 [])).toArray 39)).heap.size = w.heap.size + 1 := World.size_alloc _ _
  generalize w.alloc (.cells (u32V (fillN 64 [])).toArray 39) = w1 at *
  have b2 := (Below.refl w1.heap.size w1).alloc (Nat.le_refl _) (.cells (u32V (fillN 64 [])).toArray 39)
  have a2 := ArrIn.new w1 (u32V (fillN 64 [])) 39
  generalize w1.alloc (.cells (u32V (fillN 64 [])).toArray 39) = w2 at *
  rw [s1] at a2 b2
  exact ⟨Nat.zero_le _, a1.keep b2 (by omega), a2, b1.trans (b2.mono (by omega))⟩
theorem SpR.next {w W W2 : World} {L : List UInt8} {at_ k x : Nat} (h : SpR w L at_ k W) (hk : k < 64) (hx : DigP.wordsT L at_ (k + 1) = DigP.wordsT L at_ k ++ [x]) (hb : Below W.heap.size W W2) :
    SpR w L at_ (k + 1) (W2.setCell ⟨w.heap.size + 1, k, none⟩ (.int .u32 (x : Nat))) := by
  have h2 := (h.row.keep hb h.row.lt).set k (.int .u32 (x : Nat))
  have e1 : (DigP.wordsT L at_ k).length = k := DigP.words_len _ _ _
  have e2 := fillN_set (N := 64) (l := DigP.wordsT L at_ k) (by omega) x
  rw [e1] at e2
  rw [e2, ← hx] at h2
  have ha : Apart (fun b => b = w.heap.size + 1) W2 (W2.setCell ⟨w.heap.size + 1, k, none⟩ (.int .u32 (x : Nat))) := Apart.setCell (F := fun b => b = w.heap.size + 1) (Apart.refl _ W2) (p := ⟨w.heap.size + 1, k, none⟩) (.inl rfl) _
  exact ⟨hk, (h.out.keep hb h.out.lt).apart ha (by omega), h2, (h.below.trans (hb.mono h.below.size)).setCell (by simp) _⟩
theorem SpR.drew {w W : World} {L : List UInt8} {at_ k : Nat} (h : SpR w L at_ k W) : SpR w L at_ k W.drew := ⟨h.le, h.out, h.row, h.below.drew⟩
theorem SpR.at_ {w W : World} {L : List UInt8} {a k i : Nat} (h : SpR w L a k W) (hi : i < k) : ∃ x, (DigP.wordsT L a k).getD i 0 = x ∧ x < 4294967296 ∧ W.cell? ⟨w.heap.size + 1, i, none⟩ = some (.int .u32 (x : Nat)) := by
  obtain ⟨x, h1, h2, h3⟩ := DigP.words_get (b := L) (at_ := a) hi
  exact ⟨x, h2, h3, h.row.cell (fillN_at h1)⟩
theorem SpR.zero {w W : World} {L : List UInt8} {a k : Nat} (h : SpR w L a k W) (hk : k < 64) : W.cell? ⟨w.heap.size + 1, k, none⟩ = some (.int .u32 0) := h.row.cell (fillN_zero (by rw [DigP.words_len]; exact Nat.le_refl _) hk)

set_option maxHeartbeats 4000000 in
theorem spread_any (g o cap : Nat) (hcap : 64 ≤ cap) (L : List UInt8) (at_ : Nat) (w : World) (h : BlkIn w g o L at_) :
    Calls Try.prog 24 #[.slice (some ⟨g, o, none⟩) 64 cap] w fun e w' => e = .returned (.agg (u32V (DigP.wordsT L at_ 64)).toArray) ∧ Below w.heap.size w w' := by
  have HS := Lib.hid (SpR.start w L at_)
  have HB := Lib.hid h
  clear h
  go_enter Try.func24, Try.ntmps24
  go_wp2_with fail
  go_loopw [10] (fun i W => ∃ k, k ≤ 16 ∧ i = .int .i64 (k : Nat) ∧ SpR w L at_ k W) (fun i _ => (17 - intOf i).toNat)
  case atStart => exact ⟨0, by omega, rfl, HS.out⟩
  case round =>
    clear HS
    obtain ⟨k, hk, rfl, hr⟩ := hrel
    by_cases hlt : k < 16
    case pos =>
      obtain ⟨x0, i0, c0⟩ := (HB.out.below hr.below).2 (4 * k) (by omega)
      obtain ⟨x1, i1, c1⟩ := (HB.out.below hr.below).2 (4 * k + 1) (by omega)
      obtain ⟨x2, i2, c2⟩ := (HB.out.below hr.below).2 (4 * k + 2) (by omega)
      obtain ⟨x3, i3, c3⟩ := (HB.out.below hr.below).2 (4 * k + 3) (by omega)
      have HW := Lib.hid (word_any g (o + 4 * k) (cap - 4 * k) (64 - 4 * k) wr x0 x1 x2 x3 (by omega) c0 (by rw [Nat.add_assoc]; exact c1) (by rw [Nat.add_assoc]; exact c2) (by rw [Nat.add_assoc]; exact c3))
      have hwd := DigP.words_low (b := L) (at_ := at_) hlt
      rw [DigP.word_at (at_ := at_ + 4 * k) i0 (by rw [Nat.add_assoc]; exact i1) (by rw [Nat.add_assoc]; exact i2) (by rw [Nat.add_assoc]; exact i3)] at hwd
      generalize ((x0.toNat * 256 + x1.toNat) * 256 + x2.toNat) * 256 + x3.toNat = x at *
      have hsl : ∀ W, (Instr.slice 22 (.slice (some ⟨g, o, none⟩) 64 cap) (some (.int .i64 (4 * (k : Int)))) none none).run Try.prog W = .ok (.slice (some ⟨g, o + 4 * k, none⟩) (64 - 4 * k) (cap - 4 * k)) W := fun W => by
        have := run_slice_froms W 22 5 1 Try.underlying22 (fun w => by kernel_rfl) g o 64 cap (4 * (k : Int)) (4 * k) (by omega) (by omega)
        rw [this, if_neg (by omega), Nat.mul_one]
      have e4 : IntKind.i64.wrap (4 * (k : Int)) = 4 * (k : Int) := IntWalk.i64_in _ (by omega)
      have HN : Hid (∀ W2, Below wr.heap.size wr W2 → SpR w L at_ (k + 1) (W2.setCell ⟨w.heap.size + 1, k, none⟩ (.int .u32 (x : Nat)))) := Lib.hid fun W2 hb => hr.next (by omega) hwd hb
      have k0 : ∀ m, (wr.drewN m).cell? ⟨w.heap.size + 1, k, none⟩ = some (.int .u32 0) := fun m => hr.zero (by omega)
      have f0 : ∀ m, (wr.drewN m).frozen? ⟨w.heap.size + 1, k, none⟩ = false := fun m => hr.row.free k
      clear hr hwd c0 c1 c2 c3 i0 i1 i2 i3
      go_wp2_with fail
      refine HW.out.mono ?_
      rintro e w3 ⟨rfl, m, rfl⟩
      have hb3 : Below wr.heap.size wr (wr.drewN m) := below_drewNc (Below.refl _ _) m
      have HN2 := Lib.hid (HN.out _ hb3)
      have k1 := k0 m
      have f1 := f0 m
      clear HN hb3 k0 f0 HW hsl
      generalize wr.drewN m = w3 at *
      go_wp2_with fail
      exact ⟨⟨k + 1, by omega, rfl, HN2.out⟩, by simp [intOf]; omega⟩
    obtain rfl : k = 16 := by omega
    clear hk hlt
    rw [show ((16 : Nat) : Int) = 16 from rfl]
    have HR := Lib.hid hr
    clear hr
    go_wp2_with fail
    go_loopw [5] (fun i W => ∃ k, 16 ≤ k ∧ i = .int .i64 (k : Nat) ∧ SpR w L at_ k W) (fun i _ => (65 - intOf i).toNat)
    case atStart => exact ⟨16, by omega, rfl, HR.out⟩
    case round =>
      clear HR
      obtain ⟨k, hk, rfl, hr⟩ := hrel
      have hk2 := hr.le
      by_cases hlt : k < 64
      case pos =>
        obtain ⟨x, gx, lx, cx⟩ := hr.at_ (i := k - 15) (by omega)
        obtain ⟨y, gy, ly, cy⟩ := hr.at_ (i := k - 2) (by omega)
        obtain ⟨z, gz, lz, cz⟩ := hr.at_ (i := k - 16) (by omega)
        obtain ⟨v, gv, lv, cv⟩ := hr.at_ (i := k - 7) (by omega)
        have k0 := hr.zero hlt
        have f0 := hr.row.free k
        have e15 : IntKind.i64.wrap ((k : Int) - 15) = ((k - 15 : Nat) : Int) := by rw [IntWalk.i64_in _ (by omega)]; omega
        have e2 : IntKind.i64.wrap ((k : Int) - 2) = ((k - 2 : Nat) : Int) := by rw [IntWalk.i64_in _ (by omega)]; omega
        have e16 : IntKind.i64.wrap ((k : Int) - 16) = ((k - 16 : Nat) : Int) := by rw [IntWalk.i64_in _ (by omega)]; omega
        have e7 : IntKind.i64.wrap ((k : Int) - 7) = ((k - 7 : Nat) : Int) := by rw [IntWalk.i64_in _ (by omega)]; omega
        have H7 := Lib.hid (fun W => right_any x 7 lx (by decide) (by decide) W)
        have H18 := Lib.hid (fun W => right_any x 18 lx (by decide) (by decide) W)
        have H17 := Lib.hid (fun W => right_any y 17 ly (by decide) (by decide) W)
        have H19 := Lib.hid (fun W => right_any y 19 ly (by decide) (by decide) W)
        simp only [show ((7 : Nat) : Int) = 7 from rfl, show ((18 : Nat) : Int) = 18 from rfl, show ((17 : Nat) : Int) = 17 from rfl, show ((19 : Nat) : Int) = 19 from rfl] at H7 H18 H17 H19
        have hwd := DigP.words_up (b := L) (at_ := at_) hk
        unfold DigP.nextW at hwd
        rw [gx, gy, gz, gv] at hwd
        have q0 := low0_is x lx
        have q1 := low1_is y ly
        have m0 := DigP.low0_lt lx
        have m1 := DigP.low1_lt ly
        generalize DigP.low0 x = s0 at *
        generalize DigP.low1 y = s1 at *
        have q2 : ((z : Int) + (s0 : Int) + (v : Int) + (s1 : Int)) % 4294967296 = (((z + s0 + v + s1) % 4294967296 : Nat) : Int) := by omega
        obtain ⟨N, hN⟩ : ∃ N, (z + s0 + v + s1) % 4294967296 = N := ⟨_, rfl⟩
        rw [hN] at hwd q2
        have HN : Hid (∀ W2, Below wr.heap.size wr W2 → SpR w L at_ (k + 1) (W2.setCell ⟨w.heap.size + 1, k, none⟩ (.int .u32 (N : Nat)))) := Lib.hid fun W2 hb => hr.next hlt hwd hb
        have Hk := Lib.hid hk
        clear hr hwd hN gx gy gz gv hk hk2
        go_wp2_with fail
        go_quiet (fail)
        go_wp2_with fail
        have hb3 : Below wr.heap.size wr (wr.drewN nq) := below_drewNc (Below.refl _ _) nq
        have HN2 := Lib.hid (HN.out _ hb3)
        have k1 : (wr.drewN nq).cell? ⟨w.heap.size + 1, k, none⟩ = some (.int .u32 0) := k0
        have f1 : (wr.drewN nq).frozen? ⟨w.heap.size + 1, k, none⟩ = false := f0
        have d1 : (wr.drewN nq).cell? ⟨w.heap.size + 1, k - 16, none⟩ = some (.int .u32 (z : Nat)) := cz
        have d2 : (wr.drewN nq).cell? ⟨w.heap.size + 1, k - 7, none⟩ = some (.int .u32 (v : Nat)) := cv
        clear HN hb3 k0 f0 cx cy cz cv
        generalize wr.drewN nq = w3 at *
        refine (H7.out _).mono ?_
        rintro e w' ⟨rfl, rfl⟩
        go_wp2_with fail
        refine (H18.out _).mono ?_
        rintro e w' ⟨rfl, rfl⟩
        go_wp2_with fail
        refine (H17.out _).mono ?_
        rintro e w' ⟨rfl, rfl⟩
        go_wp2_with fail
        refine (H19.out _).mono ?_
        rintro e w' ⟨rfl, rfl⟩
        go_wp2_with fail
        go_region
        go_wp2_with fail
        exact ⟨⟨k + 1, by have := Hk.out; omega, rfl, HN2.out.drew⟩, by simp [intOf]; omega⟩
      obtain rfl : k = 64 := by omega
      have ha := hr.row
      have hlen : (DigP.wordsT L at_ 64).length = 64 := DigP.words_len _ _ _
      rw [fillN_full (N := 64) hlen] at ha
      have HA := Lib.hid ha
      have HZ := Lib.hid hr.out
      have hz2 := hr.out.setRow (u32V (DigP.wordsT L at_ 64))
      have hb2 : Below w.heap.size w (wr.setRow w.heap.size (u32V (DigP.wordsT L at_ 64)).toArray) := hr.below.trans (setRow_below (Nat.le_refl _))
      have HZ2 := Lib.hid hz2
      have HB2 := Lib.hid hb2
      have HL : Hid ((u32V (DigP.wordsT L at_ 64)).length = 64) := Lib.hid (by rw [u32V_len, hlen])
      have HL1 := Lib.hid (u32V_one (DigP.wordsT L at_ 64))
      clear ha hr hz2 hb2 hlen hk2
      generalize hM : u32V (DigP.wordsT L at_ 64) = M at *
      have HM := Lib.hid hM
      clear hM
      rw [show ((64 : Nat) : Int) = 64 from rfl]
      go_upto_region 14 with (fail)
      refine wp_region_lit ?_
      refine wpList_load_row rfl _ (.tmp 3) rfl (w.heap.size + 1) rfl _ M.toArray (0, 0) _ HA.out Try.underlying39 rfl (by simp only [List.size_toArray, HL.out]; kernel_rfl) ?_
      refine wpList_store_row rfl _ (.tmp 2) (.tmp 64) rfl w.heap.size M.toArray rfl rfl _ _ HZ.out (by simp only [List.size_toArray, HL.out]; kernel_rfl) (by simp only [List.size_toArray, HL.out, u32V_len]; rfl) (all_oneCell_toArray HL1.out) (wpList_nil ?_)
      generalize wr.setRow w.heap.size M.toArray = w2 at *
      go_wp2_with fail
      show bodyPost _ _ _ _ _ _
      refine bodyPost_ret (v := .agg M.toArray) (results_cell_row rfl _ _ _ _ _ (0, 0) _ rfl HZ2.out Try.underlying39 rfl (by simp only [List.size_toArray, HL.out]; kernel_rfl)) rfl ⟨by rw [HM.out], HB2.out⟩
end Go.Proofs.Ytpabgkmjhcmonaa
