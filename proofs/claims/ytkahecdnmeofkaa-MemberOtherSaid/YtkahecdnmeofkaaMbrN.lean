/- MemberOther: true. Conditions: where the frame's lists lie. -/
import Derived.Test.YtkahecdnmeofkaaMbrL
namespace Go.Proofs.Ytkahecdnmeofkaa
open Go.RowKit
set_option maxRecDepth 100000

/-- A frame with another sender. -/
def withS (y : FrameC) (k : Nat) : FrameC := ⟨k, y.round, y.members, y.MA, y.mn, y.mcap, y.msgs, y.kind, y.key, y.val, y.old, y.RA, y.rn, y.rcap, y.recs⟩
theorem withS_in {W : World} {y : FrameC} {k : Nat} (h : FrameIn W y) (hk : k < 256) : FrameIn W (withS y k) :=
  ⟨h.msgs, h.mlen, h.mcap_, h.mmost, h.recs, h.rlen, h.rcap_, h.rmost, ⟨hk, h.typed.round, h.typed.members, h.typed.kind, h.typed.key, h.typed.val, h.typed.old, h.typed.recs⟩⟩
/-- The frame's box, and the stamp's. -/
def MoX (N : Nat) (cs : Array Value) (sr sm : Nat) (W : World) : Prop := W.heap[N]? = some (.cells cs 51 (0, 0)) ∧ W.heap[N + 1]? = some (.cells #[.int .u32 (sr : Nat), .int .u8 (sm : Nat)] 36 (0, 0))
theorem MoX.below {N : Nat} {cs : Array Value} {sr sm : Nat} {W W' : World} (h : MoX N cs sr sm W) (hb : Below W.heap.size W W') : MoX N cs sr sm W' := ⟨(hb.block _ (lt_of_block h.1)).trans h.1, (hb.block _ (lt_of_block h.2)).trans h.2⟩
theorem MoX.apart {N b : Nat} {cs : Array Value} {sr sm : Nat} {W W' : World} (h : MoX N cs sr sm W) (ha : Apart (fun q => q = b) W W') (hb : N + 1 < b) : MoX N cs sr sm W' := ⟨(ha.block _ (lt_of_block h.1) (by omega)).trans h.1, (ha.block _ (lt_of_block h.2) (by omega)).trans h.2⟩
theorem one_fin : ∀ k : Fin 7, MbrP.lst (MbrP.withT 0 (k.1 : Int)) = [k.1] ∧ (MbrP.withT 0 (k.1 : Int)).testBit k.1 = true ∧ MbrP.len8 (MbrP.withT 0 (k.1 : Int)) = 1 := by decide +kernel
theorem mem_one {k : Nat} (hk : k < 7) (st : Nat × Nat) (x : Nat × Nat) : memS (MbrP.withT 0 (k : Int)) (upd (fun _ => (0, 0)) k st) (some x) = if st = x then MbrP.withT 0 (k : Int) else 0 := by
  have h := (one_fin ⟨k, hk⟩).1
  simp only at h
  unfold memS MbrP.bear MbrP.sub
  rw [h]
  have hu : upd (fun _ => (0, 0)) k st k = st := if_pos rfl
  by_cases hs : st = x
  · subst hs
    simp [hu, MbrP.ints, MbrP.ofT]
  · simp [hu, hs, MbrP.ints, MbrP.ofT]
set_option maxHeartbeats 4000000 in
theorem mother_law (x : FrameC) (line : Int) (sr sm : Nat) (w : World) (hx : FrameIn w x) : Calls Try.prog 8 #[x.value, .int .i64 line, stampV sr sm] w (MTrue12 w) := by
  have HB := Lib.hid (fun o1 o2 => ((Below.refl w.heap.size w).alloc (Nat.le_refl _) o1).alloc (by simp) o2)
  have HA := Lib.hid (fun W => awake12_any W)
  have C0 := Lib.hid (fun W (hW : Below w.heap.size w W) => copied_hi x W (hx.below hW))
  have C1 := Lib.hid (fun W => listen_any sr sm true W)
  obtain ⟨t, ht, hmod⟩ := mod_of line 9 (by decide) (by decide)
  unfold MTrue12 at *
  unfold CopiedHi at C0
  unfold ListenP at C1
  unfold stampV at *
  have hxs := hx.typed.sender
  clear hx
  obtain ⟨sender, round, members, MA, mn, mcap, msgs, kind, key, val, old, RA, rn, rcap, recs⟩ := x
  simp only [FrameC.value, FrameC.plain] at C0 hxs ⊢
  go_enter Try.func8, Try.ntmps8
  go_wp2_with fail
  refine (HA.out _).mono ?_
  rintro e w1 ⟨rfl, hb1⟩
  have hn1 := (hb1.block w.heap.size (by simp; omega)).trans ((Below.heap_alloc _ _ _ (by simp)).trans (heap_alloc_new w (.cells #[.int .u8 (sender : Nat), .int .u32 (round : Nat), .int .u8 (members : Nat), .slice MA mn mcap, .int .u8 (kind : Nat), .int .u8 (key : Nat), .int .u16 (val : Nat), .int .u16 (old : Nat), .slice RA rn rcap] 51)))
  have hm1 := (hb1.block (w.heap.size + 1) (by simp)).trans (heap_new_at (w.alloc (.cells #[.int .u8 (sender : Nat), .int .u32 (round : Nat), .int .u8 (members : Nat), .slice MA mn mcap, .int .u8 (kind : Nat), .int .u8 (key : Nat), .int .u16 (val : Nat), .int .u16 (old : Nat), .slice RA rn rcap] 51)) (.cells #[.int .u32 (sr : Nat), .int .u8 (sm : Nat)] 36) _ (by simp))
  have Hb1 := Lib.hid ((HB.out _ _).trans (hb1.mono (by simp; omega)))
  have r0 := cell_at hn1 0 rfl
  have r1 := cell_at hn1 1 rfl
  have r2 := cell_at hn1 2 rfl
  have r3 := cell_at hn1 3 rfl
  have r4 := cell_at hn1 4 rfl
  have r5 := cell_at hn1 5 rfl
  have r6 := cell_at hn1 6 rfl
  have r7 := cell_at hn1 7 rfl
  have r8 := cell_at hn1 8 rfl
  have Hn1 := Lib.hid hn1
  have Hm1 := Lib.hid hm1
  have hs1 : w.heap.size + 1 < w1.heap.size := lt_of_block hm1
  clear hb1 hn1 hm1 HA HB
  go_wp2_with fail
  refine (C0.out _ Hb1.out).mono ?_
  rintro e w2 ⟨y, rfl, hy1, -, hy3, hb2⟩
  have hn2 := (hb2.block w.heap.size (by omega)).trans Hn1.out
  have hm2 := (hb2.block (w.heap.size + 1) hs1).trans Hm1.out
  have Hb2 := Lib.hid (Hb1.out.trans (hb2.mono Hb1.out.size))
  have hs2 : w.heap.size + 1 < w2.heap.size := lt_of_block hm2
  have k0 := cell_at hn2 0 rfl
  have k1 := cell_at hn2 1 rfl
  have k2 := cell_at hn2 2 rfl
  have k3 := cell_at hn2 3 rfl
  have k4 := cell_at hn2 4 rfl
  have k5 := cell_at hn2 5 rfl
  have k6 := cell_at hn2 6 rfl
  have k7 := cell_at hn2 7 rfl
  have k8 := cell_at hn2 8 rfl
  have m0 := cell_at hm2 0 rfl
  have m1 := cell_at hm2 1 rfl
  have fb := fun i => free_at hn2 i
  have Hy1 := Lib.hid hy1
  have Hoff := Lib.hid (hy3.off (F := fun q => q = w.heap.size) (fun q e => by omega))
  have Hn2 := Lib.hid hn2
  have Hm2 := Lib.hid hm2
  clear hb2 r0 r1 r2 r3 r4 r5 r6 r7 r8 Hn1 Hm1 hn2 hm2 hy1 Hb1 hy3 C0
  obtain ⟨y0, y1, y2, y3, y4, y5, y6, y7, y8, y9, y10, y11, y12, y13, y14⟩ := y
  have hy0 : y0 < 256 := Hy1.out.typed.sender
  obtain ⟨k, hk⟩ : ∃ k : Nat, (y0 : Int) % 7 = (k : Int) := ⟨y0 % 7, by omega⟩
  have hk7 : k < 7 := by omega
  go_upto_region 6 with (fail)
  rw [hk, hmod]
  show Code.wp _ _ _ _ ((storeAll w2 w.heap.size [.int .u8 (y0 : Nat), .int .u32 (y1 : Nat), .int .u8 (y2 : Nat), .slice y3 y4 y5, .int .u8 (y7 : Nat), .int .u8 (y8 : Nat), .int .u16 (y9 : Nat), .int .u16 (y10 : Nat), .slice y11 y12 y13] 0).setCell ⟨w.heap.size, 0, none⟩ (.int .u8 (k : Nat)))
  have ha3 : Apart (fun q => q = w.heap.size) w2 ((storeAll w2 w.heap.size [.int .u8 (y0 : Nat), .int .u32 (y1 : Nat), .int .u8 (y2 : Nat), .slice y3 y4 y5, .int .u8 (y7 : Nat), .int .u8 (y8 : Nat), .int .u16 (y9 : Nat), .int .u16 (y10 : Nat), .slice y11 y12 y13] 0).setCell ⟨w.heap.size, 0, none⟩ (.int .u8 (k : Nat))) := Apart.setCell (F := fun q => q = w.heap.size) (storeAll_apart w.heap.size [.int .u8 (y0 : Nat), .int .u32 (y1 : Nat), .int .u8 (y2 : Nat), .slice y3 y4 y5, .int .u8 (y7 : Nat), .int .u8 (y8 : Nat), .int .u16 (y9 : Nat), .int .u16 (y10 : Nat), .slice y11 y12 y13] 0 w2) (p := ⟨w.heap.size, 0, none⟩) (.inl rfl) _
  have hn3 : ((storeAll w2 w.heap.size [.int .u8 (y0 : Nat), .int .u32 (y1 : Nat), .int .u8 (y2 : Nat), .slice y3 y4 y5, .int .u8 (y7 : Nat), .int .u8 (y8 : Nat), .int .u16 (y9 : Nat), .int .u16 (y10 : Nat), .slice y11 y12 y13] 0).setCell ⟨w.heap.size, 0, none⟩ (.int .u8 (k : Nat))).heap[w.heap.size]? = some (.cells #[.int .u8 (k : Nat), .int .u32 (y1 : Nat), .int .u8 (y2 : Nat), .slice y3 y4 y5, .int .u8 (y7 : Nat), .int .u8 (y8 : Nat), .int .u16 (y9 : Nat), .int .u16 (y10 : Nat), .slice y11 y12 y13] 51 (0, 0)) := by
    rw [heap_set_at (storeAll_heap (t := 51) [.int .u8 (y0 : Nat), .int .u32 (y1 : Nat), .int .u8 (y2 : Nat), .slice y3 y4 y5, .int .u8 (y7 : Nat), .int .u8 (y8 : Nat), .int .u16 (y9 : Nat), .int .u16 (y10 : Nat), .slice y11 y12 y13] 0 w2 [] _ Hn2.out rfl rfl) 0 (.int .u8 (k : Nat))]; rfl
  have hm3 := (ha3.block (w.heap.size + 1) hs2 (by omega)).trans Hm2.out
  have Hz := Lib.hid (withS_in (k := k) (Hy1.out.offs Hoff.out ha3) (by omega))
  have Hb3 := Lib.hid (Hb2.out.trans (ha3.below (by omega) (fun q e => by omega)))
  simp only [withS] at Hz
  generalize (storeAll w2 w.heap.size [.int .u8 (y0 : Nat), .int .u32 (y1 : Nat), .int .u8 (y2 : Nat), .slice y3 y4 y5, .int .u8 (y7 : Nat), .int .u8 (y8 : Nat), .int .u16 (y9 : Nat), .int .u16 (y10 : Nat), .slice y11 y12 y13] 0).setCell ⟨w.heap.size, 0, none⟩ (.int .u8 (k : Nat)) = w3 at *
  clear k0 k1 k2 k3 k4 k5 k6 k7 k8 m0 m1 fb Hn2 Hm2 Hy1 Hoff Hb2 ha3 hk hmod
  have m0 := cell_at hm3 0 rfl
  have m1 := cell_at hm3 1 rfl
  have hs3 : w.heap.size + 1 < w3.heap.size := lt_of_block hm3
  go_wp2_with fail
  refine (C1.out _).mono ?_
  rintro e w4 ⟨b, rfl, hh4, hlo, hb4⟩
  have hn4 := (hb4.block w.heap.size (by omega)).trans hn3
  have hm4 := (hb4.block (w.heap.size + 1) hs3).trans hm3
  have Hz4 := Lib.hid (Hz.out.below hb4)
  have Hoff4 := Lib.hid (Hz.out.off_new (F := fun q => q = b) (fun q e => by omega))
  have Hb4 := Lib.hid (Hb3.out.trans (hb4.mono Hb3.out.size))
  clear m0 m1 hn3 hm3 Hz Hb3 hb4 C1
  unfold hv
  go_upto_region 7 with (fail)
  --GEN
  have hx4 : MoX w.heap.size #[.int .u8 (k : Nat), .int .u32 (y1 : Nat), .int .u8 (y2 : Nat), .slice y3 y4 y5, .int .u8 (y7 : Nat), .int .u8 (y8 : Nat), .int .u16 (y9 : Nat), .int .u16 (y10 : Nat), .slice y11 y12 y13] sr sm w4 := ⟨hn4, hm4⟩
  have hh : Hrd w4 b sr sm true 0 (fun _ => (0, 0)) := ⟨_, hh4, fun _ hn => stOf_at (List.getElem?_replicate_of_lt hn)⟩
  have Hyes : Hid (∀ W, Hrd W b sr sm true 0 (fun _ => (0, 0)) → Below w4.heap.size w4 W → Calls Try.prog 21 #[hv b, .int .i64 (k : Nat), .agg #[.int .u8 (k : Nat), .int .u32 (y1 : Nat), .int .u8 (y2 : Nat), .slice y3 y4 y5, .int .u8 (y7 : Nat), .int .u8 (y8 : Nat), .int .u16 (y9 : Nat), .int .u16 (y10 : Nat), .slice y11 y12 y13]] W (fun e w' => e = .returned (.bool true) ∧ Hrd w' b sr sm true (MbrP.withT 0 (k : Int)) (upd (fun _ => (0, 0)) k (y1, y2)) ∧ Apart (fun q => q = b) W w')) := Lib.hid fun W hW hB =>
    hhear_any sr sm 0 true (fun _ => (0, 0)) k hk7 ⟨k, y1, y2, y3, y4, y5, y6, y7, y8, y9, y10, y11, y12, y13, y14⟩ rfl b W (Hz4.out.below hB) Hoff4.out hW (by simp)
  obtain ⟨f1, f2, f3⟩ := one_fin ⟨k, hk7⟩
  simp only at f1 f2 f3
  have Hno : Hid (∀ W, Hrd W b sr sm true (MbrP.withT 0 (k : Int)) (upd (fun _ => (0, 0)) k (y1, y2)) → Calls Try.prog 21 #[hv b, .int .i64 (k : Nat), .agg #[.int .u8 (k : Nat), .int .u32 (y1 : Nat), .int .u8 (y2 : Nat), .slice y3 y4 y5, .int .u8 (y7 : Nat), .int .u8 (y8 : Nat), .int .u16 (y9 : Nat), .int .u16 (y10 : Nat), .slice y11 y12 y13]] W (fun e w' => e = .returned (.bool false) ∧ Below W.heap.size W w')) := Lib.hid fun W hW =>
    hagain_any sr sm _ true _ k hk7 ⟨k, y1, y2, y3, y4, y5, y6, y7, y8, y9, y10, y11, y12, y13, y14⟩ rfl b W hW f2
  have Hmem := Lib.hid (fun W hW => hmembers_any sr sm (MbrP.withT 0 (k : Int)) true (upd (fun _ => (0, 0)) k (y1, y2)) b W hW)
  have Hfrs := Lib.hid (fun W hW => hframes_any sr sm (MbrP.withT 0 (k : Int)) true (upd (fun _ => (0, 0)) k (y1, y2)) b W hW)
  have hrs : rightS true sr sm (MbrP.withT 0 (k : Int)) (upd (fun _ => (0, 0)) k (y1, y2)) = some (sr, sm) := rfl
  rw [hrs, mem_one hk7] at Hmem Hfrs
  have Hst0 : Hid (t ≠ k → ∀ W, Calls Try.prog 21 #[hv b, .int .i64 (t : Nat), .agg #[.int .u8 (k : Nat), .int .u32 (y1 : Nat), .int .u8 (y2 : Nat), .slice y3 y4 y5, .int .u8 (y7 : Nat), .int .u8 (y8 : Nat), .int .u16 (y9 : Nat), .int .u16 (y10 : Nat), .slice y11 y12 y13]] W (fun e w' => e = .returned (.bool false) ∧ Below W.heap.size W w')) := Lib.hid fun htk W => by
    by_cases ht7 : t < 7
    · exact hear_other t ht7 ⟨k, y1, y2, y3, y4, y5, y6, y7, y8, y9, y10, y11, y12, y13, y14⟩ (fun e => htk e.symm) (by simp only; omega) b W
    · exact hear_out (t : Int) (.inr (by omega)) ⟨k, y1, y2, y3, y4, y5, y6, y7, y8, y9, y10, y11, y12, y13, y14⟩ b W
  have HOf := Lib.hid (fun A c W hW => of_any A 1 c [(k : Int)] rfl (by decide) W hW)
  have hof : MbrP.ofT [(k : Int)] = MbrP.withT 0 (k : Int) := rfl
  rw [hof] at HOf
  have hw128 := MbrP.with_in7 (show 0 < 128 by decide) (k : Int)
  have HLen := Lib.hid (fun W => len_any (MbrP.withT 0 (k : Int)) (by omega) W)
  have HLen0 := Lib.hid (fun W => len_any 0 (by decide) W)
  rw [f3] at HLen
  rw [show MbrP.len8 0 = 0 from rfl] at HLen0
  unfold MemP at Hmem
  unfold Quiet at HOf
  unfold PureM at HLen HLen0
  unfold hv at Hyes Hno Hmem Hfrs Hst0
  unfold setV at *
  have r0 : ∀ W, MoX w.heap.size #[.int .u8 (k : Nat), .int .u32 (y1 : Nat), .int .u8 (y2 : Nat), .slice y3 y4 y5, .int .u8 (y7 : Nat), .int .u8 (y8 : Nat), .int .u16 (y9 : Nat), .int .u16 (y10 : Nat), .slice y11 y12 y13] sr sm W → W.cell? ⟨w.heap.size, 0, none⟩ = some (.int .u8 (k : Nat)) := fun W hW => cell_at hW.1 0 rfl
  have r1 : ∀ W, MoX w.heap.size #[.int .u8 (k : Nat), .int .u32 (y1 : Nat), .int .u8 (y2 : Nat), .slice y3 y4 y5, .int .u8 (y7 : Nat), .int .u8 (y8 : Nat), .int .u16 (y9 : Nat), .int .u16 (y10 : Nat), .slice y11 y12 y13] sr sm W → W.cell? ⟨w.heap.size, 1, none⟩ = some (.int .u32 (y1 : Nat)) := fun W hW => cell_at hW.1 1 rfl
  have r2 : ∀ W, MoX w.heap.size #[.int .u8 (k : Nat), .int .u32 (y1 : Nat), .int .u8 (y2 : Nat), .slice y3 y4 y5, .int .u8 (y7 : Nat), .int .u8 (y8 : Nat), .int .u16 (y9 : Nat), .int .u16 (y10 : Nat), .slice y11 y12 y13] sr sm W → W.cell? ⟨w.heap.size, 2, none⟩ = some (.int .u8 (y2 : Nat)) := fun W hW => cell_at hW.1 2 rfl
  have r3 : ∀ W, MoX w.heap.size #[.int .u8 (k : Nat), .int .u32 (y1 : Nat), .int .u8 (y2 : Nat), .slice y3 y4 y5, .int .u8 (y7 : Nat), .int .u8 (y8 : Nat), .int .u16 (y9 : Nat), .int .u16 (y10 : Nat), .slice y11 y12 y13] sr sm W → W.cell? ⟨w.heap.size, 3, none⟩ = some (.slice y3 y4 y5) := fun W hW => cell_at hW.1 3 rfl
  have r4 : ∀ W, MoX w.heap.size #[.int .u8 (k : Nat), .int .u32 (y1 : Nat), .int .u8 (y2 : Nat), .slice y3 y4 y5, .int .u8 (y7 : Nat), .int .u8 (y8 : Nat), .int .u16 (y9 : Nat), .int .u16 (y10 : Nat), .slice y11 y12 y13] sr sm W → W.cell? ⟨w.heap.size, 4, none⟩ = some (.int .u8 (y7 : Nat)) := fun W hW => cell_at hW.1 4 rfl
  have r5 : ∀ W, MoX w.heap.size #[.int .u8 (k : Nat), .int .u32 (y1 : Nat), .int .u8 (y2 : Nat), .slice y3 y4 y5, .int .u8 (y7 : Nat), .int .u8 (y8 : Nat), .int .u16 (y9 : Nat), .int .u16 (y10 : Nat), .slice y11 y12 y13] sr sm W → W.cell? ⟨w.heap.size, 5, none⟩ = some (.int .u8 (y8 : Nat)) := fun W hW => cell_at hW.1 5 rfl
  have r6 : ∀ W, MoX w.heap.size #[.int .u8 (k : Nat), .int .u32 (y1 : Nat), .int .u8 (y2 : Nat), .slice y3 y4 y5, .int .u8 (y7 : Nat), .int .u8 (y8 : Nat), .int .u16 (y9 : Nat), .int .u16 (y10 : Nat), .slice y11 y12 y13] sr sm W → W.cell? ⟨w.heap.size, 6, none⟩ = some (.int .u16 (y9 : Nat)) := fun W hW => cell_at hW.1 6 rfl
  have r7 : ∀ W, MoX w.heap.size #[.int .u8 (k : Nat), .int .u32 (y1 : Nat), .int .u8 (y2 : Nat), .slice y3 y4 y5, .int .u8 (y7 : Nat), .int .u8 (y8 : Nat), .int .u16 (y9 : Nat), .int .u16 (y10 : Nat), .slice y11 y12 y13] sr sm W → W.cell? ⟨w.heap.size, 7, none⟩ = some (.int .u16 (y10 : Nat)) := fun W hW => cell_at hW.1 7 rfl
  have r8 : ∀ W, MoX w.heap.size #[.int .u8 (k : Nat), .int .u32 (y1 : Nat), .int .u8 (y2 : Nat), .slice y3 y4 y5, .int .u8 (y7 : Nat), .int .u8 (y8 : Nat), .int .u16 (y9 : Nat), .int .u16 (y10 : Nat), .slice y11 y12 y13] sr sm W → W.cell? ⟨w.heap.size, 8, none⟩ = some (.slice y11 y12 y13) := fun W hW => cell_at hW.1 8 rfl
  have m0 : ∀ W, MoX w.heap.size #[.int .u8 (k : Nat), .int .u32 (y1 : Nat), .int .u8 (y2 : Nat), .slice y3 y4 y5, .int .u8 (y7 : Nat), .int .u8 (y8 : Nat), .int .u16 (y9 : Nat), .int .u16 (y10 : Nat), .slice y11 y12 y13] sr sm W → W.cell? ⟨w.heap.size + 1, 0, none⟩ = some (.int .u32 (sr : Nat)) := fun W hW => cell_at hW.2 0 rfl
  have m1 : ∀ W, MoX w.heap.size #[.int .u8 (k : Nat), .int .u32 (y1 : Nat), .int .u8 (y2 : Nat), .slice y3 y4 y5, .int .u8 (y7 : Nat), .int .u8 (y8 : Nat), .int .u16 (y9 : Nat), .int .u16 (y10 : Nat), .slice y11 y12 y13] sr sm W → W.cell? ⟨w.heap.size + 1, 1, none⟩ = some (.int .u8 (sm : Nat)) := fun W hW => cell_at hW.2 1 rfl
  have hd0 : MoX w.heap.size #[.int .u8 (k : Nat), .int .u32 (y1 : Nat), .int .u8 (y2 : Nat), .slice y3 y4 y5, .int .u8 (y7 : Nat), .int .u8 (y8 : Nat), .int .u16 (y9 : Nat), .int .u16 (y10 : Nat), .slice y11 y12 y13] sr sm w4.drew := hx4
  have hNb : w.heap.size + 1 < b := by omega
  have e1 : IntKind.i64.wrap (k : Int) = (k : Int) := IntWalk.i64_in _ (by omega)
  clear hx4 hn4 hm4 hh4 Hz4 Hoff4 hy0 f1 f2 f3 hrs hof
  by_cases htk : t = k
  case pos =>
    have htk2 := htk.symm
    subst htk2
    clear htk
    clear Hst0
    go_wp2_with fail
    refine wp_region_held_drew (S := fun W => MoX w.heap.size #[.int .u8 (k : Nat), .int .u32 (y1 : Nat), .int .u8 (y2 : Nat), .slice y3 y4 y5, .int .u8 (y7 : Nat), .int .u8 (y8 : Nat), .int .u16 (y9 : Nat), .int .u16 (y10 : Nat), .slice y11 y12 y13] sr sm W) (by kernel_rfl) hd0 (fun _ => ?_)
    refine tkH 0 (by simp only [tkA]; rfl) (by kernel_rfl) (by exact fun _ _ _ h => h) (by rfl) (by intro W hW; go_simp <;> with_reducible rfl) hd0 ?_
    try simp only [Act.put, tkT, tk0, tkS]
    refine tkH 1 (by simp only [tkA, tkG]; rfl) (by kernel_rfl) (by exact fun _ _ _ h => h) (by rfl) (by intro W hW; go_simp <;> with_reducible rfl) hd0 ?_
    try simp only [Act.put, tkT, tk0, tkS]
    refine tkH 2 (by simp only [tkA, tkG]; rfl) (by kernel_rfl) (by exact fun _ _ _ h => h) (by rfl) (by intro W hW; go_simp <;> with_reducible rfl) hd0 ?_
    try simp only [Act.put, tkT, tk0, tkS]
    refine tkH 4 (by simp only [tkA, tkG]; rfl) (by kernel_rfl) (by exact fun _ _ _ h => h) (by rfl) (by intro W hW; go_simp <;> with_reducible rfl) hd0 ?_
    try simp only [Act.put, tkT, tk0, tkS]
    refine tkH 5 (by simp only [tkA, tkG]; rfl) (by kernel_rfl) (by exact fun _ _ _ h => h) (by rfl) (by intro W hW; go_simp <;> with_reducible rfl) hd0 ?_
    try simp only [Act.put, tkT, tk0, tkS]
    refine tkH 6 (by simp only [tkA, tkG]; rfl) (by kernel_rfl) (by exact fun _ _ _ h => h) (by rfl) (by intro W hW; go_simp <;> with_reducible rfl) hd0 ?_
    try simp only [Act.put, tkT, tk0, tkS]
    refine tkH 7 (by simp only [tkA, tkG]; rfl) (by kernel_rfl) (by exact fun _ _ _ h => h) (by rfl) (by intro W hW; go_simp <;> with_reducible rfl) hd0 ?_
    try simp only [Act.put, tkT, tk0, tkS]
    refine tkH 8 (by simp only [tkA, tkG]; rfl) (by kernel_rfl) (by exact fun _ _ _ h => h) (by rfl) (by intro W hW; go_simp <;> with_reducible rfl) hd0 ?_
    try simp only [Act.put, tkT, tk0, tkS]
    refine clH 3 (by kernel_rfl) (by simp only [tkA, tkG]; rfl) (fun K hK => ?_)
    go_simp
    refine (Hyes.out _ (hh.below (Below.refl _ _).drew) (Below.refl _ _).drew).mono ?_
    rintro e w5 ⟨rfl, hh5, ha5⟩
    have hX5 := hd0.apart ha5 hNb
    have Hh5 := Lib.hid hh5
    have Hb5 := Lib.hid (Hb4.out.trans ((Below.refl w.heap.size w4).drew.trans (ha5.below Hb4.out.size (fun q e => by omega))))
    clear hh5 ha5 hd0 hh
    go_wp2_with fail
    refine hK.out _ _ hX5 (fun _ => ?_)
    clear hK K
    refine tkH 9 (by simp only [tkA, tkG]; rfl) (by kernel_rfl) (by exact fun _ _ _ h => h) (by rfl) (by intro W hW; go_simp <;> with_reducible rfl) hX5 ?_
    try simp only [Act.put, tkT, tk0, tkS]
    refine wpAnyH_done (by kernel_rfl) ?_ _
    have q0 := r0 _ hX5
    have q1 := r1 _ hX5
    have q2 := r2 _ hX5
    have q3 := r3 _ hX5
    have q4 := r4 _ hX5
    have q5 := r5 _ hX5
    have q6 := r6 _ hX5
    have q7 := r7 _ hX5
    have q8 := r8 _ hX5
    have g0 := m0 _ hX5
    have g1 := m1 _ hX5
    clear r0 r1 r2 r3 r4 r5 r6 r7 r8 m0 m1
    have HMX := Lib.hid hX5
    clear hX5
    go_wp2_with fail
    refine (Hno.out _ Hh5.out).mono ?_
    rintro e w9 ⟨rfl, hb9⟩
    have Hh9 := Lib.hid (Hh5.out.below hb9)
    have Hb9 := Lib.hid (Hb5.out.trans (hb9.mono Hb5.out.size))
    have hX9 := HMX.out.below hb9
    clear hb9 HMX
    clear q0 q1 q2 q3 q4 q5 q6 q7 q8 g0 g1 Hyes Hno
    have q0 := cell_at hX9.1 0 rfl
    have q1 := cell_at hX9.1 1 rfl
    have q2 := cell_at hX9.1 2 rfl
    have q3 := cell_at hX9.1 3 rfl
    have q4 := cell_at hX9.1 4 rfl
    have q5 := cell_at hX9.1 5 rfl
    have q6 := cell_at hX9.1 6 rfl
    have q7 := cell_at hX9.1 7 rfl
    have q8 := cell_at hX9.1 8 rfl
    have g0 := cell_at hX9.2 0 rfl
    have g1 := cell_at hX9.2 1 rfl
    clear hX9
    by_cases hst : (y1, y2) = (sr, sm)
    case pos =>
      obtain ⟨rfl, rfl⟩ := Prod.mk.inj hst
      rw [if_pos rfl] at Hmem Hfrs
      rw [show (MbrP.lst (MbrP.withT 0 (k : Int))).length = 1 by rw [(one_fin ⟨k, hk7⟩).1]; rfl] at Hfrs
      generalize MbrP.withT 0 (k : Int) = z at *
      have HL := Lib.hid (fun o : Obj => (Below.refl w9.heap.size w9).alloc (Nat.le_refl _) o)
      have HIn := Lib.hid (ilits_in w9 w9.heap.size rfl [(k : Int)])
      clear hst
      go_wp2_with fail
      refine (HOf.out _ _ _ HIn.out).mono ?_
      rintro e w10 ⟨rfl, m10, rfl⟩
      have hb10 := below_drewNc (HL.out (.cells #[.int .i64 (k : Nat)] 3)) m10
      have Hh10 := Lib.hid (Hh9.out.below hb10)
      have Hb10 := Lib.hid (Hb9.out.trans (hb10.mono Hb9.out.size))
      clear hb10 HIn HL HOf q0 q1 q2 q3 q4 q5 q6 q7 q8 g0 g1
      go_wp2_with fail
      refine (Hmem.out _ Hh10.out).mono ?_
      rintro e w11 ⟨rfl, hb11⟩
      have Hh11 := Lib.hid (Hh10.out.below hb11)
      have Hb11 := Lib.hid (Hb10.out.trans (hb11.mono Hb10.out.size))
      clear hb11
      go_wp2_with fail
      refine (Hfrs.out _ Hh11.out).mono ?_
      rintro e w12 ⟨A12, c12, rfl, hb12⟩
      have Hb12 := Lib.hid (Hb11.out.trans (hb12.mono Hb11.out.size))
      clear hb12
      go_wp2_with fail
      refine (HLen.out _).mono ?_
      rintro e w13 ⟨rfl, rfl⟩
      go_wp2_with fail
      go_ret
      exact ⟨rfl, Hb12.out⟩
    rw [if_neg hst] at Hmem Hfrs
    rw [show (MbrP.lst 0).length = 0 from rfl] at Hfrs
    have hst2 : ¬ (y1 = sr ∧ y2 = sm) := fun h => hst (by rw [h.1, h.2])
    have hst3 : (y1 = sr ∧ ¬ y2 = sm) ∨ ¬ y1 = sr := by
      by_cases h : y1 = sr
      · exact .inl ⟨h, fun h3 => hst2 ⟨h, h3⟩⟩
      · exact .inr h
    clear hst hst2
    have hst4 : ((y1 : Int) == (sr : Int)) = false ∨ (((y1 : Int) == (sr : Int)) = true ∧ ((y2 : Int) == (sm : Int)) = false) := by
      rcases hst3 with ⟨h1, h2⟩ | h1
      · exact .inr ⟨by rw [beq_iff_eq]; omega, by rw [beq_eq_false_iff_ne]; omega⟩
      · exact .inl (by rw [beq_eq_false_iff_ne]; omega)
    rcases hst3 with ⟨rfl, hne⟩ | hne
    all_goals
      go_wp2_with fail
      refine (Hmem.out _ Hh9.out).mono ?_
      rintro e w11 ⟨rfl, hb11⟩
      have Hh11 := Lib.hid (Hh9.out.below hb11)
      have Hb11 := Lib.hid (Hb9.out.trans (hb11.mono Hb9.out.size))
      clear hb11 q0 q1 q2 q3 q4 q5 q6 q7 q8 g0 g1
      go_wp2_with fail
      refine (Hfrs.out _ Hh11.out).mono ?_
      rintro e w12 ⟨A12, c12, rfl, hb12⟩
      have Hb12 := Lib.hid (Hb11.out.trans (hb12.mono Hb11.out.size))
      clear hb12
      go_wp2_with fail
      refine (HLen0.out _).mono ?_
      rintro e w13 ⟨rfl, rfl⟩
      go_wp2_with fail
      go_ret
      exact ⟨rfl, Hb12.out⟩
  have HS := Lib.hid (Hst0.out htk)
  have htz : ((t : Int) == (k : Int)) = false := by rw [beq_eq_false_iff_ne]; omega
  clear Hst0
  go_wp2_with fail
  refine wp_region_held_drew (S := fun W => MoX w.heap.size #[.int .u8 (k : Nat), .int .u32 (y1 : Nat), .int .u8 (y2 : Nat), .slice y3 y4 y5, .int .u8 (y7 : Nat), .int .u8 (y8 : Nat), .int .u16 (y9 : Nat), .int .u16 (y10 : Nat), .slice y11 y12 y13] sr sm W) (by kernel_rfl) hd0 (fun _ => ?_)
  refine tkH 0 (by simp only [tkA]; rfl) (by kernel_rfl) (by exact fun _ _ _ h => h) (by rfl) (by intro W hW; go_simp <;> with_reducible rfl) hd0 ?_
  try simp only [Act.put, tkT, tk0, tkS]
  refine tkH 1 (by simp only [tkA, tkG]; rfl) (by kernel_rfl) (by exact fun _ _ _ h => h) (by rfl) (by intro W hW; go_simp <;> with_reducible rfl) hd0 ?_
  try simp only [Act.put, tkT, tk0, tkS]
  refine tkH 2 (by simp only [tkA, tkG]; rfl) (by kernel_rfl) (by exact fun _ _ _ h => h) (by rfl) (by intro W hW; go_simp <;> with_reducible rfl) hd0 ?_
  try simp only [Act.put, tkT, tk0, tkS]
  refine tkH 4 (by simp only [tkA, tkG]; rfl) (by kernel_rfl) (by exact fun _ _ _ h => h) (by rfl) (by intro W hW; go_simp <;> with_reducible rfl) hd0 ?_
  try simp only [Act.put, tkT, tk0, tkS]
  refine tkH 5 (by simp only [tkA, tkG]; rfl) (by kernel_rfl) (by exact fun _ _ _ h => h) (by rfl) (by intro W hW; go_simp <;> with_reducible rfl) hd0 ?_
  try simp only [Act.put, tkT, tk0, tkS]
  refine tkH 6 (by simp only [tkA, tkG]; rfl) (by kernel_rfl) (by exact fun _ _ _ h => h) (by rfl) (by intro W hW; go_simp <;> with_reducible rfl) hd0 ?_
  try simp only [Act.put, tkT, tk0, tkS]
  refine tkH 7 (by simp only [tkA, tkG]; rfl) (by kernel_rfl) (by exact fun _ _ _ h => h) (by rfl) (by intro W hW; go_simp <;> with_reducible rfl) hd0 ?_
  try simp only [Act.put, tkT, tk0, tkS]
  refine tkH 8 (by simp only [tkA, tkG]; rfl) (by kernel_rfl) (by exact fun _ _ _ h => h) (by rfl) (by intro W hW; go_simp <;> with_reducible rfl) hd0 ?_
  try simp only [Act.put, tkT, tk0, tkS]
  refine clH 3 (by kernel_rfl) (by simp only [tkA, tkG]; rfl) (fun K hK => ?_)
  go_simp
  refine (HS.out _).mono ?_
  rintro e w5 ⟨rfl, hb5⟩
  have hX5 := hd0.below hb5
  have Hh5 := Lib.hid ((hh.below (Below.refl _ _).drew).below hb5)
  have Hw5 := Lib.hid ((Below.refl w4.heap.size w4).drew.trans hb5)
  have Hb5 := Lib.hid (Hb4.out.trans (Hw5.out.mono Hb4.out.size))
  clear hb5 hd0 hh
  go_wp2_with fail
  refine hK.out _ _ hX5 (fun _ => ?_)
  clear hK K
  refine tkH 9 (by simp only [tkA, tkG]; rfl) (by kernel_rfl) (by exact fun _ _ _ h => h) (by rfl) (by intro W hW; go_simp <;> with_reducible rfl) hX5 ?_
  try simp only [Act.put, tkT, tk0, tkS]
  refine wpAnyH_done (by kernel_rfl) ?_ _
  have q0 := r0 _ hX5
  have q1 := r1 _ hX5
  have q2 := r2 _ hX5
  have q3 := r3 _ hX5
  have q4 := r4 _ hX5
  have q5 := r5 _ hX5
  have q6 := r6 _ hX5
  have q7 := r7 _ hX5
  have q8 := r8 _ hX5
  have g0 := m0 _ hX5
  have g1 := m1 _ hX5
  clear r0 r1 r2 r3 r4 r5 r6 r7 r8 m0 m1
  have HMX := Lib.hid hX5
  clear hX5
  go_wp2_with fail
  refine (Hyes.out _ Hh5.out Hw5.out).mono ?_
  rintro e w6 ⟨rfl, hh6, ha6⟩
  have hX6 := HMX.out.apart ha6 hNb
  have Hh6 := Lib.hid hh6
  have Hb6 := Lib.hid (Hb5.out.trans ((ha6.below (B := w.heap.size) Hb5.out.size (fun q e => by omega)) ))
  have q0' := cell_at hX6.1 0 rfl
  have q1' := cell_at hX6.1 1 rfl
  have q2' := cell_at hX6.1 2 rfl
  have q3' := cell_at hX6.1 3 rfl
  have q4' := cell_at hX6.1 4 rfl
  have q5' := cell_at hX6.1 5 rfl
  have q6' := cell_at hX6.1 6 rfl
  have q7' := cell_at hX6.1 7 rfl
  have q8' := cell_at hX6.1 8 rfl
  have HMX6 := Lib.hid hX6
  clear hX6 hh6 ha6 HMX
  go_wp2_with fail
  refine (Hno.out _ Hh6.out).mono ?_
  rintro e w9 ⟨rfl, hb9⟩
  have Hh9 := Lib.hid (Hh6.out.below hb9)
  have Hb9 := Lib.hid (Hb6.out.trans (hb9.mono Hb6.out.size))
  have hX9 := HMX6.out.below hb9
  clear hb9 HMX6 q0' q1' q2' q3' q4' q5' q6' q7' q8'
  clear q0 q1 q2 q3 q4 q5 q6 q7 q8 g0 g1 Hyes Hno
  have q0 := cell_at hX9.1 0 rfl
  have q1 := cell_at hX9.1 1 rfl
  have q2 := cell_at hX9.1 2 rfl
  have q3 := cell_at hX9.1 3 rfl
  have q4 := cell_at hX9.1 4 rfl
  have q5 := cell_at hX9.1 5 rfl
  have q6 := cell_at hX9.1 6 rfl
  have q7 := cell_at hX9.1 7 rfl
  have q8 := cell_at hX9.1 8 rfl
  have g0 := cell_at hX9.2 0 rfl
  have g1 := cell_at hX9.2 1 rfl
  clear hX9
  by_cases hst : (y1, y2) = (sr, sm)
  case pos =>
    obtain ⟨rfl, rfl⟩ := Prod.mk.inj hst
    rw [if_pos rfl] at Hmem Hfrs
    rw [show (MbrP.lst (MbrP.withT 0 (k : Int))).length = 1 by rw [(one_fin ⟨k, hk7⟩).1]; rfl] at Hfrs
    generalize MbrP.withT 0 (k : Int) = z at *
    have HL := Lib.hid (fun o : Obj => (Below.refl w9.heap.size w9).alloc (Nat.le_refl _) o)
    have HIn := Lib.hid (ilits_in w9 w9.heap.size rfl [(k : Int)])
    clear hst
    go_wp2_with fail
    refine (HOf.out _ _ _ HIn.out).mono ?_
    rintro e w10 ⟨rfl, m10, rfl⟩
    have hb10 := below_drewNc (HL.out (.cells #[.int .i64 (k : Nat)] 3)) m10
    have Hh10 := Lib.hid (Hh9.out.below hb10)
    have Hb10 := Lib.hid (Hb9.out.trans (hb10.mono Hb9.out.size))
    clear hb10 HIn HL HOf q0 q1 q2 q3 q4 q5 q6 q7 q8 g0 g1
    go_wp2_with fail
    refine (Hmem.out _ Hh10.out).mono ?_
    rintro e w11 ⟨rfl, hb11⟩
    have Hh11 := Lib.hid (Hh10.out.below hb11)
    have Hb11 := Lib.hid (Hb10.out.trans (hb11.mono Hb10.out.size))
    clear hb11
    go_wp2_with fail
    refine (Hfrs.out _ Hh11.out).mono ?_
    rintro e w12 ⟨A12, c12, rfl, hb12⟩
    have Hb12 := Lib.hid (Hb11.out.trans (hb12.mono Hb11.out.size))
    clear hb12
    go_wp2_with fail
    refine (HLen.out _).mono ?_
    rintro e w13 ⟨rfl, rfl⟩
    go_wp2_with fail
    go_ret
    exact ⟨rfl, Hb12.out⟩
  rw [if_neg hst] at Hmem Hfrs
  rw [show (MbrP.lst 0).length = 0 from rfl] at Hfrs
  have hst2 : ¬ (y1 = sr ∧ y2 = sm) := fun h => hst (by rw [h.1, h.2])
  have hst3 : (y1 = sr ∧ ¬ y2 = sm) ∨ ¬ y1 = sr := by
    by_cases h : y1 = sr
    · exact .inl ⟨h, fun h3 => hst2 ⟨h, h3⟩⟩
    · exact .inr h
  clear hst hst2
  have hst4 : ((y1 : Int) == (sr : Int)) = false ∨ (((y1 : Int) == (sr : Int)) = true ∧ ((y2 : Int) == (sm : Int)) = false) := by
    rcases hst3 with ⟨h1, h2⟩ | h1
    · exact .inr ⟨by rw [beq_iff_eq]; omega, by rw [beq_eq_false_iff_ne]; omega⟩
    · exact .inl (by rw [beq_eq_false_iff_ne]; omega)
  rcases hst3 with ⟨rfl, hne⟩ | hne
  all_goals
    go_wp2_with fail
    refine (Hmem.out _ Hh9.out).mono ?_
    rintro e w11 ⟨rfl, hb11⟩
    have Hh11 := Lib.hid (Hh9.out.below hb11)
    have Hb11 := Lib.hid (Hb9.out.trans (hb11.mono Hb9.out.size))
    clear hb11 q0 q1 q2 q3 q4 q5 q6 q7 q8 g0 g1
    go_wp2_with fail
    refine (Hfrs.out _ Hh11.out).mono ?_
    rintro e w12 ⟨A12, c12, rfl, hb12⟩
    have Hb12 := Lib.hid (Hb11.out.trans (hb12.mono Hb11.out.size))
    clear hb12
    go_wp2_with fail
    refine (HLen0.out _).mono ?_
    rintro e w13 ⟨rfl, rfl⟩
    go_wp2_with fail
    go_ret
    exact ⟨rfl, Hb12.out⟩
end Go.Proofs.Ytkahecdnmeofkaa
