/- Contracts of letters.sum and digest.Of at bytes in memory. Conditions: where the bytes lie. -/
import Derived.Test.YtpabgkmjhcmonaaDigI
namespace Go.Proofs.Ytpabgkmjhcmonaa
open Go.RowKit
set_option maxRecDepth 100000

theorem out_at (r : DigP.Reg) {k : Nat} (hk : k < 32) : ∃ x, r.list[k / 4]? = some x ∧ (DigP.outT r)[k]? = some (UInt8.ofNat (x / 2 ^ (24 - k % 4 * 8))) := by
  obtain ⟨r0, r1, r2, r3, r4, r5, r6, r7⟩ := r
  have h : k = 0 ∨ k = 1 ∨ k = 2 ∨ k = 3 ∨ k = 4 ∨ k = 5 ∨ k = 6 ∨ k = 7 ∨ k = 8 ∨ k = 9 ∨ k = 10 ∨ k = 11 ∨ k = 12 ∨ k = 13 ∨ k = 14 ∨ k = 15 ∨ k = 16 ∨ k = 17 ∨ k = 18 ∨ k = 19 ∨ k = 20 ∨ k = 21 ∨ k = 22 ∨ k = 23 ∨ k = 24 ∨ k = 25 ∨ k = 26 ∨ k = 27 ∨ k = 28 ∨ k = 29 ∨ k = 30 ∨ k = 31 := by omega
  rcases h with rfl | rfl | rfl | rfl | rfl | rfl | rfl | rfl | rfl | rfl | rfl | rfl | rfl | rfl | rfl | rfl | rfl | rfl | rfl | rfl | rfl | rfl | rfl | rfl | rfl | rfl | rfl | rfl | rfl | rfl | rfl | rfl
  all_goals
    refine ⟨_, rfl, ?_⟩
    simp only [DigP.outT, DigP.be4, DigP.Reg.list, List.flatMap_cons, List.flatMap_nil, List.cons_append, List.nil_append, List.getElem?_cons_succ, List.getElem?_cons_zero, Nat.reduceMod, Nat.reduceMul, Nat.reduceSub, Nat.reducePow, Nat.div_one]
theorem byte_of (x e : Nat) : (x : Int) / 2 ^ e % 256 = (((UInt8.ofNat (x / 2 ^ e)).toNat : Nat) : Int) := by
  have e2 : ((2 : Int) ^ e) = ((2 ^ e : Nat) : Int) := by simp
  have e3 : (UInt8.ofNat (x / 2 ^ e)).toNat = x / 2 ^ e % 256 := by simp
  rw [e3, e2]
  generalize 2 ^ e = q
  rfl

/-- While sum works. -/
structure SuR (w : World) (r : DigP.Reg) (k : Nat) (W : World) : Prop where
  box : ArrIn W w.heap.size 42 (u32V r.list)
  out : ArrIn W (w.heap.size + 1) 25 (bytesV (List.replicate 32 0))
  row : ArrIn W (w.heap.size + 2) 25 (bytesV ((DigP.outT r).take k ++ (List.replicate 32 0).drop k))
  below : Below w.heap.size w W
theorem SuR.start (w : World) (r : DigP.Reg) : SuR w r 0 (((w.alloc (.cells (u32V r.list).toArray 42)).alloc (.cells (bytesV (List.replicate 32 0)).toArray 25)).alloc (.cells (bytesV (List.replicate 32 0)).toArray 25)) := by
  have b1 : Below w.heap.size w (w.alloc (.cells (u32V r.list).toArray 42)) := (Below.refl _ _).alloc (Nat.le_refl _) _
  have a1 := ArrIn.new w (u32V r.list) 42
  have s1 : (w.alloc (.cells (u32V r.list).toArray 42)).heap.size = w.heap.size + 1 := World.size_alloc _ _
  generalize w.alloc (.cells (u32V r.list).toArray 42) = w1 at *
  have b2 := (Below.refl w1.heap.size w1).alloc (Nat.le_refl _) (.cells (bytesV (List.replicate 32 0)).toArray 25)
  have a2 := ArrIn.new w1 (bytesV (List.replicate 32 0)) 25
  have s2 : (w1.alloc (.cells (bytesV (List.replicate 32 0)).toArray 25)).heap.size = w1.heap.size + 1 := World.size_alloc _ _
  generalize w1.alloc (.cells (bytesV (List.replicate 32 0)).toArray 25) = w2 at *
  have b3 := (Below.refl w2.heap.size w2).alloc (Nat.le_refl _) (.cells (bytesV (List.replicate 32 0)).toArray 25)
  have a3 := ArrIn.new w2 (bytesV (List.replicate 32 0)) 25
  generalize w2.alloc (.cells (bytesV (List.replicate 32 0)).toArray 25) = w3 at *
  rw [s1] at a2 s2 b2
  rw [s2] at a3 b3
  exact ⟨(a1.keep b2 (by omega)).keep b3 (by omega), a2.keep b3 (by omega), a3, (b1.trans (b2.mono (by omega))).trans (b3.mono (by omega))⟩

set_option maxHeartbeats 1000000 in
theorem sum32_any (r : DigP.Reg) (w : World) :
    Calls Try.prog 16 #[.agg (u32V r.list).toArray] w fun e w' => e = .returned (.agg (bytesV (DigP.outT r)).toArray) ∧ Below w.heap.size w w' := by
  have HS := Lib.hid (SuR.start w r)
  generalize hL0 : u32V r.list = L at HS ⊢
  clear hL0
  go_enter Try.func16, Try.ntmps16
  go_wp2_with fail
  go_loopw [5] (fun i W => ∃ k, k ≤ 32 ∧ i = .int .i64 (k : Nat) ∧ SuR w r k W) (fun i _ => (33 - intOf i).toNat)
  case atStart => exact ⟨0, by omega, rfl, HS.out⟩
  case round =>
    clear HS
    obtain ⟨k, hk, rfl, hr⟩ := hrel
    by_cases hlt : k < 32
    case pos =>
      obtain ⟨x, hx, hox⟩ := out_at r hlt
      have hcx : wr.cell? ⟨w.heap.size, k / 4, none⟩ = some (.int .u32 (x : Nat)) := hr.box.cell (u32V_get hx)
      have hc0 : wr.cell? ⟨w.heap.size + 1 + 1, k, none⟩ = some (.int .u8 0) := hr.row.cell (bytesV_get (c := 0) (mix_at (by rw [List.getElem?_replicate, if_pos hlt]) (by rw [DigP.out_len, List.length_replicate])))
      have hf0 : wr.frozen? ⟨w.heap.size + 1 + 1, k, none⟩ = false := hr.row.free k
      have HN : Hid (SuR w r (k + 1) (wr.setCell ⟨w.heap.size + 2, k, none⟩ (.int .u8 ((UInt8.ofNat (x / 2 ^ (24 - k % 4 * 8))).toNat : Nat)))) := Lib.hid (by
        have h4 := hr.row.set k (.int .u8 ((UInt8.ofNat (x / 2 ^ (24 - k % 4 * 8))).toNat : Nat))
        rw [bytesV_set, take_set (R := List.replicate 32 0) hox (by rw [DigP.out_len, List.length_replicate])] at h4
        have ha : Apart (fun b => b = w.heap.size + 2) wr (wr.setCell ⟨w.heap.size + 2, k, none⟩ (.int .u8 ((UInt8.ofNat (x / 2 ^ (24 - k % 4 * 8))).toNat : Nat))) := Apart.setCell (F := fun b => b = w.heap.size + 2) (Apart.refl _ wr) (p := ⟨w.heap.size + 2, k, none⟩) (.inl rfl) _
        exact ⟨hr.box.apart ha (by omega), hr.out.apart ha (by omega), h4, hr.below.setCell (by simp) _⟩)
      obtain ⟨e, he⟩ : ∃ e, 24 - k % 4 * 8 = e := ⟨_, rfl⟩
      rw [he] at HN
      have i1 : IntKind.i64.wrap (24 - IntKind.i64.wrap ((k : Int) % 4 * 8)) = (e : Int) := by rw [IntWalk.i64_in ((k : Int) % 4 * 8) (by omega), IntWalk.i64_in _ (by omega)]; omega
      clear hr hx hox
      go_wp2_with fail
      have HN2 := HN.out
      rw [← byte_of] at HN2
      exact ⟨⟨k + 1, by omega, rfl, HN2⟩, by simp [intOf]; omega⟩
    have hk8 : k = 32 := by omega
    have hki : (k : Int) = 32 := by omega
    have ha := hr.row
    rw [hk8, show (DigP.outT r).take 32 ++ (List.replicate 32 (0 : UInt8)).drop 32 = DigP.outT r from rfl] at ha
    have HA := Lib.hid ha
    have HZ := Lib.hid hr.out
    have hz2 := hr.out.setRow (bytesV (DigP.outT r))
    have hb2 : Below w.heap.size w (wr.setRow (w.heap.size + 1) (bytesV (DigP.outT r)).toArray) := hr.below.trans (setRow_below (by omega))
    have HZ2 := Lib.hid hz2
    have HB2 := Lib.hid hb2
    have HL : Hid ((bytesV (DigP.outT r)).length = 32) := Lib.hid (by rw [bytesV_length]; rfl)
    have HL1 := Lib.hid (bytesV_one (DigP.outT r))
    rw [hki]
    clear ha hr hz2 hb2 hk8 hki hk hlt
    generalize hM : bytesV (DigP.outT r) = M at *
    have HM := Lib.hid hM
    clear hM
    go_upto_region 7 with (fail)
    refine wp_region_lit ?_
    refine wpList_load_row rfl _ (.tmp 3) rfl (w.heap.size + 2) rfl _ M.toArray (0, 0) _ HA.out Try.underlying25 rfl (by simp only [List.size_toArray, HL.out]; kernel_rfl) ?_
    refine wpList_store_row rfl _ (.tmp 2) (.tmp 21) rfl (w.heap.size + 1) M.toArray rfl rfl _ _ HZ.out (by simp only [List.size_toArray, HL.out]; kernel_rfl) (by simp only [List.size_toArray, HL.out, bytesV_length]; rfl) (all_oneCell_toArray HL1.out) (wpList_nil ?_)
    generalize wr.setRow (w.heap.size + 1) M.toArray = w2 at *
    go_wp2_with fail
    show bodyPost _ _ _ _ _ _
    refine bodyPost_ret (v := .agg M.toArray) (results_cell_row rfl _ _ _ _ _ (0, 0) _ rfl HZ2.out Try.underlying25 rfl (by simp only [List.size_toArray, HL.out]; kernel_rfl)) rfl ⟨by rw [HM.out], HB2.out⟩

theorem zeros_one : (u64V (List.replicate 64 0)).toArray.size = 64 := by rw [List.size_toArray]; rfl

set_option maxHeartbeats 4000000 in
theorem of_any (l : List UInt8) (A : Option Addr) (n cap : Nat) (hl : l.length = n) (hcap : n ≤ cap) (hcb : cap ≤ 9223372036854775807) (hn : n ≤ 1000000000000) (w : World) (h : Bytes w w.heap.size A l) :
    Calls Try.prog 8 #[.slice A n cap] w fun e w' => e = .returned (.agg (bytesV (DigP.ofT l)).toArray) ∧ Below w.heap.size w w' := by
  have HP := Lib.hid primes_any
  have HLp := Lib.hid (show (u64V DigP.primesT).length = 64 from rfl)
  have HLp1 := Lib.hid (u64V_one DigP.primesT)
  have HC := Lib.hid cubes_any
  have HSq := Lib.hid squares_any
  have HH := Lib.hid h
  have Hl := Lib.hid hl
  have Hcap := Lib.hid hcap
  have Hcb := Lib.hid hcb
  have HN := Lib.hid hn
  clear h hl hcap hcb hn
  go_enter Try.func8, Try.ntmps8
  go_upto_region 1 with (fail)
  show Code.wp _ _ _ _ (w.alloc (.cells (bytesV (List.replicate 32 0)).toArray 25))
  have hr1 := ArrIn.new w (bytesV (List.replicate 32 0)) 25
  have hb1 : Below w.heap.size w (w.alloc (.cells (bytesV (List.replicate 32 0)).toArray 25)) := (Below.refl _ _).alloc (Nat.le_refl _) _
  generalize w.alloc (.cells (bytesV (List.replicate 32 0)).toArray 25) = w1 at *
  have HR1 := Lib.hid hr1
  have HB1 := Lib.hid hb1
  clear hr1 hb1
  generalize u64V DigP.primesT = L at HP HC HSq HLp HLp1
  have HKv := Lib.hid (show (u32V DigP.ks).length = 64 from rfl)
  have HKv1 := Lib.hid (u32V_one DigP.ks)
  have HSv := Lib.hid (show (u32V DigP.Reg.start.list).length = 8 from rfl)
  have HSv1 := Lib.hid (u32V_one DigP.Reg.start.list)
  go_wp2_with fail
  rename_i hKK
  refine (HP.out _).mono ?_
  rintro e w2 ⟨rfl, hb2⟩
  refine hKK _ _ ?_
  clear hKK
  refine wpList_new_arr rfl rfl _ (.tmp 3) (.tmp 6) rfl rfl 64 (u64V (List.replicate 64 0)).toArray L.toArray (by kernel_rfl) zeros_one (by rw [List.size_toArray]; exact HLp.out) rfl rfl (all_oneCell_toArray HLp1.out) ?_
  refine wpList_nil ?_
  have HR2 : Hid (ArrIn (w2.alloc (.cells L.toArray 35)) w.heap.size 25 (bytesV (List.replicate 32 0)) ∧ Below w.heap.size w (w2.alloc (.cells L.toArray 35)) ∧ ArrIn (w2.alloc (.cells L.toArray 35)) w2.heap.size 35 L ∧ w.heap.size ≤ w2.heap.size) := Lib.hid (by
    have h1 := HR1.out.keep hb2 HR1.out.lt
    have h2 := HB1.out.trans (hb2.mono HB1.out.size)
    exact ⟨h1.keep ((Below.refl _ _).alloc (Nat.le_refl _) _) h1.lt, h2.alloc h2.size _, ArrIn.new w2 L _, h2.size⟩)
  clear HR1 HB1 hb2 HP
  generalize w2.heap.size = bp at *
  generalize w2.alloc (.cells L.toArray 35) = w3 at *
  go_upto_region 2 with (fail)
  refine wp_region_lit ?_
  refine wpList_load_row rfl _ (.tmp 3) rfl bp rfl _ L.toArray (0, 0) _ HR2.out.2.2.1 Try.underlying35 rfl (by simp only [List.size_toArray, HLp.out]; kernel_rfl) ?_
  go_wp2_with fail
  rename_i hKK
  refine (HC.out _).mono ?_
  rintro e w4 ⟨rfl, hb4⟩
  refine hKK _ _ ?_
  clear hKK
  refine wpList_new_arr rfl rfl _ (.tmp 4) (.tmp 8) rfl rfl 64 (u32V (List.replicate 64 0)).toArray (u32V DigP.ks).toArray (by kernel_rfl) rfl (by rw [List.size_toArray]; exact HKv.out) rfl rfl (all_oneCell_toArray HKv1.out) ?_
  refine wpList_nil ?_
  have HR4 : Hid (ArrIn (w4.alloc (.cells (u32V DigP.ks).toArray 39)) w.heap.size 25 (bytesV (List.replicate 32 0)) ∧ Below w.heap.size w (w4.alloc (.cells (u32V DigP.ks).toArray 39)) ∧ ArrIn (w4.alloc (.cells (u32V DigP.ks).toArray 39)) bp 35 L ∧ ArrIn (w4.alloc (.cells (u32V DigP.ks).toArray 39)) w4.heap.size 39 (u32V DigP.ks) ∧ w.heap.size ≤ w4.heap.size) := Lib.hid (by
    obtain ⟨h1, h2, h3, h4⟩ := HR2.out
    have h5 := h1.keep hb4 h1.lt
    have h6 := h3.keep hb4 h3.lt
    have h7 := h2.trans (hb4.mono h2.size)
    exact ⟨h5.keep ((Below.refl _ _).alloc (Nat.le_refl _) _) h5.lt, h7.alloc h7.size _, h6.keep ((Below.refl _ _).alloc (Nat.le_refl _) _) h6.lt, ArrIn.new w4 _ _, h7.size⟩)
  clear HR2 hb4 HC
  generalize w4.heap.size = bk at *
  generalize w4.alloc (.cells (u32V DigP.ks).toArray 39) = w5 at *
  go_upto_region 3 with (fail)
  refine wp_region_lit ?_
  refine wpList_load_row rfl _ (.tmp 3) rfl bp rfl _ L.toArray (0, 0) _ HR4.out.2.2.1 Try.underlying35 rfl (by simp only [List.size_toArray, HLp.out]; kernel_rfl) ?_
  go_wp2_with fail
  rename_i hKK
  refine (HSq.out _).mono ?_
  rintro e w6 ⟨rfl, hb6⟩
  refine hKK _ _ ?_
  clear hKK
  refine wpList_new_arr rfl rfl _ (.tmp 5) (.tmp 10) rfl rfl 8 (u32V (List.replicate 8 0)).toArray (u32V DigP.Reg.start.list).toArray (by kernel_rfl) rfl (by rw [List.size_toArray]; exact HSv.out) rfl rfl (all_oneCell_toArray HSv1.out) ?_
  refine wpList_nil ?_
  have HR6 : Hid (ArrIn (w6.alloc (.cells (u32V DigP.Reg.start.list).toArray 42)) w.heap.size 25 (bytesV (List.replicate 32 0)) ∧ Below w.heap.size w (w6.alloc (.cells (u32V DigP.Reg.start.list).toArray 42)) ∧ ArrIn (w6.alloc (.cells (u32V DigP.Reg.start.list).toArray 42)) w6.heap.size 42 (u32V DigP.Reg.start.list) ∧ ArrIn (w6.alloc (.cells (u32V DigP.Reg.start.list).toArray 42)) bk 39 (u32V DigP.ks) ∧ w.heap.size ≤ w6.heap.size) := Lib.hid (by
    obtain ⟨h1, h2, h3, h4, h0⟩ := HR4.out
    have h5 := h1.keep hb6 h1.lt
    have h6 := h4.keep hb6 h4.lt
    have h7 := h2.trans (hb6.mono h2.size)
    exact ⟨h5.keep ((Below.refl _ _).alloc (Nat.le_refl _) _) h5.lt, h7.alloc h7.size _, ArrIn.new w6 _ _, h6.keep ((Below.refl _ _).alloc (Nat.le_refl _) _) h6.lt, h7.size⟩)
  clear HR4 hb6 HSq HLp HLp1 HKv HKv1 HSv HSv1
  generalize w6.heap.size = bh at *
  generalize w6.alloc (.cells (u32V DigP.Reg.start.list).toArray 42) = w7 at *
  have hpl : (DigP.padT l).length = n + 9 + DigP.lackT n ∧ (DigP.padT l).length % 64 = 0 := by
    have := DigP.pad_len l
    rw [Hl.out] at this
    exact this
  have hpre : ((DigP.padT l).drop (64 * 0)).take n = l := by
    unfold DigP.padT
    rw [Nat.mul_zero, List.drop_zero, ← Hl.out, List.take_left]
  have Hpl := Lib.hid hpl
  have HT1 := Lib.hid (takeAll_any bh bk (DigP.padT l) 0 A n cap Hcap.out Hcb.out (by omega) w7 HR6.out.2.2.1 HR6.out.2.2.2.1 (by rw [hpre]; exact (HH.out.below HR6.out.2.1 (Nat.le_refl _)).more HR6.out.2.1.size))
  clear hpl hpre
  go_wp2_with fail
  refine HT1.out.mono ?_
  rintro e w8 ⟨rfl, hh8, ha8⟩
  have HR8 : Hid (ArrIn w8 w.heap.size 25 (bytesV (List.replicate 32 0)) ∧ Below w.heap.size w w8 ∧ ArrIn w8 bh 42 (u32V (DigP.blocksT (DigP.padT l) (n / 64)).list) ∧ ArrIn w8 bk 39 (u32V DigP.ks) ∧ w.heap.size ≤ bh) := Lib.hid (by
    obtain ⟨h1, h2, h3, h4, h5⟩ := HR6.out
    rw [Nat.zero_add] at hh8
    have n1 : w.heap.size ≠ bh := by
      rintro e
      have h9 := h3
      rw [← e] at h9
      have := h1.symm.trans h9
      simp only [Option.some.injEq, Obj.cells.injEq] at this
      exact absurd this.2.1 (by decide)
    have n2 : bk ≠ bh := by
      rintro rfl
      have := h4.symm.trans h3
      simp only [Option.some.injEq, Obj.cells.injEq] at this
      exact absurd this.2.1 (by decide)
    exact ⟨h1.apart ha8 n1, h2.trans (ha8.below h2.size (fun k hk => by subst hk; exact h5)), hh8, h4.apart ha8 n2, h5⟩)
  clear HT1 HR6 hh8 ha8
  have HE := Lib.hid (end_any l A n cap Hl.out Hcap.out HN.out w8 ((HH.out.below HR8.out.2.1 (Nat.le_refl _)).more HR8.out.2.1.size))
  go_wp2_with fail
  refine HE.out.mono ?_
  rintro e w9 ⟨m, rfl, hm, hby, hb9⟩
  have HT2 := Lib.hid (takeAll_any bh bk (DigP.padT l) (n / 64) (some ⟨w8.heap.size, 0, none⟩) m m (Nat.le_refl _) (by have := Hpl.out.1; have := HN.out; have := (DigP.lack_is n).2; omega) (by omega) w9 (HR8.out.2.2.1.keep hb9 HR8.out.2.2.1.lt) (HR8.out.2.2.2.1.keep hb9 HR8.out.2.2.2.1.lt) (by rw [List.take_of_length_le (by rw [List.length_drop]; omega)]; exact hby))
  have Hq : Hid (n / 64 + m / 64 = (DigP.padT l).length / 64) := Lib.hid (by have := Hpl.out.2; omega)
  have HB9 := Lib.hid hb9
  clear hm hby HE hb9
  go_wp2_with fail
  refine HT2.out.mono ?_
  rintro e w10 ⟨rfl, hh10, ha10⟩
  have HR10 : Hid (ArrIn w10 w.heap.size 25 (bytesV (List.replicate 32 0)) ∧ Below w.heap.size w w10 ∧ ArrIn w10 bh 42 (u32V (DigP.blocksT (DigP.padT l) ((DigP.padT l).length / 64)).list)) := Lib.hid (by
    obtain ⟨h1, h2, h3, h4, h5⟩ := HR8.out
    rw [Hq.out] at hh10
    have hb9 := HB9.out
    have n1 : w.heap.size ≠ bh := by
      rintro e
      have h9 := h3
      rw [← e] at h9
      have := h1.symm.trans h9
      simp only [Option.some.injEq, Obj.cells.injEq] at this
      exact absurd this.2.1 (by decide)
    have h6 := h2.trans (hb9.mono h2.size)
    exact ⟨(h1.keep hb9 h1.lt).apart ha10 n1, h6.trans (ha10.below h6.size (fun k hk => by subst hk; exact h5)), hh10⟩)
  clear HT2 HR8 HB9 hh10 ha10 Hq Hpl
  have HOf : Hid (DigP.ofT l = DigP.outT (DigP.blocksT (DigP.padT l) ((DigP.padT l).length / 64))) := Lib.hid rfl
  generalize DigP.blocksT (DigP.padT l) ((DigP.padT l).length / 64) = r at HR10 HOf
  have HSu := Lib.hid (sum32_any r w10)
  have HU := Lib.hid (show (u32V r.list).length = 8 from rfl)
  have HAr := Lib.hid HR10.out.2.2
  generalize u32V r.list = M at HAr HSu HU
  go_upto_region 6 with (fail)
  refine wp_region_lit ?_
  refine wpList_load_row rfl _ (.tmp 5) rfl bh rfl _ M.toArray (0, 0) _ HAr.out Try.underlying42 rfl (by simp only [List.size_toArray, HU.out]; kernel_rfl) ?_
  go_wp2_with fail
  rename_i hKK
  refine HSu.out.mono ?_
  rintro e w11 ⟨rfl, hb11⟩
  refine hKK _ _ ?_
  clear hKK
  have hz : ArrIn w11 w.heap.size 25 (bytesV (List.replicate 32 0)) := HR10.out.1.keep hb11 HR10.out.1.lt
  have hb12 : Below w.heap.size w w11 := HR10.out.2.1.trans (hb11.mono HR10.out.2.1.size)
  have HLo : Hid ((bytesV (DigP.outT r)).length = 32) := Lib.hid (by rw [bytesV_length]; rfl)
  have HLo1 := Lib.hid (bytesV_one (DigP.outT r))
  have HOf2 : Hid (bytesV (DigP.ofT l) = bytesV (DigP.outT r)) := Lib.hid (by rw [HOf.out])
  have hz2 := hz.setRow (bytesV (DigP.outT r))
  have hb13 : Below w.heap.size w (w11.setRow w.heap.size (bytesV (DigP.outT r)).toArray) := hb12.trans (setRow_below (Nat.le_refl _))
  have HZ := Lib.hid hz
  have HZ2 := Lib.hid hz2
  have HB := Lib.hid hb13
  clear hz hz2 hb12 hb13 hb11 HOf
  generalize bytesV (DigP.outT r) = O at *
  refine wpList_store_row rfl _ (.tmp 2) (.tmp 17) rfl w.heap.size O.toArray rfl rfl _ _ HZ.out (by simp only [List.size_toArray, HLo.out]; kernel_rfl) (by simp only [List.size_toArray, HLo.out, bytesV_length]; rfl) (all_oneCell_toArray HLo1.out) (wpList_nil ?_)
  generalize w11.setRow w.heap.size O.toArray = w12 at *
  go_wp2_with fail
  show bodyPost _ _ _ _ _ _
  refine bodyPost_ret (v := .agg O.toArray) (results_cell_row rfl _ _ _ _ _ (0, 0) _ rfl HZ2.out Try.underlying25 rfl (by simp only [List.size_toArray, HLo.out]; kernel_rfl)) rfl ⟨by rw [HOf2.out], HB.out⟩
end Go.Proofs.Ytpabgkmjhcmonaa
