/- Contracts of letters.take and letters.takeAll at bytes in memory. Conditions: where the bytes lie. -/
import Derived.Test.YtpabgkmjhcmonaaDigF
namespace Go.Proofs.Ytpabgkmjhcmonaa
open Go.RowKit
set_option maxRecDepth 100000

section
variable {P : Program}
/-- A new variable of an array type, and a value laid into it. -/
theorem wpList_new_arr {ops : Array Oper} {rest : List Oper} {o1 o2 : Oper} {a : Act} {w : World} {Q : Exit → Act → World → Prop} (g1 : o1.guard = none) (g2 : o2.guard = none) (ty : TypeId) (x y : Operand)
    (h1 : o1.op = .alloc ty) (h2 : o2.op = .store ty x y) (N : Nat) (zs cs : Array Value) (hz : (P.info? ty).map (fun i => (i.zero, i.size)) = some (some (.agg zs), N)) (hzs : zs.size = N) (hcs : cs.size = N)
    (hx : (a.put o1.dst (.pointer (some ⟨w.heap.size, 0, none⟩))).eval x = .pointer (some ⟨w.heap.size, 0, none⟩)) (hy : (a.put o1.dst (.pointer (some ⟨w.heap.size, 0, none⟩))).eval y = .agg cs) (hone : cs.all (·.oneCell') = true)
    (h : wpList P ops Q rest ((a.put o1.dst (.pointer (some ⟨w.heap.size, 0, none⟩))).put o2.dst undef) (w.alloc (.cells cs ty))) : wpList P ops Q (o1 :: o2 :: rest) a w := by
  obtain ⟨hz1, hz2⟩ := zero_of_info hz
  refine wpList_plain g1 fun K hK => ?_
  unfold Oper.wp execOp
  simp only [h1, Instr.alloc, Sem.run_bind, hz1, Result.andThen_ok, Sem.run_pure, newVar, Value.cells]
  refine hK _ _ ?_
  refine wpList_store_row g2 ty x y h2 w.heap.size cs hx hy ty zs (heap_alloc_new w _) (by rw [hz2, hcs]) (by rw [hzs, hcs]) hone ?_
  have e : (w.alloc (.cells zs ty)).setRow w.heap.size cs = w.alloc (.cells cs ty) := World.setRow_alloc_new w zs cs ty
  rw [← e] at h
  exact h
end
/-- While take works: the registers, the steps' numbers, the letters. -/
structure TkR (w : World) (hb : Nat) (r : DigP.Reg) (kb B1 : Nat) (v : DigP.Reg) (W : World) : Prop where
  h : ArrIn W hb 42 (u32V r.list)
  k : ArrIn W kb 39 (u32V DigP.ks)
  l : ArrIn W B1 42 (u32V v.list)
  old : w.heap.size ≤ B1
  below : Below w.heap.size w W

theorem addR_at {r v : DigP.Reg} {k a x : Nat} (h1 : r.list[k]? = some a) (h2 : v.list[k]? = some x) : (DigP.addR r v).list[k]? = some ((a + x) % 4294967296) := by
  obtain ⟨r0, r1, r2, r3, r4, r5, r6, r7⟩ := r
  obtain ⟨v0, v1, v2, v3, v4, v5, v6, v7⟩ := v
  match k with
  | 0 | 1 | 2 | 3 | 4 | 5 | 6 | 7 => cases h1; cases h2; rfl
  | k + 8 => cases h1
theorem take_set {α : Type} {A R : List α} {k : Nat} {a : α} (hA : A[k]? = some a) (hl : A.length = R.length) : (A.take k ++ R.drop k).set k a = A.take (k + 1) ++ R.drop (k + 1) := by
  have hk := (List.getElem?_eq_some_iff.1 hA).1
  have e1 : (A.take k).length = k := by rw [List.length_take]; omega
  rw [List.set_append_right _ _ (by omega), e1, Nat.sub_self, List.drop_eq_getElem_cons (show k < R.length by omega), List.set_cons_zero, List.take_add_one, hA, List.append_assoc]
  rfl
theorem mix_at {α : Type} {A R : List α} {k : Nat} {a : α} (hR : R[k]? = some a) (hl : A.length = R.length) : (A.take k ++ R.drop k)[k]? = some a := by
  have hk := (List.getElem?_eq_some_iff.1 hR).1
  have e1 : (A.take k).length = k := by rw [List.length_take]; omega
  rw [List.getElem?_append_right (by omega), e1, Nat.sub_self, List.getElem?_drop, Nat.add_zero]
  exact hR
theorem u32V_get {l : List Nat} {k x : Nat} (h : l[k]? = some x) : (u32V l)[k]? = some (.int .u32 (x : Nat)) := by simp only [u32V, List.getElem?_map, h]; rfl
theorem u32V_set (l : List Nat) (k x : Nat) : (u32V l).set k (.int .u32 (x : Nat)) = u32V (l.set k x) := by simp [u32V, List.map_set]
theorem reg_len (r : DigP.Reg) : r.list.length = 8 := rfl
theorem arr_block {w1 : World} {cs : Array Value} {vs : List Value} {t : TypeId} (h : cs = vs.toArray) : ArrIn (w1.alloc (.cells cs t)) w1.heap.size t vs := by
  subst h
  exact ArrIn.new w1 vs t

set_option maxHeartbeats 4000000 in
theorem take_any (hb kb : Nat) (r : DigP.Reg) (hr : DigP.RegOk r) (g o cap : Nat) (hcap : 64 ≤ cap) (L : List UInt8) (at_ : Nat) (w : World) (hh : ArrIn w hb 42 (u32V r.list)) (hk : ArrIn w kb 39 (u32V DigP.ks)) (h : BlkIn w g o L at_) :
    Calls Try.prog 23 #[.pointer (some ⟨hb, 0, none⟩), .slice (some ⟨g, o, none⟩) 64 cap, .pointer (some ⟨kb, 0, none⟩)] w fun e w' => e = .returned (.tuple #[]) ∧ ArrIn w' hb 42 (u32V (DigP.blockT L at_ r).list) ∧ Apart (fun k => k = hb) w w' := by
  have HS := Lib.hid (spread_any g o cap hcap L at_ w h)
  have HH := Lib.hid hh
  have HK := Lib.hid hk
  have HRo := Lib.hid hr
  have hlen : (u32V (DigP.wordsT L at_ 64)).length = 64 := by rw [u32V_len]; exact DigP.words_len _ _ _
  have HBt : Hid (DigP.blockT L at_ r = DigP.addR r (DigP.roundsT (DigP.wordsT L at_ 64) r 64)) := Lib.hid rfl
  have HWx : Hid (∀ k, k < 64 → ∃ x, (u32V (DigP.wordsT L at_ 64))[k]? = some (.int .u32 (x : Nat)) ∧ (DigP.wordsT L at_ 64).getD k 0 = x ∧ x < 4294967296) := Lib.hid fun k hk => by
    obtain ⟨x, h1, h2, h3⟩ := DigP.words_get (b := L) (at_ := at_) hk
    exact ⟨x, by simp only [u32V, List.getElem?_map, h1]; rfl, h2, h3⟩
  have HLn := Lib.hid hlen
  have HL1 := Lib.hid (u32V_one (DigP.wordsT L at_ 64))
  generalize hwd : DigP.wordsT L at_ 64 = wd at *
  generalize hM : u32V wd = M at *
  obtain ⟨v, hv⟩ : ∃ v, DigP.roundsT wd r 64 = v := ⟨_, rfl⟩
  have HV := Lib.hid hv
  rw [hv] at HBt
  clear hv
  clear hh hk h hr hlen hwd hM
  go_enter Try.func23, Try.ntmps23
  go_wp2_with fail
  rename_i hKK
  refine HS.out.mono ?_
  rintro e w1 ⟨rfl, hb1⟩
  refine hKK _ _ ?_
  refine wpList_new_arr rfl rfl _ (.tmp 6) (.tmp 13) rfl rfl 64 (u32V (List.replicate 64 0)).toArray M.toArray (by kernel_rfl) rfl (by rw [List.size_toArray]; exact HLn.out) rfl rfl (all_oneCell_toArray HL1.out) ?_
  refine wpList_nil ?_
  have ha2 : ArrIn (w1.alloc (.cells M.toArray 39)) w1.heap.size 39 M := ArrIn.new w1 M _
  have hb2 : Below w.heap.size w (w1.alloc (.cells M.toArray 39)) := hb1.alloc hb1.size _
  have hsz : w.heap.size ≤ w1.heap.size := hb1.size
  have hsz2 : (w1.alloc (.cells M.toArray 39)).heap.size = w1.heap.size + 1 := World.size_alloc _ _
  generalize w1.alloc (.cells M.toArray 39) = w2 at *
  have hh2 := HH.out.keep hb2 HH.out.lt
  have hk2 := HK.out.keep hb2 HK.out.lt
  clear HS hb1
  obtain ⟨r0, r1, r2, r3, r4, r5, r6, r7⟩ := r
  have c0 : w2.cell? ⟨hb, 0, none⟩ = some (.int .u32 (r0 : Nat)) := hh2.cell rfl
  have c1 : w2.cell? ⟨hb, 1, none⟩ = some (.int .u32 (r1 : Nat)) := hh2.cell rfl
  have c2 : w2.cell? ⟨hb, 2, none⟩ = some (.int .u32 (r2 : Nat)) := hh2.cell rfl
  have c3 : w2.cell? ⟨hb, 3, none⟩ = some (.int .u32 (r3 : Nat)) := hh2.cell rfl
  have c4 : w2.cell? ⟨hb, 4, none⟩ = some (.int .u32 (r4 : Nat)) := hh2.cell rfl
  have c5 : w2.cell? ⟨hb, 5, none⟩ = some (.int .u32 (r5 : Nat)) := hh2.cell rfl
  have c6 : w2.cell? ⟨hb, 6, none⟩ = some (.int .u32 (r6 : Nat)) := hh2.cell rfl
  have c7 : w2.cell? ⟨hb, 7, none⟩ = some (.int .u32 (r7 : Nat)) := hh2.cell rfl
  go_upto_region 2 with (fail)
  clear c0 c1 c2 c3 c4 c5 c6 c7
  have hT : TkR w hb ⟨r0, r1, r2, r3, r4, r5, r6, r7⟩ kb (w1.heap.size + 1) ⟨r0, r1, r2, r3, r4, r5, r6, r7⟩ (w2.alloc (.cells #[.int .u32 (r0 : Nat), .int .u32 (r1 : Nat), .int .u32 (r2 : Nat), .int .u32 (r3 : Nat), .int .u32 (r4 : Nat), .int .u32 (r5 : Nat), .int .u32 (r6 : Nat), .int .u32 (r7 : Nat)] 42)) := by
    have hb3 : Below w2.heap.size w2 (w2.alloc (.cells #[.int .u32 (r0 : Nat), .int .u32 (r1 : Nat), .int .u32 (r2 : Nat), .int .u32 (r3 : Nat), .int .u32 (r4 : Nat), .int .u32 (r5 : Nat), .int .u32 (r6 : Nat), .int .u32 (r7 : Nat)] 42)) := (Below.refl _ _).alloc (Nat.le_refl _) _
    have hl3 := ArrIn.new w2 (u32V (DigP.Reg.list ⟨r0, r1, r2, r3, r4, r5, r6, r7⟩)) 42
    rw [hsz2] at hl3
    exact ⟨hh2.keep hb3 hh2.lt, hk2.keep hb3 hk2.lt, hl3, by omega, hb2.trans (hb3.mono (by omega))⟩
  have ha3 : ArrIn (w2.alloc (.cells #[.int .u32 (r0 : Nat), .int .u32 (r1 : Nat), .int .u32 (r2 : Nat), .int .u32 (r3 : Nat), .int .u32 (r4 : Nat), .int .u32 (r5 : Nat), .int .u32 (r6 : Nat), .int .u32 (r7 : Nat)] 42)) w1.heap.size 39 M := ha2.keep ((Below.refl _ _).alloc (Nat.le_refl _) _) ha2.lt
  generalize w2.alloc (.cells #[.int .u32 (r0 : Nat), .int .u32 (r1 : Nat), .int .u32 (r2 : Nat), .int .u32 (r3 : Nat), .int .u32 (r4 : Nat), .int .u32 (r5 : Nat), .int .u32 (r6 : Nat), .int .u32 (r7 : Nat)] 42) = w3 at *
  clear ha2 hb2 hsz hsz2 hh2 hk2
  refine wp_region_lit ?_
  refine wpList_load_row rfl _ (.tmp 6) rfl w1.heap.size rfl _ M.toArray (0, 0) _ ha3 Try.underlying38 rfl (by simp only [List.size_toArray, HLn.out]; kernel_rfl) ?_
  clear ha3
  have HT := Lib.hid hT
  clear hT
  generalize hr0 : (⟨r0, r1, r2, r3, r4, r5, r6, r7⟩ : DigP.Reg) = r at HT HBt HRo HH HV
  have HrE := Lib.hid hr0
  clear hr0
  generalize w1.heap.size + 1 = B1 at *
  go_wp2_with fail
  go_loopw [18] (fun i W => ∃ k, k ≤ 64 ∧ i = .int .i64 (k : Nat) ∧ TkR w hb r kb B1 (DigP.roundsT wd r k) W) (fun i _ => (65 - intOf i).toNat)
  case atStart => exact ⟨0, by omega, rfl, HT.out⟩
  case round =>
    clear HT
    obtain ⟨k, hk, rfl, ht⟩ := hrel
    by_cases hlt : k < 64
    case pos =>
      obtain ⟨x, hx, gx, lx⟩ := HWx.out k hlt
      obtain ⟨kk, hkk⟩ : ∃ kk, DigP.ks[k]? = some kk := ⟨_, List.getElem?_eq_getElem (by rw [DigP.ks_len]; exact hlt)⟩
      have lk := DigP.ks_lt kk (List.mem_of_getElem? hkk)
      have gk : DigP.ks.getD k 0 = kk := by rw [List.getD_eq_getElem?_getD, hkk]; rfl
      have hix := fun W => index_arr Try.underlying39 (fun w => by kernel_rfl) (fun w => by kernel_rfl) hlt (show M.toArray[k]? = some (.int .u32 (x : Nat)) by rw [List.getElem?_toArray]; exact hx) W
      have hck : wr.cell? ⟨kb, k, none⟩ = some (.int .u32 (kk : Nat)) := ht.k.cell (u32V_get hkk)
      have hst : DigP.roundsT wd r (k + 1) = stepX (DigP.roundsT wd r k) ((kk + x) % 4294967296) := by
        rw [stepX_is, ← gk, ← gx]; rfl
      have q2 : ((kk : Int) + (x : Int)) % 4294967296 = (((kk + x) % 4294967296 : Nat) : Int) := by omega
      generalize (kk + x) % 4294967296 = y at *
      have HS := Lib.hid (step_any B1 (DigP.roundsT wd r k) (HRo.out.rounds wd k) y wr ht.l)
      have HT := Lib.hid ht
      have Hst := Lib.hid hst
      clear ht hst hx gx gk hkk
      go_wp2_with fail
      refine HS.out.mono ?_
      rintro e w4 ⟨rfl, hl4, hap4⟩
      have HT2 : Hid (TkR w hb r kb B1 (DigP.roundsT wd r (k + 1)) w4) := Lib.hid (by
        have h0 := HT.out
        have o1 := h0.old
        have o2 := HH.out.lt
        have o3 := HK.out.lt
        exact ⟨h0.h.apart hap4 (by omega), h0.k.apart hap4 (by omega), by rw [Hst.out]; exact hl4, o1, h0.below.trans (hap4.below h0.below.size (fun k hk => by subst hk; exact o1))⟩)
      clear HS HT hl4 hap4
      go_wp2_with fail
      go_roundw
      case rel => exact ⟨k + 1, by omega, rfl, HT2.out⟩
      case measure => simp [intOf]; omega
    have hk64 : k = 64 := by omega
    have hkv : DigP.roundsT wd r k = v := by rw [hk64]; exact HV.out
    have hki : (k : Int) = 64 := by omega
    rw [hkv] at ht
    rw [hki]
    clear hk hlt hk64 hkv hki
    have HT := Lib.hid ht
    clear ht
    have HLv : Hid ((u32V v.list).length = 8) := Lib.hid (by rw [u32V_len]; rfl)
    have HVx : Hid (∀ k, k < 8 → ∃ x a, (u32V v.list)[k]? = some (.int .u32 (x : Nat)) ∧ v.list[k]? = some x ∧ r.list[k]? = some a) := Lib.hid fun k hk => by
      have h1 : v.list[k]? = some (v.list[k]'(by rw [reg_len]; exact hk)) := List.getElem?_eq_getElem _
      exact ⟨_, _, u32V_get h1, h1, List.getElem?_eq_getElem (by rw [reg_len]; exact hk)⟩
    have HAv := Lib.hid HT.out.l
    generalize hN : u32V v.list = N at HLv HVx HAv
    clear hN
    go_upto_region 7 with (fail)
    refine wp_region_lit ?_
    refine wpList_load_row rfl _ (.tmp 7) rfl B1 rfl _ N.toArray (0, 0) _ HAv.out Try.underlying42 rfl (by simp only [List.size_toArray, HLv.out]; kernel_rfl) ?_
    have HM0 : Hid (ArrIn wr hb 42 (u32V ((DigP.addR r v).list.take 0 ++ r.list.drop 0)) ∧ Apart (fun k => k = hb) w wr) := Lib.hid ⟨HT.out.h, Apart.of_below' HT.out.below⟩
    clear HAv HLv HT HWx
    go_wp2_with fail
    go_loopw [32] (fun i W => ∃ k, k ≤ 8 ∧ i = .int .i64 (k : Nat) ∧ ArrIn W hb 42 (u32V ((DigP.addR r v).list.take k ++ r.list.drop k)) ∧ Apart (fun k => k = hb) w W) (fun i _ => (9 - intOf i).toNat)
    case atStart => exact ⟨0, by omega, rfl, HM0.out⟩
    case round =>
      clear HM0
      obtain ⟨k, hk, rfl, ht, hap⟩ := hrel
      by_cases hlt : k < 8
      case pos =>
        obtain ⟨x, a, hx, gx, ga⟩ := HVx.out k hlt
        have hix := fun W => index_arr Try.underlying42 (fun w => by kernel_rfl) (fun w => by kernel_rfl) hlt (show N.toArray[k]? = some (.int .u32 (x : Nat)) by rw [List.getElem?_toArray]; exact hx) W
        have hch : wr.cell? ⟨hb, k, none⟩ = some (.int .u32 (a : Nat)) := ht.cell (u32V_get (mix_at ga rfl))
        have hfh := ht.free k
        have q2 : ((a : Int) + (x : Int)) % 4294967296 = (((a + x) % 4294967296 : Nat) : Int) := by omega
        have HN : Hid (ArrIn (wr.setCell ⟨hb, k, none⟩ (.int .u32 (((a + x) % 4294967296 : Nat) : Int))) hb 42 (u32V ((DigP.addR r v).list.take (k + 1) ++ r.list.drop (k + 1))) ∧ Apart (fun k => k = hb) w (wr.setCell ⟨hb, k, none⟩ (.int .u32 (((a + x) % 4294967296 : Nat) : Int)))) := Lib.hid (by
          have h1 := ht.set k (.int .u32 (((a + x) % 4294967296 : Nat) : Int))
          rw [u32V_set, take_set (R := r.list) (addR_at ga gx) rfl] at h1
          exact ⟨h1, hap.setCell (p := ⟨hb, k, none⟩) (.inl rfl) _⟩)
        generalize (a + x) % 4294967296 = y at *
        clear ht hap hx gx ga
        go_wp2_with fail
        go_region
        go_wp2_with fail
        exact ⟨⟨k + 1, by omega, rfl, HN.out.1, HN.out.2.drew⟩, by simp [intOf]; omega⟩
      have hk8 : k = 8 := by omega
      have hki : (k : Int) = 8 := by omega
      have he : (DigP.addR r v).list.take k ++ r.list.drop k = (DigP.addR r v).list := by rw [hk8]; rfl
      rw [he] at ht
      rw [hki]
      have HF := Lib.hid ht
      have HG := Lib.hid hap
      clear ht hap he hki hk8 hk hlt
      go_wp2_with fail
      refine bodyPost_end (results_none rfl _ _ _) rfl ⟨rfl, ?_, HG.out⟩
      rw [HrE.out, HBt.out]
      exact HF.out
end Go.Proofs.Ytpabgkmjhcmonaa
