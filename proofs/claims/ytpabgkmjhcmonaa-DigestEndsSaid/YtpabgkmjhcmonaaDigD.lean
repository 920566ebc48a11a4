/- Contracts of squares and cubes at the first primes. Conditions: none. -/
import Derived.Test.YtpabgkmjhcmonaaDigC
namespace Go.Proofs.Ytpabgkmjhcmonaa
open Go.RowKit
set_option maxRecDepth 100000

/-- So many numbers, and zeros behind them. -/
def fillN (N : Nat) (l : List Nat) : List Nat := l ++ List.replicate (N - l.length) 0
theorem fillN_len {N : Nat} {l : List Nat} (h : l.length ≤ N) : (fillN N l).length = N := by simp [fillN]; omega
theorem fillN_set {N : Nat} {l : List Nat} (h : l.length < N) (x : Nat) : (u32V (fillN N l)).set l.length (.int .u32 (x : Nat)) = u32V (fillN N (l ++ [x])) := by
  unfold u32V fillN
  have h2 : (N - l.length) = (N - (l ++ [x]).length) + 1 := by rw [List.length_append, List.length_singleton]; omega
  rw [h2, List.replicate_succ, List.map_append, List.map_append, List.set_append_right _ _ (by rw [List.length_map]; omega), List.length_map, Nat.sub_self, List.map_append, List.append_assoc]
  rfl
theorem fillN_at {N : Nat} {l : List Nat} {i x : Nat} (h : l[i]? = some x) : (u32V (fillN N l))[i]? = some (.int .u32 (x : Nat)) := by
  simp only [u32V, fillN, List.getElem?_map]
  rw [List.getElem?_append_left (List.getElem?_eq_some_iff.1 h).1, h]
  rfl
theorem fillN_zero {N : Nat} {l : List Nat} {i : Nat} (h : l.length ≤ i) (h2 : i < N) : (u32V (fillN N l))[i]? = some (.int .u32 0) := by
  simp only [u32V, fillN, List.getElem?_map]
  rw [List.getElem?_append_right h, List.getElem?_replicate, if_pos (by omega)]
  rfl
theorem fillN_full {N : Nat} {l : List Nat} (h : l.length = N) : fillN N l = l := by simp [fillN, h]

/-- While squares works: its argument's box, its result, what it makes. -/
structure RootR (w : World) (N : Nat) (t : TypeId) (res : List Nat) (k : Nat) (i : Value) (W : World) : Prop where
  le : k ≤ N
  i : i = .int .i64 (k : Nat)
  box : ArrIn W w.heap.size 35 (u64V DigP.primesT)
  out : ArrIn W (w.heap.size + 1) t (u32V (fillN N []))
  row : ArrIn W (w.heap.size + 2) t (u32V (fillN N (res.take k)))
  below : Below w.heap.size w W

theorem RootR.start (w : World) (N : Nat) (t : TypeId) (res : List Nat) : RootR w N t res 0 (.int .i64 0) (((w.alloc (.cells (u64V DigP.primesT).toArray 35)).alloc (.cells (u32V (fillN N [])).toArray t)).alloc (.cells (u32V (fillN N [])).toArray t)) := by
  have b1 : Below w.heap.size w (w.alloc (.cells (u64V DigP.primesT).toArray 35)) := (Below.refl _ _).alloc (Nat.le_refl _) _
  have a1 := ArrIn.new w (u64V DigP.primesT) 35
  have s1 : (w.alloc (.cells (u64V DigP.primesT).toArray 35)).heap.size = w.heap.size + 1 := World.size_alloc _ _
  generalize w.alloc (.cells (u64V DigP.primesT).toArray 35) = w1 at *
  have b2 := (Below.refl w1.heap.size w1).alloc (Nat.le_refl _) (.cells (u32V (fillN N [])).toArray t)
  have a2 := ArrIn.new w1 (u32V (fillN N [])) t
  have s2 : (w1.alloc (.cells (u32V (fillN N [])).toArray t)).heap.size = w1.heap.size + 1 := World.size_alloc _ _
  generalize w1.alloc (.cells (u32V (fillN N [])).toArray t) = w2 at *
  have b3 := (Below.refl w2.heap.size w2).alloc (Nat.le_refl _) (.cells (u32V (fillN N [])).toArray t)
  have a3 := ArrIn.new w2 (u32V (fillN N [])) t
  generalize w2.alloc (.cells (u32V (fillN N [])).toArray t) = w3 at *
  rw [s1] at a2 s2 b2
  rw [s2] at a3 b3
  exact ⟨Nat.zero_le _, rfl, (a1.keep b2 (by omega)).keep b3 (by omega), a2.keep b3 (by omega), a3, (b1.trans (b2.mono (by omega))).trans (b3.mono (by omega))⟩
/-- One number more. -/
theorem RootR.next {w W W2 : World} {N k x : Nat} {t : TypeId} {res : List Nat} {i : Value} (h : RootR w N t res k i W) (hk : k < N) (hl : res.length = N) (hx : res[k]? = some x) (hb : Below W.heap.size W W2) :
    RootR w N t res (k + 1) (.int .i64 ((k : Int) + 1)) (W2.setCell ⟨w.heap.size + 2, k, none⟩ (.int .u32 (x : Nat))) := by
  have h2 := (h.row.keep hb h.row.lt).set k (.int .u32 (x : Nat))
  have e1 : (res.take k).length = k := by rw [List.length_take]; omega
  have e2 := fillN_set (N := N) (l := res.take k) (by omega) x
  rw [e1] at e2
  rw [e2] at h2
  have e3 : res.take k ++ [x] = res.take (k + 1) := by rw [List.take_add_one, hx]; rfl
  rw [e3] at h2
  have ha : Apart (fun b => b = w.heap.size + 2) W2 (W2.setCell ⟨w.heap.size + 2, k, none⟩ (.int .u32 (x : Nat))) := Apart.setCell (F := fun b => b = w.heap.size + 2) (Apart.refl _ W2) (p := ⟨w.heap.size + 2, k, none⟩) (.inl rfl) _
  exact ⟨hk, rfl, (h.box.keep hb h.box.lt).apart ha (by omega), (h.out.keep hb h.out.lt).apart ha (by omega), h2, (h.below.trans (hb.mono h.below.size)).setCell (by simp) _⟩

set_option maxHeartbeats 1000000 in
theorem squares_any (w : World) :
    Calls Try.prog 13 #[.agg (u64V DigP.primesT).toArray] w fun e w' => e = .returned (.agg (u32V DigP.Reg.start.list).toArray) ∧ Below w.heap.size w w' := by
  have hmf : ∀ (fn : Fn) (first cap : Array Value) (w : World), (Instr.makeFunc fn first cap).run Try.prog w = .ok (.func fn first cap) w := fun _ _ _ _ => rfl
  have HS := Lib.hid (RootR.start w 8 42 DigP.Reg.start.list)
  have HP : Hid (∀ k, k < 8 → ∃ p, DigP.primesT[k]? = some p ∧ p < 4294967296 ∧ DigP.Reg.start.list[k]? = some (DigP.pointT (DigP.sqB p))) := Lib.hid (by
    intro k hk
    have h1 : k < DigP.primesT.length := by rw [DigP.primes_len]; omega
    refine ⟨DigP.primesT[k], List.getElem?_eq_getElem h1, by have := DigP.primes_le _ (List.getElem_mem h1); omega, ?_⟩
    rw [← DigP.sq_all, List.getElem?_map, List.getElem?_take_of_lt hk, List.getElem?_eq_getElem h1]
    rfl)
  generalize hL0 : u64V DigP.primesT = L at HS ⊢
  have HE := Lib.hid hL0
  clear hL0
  go_enter Try.func13, Try.ntmps13
  go_wp2_with fail
  go_loopw [6] (fun i W => ∃ k, RootR w 8 42 DigP.Reg.start.list k i W) (fun i _ => (9 - intOf i).toNat)
  case atStart => exact ⟨0, HS.out⟩
  case round =>
    clear HS
    obtain ⟨k, hr⟩ := hrel
    have hk := hr.le
    obtain rfl := hr.i
    by_cases hlt : k < 8
    case neg =>
      obtain rfl : k = 8 := by omega
      have ha := hr.row
      rw [show DigP.Reg.start.list.take 8 = DigP.Reg.start.list from rfl, fillN_full (N := 8) rfl] at ha
      have HA := Lib.hid ha
      have HZ := Lib.hid hr.out
      have hz2 := hr.out.setRow (u32V DigP.Reg.start.list)
      have hb2 : Below w.heap.size w (wr.setRow (w.heap.size + 1) (u32V DigP.Reg.start.list).toArray) := hr.below.trans (setRow_below (by omega))
      have HZ2 := Lib.hid hz2
      have HB2 := Lib.hid hb2
      have HL := Lib.hid (show (u32V DigP.Reg.start.list).length = 8 from rfl)
      have HL1 := Lib.hid (u32V_one DigP.Reg.start.list)
      clear ha hr hz2 hb2 HP
      generalize hM : u32V DigP.Reg.start.list = M at *
      have HM := Lib.hid hM
      clear hM
      rw [show ((8 : Nat) : Int) = 8 from rfl]
      go_upto_region 8 with (fail)
      refine wp_region_lit ?_
      refine wpList_load_row rfl _ (.tmp 3) rfl (w.heap.size + 2) rfl _ M.toArray (0, 0) _ HA.out Try.underlying42 rfl (by simp only [List.size_toArray, HL.out]; kernel_rfl) ?_
      refine wpList_store_row rfl _ (.tmp 2) (.tmp 17) rfl (w.heap.size + 1) M.toArray rfl rfl _ _ HZ.out (by simp only [List.size_toArray, HL.out]; kernel_rfl) (by simp only [List.size_toArray, HL.out, u32V_len]; rfl) (all_oneCell_toArray HL1.out) (wpList_nil ?_)
      generalize wr.setRow (w.heap.size + 1) M.toArray = w2 at *
      go_wp2_with fail
      show bodyPost _ _ _ _ _ _
      refine bodyPost_ret (v := .agg M.toArray) (results_cell_row rfl _ _ _ _ _ (0, 0) _ rfl HZ2.out Try.underlying42 rfl (by simp only [List.size_toArray, HL.out]; kernel_rfl)) rfl ⟨by rw [HM.out], HB2.out⟩
    obtain ⟨p, hp, hp2, hres⟩ := HP.out k hlt
    have hcp : wr.cell? ⟨w.heap.size, k, none⟩ = some (.int .u64 (p : Nat)) := hr.box.cell (by simp only [u64V, List.getElem?_map, hp]; rfl)
    have HR := Lib.hid hr
    have HRes := Lib.hid hres
    clear hr hres
    go_upto_region 6 with (fail)
    have hb : Below wr.heap.size wr (wr.alloc (.cells #[.int .u64 (p : Nat)] 34)) := (Below.refl _ _).alloc (Nat.le_refl _) _
    have hc1 : (wr.alloc (.cells #[.int .u64 (p : Nat)] 34)).cell? ⟨wr.heap.size, 0, none⟩ = some (.int .u64 (p : Nat)) := cell_at (heap_alloc_new wr _) 0 rfl
    generalize wr.alloc (.cells #[.int .u64 (p : Nat)] 34) = w2 at *
    have HC := Lib.hid (behind_sq wr.heap.size p hp2 w2 hc1)
    have hrow := HR.out.row.keep hb HR.out.row.lt
    have e1 : (DigP.Reg.start.list.take k).length = k := by
      have : DigP.Reg.start.list.length = 8 := rfl
      rw [List.length_take]; omega
    have hc2 : w2.cell? ⟨w.heap.size + 1 + 1, k, none⟩ = some (.int .u32 0) := hrow.cell (fillN_zero (by rw [e1]; omega) hlt)
    have hf2 : w2.frozen? ⟨w.heap.size + 1 + 1, k, none⟩ = false := hrow.free k
    have HN := Lib.hid (HR.out.next hlt rfl HRes.out hb)
    have hpt := DigP.point_lt (DigP.sqB p)
    clear hrow e1 hb hc1 HR HRes HP hcp
    go_wp2_with fail
    refine HC.out.mono ?_
    rintro e w3 ⟨rfl, rfl⟩
    generalize DigP.pointT (DigP.sqB p) = x at *
    go_wp2_with fail
    go_roundw
    case rel => exact ⟨k + 1, HN.out⟩
    case measure => simp [intOf]; omega
set_option maxHeartbeats 1000000 in
theorem cubes_any (w : World) :
    Calls Try.prog 12 #[.agg (u64V DigP.primesT).toArray] w fun e w' => e = .returned (.agg (u32V DigP.ks).toArray) ∧ Below w.heap.size w w' := by
  have hmf : ∀ (fn : Fn) (first cap : Array Value) (w : World), (Instr.makeFunc fn first cap).run Try.prog w = .ok (.func fn first cap) w := fun _ _ _ _ => rfl
  have HS := Lib.hid (RootR.start w 64 39 DigP.ks)
  have HP : Hid (∀ k, k < 64 → ∃ p, DigP.primesT[k]? = some p ∧ p < 4294967296 ∧ DigP.ks[k]? = some (DigP.pointT (DigP.cbB p))) := Lib.hid (by
    intro k hk
    have h1 : k < DigP.primesT.length := by rw [DigP.primes_len]; omega
    refine ⟨DigP.primesT[k], List.getElem?_eq_getElem h1, by have := DigP.primes_le _ (List.getElem_mem h1); omega, ?_⟩
    rw [← DigP.cb_all, List.getElem?_map, List.getElem?_eq_getElem h1]
    rfl)
  have HBx := Lib.hid (RootR.start w 64 39 DigP.ks).box
  have HLn := Lib.hid (show (u64V DigP.primesT).length = 64 from rfl)
  have HX : Hid (∀ (k p : Nat), DigP.primesT[k]? = some p → (u64V DigP.primesT)[k]? = some (.int .u64 (p : Nat))) := Lib.hid fun k p hp => by simp only [u64V, List.getElem?_map, hp]; rfl
  generalize hL0 : u64V DigP.primesT = L at HS HBx HLn HX ⊢
  have HE := Lib.hid hL0
  clear hL0
  go_enter Try.func12, Try.ntmps12
  go_upto_region 2 with (fail)
  refine wp_region_lit ?_
  refine wpList_load_row rfl _ (.tmp 1) rfl w.heap.size rfl _ L.toArray (0, 0) _ HBx.out Try.underlying35 rfl (by simp only [List.size_toArray, HLn.out]; kernel_rfl) ?_
  go_wp2_with fail
  go_loopw [7] (fun i W => ∃ k, RootR w 64 39 DigP.ks k i W) (fun i _ => (65 - intOf i).toNat)
  case atStart => exact ⟨0, HS.out⟩
  case round =>
    clear HS
    obtain ⟨k, hr⟩ := hrel
    have hk := hr.le
    obtain rfl := hr.i
    by_cases hlt : k < 64
    case neg =>
      obtain rfl : k = 64 := by omega
      have ha := hr.row
      rw [show DigP.ks.take 64 = DigP.ks from rfl, fillN_full (N := 64) rfl] at ha
      have HA := Lib.hid ha
      have HZ := Lib.hid hr.out
      have hz2 := hr.out.setRow (u32V DigP.ks)
      have hb2 : Below w.heap.size w (wr.setRow (w.heap.size + 1) (u32V DigP.ks).toArray) := hr.below.trans (setRow_below (by omega))
      have HZ2 := Lib.hid hz2
      have HB2 := Lib.hid hb2
      have HL := Lib.hid (show (u32V DigP.ks).length = 64 from rfl)
      have HL1 := Lib.hid (u32V_one DigP.ks)
      clear ha hr hz2 hb2 HP
      generalize hM : u32V DigP.ks = M at *
      have HM := Lib.hid hM
      clear hM
      rw [show ((64 : Nat) : Int) = 64 from rfl]
      go_upto_region 7 with (fail)
      refine wp_region_lit ?_
      refine wpList_load_row rfl _ (.tmp 3) rfl (w.heap.size + 2) rfl _ M.toArray (0, 0) _ HA.out Try.underlying39 rfl (by simp only [List.size_toArray, HL.out]; kernel_rfl) ?_
      refine wpList_store_row rfl _ (.tmp 2) (.tmp 16) rfl (w.heap.size + 1) M.toArray rfl rfl _ _ HZ.out (by simp only [List.size_toArray, HL.out]; kernel_rfl) (by simp only [List.size_toArray, HL.out, u32V_len]; rfl) (all_oneCell_toArray HL1.out) (wpList_nil ?_)
      generalize wr.setRow (w.heap.size + 1) M.toArray = w2 at *
      go_wp2_with fail
      show bodyPost _ _ _ _ _ _
      refine bodyPost_ret (v := .agg M.toArray) (results_cell_row rfl _ _ _ _ _ (0, 0) _ rfl HZ2.out Try.underlying39 rfl (by simp only [List.size_toArray, HL.out]; kernel_rfl)) rfl ⟨by rw [HM.out], HB2.out⟩
    obtain ⟨p, hp, hp2, hres⟩ := HP.out k hlt
    have hcp := fun W => index_arr Try.underlying35 (fun w => by kernel_rfl) (fun w => by kernel_rfl) hlt (show L.toArray[k]? = some (.int .u64 (p : Nat)) by rw [List.getElem?_toArray]; exact HX.out k p hp) W
    have HR := Lib.hid hr
    have HRes := Lib.hid hres
    clear hr hres
    go_upto_region 5 with (fail)
    have hb : Below wr.heap.size wr (wr.alloc (.cells #[.int .u64 (p : Nat)] 34)) := (Below.refl _ _).alloc (Nat.le_refl _) _
    have hc1 : (wr.alloc (.cells #[.int .u64 (p : Nat)] 34)).cell? ⟨wr.heap.size, 0, none⟩ = some (.int .u64 (p : Nat)) := cell_at (heap_alloc_new wr _) 0 rfl
    generalize wr.alloc (.cells #[.int .u64 (p : Nat)] 34) = w2 at *
    have HC := Lib.hid (behind_cb wr.heap.size p hp2 w2 hc1)
    have hrow := HR.out.row.keep hb HR.out.row.lt
    have e1 : (DigP.ks.take k).length = k := by
      have : DigP.ks.length = 64 := rfl
      rw [List.length_take]; omega
    have hc2 : w2.cell? ⟨w.heap.size + 1 + 1, k, none⟩ = some (.int .u32 0) := hrow.cell (fillN_zero (by rw [e1]; omega) hlt)
    have hf2 : w2.frozen? ⟨w.heap.size + 1 + 1, k, none⟩ = false := hrow.free k
    have HN := Lib.hid (HR.out.next hlt rfl HRes.out hb)
    have hpt := DigP.point_lt (DigP.cbB p)
    clear hrow e1 hb hc1 HR HRes HP hcp
    go_wp2_with fail
    refine HC.out.mono ?_
    rintro e w3 ⟨rfl, rfl⟩
    generalize DigP.pointT (DigP.cbB p) = x at *
    go_wp2_with fail
    go_roundw
    case rel => exact ⟨k + 1, HN.out⟩
    case measure => simp [intOf]; omega
end Go.Proofs.Ytpabgkmjhcmonaa
