/- Arrays in memory; contract of primes. Conditions: none beyond those that each states. -/
import Derived.Test.YtpabgkmjhcmonaaDigB
import Derived.Deep.Cut
import Derived.WalkMore
import Derived.Deep.WholeRow
import Derived.Deep.MidRow
namespace Go.Proofs.Ytpabgkmjhcmonaa
open Go.RowKit
set_option maxRecDepth 100000

def u64V (l : List Nat) : List Value := l.map fun x => .int .u64 (x : Nat)
def u32V (l : List Nat) : List Value := l.map fun x => .int .u32 (x : Nat)
/-- A block of cells. -/
def ArrIn (w : World) (b : Nat) (t : TypeId) (vs : List Value) : Prop := w.heap[b]? = some (.cells vs.toArray t (0, 0))
section
variable {w w' : World} {b : Nat} {t : TypeId} {vs : List Value}
theorem ArrIn.lt (h : ArrIn w b t vs) : b < w.heap.size := (Array.getElem?_eq_some_iff.1 h).1
theorem ArrIn.cell (h : ArrIn w b t vs) {i : Nat} {v : Value} (hv : vs[i]? = some v) : w.cell? ⟨b, i, none⟩ = some v := cell_at h i (by simpa using hv)
theorem ArrIn.free (h : ArrIn w b t vs) (i : Nat) : w.frozen? ⟨b, i, none⟩ = false := free_at h i
theorem ArrIn.set (h : ArrIn w b t vs) (i : Nat) (v : Value) : ArrIn (w.setCell ⟨b, i, none⟩ v) b t (vs.set i v) := by
  unfold ArrIn
  rw [heap_setCell_same w b i _ t v h]
  simp
theorem ArrIn.setRow (h : ArrIn w b t vs) (us : List Value) : ArrIn (w.setRow b us.toArray) b t us := by
  unfold ArrIn World.setRow
  have hb := (Array.getElem?_eq_some_iff.1 h)
  simp only [Array.getElem?_modify, if_true]
  rw [h]
  rfl
theorem ArrIn.apart {F : Nat → Prop} (h : ArrIn w b t vs) (ha : Apart F w w') (hF : ¬ F b) : ArrIn w' b t vs := (ha.block b h.lt hF).trans h
theorem ArrIn.keep (h : ArrIn w b t vs) {B : Nat} (hb : Below B w w') (hB : b < B) : ArrIn w' b t vs := (hb.block b hB).trans h
theorem ArrIn.new (w : World) (vs : List Value) (t : TypeId) : ArrIn (w.alloc (.cells vs.toArray t)) w.heap.size t vs := heap_alloc_new w _
end

theorem slice_to64 (W : World) (b n : Nat) (h : n ≤ 64) : (Instr.sliceAt 35 (.pointer (some ⟨b, 0, none⟩)) none (some (.int .i64 (n : Nat))) none).run Try.prog W = .ok (.slice (some ⟨b, 0, none⟩) n 64) W := by
  have hu : Try.prog.underlying 35 = some (.array (Try.prog.arrayLen 35) (Try.prog.elem 35)) := by kernel_rfl
  have hl : Try.prog.arrayLen 35 = 64 := by kernel_rfl
  have hs : (Go.sizeOf (Try.prog.elem 35)).run Try.prog W = .ok 1 W := by kernel_rfl
  rw [run_sliceAt_array_h W _ _ hu .i64 _ (by omega) (by rw [hl]; omega), hs, hl]
  simp only [Result.andThen, slicedAt, Int.toNat_natCast, Nat.sub_zero]
  congr 3
theorem u64V_len (l : List Nat) : (u64V l).length = l.length := by simp [u64V]
theorem u32V_len (l : List Nat) : (u32V l).length = l.length := by simp [u32V]
theorem u64V_one (l : List Nat) : ∀ u ∈ u64V l, u.oneCell' = true := by
  intro u hu
  simp only [u64V, List.mem_map] at hu
  obtain ⟨c, _, rfl⟩ := hu
  rfl
theorem u32V_one (l : List Nat) : ∀ u ∈ u32V l, u.oneCell' = true := by
  intro u hu
  simp only [u32V, List.mem_map] at hu
  obtain ⟨c, _, rfl⟩ := hu
  rfl
/-- Load and store of a whole array, of whichever type. -/
theorem load_arr {w : World} {b n : Nat} {t ty e : TypeId} {vs : List Value} (h : ArrIn w b t vs) (hu : Try.prog.underlying ty = some (.array n e)) (hi : (Try.prog.info? ty).map (·.size) = some n) (hl : vs.length = n) : (Instr.loadAt ty (.pointer (some ⟨b, 0, none⟩))).run Try.prog w = .ok (.agg vs.toArray) w := by
  simp only [Instr.loadAt, Instr.sureAddr, Sem.run_bind, Sem.run_pure, Result.andThen_ok]
  exact run_loadVar_row w b t ty _ (0, 0) _ h hu rfl (by rw [hi]; simp [hl])
theorem store_arr {w : World} {b n : Nat} {t ty : TypeId} {vs us : List Value} (h : ArrIn w b t vs) (hi : (Try.prog.info? ty).map (·.size) = some n) (hl : vs.length = n) (hl2 : us.length = n) (h1 : ∀ u ∈ us, u.oneCell' = true) : (Instr.storeAt ty (.pointer (some ⟨b, 0, none⟩)) (.agg us.toArray)).run Try.prog w = .ok () (w.setRow b us.toArray) := by
  simp only [Instr.storeAt, Instr.sureAddr, Sem.run_bind, Sem.run_pure, Result.andThen_ok]
  exact run_storeVar_row w b t ty _ _ h (by rw [hi]; simp [hl2]) (by simp [hl, hl2]) (all_oneCell_toArray h1)
theorem load64 {w : World} {b : Nat} {vs : List Value} (h : ArrIn w b 35 vs) (hl : vs.length = 64) : (Instr.loadAt 35 (.pointer (some ⟨b, 0, none⟩))).run Try.prog w = .ok (.agg vs.toArray) w := load_arr h Try.underlying35 (by kernel_rfl) hl
theorem store64 {w : World} {b : Nat} {vs us : List Value} (h : ArrIn w b 35 vs) (hl : vs.length = 64) (hl2 : us.length = 64) (h1 : ∀ u ∈ us, u.oneCell' = true) : (Instr.storeAt 35 (.pointer (some ⟨b, 0, none⟩)) (.agg us.toArray)).run Try.prog w = .ok () (w.setRow b us.toArray) := store_arr h (by kernel_rfl) hl hl2 h1
/-- a[k] of an array by value. -/
theorem index_arr {n k : Nat} {ty e : TypeId} {cs : Array Value} {v : Value} (hu : Try.prog.underlying ty = some (.array n e)) (hs : ∀ w, (Go.sizeOf e).run Try.prog w = .ok 1 w) (ha : ∀ w, (isAgg e).run Try.prog w = .ok false w) (hk : k < n) (hc : cs[k]? = some v) (w : World) :
    (Instr.index ty (.agg cs) (.int .i64 (k : Nat))).run Try.prog w = .ok v w := by
  have hn : ¬ n ≤ k := by omega
  simp [Instr.index, run_underlying hu, asIntOf, hk, part, hs, ha, hc, Sem.run_bind]
theorem setRow_below {w : World} {b B : Nat} {cs : Array Value} (h : B ≤ b) : Below B w (w.setRow b cs) := by
  refine ⟨rfl, rfl, rfl, by simp [World.setRow], fun k hk => ?_⟩
  simp only [World.setRow, Array.getElem?_modify]
  rw [if_neg (by omega)]
theorem setRow_apart {w : World} {b : Nat} {cs : Array Value} : Apart (fun k => k = b) w (w.setRow b cs) := by
  refine ⟨rfl, rfl, rfl, by simp [World.setRow], fun k _ hk => ?_⟩
  simp only [World.setRow, Array.getElem?_modify]
  rw [if_neg (fun e => hk e.symm)]
/-- 64 numbers: so many, and zeros behind them. -/
def fill64 (l : List Nat) : List Nat := l ++ List.replicate (64 - l.length) 0
def PrR (w : World) (k : Nat) (n x : Value) (W : World) : Prop :=
  k ≤ 310 ∧ n = .int .i64 ((DigP.sieve k).length : Nat) ∧ x = .int .u64 ((k : Int) + 2) ∧ ArrIn W (w.heap.size + 1) 35 (u64V (fill64 (DigP.sieve k))) ∧ ArrIn W w.heap.size 35 (u64V (fill64 [])) ∧ Below w.heap.size w W

set_option maxHeartbeats 1000000 in
theorem primes_any (w : World) :
    Calls Try.prog 11 #[] w fun e w' => e = .returned (.agg (u64V DigP.primesT).toArray) ∧ Below w.heap.size w w' := by
  go_enter Try.func11, Try.ntmps11
  go_wp2_with fail
  apply wp_scope_straight
  go_wp2_with fail
  apply wp_label
  go_wp2_with fail
  go_loopw [2, 3] (fun n x W => ∃ k, PrR w k n x W) (fun _ x _ => (400 - intOf x).toNat)
  case atStart =>
    refine ⟨0, Nat.zero_le _, rfl, rfl, ?_, ?_, ?_⟩
    · have := ArrIn.new (w.alloc (.cells (u64V (fill64 [])).toArray 35)) (u64V (fill64 [])) 35
      rw [World.size_alloc] at this
      exact this
    · exact (ArrIn.new w (u64V (fill64 [])) 35).keep ((Below.refl _ _).alloc (Nat.le_refl _) _) (by rw [World.size_alloc]; omega)
    · exact ((Below.refl _ _).alloc (Nat.le_refl _) _).alloc (by rw [World.size_alloc]; omega) _
  case round =>
    obtain ⟨k, hk, rfl, rfl, ha, hz, hb⟩ := hrel
    by_cases hlt : k < 310
    case neg =>
      obtain rfl : k = 310 := by omega
      have e0 : DigP.sieve 310 = DigP.primesT := DigP.sieve_310
      rw [e0] at ha ⊢
      have e1 : fill64 DigP.primesT = DigP.primesT := rfl
      rw [e1] at ha
      have HA := Lib.hid ha
      have HZ := Lib.hid hz
      have hz2 := hz.setRow (u64V DigP.primesT)
      have hb2 : Below w.heap.size w (wr.setRow w.heap.size (u64V DigP.primesT).toArray) := hb.trans (setRow_below (Nat.le_refl _))
      have HZ2 := Lib.hid hz2
      have HB2 := Lib.hid hb2
      have g0 : ((DigP.primesT.length : Nat) : Int) = 64 := rfl
      rw [g0]
      clear hz2 hb2 ha hz hb e0 e1
      have HL := Lib.hid (show (u64V DigP.primesT).length = 64 from rfl)
      have HL1 := Lib.hid (u64V_one DigP.primesT)
      generalize hL0 : u64V DigP.primesT = L at *
      have HE := Lib.hid hL0
      clear hL0
      go_upto_region 13 with (fail)
      refine wp_region_lit ?_
      refine wpList_load_row rfl _ (.tmp 1) rfl (w.heap.size + 1) rfl _ L.toArray (0, 0) _ HA.out Try.underlying35 rfl (by simp only [List.size_toArray, HL.out]; kernel_rfl) ?_
      refine wpList_store_row rfl _ (.tmp 0) (.tmp 27) rfl w.heap.size L.toArray rfl rfl _ _ HZ.out (by simp only [List.size_toArray, HL.out]; kernel_rfl) (by simp only [List.size_toArray, HL.out, u64V_len]; rfl) (all_oneCell_toArray HL1.out) (wpList_nil ?_)
      generalize wr.setRow w.heap.size L.toArray = w2 at *
      go_wp2_with fail
      rw [Exit.noGoto_ret]
      show bodyPost _ _ _ _ _ _
      refine bodyPost_ret (v := .agg L.toArray) (results_cell_row rfl _ _ _ _ _ (0, 0) _ rfl HZ2.out Try.underlying35 rfl (by simp only [List.size_toArray, HL.out]; kernel_rfl)) rfl ⟨by rw [HE.out], HB2.out⟩
    have hn := DigP.sieve_less hlt
    have hpos := DigP.sieve_pos k
    have hcell : ∀ j p, (DigP.sieve k)[j]? = some p → wr.cell? ⟨w.heap.size + 1, j, none⟩ = some (.int .u64 (p : Nat)) := fun j p hp => ha.cell (by
      simp only [u64V, fill64, List.getElem?_map]
      rw [List.getElem?_append_left (List.getElem?_eq_some_iff.1 hp).1, hp]
      rfl)
    have HA := Lib.hid ha
    have HZ := Lib.hid hz
    have HB := Lib.hid hb
    have HC := Lib.hid hcell
    have HP := Lib.hid hpos
    clear ha hz hb hcell hpos
    obtain ⟨n, hl⟩ : ∃ n, (DigP.sieve k).length = n := ⟨_, rfl⟩
    rw [hl] at hn ⊢
    have Hl := Lib.hid hl
    clear hl
    have hsl := fun W => slice_to64 W (w.heap.size + 1) n (by omega)
    go_wp2_with fail
    clear hsl
    go_loop [13] (fun i => ∃ j : Nat, j ≤ n ∧ i = .int .i64 (j : Nat) ∧ ∀ i p, i < j → (DigP.sieve k)[i]? = some p → (k + 2) % p ≠ 0) (fun i => (n + 1 - intOf i).toNat)
    case atStart => exact ⟨0, by omega, rfl, fun i p hi => absurd hi (by omega)⟩
    case round =>
      obtain ⟨j, hj, rfl, hno⟩ := hrel
      by_cases hjn : j < n
      case neg =>
        obtain rfl : j = n := by omega
        have hs : DigP.sieve (k + 1) = DigP.sieve k ++ [k + 2] := by
          show (if (DigP.sieve k).any (fun p => (k + 2) % p == 0) then DigP.sieve k else DigP.sieve k ++ [k + 2]) = _
          rw [if_neg]
          intro hany
          obtain ⟨p, hp, hd⟩ := List.any_eq_true.1 hany
          obtain ⟨i, hi⟩ := List.getElem?_of_mem hp
          exact hno i p (by rw [← Hl.out]; exact (List.getElem?_eq_some_iff.1 hi).1) hi (by simpa using hd)
        have hc : wr.cell? ⟨w.heap.size + 1, j, none⟩ = some (.int .u64 0) := HA.out.cell (by
          simp only [u64V, fill64, List.getElem?_map]
          rw [List.getElem?_append_right (by rw [Hl.out]; omega), Hl.out, Nat.sub_self, List.getElem?_replicate, if_pos (by omega)]
          rfl)
        have hf : wr.frozen? ⟨w.heap.size + 1, j, none⟩ = false := HA.out.free j
        have HR : Hid (PrR w (k + 1) (.int .i64 ((j : Int) + 1)) (.int .u64 ((k : Int) + 2 + 1)) (wr.setCell ⟨w.heap.size + 1, j, none⟩ (.int .u64 ((k : Int) + 2)))) := Lib.hid (by
          refine ⟨hlt, ?_, by first | rfl | (congr 1; omega), ?_, HZ.out.apart (F := fun b => b = w.heap.size + 1) (Apart.setCell (F := fun b => b = w.heap.size + 1) (Apart.refl _ wr) (p := ⟨w.heap.size + 1, j, none⟩) (.inl rfl) _) (by omega), HB.out.setCell (by simp) _⟩
          · rw [hs, List.length_append, Hl.out]; rfl
          · have h1 := HA.out.set j (.int .u64 ((k : Int) + 2))
            have e1 : (u64V (fill64 (DigP.sieve k))).set j (.int .u64 ((k : Int) + 2)) = u64V (fill64 (DigP.sieve (k + 1))) := by
              rw [hs]
              unfold u64V fill64
              have h2 : (64 - (DigP.sieve k).length) = (64 - (DigP.sieve k ++ [k + 2]).length) + 1 := by rw [List.length_append, Hl.out, List.length_singleton]; omega
              rw [h2, List.replicate_succ, List.map_append, List.map_append, List.set_append_right _ _ (by rw [List.length_map, Hl.out]; omega), List.length_map, Hl.out, Nat.sub_self, List.map_append, List.append_assoc]
              rfl
            rw [← e1]
            exact h1)
        clear hno
        go_wp2_with fail
        exact ⟨⟨k + 1, HR.out⟩, by simp [intOf]; omega⟩
      obtain ⟨p, hp⟩ : ∃ p, (DigP.sieve k)[j]? = some p := ⟨_, List.getElem?_eq_getElem (by rw [Hl.out]; exact hjn)⟩
      have hc := HC.out j p hp
      have hp2 := HP.out p (List.mem_of_getElem? hp)
      have q0 : ¬ (p : Int) = 0 := by omega
      by_cases hd : (k + 2) % p = 0
      case pos =>
        have q1 : (((k : Int) + 2) % (p : Int) == 0) = true := by
          have : (((k + 2) % p : Nat) : Int) = ((k : Int) + 2) % (p : Int) := by simp
          rw [← this, hd]; rfl
        have hs : DigP.sieve (k + 1) = DigP.sieve k := by
          show (if (DigP.sieve k).any (fun p => (k + 2) % p == 0) then DigP.sieve k else DigP.sieve k ++ [k + 2]) = _
          rw [if_pos (List.any_eq_true.2 ⟨p, List.mem_of_getElem? hp, by simpa using hd⟩)]
        have HR : Hid (PrR w (k + 1) (.int .i64 (n : Nat)) (.int .u64 ((k : Int) + 2 + 1)) wr) := Lib.hid ⟨hlt, by rw [hs, Hl.out], by first | rfl | (congr 1; omega), by rw [hs]; exact HA.out, HZ.out, HB.out⟩
        clear hd hno
        go_wp2_with fail
        exact ⟨⟨k + 1, HR.out⟩, by simp [intOf]; omega⟩
      have q1 : (((k : Int) + 2) % (p : Int) == 0) = false := by
        have : (((k + 2) % p : Nat) : Int) = ((k : Int) + 2) % (p : Int) := by simp
        rw [← this]
        exact beq_eq_false_iff_ne.2 (by omega)
      have HN : Hid (∀ i p, i < j + 1 → (DigP.sieve k)[i]? = some p → (k + 2) % p ≠ 0) := Lib.hid fun i p' hi hp' => by
        rcases Nat.lt_succ_iff_lt_or_eq.1 hi with h1 | h1
        · exact hno i p' h1 hp'
        · subst h1
          rw [hp] at hp'
          cases hp'
          exact hd
      clear hd hno
      go_wp2_with fail
      go_round
      case rel => exact ⟨j + 1, by omega, rfl, HN.out⟩
      case measure => simp [intOf]; omega
end Go.Proofs.Ytpabgkmjhcmonaa
