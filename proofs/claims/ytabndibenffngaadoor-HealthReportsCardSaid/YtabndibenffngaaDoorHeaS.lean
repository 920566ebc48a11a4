/- HealthReports: the walk of the law at a number, rows of four bytes, and acts in memory. Conditions: where they lie. -/
import Derived.Test.YtabndibenffngaaDoorHeaU
import Derived.Test.YtabndibenffngaaDoorHeaK
import Derived.Test.YtabndibenffngaaDoorHeaH
import Derived.Deep.CutBlock
namespace Go.Proofs.YtabndibenffngaaDoor
open Go.RowKit HeaP Go.Extern.Stop Go.Stop Go.Extern
set_option maxRecDepth 100000

def partF (x : Four) : TableP.Part := ⟨0, 0, 0, 0, 0, x.a % 4, x.b % 4, x.c % 4, x.d % 4⟩
/-- The part of which so many numbers are laid. -/
def partJ (x : Four) (j : Nat) : TableP.Part := ⟨0, 0, 0, 0, 0, if 0 < j then x.a % 4 else 0, if 1 < j then x.b % 4 else 0, if 2 < j then x.c % 4 else 0, if 3 < j then x.d % 4 else 0⟩
theorem infoPart15 : (Tryd.prog.info? 50).map (fun i => (i.zero, i.size, i.bytes)) = some (some (.agg #[.int .i64 0, .int .i64 0, .int .i64 0, .int .i64 0, .int .i64 0, .int .u8 0, .int .u8 0, .int .u8 0, .int .u8 0]), 9, 48) := by kernel_rfl
def PrtC (w : World) (parts : List TableP.Part) (vp : Value) (W : World) : Prop := W.ownsRow w.heap.size 50 9 vp parts.length (itemsV partVals parts) ∧ Below w.heap.size w W
def PrtR (w : World) (n : Nat) (l : List Four) (vi vp : Value) (W : World) : Prop := ∃ k, k ≤ n ∧ vi = .int .i64 (k : Nat) ∧ W.ownsRow w.heap.size 50 9 vp k (itemsV partVals ((l.take k).map partF)) ∧ Below w.heap.size w W
theorem txt_same (c : Nat) : txtH c = txt15 c := by
  unfold txtH txt15
  by_cases h : c = 0
  · rw [if_pos h, if_pos h]; rfl
  · rw [if_neg h, if_neg h]; simp [sufT, sep]
theorem small_wrap {n : Nat} (h : n < 256) : wrap64 (n : Int) = (n : Int) := by unfold wrap64; omega
def RepR (w : World) (b r nd : Nat) (vs : Value) (parts : List TableP.Part) (n : Nat) (vi : Value) (W : World) : Prop := ∃ i m, i ≤ n ∧ i ≤ 100 ∧ vi = .int .i64 (i : Nat) ∧ DuoX W b w.heap.size r nd vs parts m m ∧ MonLow i m ∧ Below w.heap.size w W
def PrtI (w : World) (N k : Nat) (x : Four) (vp : Value) (xs : List Value) (vi : Value) (W : World) : Prop := ∃ j, j ≤ 4 ∧ vi = .int .i64 (j : Nat) ∧ W.heap[N]? = some (.cells (fourVals x).toArray 47 (0, 0)) ∧ W.heap[N + 1]? = some (.cells (partVals (partJ x j)).toArray 50 (0, 0)) ∧ W.ownsRow w.heap.size 50 9 vp k xs ∧ (∀ q, vp.ownBlock = some q → q < N) ∧ Below w.heap.size w W

set_option maxHeartbeats 8000000 in
theorem hreports_law (a0 : Int) (A1 : Option Addr) (n1 cap1 : Nat) (l1 : List Four) (hl1 : l1.length = n1) (A2 : Option Addr) (n2 cap2 : Nat) (l2 : List Act15) (hl2 : l2.length = n2) (w : World)
    (h1 : ItemsIn fourVals 4 w A1 l1 ∧ ∀ x ∈ l1, x.a ≤ 255 ∧ x.b ≤ 255 ∧ x.c ≤ 255 ∧ x.d ≤ 255) (h2 : ItemsIn actVals 4 w A2 l2 ∧ ∀ x ∈ l2, x.round < 4294967296 ∧ -9223372036854775808 ≤ x.part ∧ x.part ≤ 9223372036854775807) :
    Calls Tryd.prog 4 #[.int .i64 a0, .slice A1 n1 cap1, .slice A2 n2 cap2] w (HTrue w) := by
  have HW := Lib.hid (awake15_any w)
  have HI1 := Lib.hid h1.1
  have HI2 := Lib.hid h2.1
  have Hl1 := Lib.hid hl1
  have Hl2 := Lib.hid hl2
  clear h1 h2 hl1 hl2
  by_cases h50 : 50 < n1
  · have d : decide ((50 : Int) < (n1 : Int)) = true := decide_eq_true (by omega)
    have d' : decide (50 < n1) = true := decide_eq_true h50
    go_enter Tryd.func4, Tryd.ntmps4
    go_wp2_with fail
    refine HW.out.mono ?_
    rintro e w1 ⟨rfl, hb1⟩
    have HB1 := Lib.hid hb1
    clear hb1 HW
    go_wp2_with fail
    go_ret
    exact ⟨rfl, HB1.out⟩
  have d : decide ((50 : Int) < (n1 : Int)) = false := decide_eq_false (by omega)
  have d' : decide (50 < n1) = false := decide_eq_false h50
  obtain ⟨nd, hnd, hnd7, hndw⟩ : ∃ nd : Nat, (IntKind.u64.wrap a0).tmod 7 = (nd : Int) ∧ nd < 7 ∧ wrap64 (nd : Int) = (nd : Int) := by
    have h : 0 ≤ IntKind.u64.wrap a0 := by rw [IntKind.wrap_u64]; omega
    refine ⟨((IntKind.u64.wrap a0) % 7).toNat, ?_, by omega, ?_⟩
    · rw [Int.tmod_eq_emod_of_nonneg h]; omega
    · unfold wrap64; omega
  go_enter Tryd.func4, Tryd.ntmps4
  go_wp2_with fail
  refine HW.out.mono ?_
  rintro e w1 ⟨rfl, hb1⟩
  have HB1 := Lib.hid hb1
  clear hb1 HW
  go_upto_block 0 with (fail)
  clear hnd hndw d d'
  go_cut [7] (fun v wx => PrtC w (l1.map partF) v wx)
  case first =>
    have HS0 : Hid (PrtR w n1 l1 (.int .i64 0) (.slice none 0 0) w1) := Lib.hid ⟨0, Nat.zero_le _, rfl, World.ownsRow_nil _ _ _ _, HB1.out⟩
    clear HB1
    go_wp2_with fail
    go_loopw [32, 7] (PrtR w n1 l1) (fun i _ _ => (n1 + 1 - intOf i).toNat)
    case atStart => exact HS0.out
    case round =>
      clear HS0
      obtain ⟨k, hk, rfl, hown, hb⟩ := hrel
      have HO := Lib.hid hown
      have HB := Lib.hid hb
      obtain ⟨A3, c3, rfl, hc3⟩ := own_slice hown
      clear hown hb
      by_cases hlt : k < n1
      case neg =>
        have ekn : n1 = k := by omega
        subst ekn
        have HF : Hid (PrtC w (l1.map partF) (.slice A3 n1 c3) wr) := Lib.hid ⟨by
          have := HO.out
          rw [List.take_of_length_le (by rw [Hl1.out]; exact Nat.le_refl _)] at this
          rw [List.length_map, Hl1.out]
          exact this, HB.out⟩
        go_wp2_with fail
        go_meet
        exact HF.out
      obtain ⟨x, hx⟩ : ∃ x, l1[k]? = some x := ⟨_, List.getElem?_eq_getElem (by rw [Hl1.out]; exact hlt)⟩
      obtain ⟨b, off, rfl, hbl, hc⟩ := (HI1.out.below HB.out) (by rw [Hl1.out]; omega)
      have r0 : wr.cell? ⟨b, off + k * 4, none⟩ = some (.int .u8 (x.a : Nat)) := by have := hc k x hx 0 _ rfl; simpa using this
      have r1 : wr.cell? ⟨b, off + k * 4 + 1, none⟩ = some (.int .u8 (x.b : Nat)) := hc k x hx 1 _ rfl
      have r2 : wr.cell? ⟨b, off + k * 4 + 2, none⟩ = some (.int .u8 (x.c : Nat)) := hc k x hx 2 _ rfl
      have r3 : wr.cell? ⟨b, off + k * 4 + 3, none⟩ = some (.int .u8 (x.d : Nat)) := hc k x hx 3 _ rfl
      have HS1 : Hid (PrtI w wr.heap.size k x (.slice A3 k c3) (itemsV partVals ((l1.take k).map partF)) (.int .i64 0) ((wr.alloc (.cells #[.int .u8 (x.a : Nat), .int .u8 (x.b : Nat), .int .u8 (x.c : Nat), .int .u8 (x.d : Nat)] 47)).alloc (.cells #[.int .i64 0, .int .i64 0, .int .i64 0, .int .i64 0, .int .i64 0, .int .u8 0, .int .u8 0, .int .u8 0, .int .u8 0] 50))) := Lib.hid (by
        refine ⟨0, by omega, rfl, (heap_alloc_old _ _ (by simp)).trans (heap_alloc_new wr _), ?_, (HO.out.alloc _).alloc _, fun q hq => ((Seg.of_own HO.out).lt q hq).2, (HB.out.alloc HB.out.size _).alloc (Nat.le_trans HB.out.size (by simp)) _⟩
        have := heap_alloc_new (wr.alloc (.cells #[.int .u8 (x.a : Nat), .int .u8 (x.b : Nat), .int .u8 (x.c : Nat), .int .u8 (x.d : Nat)] 47)) (.cells #[.int .i64 0, .int .i64 0, .int .i64 0, .int .i64 0, .int .i64 0, .int .u8 0, .int .u8 0, .int .u8 0, .int .u8 0] 50)
        rwa [show (wr.alloc (.cells #[.int .u8 (x.a : Nat), .int .u8 (x.b : Nat), .int .u8 (x.c : Nat), .int .u8 (x.d : Nat)] 47)).heap.size = wr.heap.size + 1 by simp] at this)
      have HNext : Hid (∀ v W, W.ownsRow w.heap.size 50 9 v (k + 1) (itemsV partVals ((l1.take k).map partF) ++ partVals (partJ x 4)) → Below w.heap.size w W → PrtR w n1 l1 (.int .i64 ((k : Int) + 1)) v W) := Lib.hid fun v W h1 h2 => ⟨k + 1, by omega, by go_num, by
        rw [List.take_add_one, hx]
        simp only [Option.toList_some, List.map_append, List.map_cons, List.map_nil, itemsV_append, itemsV_one']
        exact h1, h2⟩
      have HwN : Hid (w.heap.size ≤ wr.heap.size) := Lib.hid HB.out.size
      clear hc hx hbl
      go_wp2_with fail
      clear r0 r1 r2 r3 HO HB
      generalize wr.heap.size = N at *
      go_loopw [37] (PrtI w N k x (.slice A3 k c3) (itemsV partVals ((l1.take k).map partF))) (fun i _ => (5 - intOf i).toNat)
      case atStart => exact HS1.out
      case round =>
        clear HS1
        obtain ⟨j, hj, rfl, g9, g10, hown, hq, hb⟩ := hrel
        have hNw : N < wr.heap.size := lt_of_block g9
        have hN1 : N + 1 < wr.heap.size := lt_of_block g10
        have hjc : j = 0 ∨ j = 1 ∨ j = 2 ∨ j = 3 ∨ j = 4 := by omega
        rcases hjc with rfl | rfl | rfl | rfl | rfl
        · have c0 : wr.cell? ⟨N, 0, none⟩ = some (.int .u8 (x.a : Nat)) := cell_at g9 0 rfl
          have e0 := mod4_of x.a
          have o0 : wr.cell? ⟨N + 1, 5, none⟩ = some (.int .u8 0) := cell_at g10 5 rfl
          have f0 := free_at g10 5
          have HF : Hid (PrtI w N k x (.slice A3 k c3) (itemsV partVals ((l1.take k).map partF)) (.int .i64 1) (wr.setCell ⟨N + 1, 5, none⟩ (.int .u8 ((x.a % 4 : Nat) : Int)))) := Lib.hid (by
            have ha : Apart (fun q => q = N + 1) wr (wr.setCell ⟨N + 1, 5, none⟩ (.int .u8 ((x.a % 4 : Nat) : Int))) := (Apart.refl (fun q => q = N + 1) wr).setCell (p := ⟨N + 1, 5, none⟩) (.inl rfl) _
            refine ⟨1, by omega, rfl, (ha.block N hNw (by omega)).trans g9, ?_, own_apart hown ha (fun q hq2 e => by have := hq q hq2; omega), hq, hb.trans (ha.below hb.size fun q e => by have := HwN.out; omega)⟩
            exact heap_setCell_same wr (N + 1) 5 _ _ (.int .u8 ((x.a % 4 : Nat) : Int)) g10)
          clear g9 g10 hown hq hb hNw hN1 hj
          generalize hv : ((x.a % 4 : Nat) : Int) = vv at *
          clear hv
          go_wp2_with fail
          go_roundw
          case rel => exact HF.out
          case measure => simp [intOf]
        · have c0 : wr.cell? ⟨N, 1, none⟩ = some (.int .u8 (x.b : Nat)) := cell_at g9 1 rfl
          have e0 := mod4_of x.b
          have o0 : wr.cell? ⟨N + 1, 6, none⟩ = some (.int .u8 0) := cell_at g10 6 rfl
          have f0 := free_at g10 6
          have HF : Hid (PrtI w N k x (.slice A3 k c3) (itemsV partVals ((l1.take k).map partF)) (.int .i64 2) (wr.setCell ⟨N + 1, 6, none⟩ (.int .u8 ((x.b % 4 : Nat) : Int)))) := Lib.hid (by
            have ha : Apart (fun q => q = N + 1) wr (wr.setCell ⟨N + 1, 6, none⟩ (.int .u8 ((x.b % 4 : Nat) : Int))) := (Apart.refl (fun q => q = N + 1) wr).setCell (p := ⟨N + 1, 6, none⟩) (.inl rfl) _
            refine ⟨2, by omega, rfl, (ha.block N hNw (by omega)).trans g9, ?_, own_apart hown ha (fun q hq2 e => by have := hq q hq2; omega), hq, hb.trans (ha.below hb.size fun q e => by have := HwN.out; omega)⟩
            exact heap_setCell_same wr (N + 1) 6 _ _ (.int .u8 ((x.b % 4 : Nat) : Int)) g10)
          clear g9 g10 hown hq hb hNw hN1 hj
          generalize hv : ((x.b % 4 : Nat) : Int) = vv at *
          clear hv
          go_wp2_with fail
          go_roundw
          case rel => exact HF.out
          case measure => simp [intOf]
        · have c0 : wr.cell? ⟨N, 2, none⟩ = some (.int .u8 (x.c : Nat)) := cell_at g9 2 rfl
          have e0 := mod4_of x.c
          have o0 : wr.cell? ⟨N + 1, 7, none⟩ = some (.int .u8 0) := cell_at g10 7 rfl
          have f0 := free_at g10 7
          have HF : Hid (PrtI w N k x (.slice A3 k c3) (itemsV partVals ((l1.take k).map partF)) (.int .i64 3) (wr.setCell ⟨N + 1, 7, none⟩ (.int .u8 ((x.c % 4 : Nat) : Int)))) := Lib.hid (by
            have ha : Apart (fun q => q = N + 1) wr (wr.setCell ⟨N + 1, 7, none⟩ (.int .u8 ((x.c % 4 : Nat) : Int))) := (Apart.refl (fun q => q = N + 1) wr).setCell (p := ⟨N + 1, 7, none⟩) (.inl rfl) _
            refine ⟨3, by omega, rfl, (ha.block N hNw (by omega)).trans g9, ?_, own_apart hown ha (fun q hq2 e => by have := hq q hq2; omega), hq, hb.trans (ha.below hb.size fun q e => by have := HwN.out; omega)⟩
            exact heap_setCell_same wr (N + 1) 7 _ _ (.int .u8 ((x.c % 4 : Nat) : Int)) g10)
          clear g9 g10 hown hq hb hNw hN1 hj
          generalize hv : ((x.c % 4 : Nat) : Int) = vv at *
          clear hv
          go_wp2_with fail
          go_roundw
          case rel => exact HF.out
          case measure => simp [intOf]
        · have c0 : wr.cell? ⟨N, 3, none⟩ = some (.int .u8 (x.d : Nat)) := cell_at g9 3 rfl
          have e0 := mod4_of x.d
          have o0 : wr.cell? ⟨N + 1, 8, none⟩ = some (.int .u8 0) := cell_at g10 8 rfl
          have f0 := free_at g10 8
          have HF : Hid (PrtI w N k x (.slice A3 k c3) (itemsV partVals ((l1.take k).map partF)) (.int .i64 4) (wr.setCell ⟨N + 1, 8, none⟩ (.int .u8 ((x.d % 4 : Nat) : Int)))) := Lib.hid (by
            have ha : Apart (fun q => q = N + 1) wr (wr.setCell ⟨N + 1, 8, none⟩ (.int .u8 ((x.d % 4 : Nat) : Int))) := (Apart.refl (fun q => q = N + 1) wr).setCell (p := ⟨N + 1, 8, none⟩) (.inl rfl) _
            refine ⟨4, by omega, rfl, (ha.block N hNw (by omega)).trans g9, ?_, own_apart hown ha (fun q hq2 e => by have := hq q hq2; omega), hq, hb.trans (ha.below hb.size fun q e => by have := HwN.out; omega)⟩
            exact heap_setCell_same wr (N + 1) 8 _ _ (.int .u8 ((x.d % 4 : Nat) : Int)) g10)
          clear g9 g10 hown hq hb hNw hN1 hj
          generalize hv : ((x.d % 4 : Nat) : Int) = vv at *
          clear hv
          go_wp2_with fail
          go_roundw
          case rel => exact HF.out
          case measure => simp [intOf]
        · have p0 : wr.cell? ⟨N + 1, 0, none⟩ = some (.int .i64 0) := cell_at g10 0 rfl
          have p1 : wr.cell? ⟨N + 1, 1, none⟩ = some (.int .i64 0) := cell_at g10 1 rfl
          have p2 : wr.cell? ⟨N + 1, 2, none⟩ = some (.int .i64 0) := cell_at g10 2 rfl
          have p3 : wr.cell? ⟨N + 1, 3, none⟩ = some (.int .i64 0) := cell_at g10 3 rfl
          have p4 : wr.cell? ⟨N + 1, 4, none⟩ = some (.int .i64 0) := cell_at g10 4 rfl
          have p5 : wr.cell? ⟨N + 1, 5, none⟩ = some (.int .u8 (x.a % 4 : Nat)) := cell_at g10 5 rfl
          have p6 : wr.cell? ⟨N + 1, 6, none⟩ = some (.int .u8 (x.b % 4 : Nat)) := cell_at g10 6 rfl
          have p7 : wr.cell? ⟨N + 1, 7, none⟩ = some (.int .u8 (x.c % 4 : Nat)) := cell_at g10 7 rfl
          have p8 : wr.cell? ⟨N + 1, 8, none⟩ = some (.int .u8 (x.d % 4 : Nat)) := cell_at g10 8 rfl
          have HO := Lib.hid hown
          have HB := Lib.hid hb
          have HBz : Hid (w.heap.size ≤ wr.heap.size) := Lib.hid hb.size
          clear g9 g10 hown hq hb hNw hN1 hj
          go_wp2_with (first | (at_builtin; refine wpList_append_s rfl (.tmp 48) (.tmp 50) _ rfl w.heap.size 50 _ 9 48 Tryd.underlying46 infoPart15 rfl (by omega) _ k (itemsV partVals ((l1.take k).map partF)) rfl (HO.out.alloc _) (some ⟨wr.heap.size, 0, none⟩) 1 1 (partVals (partJ x 4)) rfl rfl (fun _ => ⟨_, rfl, laid_at wr _ (partVals (partJ x 4)) wr.heap.size rfl⟩) (partVals_one _) (by unfold maxLen; omega) (by omega) (by have := HBz.out; simp; omega) ?_; intro v8 w8 ho8 ha8 hb8) | fail)
          obtain ⟨g8, c8, rfl, -, -⟩ := ho8.form (by omega)
          have HF := Lib.hid (HNext.out _ w8 ho8 ((HB.out.alloc HB.out.size _).trans (ha8.below (by have := HBz.out; simp; omega) fun q e => ((Seg.of_own HO.out).lt q e).1)))
          clear ho8 ha8 hb8
          go_wp2_with fail
          go_roundw
          case rel => exact HF.out
          case measure => simp [intOf] <;> omega
  case rest =>
    obtain ⟨hps, hbc⟩ := hcut
    have hnp : (l1.map partF).length = n1 := by rw [List.length_map, Hl1.out]
    rw [hnp] at hps
    obtain ⟨Av, cv, rfl, hcv⟩ := own_slice hps
    have Hnp := Lib.hid hnp
    have Hps := Lib.hid hps
    have Hbc := Lib.hid hbc
    have HOe := Lib.hid (World.ownsRow_lit (base := wc.heap.size) (e := 50) (size := 9) wc #[] 0 (Nat.le_refl _) (by unfold maxLen; omega) rfl)
    have HBe := Lib.hid (fun o => (Below.refl wc.heap.size wc).alloc (Nat.le_refl _) o)
    have HIt : Hid (ItemsIn partVals 9 wc (some ⟨0, 0, none⟩) [] ∧ ∃ A c, (Value.slice Av n1 cv) = .slice A n1 c ∧ ItemsIn partVals 9 wc A (l1.map partF)) := Lib.hid ⟨fun h => absurd h (by simp), by
      have h9 := hps
      rw [← hnp] at h9
      obtain ⟨A, c, e, -, hi⟩ := ItemsIn.own partVals_len h9
      rw [hnp] at e
      exact ⟨A, c, e, hi⟩⟩
    have HIv : Hid (ItemsIn partVals 9 wc Av (l1.map partF)) := Lib.hid (by
      obtain ⟨-, A, c, e, hi⟩ := HIt.out
      simp only [Value.slice.injEq, true_and] at e
      rw [e.1]
      exact hi)
    clear hps hbc hnp HIt HB1
    have hn50 : n1 ≤ 50 := by omega
    go_wp2_with (first | (at_builtin; refine wpList_append_s rfl (.tmp 54) (.tmp 55) _ rfl wc.heap.size 50 _ 9 48 Tryd.underlying46 infoPart15 rfl (by decide) _ 0 [] rfl HOe.out Av n1 cv (itemsV partVals (l1.map partF)) rfl (by rw [itemsV_length partVals_len, Hnp.out]) (fun h0 => (HIv.out.below (HBe.out _)).news partVals_len (by decide) (by rw [Hnp.out]; exact h0)) (itemsV_oneCell partVals_one _) (by unfold maxLen; omega) (by omega) (by simp) ?_; intro v8 w8 ho8 ha8 hb8) | fail)
    have hb80 : Below w.heap.size w w8 := (Hbc.out.alloc Hbc.out.size _).trans (ha8.below (by have := Hbc.out.size; simp; omega) fun q e => by
      have e : some wc.heap.size = some q := e
      cases e
      exact Hbc.out.size)
    rw [Nat.zero_add, List.nil_append] at ho8
    have ho9 := ho8
    rw [← Hnp.out] at ho9
    obtain ⟨A8, c8, e8, -, hi8⟩ := ItemsIn.own partVals_len ho9
    rw [Hnp.out] at e8
    subst e8
    have hps8 : w8.ownsRow w.heap.size 50 9 (.slice Av n1 cv) n1 (itemsV partVals (l1.map partF)) := by
      have h7 := Hps.out.alloc (.cells #[] 50)
      refine own_apart h7 ha8 (fun q hq e => ?_)
      have e : some wc.heap.size = some q := e
      cases e
      have := ((Seg.of_own Hps.out).lt _ hq).2
      omega
    have HN := Lib.hid (hnew_any w8 A8 n1 c8 (l1.map partF) Hnp.out (by omega) nd (by omega) hi8)
    have HB8 := Lib.hid hb80
    have HP8 := Lib.hid hps8
    clear ho8 ha8 hb8 hb80 ho9 hi8 hps8 HOe HBe HIv
    go_wp2_with fail
    refine HN.out.mono ?_
    rintro e w9 ⟨rfl, vpH, hm9, hb9⟩
    have hb90 := HB8.out.trans (hb9.mono HB8.out.size)
    have hps9 := own_apart HP8.out (Apart.of_below' (F := fun _ => False) hb9) (fun _ _ h => h)
    have HWt := Lib.hid (hwatch_any w9 w.heap.size nd Av n1 cv (l1.map partF) Hnp.out (by omega) hb90.size (by rw [Hnp.out]; exact hps9))
    have HM9 := Lib.hid hm9
    have HB9 := Lib.hid hb90
    have HBb : Hid (w.heap.size ≤ w8.heap.size) := Lib.hid HB8.out.size
    clear hm9 hb9 hb90 hps9 HN HP8
    unfold monH
    go_wp2_with fail
    refine HWt.out.mono ?_
    rintro e w10 ⟨r, vl, vw, rfl, hr10, -, hlo, hb10⟩
    have hstart : Mon.start ((l1.map partF).map sayOf).length = Mon.start (l1.map partF).length := by rw [List.length_map (f := sayOf)]
    have HD0 : Hid (DuoX w10 w8.heap.size w.heap.size r nd (.slice Av n1 cv) (l1.map partF) (Mon.start (l1.map partF).length) (Mon.start (l1.map partF).length)) := Lib.hid (by
      have h9 := HM9.out
      rw [hstart] at h9
      exact ⟨vpH, _, vl, vw, _, h9.keep hb10, hr10, fun k hk => by cases hk⟩)
    have HS0 : Hid (RepR w w8.heap.size r nd (.slice Av n1 cv) (l1.map partF) n2 (.int .i64 0) w10) := Lib.hid ⟨0, _, Nat.zero_le _, by omega, rfl, HD0.out, MonLow.start _, HB9.out.trans (hb10.mono HB9.out.size)⟩
    clear hr10 hlo hb10 hstart HM9 HB9 HWt HD0
    generalize w8.heap.size = b at *
    go_wp2_with fail
    go_loopw [14] (RepR w b r nd (.slice Av n1 cv) (l1.map partF) n2) (fun i _ => (n2 + 1 - intOf i).toNat)
    case atStart => exact HS0.out
    case round =>
      clear HS0
      obtain ⟨i, m, hi, hi100, rfl, hD, hlow, hb⟩ := hrel
      have Hout : Hid (m.out.length ≤ 4) := Lib.hid hD.v.ok.out
      by_cases hlt : i < n2 ∧ i < 100
      case neg =>
        have HB := Lib.hid hb
        have HS1 : Hid (Calls Tryd.prog 22 #[.pointer (some ⟨b, 0, none⟩)] wr (DxS1 wr b w.heap.size r nd (.slice Av n1 cv) (l1.map partF) m m)) := Lib.hid (dx_seal1 hD)
        have hend : n2 = i ∨ i < n2 ∧ i = 100 := by omega
        clear hlt hD hlow hb
        rcases hend with e | ⟨h1, e⟩
        · subst e
          go_wp2_with fail
          refine HS1.out.mono ?_
          rintro e w4 ⟨vr, rfl, ho4, hx4, hb4⟩
          have hz4 : w.heap.size ≤ w4.heap.size := Nat.le_trans HB.out.size hb4.size
          have HS2 := Lib.hid (dx_seal2 ho4 hx4 hz4)
          have HB4 := Lib.hid (HB.out.trans (hb4.mono HBb.out))
          clear ho4 hx4 hb4 hz4 HS1
          go_wp2_with fail
          refine HS2.out.mono ?_
          rintro e w5 ⟨A5, c5, A6, c6, rfl, rfl, hR5, hR6, hD5, hb5⟩
          have HSm := Lib.hid (sameRecs_any A5 A6 m.out.length c5 c6 m.out rfl w5 hR5 hR6 (by have := Hout.out; omega))
          have HD5 := Lib.hid hD5
          have HB5 := Lib.hid (HB4.out.trans hb5)
          clear hR5 hR6 hD5 hb5 HS2
          go_wp2_with fail
          refine HSm.out.mono ?_
          rintro e w6 ⟨rfl, m6, rfl⟩
          clear HSm
          go_wp2_with fail
          go_ret
          exact ⟨rfl, below_drewNc HB5.out m6⟩
        · subst e
          go_wp2_with fail
          refine HS1.out.mono ?_
          rintro e w4 ⟨vr, rfl, ho4, hx4, hb4⟩
          have hz4 : w.heap.size ≤ w4.heap.size := Nat.le_trans HB.out.size hb4.size
          have HS2 := Lib.hid (dx_seal2 ho4 hx4 hz4)
          have HB4 := Lib.hid (HB.out.trans (hb4.mono HBb.out))
          clear ho4 hx4 hb4 hz4 HS1
          go_wp2_with fail
          refine HS2.out.mono ?_
          rintro e w5 ⟨A5, c5, A6, c6, rfl, rfl, hR5, hR6, hD5, hb5⟩
          have HSm := Lib.hid (sameRecs_any A5 A6 m.out.length c5 c6 m.out rfl w5 hR5 hR6 (by have := Hout.out; omega))
          have HD5 := Lib.hid hD5
          have HB5 := Lib.hid (HB4.out.trans hb5)
          clear hR5 hR6 hD5 hb5 HS2
          go_wp2_with fail
          refine HSm.out.mono ?_
          rintro e w6 ⟨rfl, m6, rfl⟩
          clear HSm
          go_wp2_with fail
          go_ret
          exact ⟨rfl, below_drewNc HB5.out m6⟩
      obtain ⟨hlt, h100⟩ := hlt
      obtain ⟨y, hy⟩ : ∃ y, l2[i]? = some y := ⟨_, List.getElem?_eq_getElem (by rw [Hl2.out]; exact hlt)⟩
      obtain ⟨b2, off2, rfl, hbl2, hc2⟩ := (HI2.out.below hb) (by rw [Hl2.out]; omega)
      have r0 : wr.cell? ⟨b2, off2 + i * 4, none⟩ = some (.bool y.shut) := by have := hc2 i y hy 0 _ rfl; simpa using this
      have r1 : wr.cell? ⟨b2, off2 + i * 4 + 1, none⟩ = some (.int .u32 (y.round : Nat)) := hc2 i y hy 1 _ rfl
      have r2 : wr.cell? ⟨b2, off2 + i * 4 + 2, none⟩ = some (.int .i64 y.part) := hc2 i y hy 2 _ rfl
      have r3 : wr.cell? ⟨b2, off2 + i * 4 + 3, none⟩ = some (.int .i64 y.kind) := hc2 i y hy 3 _ rfl
      obtain ⟨sh, rd, pt, kd⟩ := y
      simp only at r0 r1 r2 r3
      have hal : Below wr.heap.size wr (wr.alloc (.cells #[.bool sh, .int .u32 (rd : Nat), .int .i64 pt, .int .i64 kd] 57)) := (Below.refl _ _).alloc (Nat.le_refl _) _
      have hD1 := hD.keep hal
      have hb1 := hb.trans (hal.mono hb.size)
      have hbox : (wr.alloc (.cells #[.bool sh, .int .u32 (rd : Nat), .int .i64 pt, .int .i64 kd] 57)).heap[wr.heap.size]? = some (.cells #[.bool sh, .int .u32 (rd : Nat), .int .i64 pt, .int .i64 kd] 57 (0, 0)) := heap_alloc_new wr _
      have hvm := hD.v
      clear hc2 hy hbl2 hal hD
      cases sh with
      | true =>
        have HB := Lib.hid hb1
        have HS1 : Hid (Calls Tryd.prog 22 #[.pointer (some ⟨b, 0, none⟩)] (wr.alloc (.cells #[.bool true, .int .u32 (rd : Nat), .int .i64 pt, .int .i64 kd] 57)) (DxS1 (wr.alloc (.cells #[.bool true, .int .u32 (rd : Nat), .int .i64 pt, .int .i64 kd] 57)) b w.heap.size r nd (.slice Av n1 cv) (l1.map partF) m m)) := Lib.hid (dx_seal1 hD1)
        have HLow := Lib.hid hlow
        clear hb hD1 hb1 hbox hvm hlow
        go_wp2_with fail
        clear r0 r1 r2 r3
        refine HS1.out.mono ?_
        rintro e w4 ⟨vr, rfl, ho4, hx4, hb4⟩
        have hz4 : w.heap.size ≤ w4.heap.size := Nat.le_trans HB.out.size hb4.size
        have HS2 := Lib.hid (dx_seal2 ho4 hx4 hz4)
        have HB4 := Lib.hid (HB.out.trans (hb4.mono HBb.out))
        clear ho4 hx4 hb4 hz4 HS1
        go_wp2_with fail
        refine HS2.out.mono ?_
        rintro e w5 ⟨A5, c5, A6, c6, rfl, rfl, hR5, hR6, hD5, hb5⟩
        have HSm := Lib.hid (sameRecs_any A5 A6 m.out.length c5 c6 m.out rfl w5 hR5 hR6 (by have := Hout.out; omega))
        have HD5 := Lib.hid hD5
        have HB5 := Lib.hid (HB4.out.trans hb5)
        clear hR5 hR6 hD5 hb5 HS2
        go_wp2_with fail
        refine HSm.out.mono ?_
        rintro e w6 ⟨rfl, m6, rfl⟩
        have HF : Hid (RepR w b r nd (.slice Av n1 cv) (l1.map partF) n2 (.int .i64 ((i : Int) + 1)) (w5.drewN m6)) := Lib.hid ⟨i + 1, sealM m, by omega, by omega, by go_num, HD5.out.keep (below_drewNc (Below.refl _ _) m6), ⟨HLow.out.last, fun p => Nat.le_succ_of_le (HLow.out.row p)⟩, below_drewNc HB5.out m6⟩
        clear HSm
        go_wp2_with fail
        go_roundw
        case rel => exact HF.out
        case measure => simp [intOf] <;> omega
      | false =>
        obtain ⟨kn, hkn, hkn2⟩ : ∃ kn : Nat, (IntKind.u64.wrap kd).tmod 256 = (kn : Int) ∧ kn < 256 := by
          have h : 0 ≤ IntKind.u64.wrap kd := by rw [IntKind.wrap_u64]; omega
          refine ⟨((IntKind.u64.wrap kd) % 256).toNat, ?_, by omega⟩
          rw [Int.tmod_eq_emod_of_nonneg h]; omega
        have k1 : IntKind.i64.wrap (kn : Int) = (kn : Int) := IntWalk.i64_in _ (by omega)
        have k2 : wrap64 (kn : Int) = (kn : Int) := small_wrap hkn2
        have k3 : IntKind.u8.wrap (kn : Int) = (kn : Int) := by rw [IntKind.wrap_u8]; omega
        obtain ⟨dd, c, hdc⟩ : ∃ dd c, (reportT ((l1.map partF).map sayOf) nd m rd pt kn).1 = (dd, c) := ⟨_, _, rfl⟩
        have hc2 : c = 0 ∨ c = 2 := by
          have := report_code ((l1.map partF).map sayOf) nd m rd pt kn
          rw [hdc] at this
          exact this
        have HB := Lib.hid hb1
        have HLow := Lib.hid hlow
        have HBox := Lib.hid hbox
        have HH : Hid (Calls Tryd.prog 24 #[.pointer (some ⟨b, 0, none⟩), .int .u32 (rd : Nat), .int .i64 pt, .int .u8 (kn : Nat)] (wr.alloc (.cells #[.bool false, .int .u32 (rd : Nat), .int .i64 pt, .int .i64 kd] 57)) (fun e w' => e = .returned (.tuple #[.int .u8 (dd : Nat), errH c]) ∧ DuoX w' b w.heap.size r nd (.slice Av n1 cv) (l1.map partF) (reportT ((l1.map partF).map sayOf) nd m rd pt kn).2 m ∧ Below b (wr.alloc (.cells #[.bool false, .int .u32 (rd : Nat), .int .i64 pt, .int .i64 kd] 57)) w' ∧ KeepA (wr.alloc (.cells #[.bool false, .int .u32 (rd : Nat), .int .i64 pt, .int .i64 kd] 57)) w')) := Lib.hid ((dx_health hD1 (by rw [Hnp.out]; omega) rd pt kn).mono fun e w' ⟨h1, h2⟩ => ⟨by rw [h1, hdc], h2⟩)
        have HR : Hid (∀ W, DuoX W b w.heap.size r nd (.slice Av n1 cv) (l1.map partF) (reportT ((l1.map partF).map sayOf) nd m rd pt kn).2 m → w.heap.size ≤ W.heap.size → Calls Tryd.prog 25 #[.pointer (some ⟨r, 0, none⟩), .int .u32 (rd : Nat), .int .i64 pt, .int .i64 (kn : Nat)] W (fun e w' => e = .returned (.tuple #[.int .u8 (dd : Nat), strV (txt15 c)]) ∧ DuoX w' b w.heap.size r nd (.slice Av n1 cv) (l1.map partF) (reportT ((l1.map partF).map sayOf) nd m rd pt kn).2 (reportT ((l1.map partF).map sayOf) nd m rd pt kn).2 ∧ Below w.heap.size W w')) := Lib.hid fun W hD hB => (dx_ref hD hvm (fun p => by have := HLow.out.row p; omega) (by omega) (by rw [Hnp.out]; omega) hB rd pt kn).mono fun e w' ⟨h1, h2⟩ => ⟨by rw [h1, hdc], h2⟩
        have HRd : Hid (∀ W, Calls Tryd.prog 18 #[errH c] W (fun e w' => e = .returned (strV (txt15 c)) ∧ Below W.heap.size W w')) := Lib.hid fun W => by
          have := hread_any c (by omega) W
          rw [txt_same] at this
          exact this
        have HF : Hid (∀ W, DuoX W b w.heap.size r nd (.slice Av n1 cv) (l1.map partF) (reportT ((l1.map partF).map sayOf) nd m rd pt kn).2 (reportT ((l1.map partF).map sayOf) nd m rd pt kn).2 → Below w.heap.size w W → RepR w b r nd (.slice Av n1 cv) (l1.map partF) n2 (.int .i64 ((i : Int) + 1)) W) := Lib.hid fun W h1 h2 => ⟨i + 1, _, by omega, by omega, by go_num, h1, HLow.out.report, h2⟩
        clear hb hD1 hb1 hbox hvm hlow hdc hc2
        generalize (reportT ((l1.map partF).map sayOf) nd m rd pt kn).2 = m' at *
        generalize errH c = ev at *
        generalize txt15 c = tx at *
        unfold strV at *
        go_wp2_with fail
        refine HH.out.mono ?_
        rintro e w4 ⟨rfl, hD4, hb4, hk4⟩
        have hbx := hk4 _ _ HBox.out
        have x1 : w4.cell? ⟨wr.heap.size, 1, none⟩ = some (.int .u32 (rd : Nat)) := cell_at hbx 1 rfl
        have x2 : w4.cell? ⟨wr.heap.size, 2, none⟩ = some (.int .i64 pt) := cell_at hbx 2 rfl
        have HB4 := Lib.hid (HB.out.trans (hb4.mono HBb.out))
        have HR4 := Lib.hid (HR.out w4 hD4 HB4.out.size)
        clear hbx hk4 hb4 hD4 HH HR HBox r0 r1 r2 r3
        go_wp2_with fail
        refine HR4.out.mono ?_
        rintro e w5 ⟨rfl, hD5, hb5⟩
        have HD5 := Lib.hid hD5
        have HB5 := Lib.hid (HB4.out.trans hb5)
        clear hD5 hb5 HR4
        go_wp2_with fail
        refine (HRd.out w5).mono ?_
        rintro e w6 ⟨rfl, hb6⟩
        have HZ := Lib.hid (HF.out w6 (HD5.out.keep hb6) (HB5.out.trans (hb6.mono HB5.out.size)))
        clear hb6 HF
        go_wp2_with fail
        go_roundw
        case rel => exact HZ.out
        case measure => simp [intOf] <;> omega
end Go.Proofs.YtabndibenffngaaDoor
