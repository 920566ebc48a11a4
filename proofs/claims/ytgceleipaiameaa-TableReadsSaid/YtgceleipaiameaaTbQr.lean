/- The document's reading of tables behind the mark. Conditions: where the Reader lies. -/
import Derived.Test.YtgceleipaiameaaTbQa
import Derived.Test.YtgceleipaiameaaHeldL
import Derived.Deep.CutBlock
import Derived.Deep.RegionLaw
import Derived.BigRegion
namespace Go.Proofs.Ytgceleipaiameaa
open Go.RowKit
set_option maxRecDepth 100000

set_option maxHeartbeats 40000000 in
theorem refread_rest (rr : Nat) (A : Option Addr) (n cap : Nat) (l : List UInt8) (w : World) (h : RefAt w rr A n cap l 0 false) (m x0 x1 x2 x3 x4 x5 x6 x7 x8 x9 x10 : WireP.Took) (hm : WireP.take l 0 false 4 = m) (hk : ¬ (m.short = false ∧ m.n ≠ TableP.magic))
    (h0 : WireP.take l m.at_ m.short 1 = x0) (h1 : WireP.take l x0.at_ x0.short 1 = x1) (h2 : WireP.take l x1.at_ x1.short 4 = x2) (h3 : WireP.take l x2.at_ x2.short 4 = x3) (h4 : WireP.take l x3.at_ x3.short 4 = x4) (h5 : WireP.take l x4.at_ x4.short 4 = x5) (h6 : WireP.take l x5.at_ x5.short 4 = x6) (h7 : WireP.take l x6.at_ x6.short 4 = x7) (h8 : WireP.take l x7.at_ x7.short 1 = x8) (h9 : WireP.take l x8.at_ x8.short 1 = x9) (h10 : WireP.take l x9.at_ x9.short 1 = x10)
    (DP : List TableP.Part × Nat × Bool) (hDP : TableP.partsD l x8.n x10.at_ x10.short = DP) (DQ : (List TableP.Port × Nat × Bool) ⊕ (Nat × Nat)) (hDQ : TableP.portsD l x9.n 0 DP.2.1 DP.2.2 = DQ) :
    Calls Try.prog 42 #[.pointer (some ⟨rr, 0, none⟩)] w (RefRestPost rr A n cap l x0.n x1.n x2.n x3.n x4.n x5.n x6.n x7.n x10.n DP DQ w) := by
  have hrl : rr < w.heap.size := lt_of_block h.block
  have HQ : Hid (0 < l.length → ∀ k, blockOf A = some k → k < w.heap.size) := Lib.hid fun hl k hk => by
    obtain ⟨b, o, e2, hb, _⟩ := h.bytes hl
    rw [e2] at hk
    have e3 : b = k := Option.some.inj hk
    omega
  have HT := Lib.hid (fun o => reftake_any rr A n cap l 0 false 4 (w.alloc o) (h.below ((Below.refl _ _).alloc (Nat.le_refl _) o)))
  rw [hm] at HT
  have l8 : x8.n < 256 := by rw [← h8]; exact take_lt1 _ _ _
  have l9 : x9.n < 256 := by rw [← h9]; exact take_lt1 _ _ _
  have l10 : x10.n < 256 := by rw [← h10]; exact take_lt1 _ _ _
  have Hk := Lib.hid hk
  have HA1 : Hid (∀ W, RefAt W rr A n cap l m.at_ m.short → Calls Try.prog 59 #[.pointer (some ⟨rr, 0, none⟩), .int .i64 1, .int .i64 2] W (SomeIs rr A n cap l 2 #[.int .i64 (x0.n : Nat), .int .i64 (x1.n : Nat)] x1.at_ x1.short W)) := Lib.hid fun W hW => some2_any 1 (.inl rfl) hW h0 h1
  have HA2 : Hid (∀ W, RefAt W rr A n cap l x1.at_ x1.short → Calls Try.prog 59 #[.pointer (some ⟨rr, 0, none⟩), .int .i64 4, .int .i64 6] W (SomeIs rr A n cap l 6 #[.int .i64 (x2.n : Nat), .int .i64 (x3.n : Nat), .int .i64 (x4.n : Nat), .int .i64 (x5.n : Nat), .int .i64 (x6.n : Nat), .int .i64 (x7.n : Nat)] x7.at_ x7.short W)) := Lib.hid fun W hW => some6_any 4 (.inr rfl) hW h2 h3 h4 h5 h6 h7
  have HA3 : Hid (∀ W, RefAt W rr A n cap l x7.at_ x7.short → Calls Try.prog 59 #[.pointer (some ⟨rr, 0, none⟩), .int .i64 1, .int .i64 3] W (SomeIs rr A n cap l 3 #[.int .i64 (x8.n : Nat), .int .i64 (x9.n : Nat), .int .i64 (x10.n : Nat)] x10.at_ x10.short W)) := Lib.hid fun W hW => some3_any 1 (.inl rfl) hW h8 h9 h10
  have HDP := Lib.hid hDP
  have HDQ := Lib.hid hDQ
  clear h hm hk h0 h1 h2 h3 h4 h5 h6 h7 h8 h9 h10 hDP hDQ
  go_enter Try.func42, Try.ntmps42
  go_wp2_with fail
  refine (HT.out _).mono ?_
  rintro e w1 ⟨rfl, hr1, ha1⟩
  have Hr1 := Lib.hid hr1
  have Ha1 := Lib.hid ha1
  clear hr1 ha1 HT
  go_upto_region 2 with (fail)
  go_cut [29] (fun s wx => s = .bool false ∧ RefAt wx rr A n cap l m.at_ m.short ∧ Apart (RF rr) (w.alloc (.cells #[.int .i64 0, .int .i64 0, .int .i64 0, .int .i64 0, .int .i64 0, .int .i64 0, .int .i64 0, .int .i64 0, .slice none 0 0, .slice none 0 0, .slice none 0 0] 26)) wx)
  case first =>
    obtain ⟨r0, r1, r2, -, -, -⟩ := three_cells Hr1.out.block
    by_cases hs : m.short = false
    · have hmn : m.n = TableP.magic := Classical.byContradiction fun hn => Hk.out ⟨hs, hn⟩
      have q1 : ((m.n : Int) != 1163084593) = false := by rw [hmn]; rfl
      rw [hs] at r2
      have he : errText false m.at_ = [] := rfl
      rw [he] at r2
      simp only [strV] at r2
      clear he hmn
      go_wp2_with fail
      go_meet
      first | exact ⟨rfl, Hr1.out, Ha1.out⟩ | exact ⟨rfl, Hr1.out.drew, Ha1.out.drew⟩
    · have hs2 : m.short = true := by exact (Bool.eq_false_or_eq_true m.short).resolve_right hs
      rw [hs2] at r2
      have hne : (errText true m.at_).isEmpty = false := atT_ne' 4 (m.at_ : Nat)
      simp only [strV] at r2
      generalize errText true m.at_ = et at *
      clear hs
      go_wp2_with fail
      go_meet
      first | exact ⟨rfl, Hr1.out, Ha1.out⟩ | exact ⟨rfl, Hr1.out.drew, Ha1.out.drew⟩
  case rest =>
    obtain ⟨rfl, hrc, hac⟩ := hcut
    have hbz1 := (hac.block w.heap.size (by simp) (fun e => by have e : w.heap.size = rr := e; omega)).trans (heap_alloc_new w _)
    have hzc : w.heap.size < wc.heap.size := lt_of_block hbz1
    have Hbz := Lib.hid hbz1
    have Ha : Hid (Apart (RF rr) w wc) := Lib.hid (((Apart.refl (RF rr) w).alloc _).trans hac (fun _ e => .inl e))
    have HS1 := Lib.hid (HA1.out wc hrc)
    clear hrc hac hbz1 Hr1 Ha1 HA1
    go_wp2_with fail
    refine HS1.out.mono ?_
    rintro e w2 ⟨rfl, hn2, hr2, ha2⟩
    have HS2 := Lib.hid (HA2.out w2 hr2)
    have Hn2 := Lib.hid hn2
    have Ha2 := Lib.hid ha2
    clear hn2 hr2 ha2 HS1 HA2
    go_wp2_with fail
    refine HS2.out.mono ?_
    rintro e w3 ⟨rfl, hn3, hr3, ha3⟩
    have HS3 := Lib.hid (HA3.out w3 hr3)
    have Hn3 := Lib.hid hn3
    have Ha3 := Lib.hid ha3
    clear hn3 hr3 ha3 HS2 HA3
    go_wp2_with fail
    refine HS3.out.mono ?_
    rintro e w4 ⟨rfl, hn4, hr4, ha4⟩
    have z2 : wc.heap.size < w2.heap.size := lt_of_block Hn2.out
    have z3 : w2.heap.size < w3.heap.size := lt_of_block Hn3.out
    have z4 : w3.heap.size < w4.heap.size := lt_of_block hn4
    have hna3 := (Ha3.out.block wc.heap.size z2 (fun e => by have e : wc.heap.size = rr := e; omega)).trans Hn2.out
    have hna4 := (ha4.block wc.heap.size (by omega) (fun e => by have e : wc.heap.size = rr := e; omega)).trans hna3
    have hnb4 := (ha4.block w2.heap.size z3 (fun e => by have e : w2.heap.size = rr := e; omega)).trans Hn3.out
    have Ha4 : Hid (Apart (RF rr) w w4) := Lib.hid (((Ha.out.trans Ha2.out (fun _ e => .inl e)).trans Ha3.out (fun _ e => .inl e)).trans ha4 (fun _ e => .inl e))
    have hbz4 := (ha4.block w.heap.size (by omega) (fun e => by have e : w.heap.size = rr := e; omega)).trans ((Ha3.out.block w.heap.size (by omega) (fun e => by have e : w.heap.size = rr := e; omega)).trans ((Ha2.out.block w.heap.size hzc (fun e => by have e : w.heap.size = rr := e; omega)).trans Hbz.out))
    have Hbz4 := Lib.hid hbz4
    have Hr4 := Lib.hid hr4
    have Hn4 := Lib.hid hn4
    have hd : ∀ W, Below w4.heap.size w4 W → W.heap[wc.heap.size]? = some (.cells #[.int .i64 (x0.n : Nat), .int .i64 (x1.n : Nat)] 3 (0, 0)) ∧ W.heap[w2.heap.size]? = some (.cells #[.int .i64 (x2.n : Nat), .int .i64 (x3.n : Nat), .int .i64 (x4.n : Nat), .int .i64 (x5.n : Nat), .int .i64 (x6.n : Nat), .int .i64 (x7.n : Nat)] 3 (0, 0)) := fun W hW => ⟨(hW.block _ (by omega)).trans hna4, (hW.block _ (by omega)).trans hnb4⟩
    have Hd := Lib.hid hd
    clear hn4 hr4 ha4 HS3 Hn2 Hn3 Ha2 Ha3 Ha hbz4 Hbz hna3 hna4 hnb4 hd
    go_wp2_with fail
    have ka0 := fun (W : World) (hW : W.heap[wc.heap.size]? = some (.cells #[.int .i64 (x0.n : Nat), .int .i64 (x1.n : Nat)] 3 (0, 0)) ∧ W.heap[w2.heap.size]? = some (.cells #[.int .i64 (x2.n : Nat), .int .i64 (x3.n : Nat), .int .i64 (x4.n : Nat), .int .i64 (x5.n : Nat), .int .i64 (x6.n : Nat), .int .i64 (x7.n : Nat)] 3 (0, 0))) => cell_at hW.1 0 rfl
    have ka1 := fun (W : World) (hW : W.heap[wc.heap.size]? = some (.cells #[.int .i64 (x0.n : Nat), .int .i64 (x1.n : Nat)] 3 (0, 0)) ∧ W.heap[w2.heap.size]? = some (.cells #[.int .i64 (x2.n : Nat), .int .i64 (x3.n : Nat), .int .i64 (x4.n : Nat), .int .i64 (x5.n : Nat), .int .i64 (x6.n : Nat), .int .i64 (x7.n : Nat)] 3 (0, 0))) => cell_at hW.1 1 rfl
    have kb0 := fun (W : World) (hW : W.heap[wc.heap.size]? = some (.cells #[.int .i64 (x0.n : Nat), .int .i64 (x1.n : Nat)] 3 (0, 0)) ∧ W.heap[w2.heap.size]? = some (.cells #[.int .i64 (x2.n : Nat), .int .i64 (x3.n : Nat), .int .i64 (x4.n : Nat), .int .i64 (x5.n : Nat), .int .i64 (x6.n : Nat), .int .i64 (x7.n : Nat)] 3 (0, 0))) => cell_at hW.2 0 rfl
    have kb1 := fun (W : World) (hW : W.heap[wc.heap.size]? = some (.cells #[.int .i64 (x0.n : Nat), .int .i64 (x1.n : Nat)] 3 (0, 0)) ∧ W.heap[w2.heap.size]? = some (.cells #[.int .i64 (x2.n : Nat), .int .i64 (x3.n : Nat), .int .i64 (x4.n : Nat), .int .i64 (x5.n : Nat), .int .i64 (x6.n : Nat), .int .i64 (x7.n : Nat)] 3 (0, 0))) => cell_at hW.2 1 rfl
    have kb2 := fun (W : World) (hW : W.heap[wc.heap.size]? = some (.cells #[.int .i64 (x0.n : Nat), .int .i64 (x1.n : Nat)] 3 (0, 0)) ∧ W.heap[w2.heap.size]? = some (.cells #[.int .i64 (x2.n : Nat), .int .i64 (x3.n : Nat), .int .i64 (x4.n : Nat), .int .i64 (x5.n : Nat), .int .i64 (x6.n : Nat), .int .i64 (x7.n : Nat)] 3 (0, 0))) => cell_at hW.2 2 rfl
    have kb3 := fun (W : World) (hW : W.heap[wc.heap.size]? = some (.cells #[.int .i64 (x0.n : Nat), .int .i64 (x1.n : Nat)] 3 (0, 0)) ∧ W.heap[w2.heap.size]? = some (.cells #[.int .i64 (x2.n : Nat), .int .i64 (x3.n : Nat), .int .i64 (x4.n : Nat), .int .i64 (x5.n : Nat), .int .i64 (x6.n : Nat), .int .i64 (x7.n : Nat)] 3 (0, 0))) => cell_at hW.2 3 rfl
    have kb4 := fun (W : World) (hW : W.heap[wc.heap.size]? = some (.cells #[.int .i64 (x0.n : Nat), .int .i64 (x1.n : Nat)] 3 (0, 0)) ∧ W.heap[w2.heap.size]? = some (.cells #[.int .i64 (x2.n : Nat), .int .i64 (x3.n : Nat), .int .i64 (x4.n : Nat), .int .i64 (x5.n : Nat), .int .i64 (x6.n : Nat), .int .i64 (x7.n : Nat)] 3 (0, 0))) => cell_at hW.2 4 rfl
    have kb5 := fun (W : World) (hW : W.heap[wc.heap.size]? = some (.cells #[.int .i64 (x0.n : Nat), .int .i64 (x1.n : Nat)] 3 (0, 0)) ∧ W.heap[w2.heap.size]? = some (.cells #[.int .i64 (x2.n : Nat), .int .i64 (x3.n : Nat), .int .i64 (x4.n : Nat), .int .i64 (x5.n : Nat), .int .i64 (x6.n : Nat), .int .i64 (x7.n : Nat)] 3 (0, 0))) => cell_at hW.2 5 rfl
    have hd0 := Hd.out w4.drew (Below.refl _ _).drew
    have hrd := Hr4.out.drew
    have had : Apart (RF rr) w w4.drew := Ha4.out.drew
    have hbzd : w4.drew.heap[w.heap.size]? = some (.cells #[.int .i64 0, .int .i64 0, .int .i64 0, .int .i64 0, .int .i64 0, .int .i64 0, .int .i64 0, .int .i64 0, .slice none 0 0, .slice none 0 0, .slice none 0 0] 26 (0, 0)) := Hbz4.out
    have hnd : w4.drew.heap[w3.heap.size]? = some (.cells #[.int .i64 (x8.n : Nat), .int .i64 (x9.n : Nat), .int .i64 (x10.n : Nat)] 3 (0, 0)) := Hn4.out
    have zd : w3.heap.size < w4.drew.heap.size := z4
    refine wp_region_held_drew (S := fun W => W.heap[wc.heap.size]? = some (.cells #[.int .i64 (x0.n : Nat), .int .i64 (x1.n : Nat)] 3 (0, 0)) ∧ W.heap[w2.heap.size]? = some (.cells #[.int .i64 (x2.n : Nat), .int .i64 (x3.n : Nat), .int .i64 (x4.n : Nat), .int .i64 (x5.n : Nat), .int .i64 (x6.n : Nat), .int .i64 (x7.n : Nat)] 3 (0, 0))) (by kernel_rfl) hd0 (fun _ => ?_)
    refine wpAnyH_take (i := 0) (oi := ?oo1) (v := ?vv1) ?ii1 (by kernel_rfl) ?ff1 (by kernel_rfl) ?qq1 (Or.inl ⟨?ww1, ?yy1⟩) hd0 ?rr1
    case ii1 => simp only [List.getElem?_toArray, List.getElem?_cons_zero]; rfl
    case ff1 => kernel_rfl
    case qq1 => exact fun _ _ _ h => h
    case ww1 => rfl
    case yy1 => intro W hW; go_simp <;> with_reducible rfl
    try simp only [Act.put, List.setIfInBounds_toArray, List.set_cons_zero, List.set_cons_succ]
    refine wpAnyH_take (i := 1) (oi := ?oo2) (v := ?vv2) ?ii2 (by kernel_rfl) ?ff2 (by kernel_rfl) ?qq2 (Or.inl ⟨?ww2, ?yy2⟩) hd0 ?rr2
    case ii2 => simp only [List.getElem?_toArray, List.getElem?_cons_succ, List.getElem?_cons_zero]; rfl
    case ff2 => kernel_rfl
    case qq2 => exact fun _ _ _ h => h
    case ww2 => rfl
    case yy2 => intro W hW; go_simp <;> with_reducible rfl
    try simp only [Act.put, List.setIfInBounds_toArray, List.set_cons_zero, List.set_cons_succ]
    refine wpAnyH_take (i := 2) (oi := ?oo3) (v := ?vv3) ?ii3 (by kernel_rfl) ?ff3 (by kernel_rfl) ?qq3 (Or.inl ⟨?ww3, ?yy3⟩) hd0 ?rr3
    case ii3 => simp only [List.getElem?_toArray, List.getElem?_cons_succ, List.getElem?_cons_zero]; rfl
    case ff3 => kernel_rfl
    case qq3 => exact fun _ _ _ h => h
    case ww3 => rfl
    case yy3 => intro W hW; go_simp <;> with_reducible rfl
    try simp only [Act.put, List.setIfInBounds_toArray, List.set_cons_zero, List.set_cons_succ]
    refine wpAnyH_take (i := 3) (oi := ?oo4) (v := ?vv4) ?ii4 (by kernel_rfl) ?ff4 (by kernel_rfl) ?qq4 (Or.inl ⟨?ww4, ?yy4⟩) hd0 ?rr4
    case ii4 => simp only [List.getElem?_toArray, List.getElem?_cons_succ, List.getElem?_cons_zero]; rfl
    case ff4 => kernel_rfl
    case qq4 => exact fun _ _ _ h => h
    case ww4 => rfl
    case yy4 => intro W hW; go_simp <;> with_reducible rfl
    try simp only [Act.put, List.setIfInBounds_toArray, List.set_cons_zero, List.set_cons_succ]
    refine wpAnyH_take (i := 4) (oi := ?oo5) (v := ?vv5) ?ii5 (by kernel_rfl) ?ff5 (by kernel_rfl) ?qq5 (Or.inl ⟨?ww5, ?yy5⟩) hd0 ?rr5
    case ii5 => simp only [List.getElem?_toArray, List.getElem?_cons_succ, List.getElem?_cons_zero]; rfl
    case ff5 => kernel_rfl
    case qq5 => exact fun _ _ _ h => h
    case ww5 => rfl
    case yy5 => intro W hW; go_simp <;> with_reducible rfl
    try simp only [Act.put, List.setIfInBounds_toArray, List.set_cons_zero, List.set_cons_succ]
    refine wpAnyH_take (i := 5) (oi := ?oo6) (v := ?vv6) ?ii6 (by kernel_rfl) ?ff6 (by kernel_rfl) ?qq6 (Or.inl ⟨?ww6, ?yy6⟩) hd0 ?rr6
    case ii6 => simp only [List.getElem?_toArray, List.getElem?_cons_succ, List.getElem?_cons_zero]; rfl
    case ff6 => kernel_rfl
    case qq6 => exact fun _ _ _ h => h
    case ww6 => rfl
    case yy6 => intro W hW; go_simp <;> with_reducible rfl
    try simp only [Act.put, List.setIfInBounds_toArray, List.set_cons_zero, List.set_cons_succ]
    refine wpAnyH_take (i := 6) (oi := ?oo7) (v := ?vv7) ?ii7 (by kernel_rfl) ?ff7 (by kernel_rfl) ?qq7 (Or.inl ⟨?ww7, ?yy7⟩) hd0 ?rr7
    case ii7 => simp only [List.getElem?_toArray, List.getElem?_cons_succ, List.getElem?_cons_zero]; rfl
    case ff7 => kernel_rfl
    case qq7 => exact fun _ _ _ h => h
    case ww7 => rfl
    case yy7 => intro W hW; go_simp <;> with_reducible rfl
    try simp only [Act.put, List.setIfInBounds_toArray, List.set_cons_zero, List.set_cons_succ]
    refine wpAnyH_take (i := 7) (oi := ?oo8) (v := ?vv8) ?ii8 (by kernel_rfl) ?ff8 (by kernel_rfl) ?qq8 (Or.inl ⟨?ww8, ?yy8⟩) hd0 ?rr8
    case ii8 => simp only [List.getElem?_toArray, List.getElem?_cons_succ, List.getElem?_cons_zero]; rfl
    case ff8 => kernel_rfl
    case qq8 => exact fun _ _ _ h => h
    case ww8 => rfl
    case yy8 => intro W hW; go_simp <;> with_reducible rfl
    try simp only [Act.put, List.setIfInBounds_toArray, List.set_cons_zero, List.set_cons_succ]
    refine wpAnyH_take (i := 8) (oi := ?oo9) (v := ?vv9) ?ii9 (by kernel_rfl) ?ff9 (by kernel_rfl) ?qq9 (Or.inl ⟨?ww9, ?yy9⟩) hd0 ?rr9
    case ii9 => simp only [List.getElem?_toArray, List.getElem?_cons_succ, List.getElem?_cons_zero]; rfl
    case ff9 => kernel_rfl
    case qq9 => exact fun _ _ _ h => h
    case ww9 => rfl
    case yy9 => intro W hW; go_simp <;> with_reducible rfl
    try simp only [Act.put, List.setIfInBounds_toArray, List.set_cons_zero, List.set_cons_succ]
    refine wpAnyH_take (i := 9) (oi := ?oo10) (v := ?vv10) ?ii10 (by kernel_rfl) ?ff10 (by kernel_rfl) ?qq10 (Or.inl ⟨?ww10, ?yy10⟩) hd0 ?rr10
    case ii10 => simp only [List.getElem?_toArray, List.getElem?_cons_succ, List.getElem?_cons_zero]; rfl
    case ff10 => kernel_rfl
    case qq10 => exact fun _ _ _ h => h
    case ww10 => rfl
    case yy10 => intro W hW; go_simp <;> with_reducible rfl
    try simp only [Act.put, List.setIfInBounds_toArray, List.set_cons_zero, List.set_cons_succ]
    refine wpAnyH_take (i := 10) (oi := ?oo11) (v := ?vv11) ?ii11 (by kernel_rfl) ?ff11 (by kernel_rfl) ?qq11 (Or.inl ⟨?ww11, ?yy11⟩) hd0 ?rr11
    case ii11 => simp only [List.getElem?_toArray, List.getElem?_cons_succ, List.getElem?_cons_zero]; rfl
    case ff11 => kernel_rfl
    case qq11 => exact fun _ _ _ h => h
    case ww11 => rfl
    case yy11 => intro W hW; go_simp <;> with_reducible rfl
    try simp only [Act.put, List.setIfInBounds_toArray, List.set_cons_zero, List.set_cons_succ]
    refine wpAnyH_take (i := 11) (oi := ?oo12) (v := ?vv12) ?ii12 (by kernel_rfl) ?ff12 (by kernel_rfl) ?qq12 (Or.inl ⟨?ww12, ?yy12⟩) hd0 ?rr12
    case ii12 => simp only [List.getElem?_toArray, List.getElem?_cons_succ, List.getElem?_cons_zero]; rfl
    case ff12 => kernel_rfl
    case qq12 => exact fun _ _ _ h => h
    case ww12 => rfl
    case yy12 => intro W hW; go_simp <;> with_reducible rfl
    try simp only [Act.put, List.setIfInBounds_toArray, List.set_cons_zero, List.set_cons_succ]
    refine wpAnyH_take (i := 12) (oi := ?oo13) (v := ?vv13) ?ii13 (by kernel_rfl) ?ff13 (by kernel_rfl) ?qq13 (Or.inl ⟨?ww13, ?yy13⟩) hd0 ?rr13
    case ii13 => simp only [List.getElem?_toArray, List.getElem?_cons_succ, List.getElem?_cons_zero]; rfl
    case ff13 => kernel_rfl
    case qq13 => exact fun _ _ _ h => h
    case ww13 => rfl
    case yy13 => intro W hW; go_simp <;> with_reducible rfl
    try simp only [Act.put, List.setIfInBounds_toArray, List.set_cons_zero, List.set_cons_succ]
    refine wpAnyH_take (i := 13) (oi := ?oo14) (v := ?vv14) ?ii14 (by kernel_rfl) ?ff14 (by kernel_rfl) ?qq14 (Or.inl ⟨?ww14, ?yy14⟩) hd0 ?rr14
    case ii14 => simp only [List.getElem?_toArray, List.getElem?_cons_succ, List.getElem?_cons_zero]; rfl
    case ff14 => kernel_rfl
    case qq14 => exact fun _ _ _ h => h
    case ww14 => rfl
    case yy14 => intro W hW; go_simp <;> with_reducible rfl
    try simp only [Act.put, List.setIfInBounds_toArray, List.set_cons_zero, List.set_cons_succ]
    refine wpAnyH_take (i := 14) (oi := ?oo15) (v := ?vv15) ?ii15 (by kernel_rfl) ?ff15 (by kernel_rfl) ?qq15 (Or.inl ⟨?ww15, ?yy15⟩) hd0 ?rr15
    case ii15 => simp only [List.getElem?_toArray, List.getElem?_cons_succ, List.getElem?_cons_zero]; rfl
    case ff15 => kernel_rfl
    case qq15 => exact fun _ _ _ h => h
    case ww15 => rfl
    case yy15 => intro W hW; go_simp <;> with_reducible rfl
    try simp only [Act.put, List.setIfInBounds_toArray, List.set_cons_zero, List.set_cons_succ]
    refine wpAnyH_take (i := 15) (oi := ?oo16) (v := ?vv16) ?ii16 (by kernel_rfl) ?ff16 (by kernel_rfl) ?qq16 (Or.inl ⟨?ww16, ?yy16⟩) hd0 ?rr16
    case ii16 => simp only [List.getElem?_toArray, List.getElem?_cons_succ, List.getElem?_cons_zero]; rfl
    case ff16 => kernel_rfl
    case qq16 => exact fun _ _ _ h => h
    case ww16 => rfl
    case yy16 => intro W hW; go_simp <;> with_reducible rfl
    try simp only [Act.put, List.setIfInBounds_toArray, List.set_cons_zero, List.set_cons_succ]
    refine wpAnyH_take (i := 16) (oi := ?oo17) (v := ?vv17) ?ii17 (by kernel_rfl) ?ff17 (by kernel_rfl) ?qq17 (Or.inl ⟨?ww17, ?yy17⟩) hd0 ?rr17
    case ii17 => simp only [List.getElem?_toArray, List.getElem?_cons_succ, List.getElem?_cons_zero]; rfl
    case ff17 => kernel_rfl
    case qq17 => exact fun _ _ _ h => h
    case ww17 => rfl
    case yy17 => intro W hW; go_simp <;> with_reducible rfl
    try simp only [Act.put, List.setIfInBounds_toArray, List.set_cons_zero, List.set_cons_succ]
    refine wpAnyH_take (i := 17) (oi := ?oo18) (v := ?vv18) ?ii18 (by kernel_rfl) ?ff18 (by kernel_rfl) ?qq18 (Or.inl ⟨?ww18, ?yy18⟩) hd0 ?rr18
    case ii18 => simp only [List.getElem?_toArray, List.getElem?_cons_succ, List.getElem?_cons_zero]; rfl
    case ff18 => kernel_rfl
    case qq18 => exact fun _ _ _ h => h
    case ww18 => rfl
    case yy18 => intro W hW; go_simp <;> with_reducible rfl
    try simp only [Act.put, List.setIfInBounds_toArray, List.set_cons_zero, List.set_cons_succ]
    refine wpAnyH_take (i := 18) (oi := ?oo19) (v := ?vv19) ?ii19 (by kernel_rfl) ?ff19 (by kernel_rfl) ?qq19 (Or.inl ⟨?ww19, ?yy19⟩) hd0 ?rr19
    case ii19 => simp only [List.getElem?_toArray, List.getElem?_cons_succ, List.getElem?_cons_zero]; rfl
    case ff19 => kernel_rfl
    case qq19 => exact fun _ _ _ h => h
    case ww19 => rfl
    case yy19 => intro W hW; go_simp <;> with_reducible rfl
    try simp only [Act.put, List.setIfInBounds_toArray, List.set_cons_zero, List.set_cons_succ]
    refine wpAnyH_take (i := 19) (oi := ?oo20) (v := ?vv20) ?ii20 (by kernel_rfl) ?ff20 (by kernel_rfl) ?qq20 (Or.inl ⟨?ww20, ?yy20⟩) hd0 ?rr20
    case ii20 => simp only [List.getElem?_toArray, List.getElem?_cons_succ, List.getElem?_cons_zero]; rfl
    case ff20 => kernel_rfl
    case qq20 => exact fun _ _ _ h => h
    case ww20 => rfl
    case yy20 => intro W hW; go_simp <;> with_reducible rfl
    try simp only [Act.put, List.setIfInBounds_toArray, List.set_cons_zero, List.set_cons_succ]
    refine wpAnyH_take (i := 20) (oi := ?oo21) (v := ?vv21) ?ii21 (by kernel_rfl) ?ff21 (by kernel_rfl) ?qq21 (Or.inl ⟨?ww21, ?yy21⟩) hd0 ?rr21
    case ii21 => simp only [List.getElem?_toArray, List.getElem?_cons_succ, List.getElem?_cons_zero]; rfl
    case ff21 => kernel_rfl
    case qq21 => exact fun _ _ _ h => h
    case ww21 => rfl
    case yy21 => intro W hW; go_simp <;> with_reducible rfl
    try simp only [Act.put, List.setIfInBounds_toArray, List.set_cons_zero, List.set_cons_succ]
    refine wpAnyH_take (i := 21) (oi := ?oo22) (v := ?vv22) ?ii22 (by kernel_rfl) ?ff22 (by kernel_rfl) ?qq22 (Or.inl ⟨?ww22, ?yy22⟩) hd0 ?rr22
    case ii22 => simp only [List.getElem?_toArray, List.getElem?_cons_succ, List.getElem?_cons_zero]; rfl
    case ff22 => kernel_rfl
    case qq22 => exact fun _ _ _ h => h
    case ww22 => rfl
    case yy22 => intro W hW; go_simp <;> with_reducible rfl
    try simp only [Act.put, List.setIfInBounds_toArray, List.set_cons_zero, List.set_cons_succ]
    refine wpAnyH_take (i := 22) (oi := ?oo23) (v := ?vv23) ?ii23 (by kernel_rfl) ?ff23 (by kernel_rfl) ?qq23 (Or.inl ⟨?ww23, ?yy23⟩) hd0 ?rr23
    case ii23 => simp only [List.getElem?_toArray, List.getElem?_cons_succ, List.getElem?_cons_zero]; rfl
    case ff23 => kernel_rfl
    case qq23 => exact fun _ _ _ h => h
    case ww23 => rfl
    case yy23 => intro W hW; go_simp <;> with_reducible rfl
    try simp only [Act.put, List.setIfInBounds_toArray, List.set_cons_zero, List.set_cons_succ]
    refine wpAnyH_take (i := 23) (oi := ?oo24) (v := ?vv24) ?ii24 (by kernel_rfl) ?ff24 (by kernel_rfl) ?qq24 (Or.inl ⟨?ww24, ?yy24⟩) hd0 ?rr24
    case ii24 => simp only [List.getElem?_toArray, List.getElem?_cons_succ, List.getElem?_cons_zero]; rfl
    case ff24 => kernel_rfl
    case qq24 => exact fun _ _ _ h => h
    case ww24 => rfl
    case yy24 => intro W hW; go_simp <;> with_reducible rfl
    try simp only [Act.put, List.setIfInBounds_toArray, List.set_cons_zero, List.set_cons_succ]
    refine wpAnyH_take (i := 24) (oi := ?oo25) (v := ?vv25) ?ii25 (by kernel_rfl) ?ff25 (by kernel_rfl) ?qq25 (Or.inl ⟨?ww25, ?yy25⟩) hd0 ?rr25
    case ii25 => simp only [List.getElem?_toArray, List.getElem?_cons_succ, List.getElem?_cons_zero]; rfl
    case ff25 => kernel_rfl
    case qq25 => exact fun _ _ _ h => h
    case ww25 => rfl
    case yy25 => intro W hW; go_simp <;> with_reducible rfl
    try simp only [Act.put, List.setIfInBounds_toArray, List.set_cons_zero, List.set_cons_succ]
    generalize w4.drew = wd at *
    clear Hd Hr4 Ha4 Hbz4 Hn4 z4
    have hbn := heap_alloc_new wd (.cells #[.int .i64 0, .int .i64 0, .int .i64 0, .int .i64 0, .int .i64 0, .int .i64 0, .int .i64 0, .int .i64 0, .slice none 0 0, .slice none 0 0, .slice none 0 0] 26)
    have hd1 : (fun W : World => W.heap[wc.heap.size]? = some (.cells #[.int .i64 (x0.n : Nat), .int .i64 (x1.n : Nat)] 3 (0, 0)) ∧ W.heap[w2.heap.size]? = some (.cells #[.int .i64 (x2.n : Nat), .int .i64 (x3.n : Nat), .int .i64 (x4.n : Nat), .int .i64 (x5.n : Nat), .int .i64 (x6.n : Nat), .int .i64 (x7.n : Nat)] 3 (0, 0))) (wd.alloc (.cells #[.int .i64 0, .int .i64 0, .int .i64 0, .int .i64 0, .int .i64 0, .int .i64 0, .int .i64 0, .int .i64 0, .slice none 0 0, .slice none 0 0, .slice none 0 0] 26)) := ⟨(Below.heap_alloc _ _ _ (by omega)).trans hd0.1, (Below.heap_alloc _ _ _ (by omega)).trans hd0.2⟩
    refine wpAnyH_ready (rs := [25]) (by kernel_rfl) (by simp) ?_
    refine AllReadyH.cons (o := ?oo26) ?ii26 (fun K hK => ?_) AllReadyH.nil
    case ii26 => simp only [List.getElem?_toArray, List.getElem?_cons_succ, List.getElem?_cons_zero]; rfl
    go_simp
    go_wp2_with fail
    refine hK.out _ _ hd1 (fun _ => ?_)
    clear hK K
    have hfin := heap_alloc_new wd (.cells #[.int .i64 (x0.n : Nat), .int .i64 (x1.n : Nat), .int .i64 (x2.n : Nat), .int .i64 (x3.n : Nat), .int .i64 (x4.n : Nat), .int .i64 (x5.n : Nat), .int .i64 (x6.n : Nat), .int .i64 (x7.n : Nat), .slice none 0 0, .slice none 0 0, .slice none 0 0] 26)
    have ha5 : Apart (fun k => k = wd.heap.size) wd (wd.alloc (.cells #[.int .i64 (x0.n : Nat), .int .i64 (x1.n : Nat), .int .i64 (x2.n : Nat), .int .i64 (x3.n : Nat), .int .i64 (x4.n : Nat), .int .i64 (x5.n : Nat), .int .i64 (x6.n : Nat), .int .i64 (x7.n : Nat), .slice none 0 0, .slice none 0 0, .slice none 0 0] 26)) := (Apart.refl _ wd).alloc _
    have hd5 : (fun W : World => W.heap[wc.heap.size]? = some (.cells #[.int .i64 (x0.n : Nat), .int .i64 (x1.n : Nat)] 3 (0, 0)) ∧ W.heap[w2.heap.size]? = some (.cells #[.int .i64 (x2.n : Nat), .int .i64 (x3.n : Nat), .int .i64 (x4.n : Nat), .int .i64 (x5.n : Nat), .int .i64 (x6.n : Nat), .int .i64 (x7.n : Nat)] 3 (0, 0))) (wd.alloc (.cells #[.int .i64 (x0.n : Nat), .int .i64 (x1.n : Nat), .int .i64 (x2.n : Nat), .int .i64 (x3.n : Nat), .int .i64 (x4.n : Nat), .int .i64 (x5.n : Nat), .int .i64 (x6.n : Nat), .int .i64 (x7.n : Nat), .slice none 0 0, .slice none 0 0, .slice none 0 0] 26)) := ⟨(Below.heap_alloc _ _ _ (by omega)).trans hd0.1, (Below.heap_alloc _ _ _ (by omega)).trans hd0.2⟩
    refine wpAnyH_ready (rs := [26]) (by kernel_rfl) (by simp) ?_
    refine AllReadyH.cons (o := ?oo27) ?ii27 (fun K hK => ?_) AllReadyH.nil
    case ii27 => simp only [List.getElem?_toArray, List.getElem?_cons_succ, List.getElem?_cons_zero]; rfl
    go_simp
    go_wp2_with fail
    refine hK.out _ _ hd5 (fun _ => ?_)
    clear hK K
    clear ka0 ka1 kb0 kb1 kb2 kb3 kb4 kb5 hd0 hd1 hd5 hbn
    refine wpAnyH_done (by kernel_rfl) ?_ _
    have hbc5 : (wd.alloc (.cells #[.int .i64 (x0.n : Nat), .int .i64 (x1.n : Nat), .int .i64 (x2.n : Nat), .int .i64 (x3.n : Nat), .int .i64 (x4.n : Nat), .int .i64 (x5.n : Nat), .int .i64 (x6.n : Nat), .int .i64 (x7.n : Nat), .slice none 0 0, .slice none 0 0, .slice none 0 0] 26)).heap[wd.heap.size]? = some (.cells (rdCells x0.n x1.n x2.n x3.n x4.n x5.n x6.n x7.n (.slice none 0 0) (.slice none 0 0) (.slice none 0 0)) 26 (0, 0)) := hfin
    generalize wd.alloc (.cells #[.int .i64 (x0.n : Nat), .int .i64 (x1.n : Nat), .int .i64 (x2.n : Nat), .int .i64 (x3.n : Nat), .int .i64 (x4.n : Nat), .int .i64 (x5.n : Nat), .int .i64 (x6.n : Nat), .int .i64 (x7.n : Nat), .slice none 0 0, .slice none 0 0, .slice none 0 0] 26) = w5 at *
    have ne5 : ∀ k, k < wd.heap.size → ¬ k = wd.heap.size := fun k hk e => by omega
    have HOk : Hid (RBOk rr w.heap.size w3.heap.size wd.heap.size A l w (wd.heap.size + 1)) := Lib.hid ⟨hrl, Nat.le_refl _, by omega, by omega, by omega, by omega, by omega, by omega, by omega, HQ.out⟩
    have HB5 : Hid (RB rr w.heap.size w3.heap.size wd.heap.size A n cap l w (wd.heap.size + 1) x10.at_ x10.short #[.int .i64 (x8.n : Nat), .int .i64 (x9.n : Nat), .int .i64 (x10.n : Nat)] (rdCells x0.n x1.n x2.n x3.n x4.n x5.n x6.n x7.n (.slice none 0 0) (.slice none 0 0) (.slice none 0 0)) w5) := Lib.hid ⟨hrd.apart ha5 (fun e => by have e : rr = wd.heap.size := e; omega) (fun hl k hk e => by have e : k = wd.heap.size := e; have := HQ.out hl k hk; omega), had.trans ha5 (fun k e => .inr (by have e : k = wd.heap.size := e; omega)), (ha5.block _ (by omega) (ne5 _ (by omega))).trans hbzd, (ha5.block _ zd (ne5 _ zd)).trans hnd, hbc5, lt_of_block hbc5⟩
    clear ha5 hfin hbc5 ne5 hrd had hbzd hnd
    go_upto_block 0 with (fail)
    go_cut [] (fun wx => ∃ ps Av cv, RB rr w.heap.size w3.heap.size wd.heap.size A n cap l w (wd.heap.size + 1) DP.2.1 DP.2.2 #[.int .i64 (x8.n : Nat), .int .i64 (x9.n : Nat), .int .i64 (x10.n : Nat)] (rdCells x0.n x1.n x2.n x3.n x4.n x5.n x6.n x7.n (.slice Av ps.length cv) (.slice none 0 0) (.slice none 0 0)) wx ∧ OwnI partVals 9 60 (wd.heap.size + 1) (.slice Av ps.length cv) ps wx ∧ ps.length ≤ 255 ∧ (DP.2.2 = false → ps = DP.1))
    case first =>
      go_wp2_with fail
      go_loopw [9] (RefPRel rr w.heap.size w3.heap.size wd.heap.size A n cap l w (wd.heap.size + 1) #[.int .i64 (x8.n : Nat), .int .i64 (x9.n : Nat), .int .i64 (x10.n : Nat)] (fun v => rdCells x0.n x1.n x2.n x3.n x4.n x5.n x6.n x7.n v (.slice none 0 0) (.slice none 0 0)) x8.n DP) (fun i _ => (x8.n + 1 - intOf i).toNat)
      case atStart => exact ⟨0, [], .slice none 0 0, x10.at_, x10.short, Nat.zero_le _, rfl, HB5.out, OwnI.nil _ _ _ _ _, rfl, by rw [Nat.sub_zero, HDP.out], fun _ => by rw [Nat.sub_zero, HDP.out]; rfl, none, 0, rfl⟩
      case round =>
        clear HB5
        obtain ⟨k, ps, v, a2, s2, hk, rfl, hb, ho, hpl, g2, g3, Av, cv, rfl⟩ := hrel
        obtain ⟨r0, r1, r2, -, -, -⟩ := three_cells hb.rd.block
        have kn0 : wr.cell? ⟨w3.heap.size, 0, none⟩ = some (.int .i64 (x8.n : Nat)) := cell_at hb.nb 0 rfl
        have HB := Lib.hid hb
        have HOw := Lib.hid ho
        have Hpl := Lib.hid hpl
        have G2 := Lib.hid g2
        have G3 := Lib.hid g3
        have hEnd : Hid ((k = x8.n ∨ s2 = true) → ∃ ps Av cv, RB rr w.heap.size w3.heap.size wd.heap.size A n cap l w (wd.heap.size + 1) DP.2.1 DP.2.2 #[.int .i64 (x8.n : Nat), .int .i64 (x9.n : Nat), .int .i64 (x10.n : Nat)] (rdCells x0.n x1.n x2.n x3.n x4.n x5.n x6.n x7.n (.slice Av ps.length cv) (.slice none 0 0) (.slice none 0 0)) wr ∧ OwnI partVals 9 60 (wd.heap.size + 1) (.slice Av ps.length cv) ps wr ∧ ps.length ≤ 255 ∧ (DP.2.2 = false → ps = DP.1)) := Lib.hid fun hor => by
          have e2 : a2 = DP.2.1 ∧ s2 = DP.2.2 ∧ (DP.2.2 = false → ps = DP.1) := by
            rcases hor with e | e
            · have h2 := G2.out
              have h3 := G3.out
              rw [e, Nat.sub_self] at h2 h3
              exact ⟨congrArg Prod.fst h2, congrArg Prod.snd h2, fun h => by have := h3 h; simpa [TableP.partsD] using this⟩
            · have h2 := G2.out
              rw [e, partsD_true] at h2
              have h4 : true = DP.2.2 := congrArg Prod.snd h2
              exact ⟨congrArg Prod.fst h2, by rw [e]; exact h4, fun h => by rw [← h4] at h; cases h⟩
          obtain ⟨e3, e4, e5⟩ := e2
          have h6 := HB.out
          rw [e3, e4] at h6
          refine ⟨ps, Av, cv, ?_, ?_, by rw [Hpl.out]; omega, e5⟩
          · rw [Hpl.out]; exact h6
          · rw [Hpl.out]; exact HOw.out
        clear hb ho hpl g2 g3
        by_cases hlt : k < x8.n
        · cases s2 with
          | false =>
            have he : errText false a2 = [] := rfl
            rw [he] at r2
            simp only [strV] at r2
            obtain ⟨t0, e0⟩ : ∃ x, WireP.take l a2 false 1 = x := ⟨_, rfl⟩
            obtain ⟨t1, e1⟩ : ∃ x, WireP.take l t0.at_ t0.short 4 = x := ⟨_, rfl⟩
            obtain ⟨t2, e2⟩ : ∃ x, WireP.take l t1.at_ t1.short 4 = x := ⟨_, rfl⟩
            obtain ⟨t3, e3⟩ : ∃ x, WireP.take l t2.at_ t2.short 1 = x := ⟨_, rfl⟩
            obtain ⟨t4, e4⟩ : ∃ x, WireP.take l t3.at_ t3.short 1 = x := ⟨_, rfl⟩
            obtain ⟨t5, e5⟩ : ∃ x, WireP.take l t4.at_ t4.short 1 = x := ⟨_, rfl⟩
            obtain ⟨t6, e6⟩ : ∃ x, WireP.take l t5.at_ t5.short 1 = x := ⟨_, rfl⟩
            obtain ⟨t7, e7⟩ : ∃ x, WireP.take l t6.at_ t6.short 1 = x := ⟨_, rfl⟩
            obtain ⟨t8, e8⟩ : ∃ x, WireP.take l t7.at_ t7.short 1 = x := ⟨_, rfl⟩
            have Hst := Lib.hid (partsD_step (D := DP) (ps := ps) (j := x8.n - (k + 1)) e0 e1 e2 e3 e4 e5 e6 e7 e8 (by rw [show x8.n - (k + 1) + 1 = x8.n - k by omega]; exact G2.out) (by rw [show x8.n - (k + 1) + 1 = x8.n - k by omega]; exact G3.out))
            have m0 : t0.n < 256 := by rw [← e0]; exact take_lt1 _ _ _
            have m5 : (t5.n : Int) % 256 = t5.n := by have := take_lt1 l t4.at_ t4.short; rw [e5] at this; omega
            have m6 : (t6.n : Int) % 256 = t6.n := by have := take_lt1 l t5.at_ t5.short; rw [e6] at this; omega
            have m7 : (t7.n : Int) % 256 = t7.n := by have := take_lt1 l t6.at_ t6.short; rw [e7] at this; omega
            have m8 : (t8.n : Int) % 256 = t8.n := by have := take_lt1 l t7.at_ t7.short; rw [e8] at this; omega
            have hwx : IntKind.i64.wrap (t0.n : Int) = t0.n := IntWalk.i64_in _ (by omega)
            have HT1 : Hid (Calls Try.prog 58 #[.pointer (some ⟨rr, 0, none⟩), .int .i64 1] wr (RefTakePost rr A n cap l t0 wr)) := Lib.hid (by have h9 := reftake_any rr A n cap l a2 false 1 wr HB.out.rd; rwa [e0] at h9)
            have HX : Hid (∀ W, RefAt W rr A n cap l t0.at_ t0.short → Calls Try.prog 59 #[.pointer (some ⟨rr, 0, none⟩), .int .i64 4, .int .i64 2] W (SomeIs rr A n cap l 2 #[.int .i64 (t1.n : Nat), .int .i64 (t2.n : Nat)] t2.at_ t2.short W)) := Lib.hid fun W hW => some2_any 4 (.inr rfl) hW e1 e2
            have HY : Hid (∀ W, RefAt W rr A n cap l t2.at_ t2.short → Calls Try.prog 59 #[.pointer (some ⟨rr, 0, none⟩), .int .i64 1, .int .i64 6] W (SomeIs rr A n cap l 6 #[.int .i64 (t3.n : Nat), .int .i64 (t4.n : Nat), .int .i64 (t5.n : Nat), .int .i64 (t6.n : Nat), .int .i64 (t7.n : Nat), .int .i64 (t8.n : Nat)] t8.at_ t8.short W)) := Lib.hid fun W hW => some6_any 1 (.inl rfl) hW e3 e4 e5 e6 e7 e8
            clear e0 e1 e2 e3 e4 e5 e6 e7 e8 he hEnd G2 G3
            go_wp2_with fail
            refine HT1.out.mono ?_
            rintro e w6 ⟨rfl, hr6, ha6⟩
            have hb6 := HB.out.tr HOk.out hr6 ha6
            have ho6 := HOw.out.apart ha6 (fun q e => by have e : q = rr := e; omega)
            have hs6 := hb6.sz
            have hbp6 := heap_alloc_new w6 (.cells #[.int .i64 (t0.n : Nat), .int .i64 0, .int .i64 0, .int .i64 0, .int .i64 0, .int .u8 0, .int .u8 0, .int .u8 0, .int .u8 0] 60)
            have hb7 := hb6.new HOk.out ((Apart.refl (fun _ => False) w6).alloc (.cells #[.int .i64 (t0.n : Nat), .int .i64 0, .int .i64 0, .int .i64 0, .int .i64 0, .int .u8 0, .int .u8 0, .int .u8 0, .int .u8 0] 60)) (fun _ h => h.elim)
            have ho7 := ho6.new ((Apart.refl (fun _ => False) w6).alloc (.cells #[.int .i64 (t0.n : Nat), .int .i64 0, .int .i64 0, .int .i64 0, .int .i64 0, .int .u8 0, .int .u8 0, .int .u8 0, .int .u8 0] 60)) (fun _ _ h => h)
            have hlt6 : ∀ q, (Value.slice Av k cv).ownBlock = some q → q < w6.heap.size := fun q hq => (ho6.own.lt q hq).2
            have hsz7 : (w6.alloc (.cells #[.int .i64 (t0.n : Nat), .int .i64 0, .int .i64 0, .int .i64 0, .int .i64 0, .int .u8 0, .int .u8 0, .int .u8 0, .int .u8 0] 60)).heap.size = w6.heap.size + 1 := by simp
            clear hr6 ha6 HT1 HB HOw r0 r1 r2 kn0
            go_wp2_with fail
            generalize w6.alloc (.cells #[.int .i64 (t0.n : Nat), .int .i64 0, .int .i64 0, .int .i64 0, .int .i64 0, .int .u8 0, .int .u8 0, .int .u8 0, .int .u8 0] 60) = w7 at *
            have HB7 := Lib.hid hb7
            have HO7 := Lib.hid ho7
            have Hbp7 := Lib.hid hbp6
            have Hlt6 := Lib.hid hlt6
            clear hb6 ho6 hb7 ho7 hbp6 hlt6
            refine (HX.out w7 HB7.out.rd).mono ?_
            rintro e w8 ⟨rfl, hx8, hr8, ha8⟩
            rw [hsz7] at hx8
            have HB8 := Lib.hid (HB7.out.tr HOk.out hr8 ha8)
            have HO8 := Lib.hid (HO7.out.apart ha8 (fun q e => by have e : q = rr := e; omega))
            have Hbp8 := Lib.hid ((ha8.block w6.heap.size (by omega) (fun e => by have e : w6.heap.size = rr := e; omega)).trans Hbp7.out)
            have Hx8 := Lib.hid hx8
            have z8 : w6.heap.size + 1 < w8.heap.size := lt_of_block hx8
            clear hx8 hr8 ha8 HX HB7 HO7 Hbp7
            go_wp2_with fail
            refine (HY.out w8 HB8.out.rd).mono ?_
            rintro e w9 ⟨rfl, hy9, hr9, ha9⟩
            have HPk : Hid (PBOk (wd.heap.size + 1) (.slice Av k cv) w6.heap.size (w6.heap.size + 1) w8.heap.size) := Lib.hid ⟨hs6, by omega, by omega, Hlt6.out⟩
            have hp9 : PB rr w.heap.size w3.heap.size wd.heap.size A n cap l w (wd.heap.size + 1) t8.at_ t8.short #[.int .i64 (x8.n : Nat), .int .i64 (x9.n : Nat), .int .i64 (x10.n : Nat)] (rdCells x0.n x1.n x2.n x3.n x4.n x5.n x6.n x7.n (.slice Av k cv) (.slice none 0 0) (.slice none 0 0)) (.slice Av k cv) ps w6.heap.size #[.int .i64 (t0.n : Nat), .int .i64 0, .int .i64 0, .int .i64 0, .int .i64 0, .int .u8 0, .int .u8 0, .int .u8 0, .int .u8 0] (w6.heap.size + 1) #[.int .i64 (t1.n : Nat), .int .i64 (t2.n : Nat)] w8.heap.size #[.int .i64 (t3.n : Nat), .int .i64 (t4.n : Nat), .int .i64 (t5.n : Nat), .int .i64 (t6.n : Nat), .int .i64 (t7.n : Nat), .int .i64 (t8.n : Nat)] w9 :=
              ⟨HB8.out.tr HOk.out hr9 ha9, HO8.out.apart ha9 (fun q e => by have e : q = rr := e; omega), (ha9.block w6.heap.size (by omega) (fun e => by have e : w6.heap.size = rr := e; omega)).trans Hbp8.out, (ha9.block (w6.heap.size + 1) z8 (fun e => by have e : w6.heap.size + 1 = rr := e; omega)).trans Hx8.out, hy9⟩
            have HP9 := Lib.hid hp9
            clear hy9 hr9 ha9 hp9 HY HB8 HO8 Hbp8 Hx8
            go_wp2_with fail
            have ka0 := fun (W : World) (hW : W.heap[(w6.heap.size + 1)]? = some (.cells #[.int .i64 (t1.n : Nat), .int .i64 (t2.n : Nat)] 3 (0, 0)) ∧ W.heap[w8.heap.size]? = some (.cells #[.int .i64 (t3.n : Nat), .int .i64 (t4.n : Nat), .int .i64 (t5.n : Nat), .int .i64 (t6.n : Nat), .int .i64 (t7.n : Nat), .int .i64 (t8.n : Nat)] 3 (0, 0))) => cell_at hW.1 0 rfl
            have ka1 := fun (W : World) (hW : W.heap[(w6.heap.size + 1)]? = some (.cells #[.int .i64 (t1.n : Nat), .int .i64 (t2.n : Nat)] 3 (0, 0)) ∧ W.heap[w8.heap.size]? = some (.cells #[.int .i64 (t3.n : Nat), .int .i64 (t4.n : Nat), .int .i64 (t5.n : Nat), .int .i64 (t6.n : Nat), .int .i64 (t7.n : Nat), .int .i64 (t8.n : Nat)] 3 (0, 0))) => cell_at hW.1 1 rfl
            have kb0 := fun (W : World) (hW : W.heap[(w6.heap.size + 1)]? = some (.cells #[.int .i64 (t1.n : Nat), .int .i64 (t2.n : Nat)] 3 (0, 0)) ∧ W.heap[w8.heap.size]? = some (.cells #[.int .i64 (t3.n : Nat), .int .i64 (t4.n : Nat), .int .i64 (t5.n : Nat), .int .i64 (t6.n : Nat), .int .i64 (t7.n : Nat), .int .i64 (t8.n : Nat)] 3 (0, 0))) => cell_at hW.2 0 rfl
            have kb1 := fun (W : World) (hW : W.heap[(w6.heap.size + 1)]? = some (.cells #[.int .i64 (t1.n : Nat), .int .i64 (t2.n : Nat)] 3 (0, 0)) ∧ W.heap[w8.heap.size]? = some (.cells #[.int .i64 (t3.n : Nat), .int .i64 (t4.n : Nat), .int .i64 (t5.n : Nat), .int .i64 (t6.n : Nat), .int .i64 (t7.n : Nat), .int .i64 (t8.n : Nat)] 3 (0, 0))) => cell_at hW.2 1 rfl
            have hp := HP9.out.drew HOk.out
            have hd : (fun W : World => W.heap[(w6.heap.size + 1)]? = some (.cells #[.int .i64 (t1.n : Nat), .int .i64 (t2.n : Nat)] 3 (0, 0)) ∧ W.heap[w8.heap.size]? = some (.cells #[.int .i64 (t3.n : Nat), .int .i64 (t4.n : Nat), .int .i64 (t5.n : Nat), .int .i64 (t6.n : Nat), .int .i64 (t7.n : Nat), .int .i64 (t8.n : Nat)] 3 (0, 0))) w9.drew := ⟨hp.xb, hp.yb⟩
            refine wp_region_held_drew (S := fun W => W.heap[(w6.heap.size + 1)]? = some (.cells #[.int .i64 (t1.n : Nat), .int .i64 (t2.n : Nat)] 3 (0, 0)) ∧ W.heap[w8.heap.size]? = some (.cells #[.int .i64 (t3.n : Nat), .int .i64 (t4.n : Nat), .int .i64 (t5.n : Nat), .int .i64 (t6.n : Nat), .int .i64 (t7.n : Nat), .int .i64 (t8.n : Nat)] 3 (0, 0))) (by kernel_rfl) hd (fun _ => ?_)
            refine wpAnyH_take (i := 0) (oi := ?oo28) (v := ?vv28) ?ii28 (by kernel_rfl) ?ff28 (by kernel_rfl) ?qq28 (Or.inl ⟨?ww28, ?yy28⟩) hd ?rr28
            case ii28 => simp only [List.getElem?_toArray, List.getElem?_cons_zero]; rfl
            case ff28 => kernel_rfl
            case qq28 => exact fun _ _ _ h => h
            case ww28 => rfl
            case yy28 => intro W hW; go_simp <;> with_reducible rfl
            try simp only [Act.put, List.setIfInBounds_toArray, List.set_cons_zero, List.set_cons_succ]
            refine wpAnyH_take (i := 1) (oi := ?oo29) (v := ?vv29) ?ii29 (by kernel_rfl) ?ff29 (by kernel_rfl) ?qq29 (Or.inl ⟨?ww29, ?yy29⟩) hd ?rr29
            case ii29 => simp only [List.getElem?_toArray, List.getElem?_cons_succ, List.getElem?_cons_zero]; rfl
            case ff29 => kernel_rfl
            case qq29 => exact fun _ _ _ h => h
            case ww29 => rfl
            case yy29 => intro W hW; go_simp <;> with_reducible rfl
            try simp only [Act.put, List.setIfInBounds_toArray, List.set_cons_zero, List.set_cons_succ]
            refine wpAnyH_take (i := 2) (oi := ?oo30) (v := ?vv30) ?ii30 (by kernel_rfl) ?ff30 (by kernel_rfl) ?qq30 (Or.inl ⟨?ww30, ?yy30⟩) hd ?rr30
            case ii30 => simp only [List.getElem?_toArray, List.getElem?_cons_succ, List.getElem?_cons_zero]; rfl
            case ff30 => kernel_rfl
            case qq30 => exact fun _ _ _ h => h
            case ww30 => rfl
            case yy30 => intro W hW; go_simp <;> with_reducible rfl
            try simp only [Act.put, List.setIfInBounds_toArray, List.set_cons_zero, List.set_cons_succ]
            refine wpAnyH_take (i := 3) (oi := ?oo31) (v := ?vv31) ?ii31 (by kernel_rfl) ?ff31 (by kernel_rfl) ?qq31 (Or.inl ⟨?ww31, ?yy31⟩) hd ?rr31
            case ii31 => simp only [List.getElem?_toArray, List.getElem?_cons_succ, List.getElem?_cons_zero]; rfl
            case ff31 => kernel_rfl
            case qq31 => exact fun _ _ _ h => h
            case ww31 => rfl
            case yy31 => intro W hW; go_simp <;> with_reducible rfl
            try simp only [Act.put, List.setIfInBounds_toArray, List.set_cons_zero, List.set_cons_succ]
            refine wpAnyH_take (i := 4) (oi := ?oo32) (v := ?vv32) ?ii32 (by kernel_rfl) ?ff32 (by kernel_rfl) ?qq32 (Or.inl ⟨?ww32, ?yy32⟩) hd ?rr32
            case ii32 => simp only [List.getElem?_toArray, List.getElem?_cons_succ, List.getElem?_cons_zero]; rfl
            case ff32 => kernel_rfl
            case qq32 => exact fun _ _ _ h => h
            case ww32 => rfl
            case yy32 => intro W hW; go_simp <;> with_reducible rfl
            try simp only [Act.put, List.setIfInBounds_toArray, List.set_cons_zero, List.set_cons_succ]
            refine wpAnyH_take (i := 5) (oi := ?oo33) (v := ?vv33) ?ii33 (by kernel_rfl) ?ff33 (by kernel_rfl) ?qq33 (Or.inl ⟨?ww33, ?yy33⟩) hd ?rr33
            case ii33 => simp only [List.getElem?_toArray, List.getElem?_cons_succ, List.getElem?_cons_zero]; rfl
            case ff33 => kernel_rfl
            case qq33 => exact fun _ _ _ h => h
            case ww33 => rfl
            case yy33 => intro W hW; go_simp <;> with_reducible rfl
            try simp only [Act.put, List.setIfInBounds_toArray, List.set_cons_zero, List.set_cons_succ]
            refine wpAnyH_take (i := 6) (oi := ?oo34) (v := ?vv34) ?ii34 (by kernel_rfl) ?ff34 (by kernel_rfl) ?qq34 (Or.inl ⟨?ww34, ?yy34⟩) hd ?rr34
            case ii34 => simp only [List.getElem?_toArray, List.getElem?_cons_succ, List.getElem?_cons_zero]; rfl
            case ff34 => kernel_rfl
            case qq34 => exact fun _ _ _ h => h
            case ww34 => rfl
            case yy34 => intro W hW; go_simp <;> with_reducible rfl
            try simp only [Act.put, List.setIfInBounds_toArray, List.set_cons_zero, List.set_cons_succ]
            refine wpAnyH_take (i := 7) (oi := ?oo35) (v := ?vv35) ?ii35 (by kernel_rfl) ?ff35 (by kernel_rfl) ?qq35 (Or.inl ⟨?ww35, ?yy35⟩) hd ?rr35
            case ii35 => simp only [List.getElem?_toArray, List.getElem?_cons_succ, List.getElem?_cons_zero]; rfl
            case ff35 => kernel_rfl
            case qq35 => exact fun _ _ _ h => h
            case ww35 => rfl
            case yy35 => intro W hW; go_simp <;> with_reducible rfl
            try simp only [Act.put, List.setIfInBounds_toArray, List.set_cons_zero, List.set_cons_succ]
            refine wpAnyH_take (i := 8) (oi := ?oo36) (v := ?vv36) ?ii36 (by kernel_rfl) ?ff36 (by kernel_rfl) ?qq36 (Or.inl ⟨?ww36, ?yy36⟩) hd ?rr36
            case ii36 => simp only [List.getElem?_toArray, List.getElem?_cons_succ, List.getElem?_cons_zero]; rfl
            case ff36 => kernel_rfl
            case qq36 => exact fun _ _ _ h => h
            case ww36 => rfl
            case yy36 => intro W hW; go_simp <;> with_reducible rfl
            try simp only [Act.put, List.setIfInBounds_toArray, List.set_cons_zero, List.set_cons_succ]
            refine wpAnyH_take (i := 9) (oi := ?oo37) (v := ?vv37) ?ii37 (by kernel_rfl) ?ff37 (by kernel_rfl) ?qq37 (Or.inl ⟨?ww37, ?yy37⟩) hd ?rr37
            case ii37 => simp only [List.getElem?_toArray, List.getElem?_cons_succ, List.getElem?_cons_zero]; rfl
            case ff37 => kernel_rfl
            case qq37 => exact fun _ _ _ h => h
            case ww37 => rfl
            case yy37 => intro W hW; go_simp <;> with_reducible rfl
            try simp only [Act.put, List.setIfInBounds_toArray, List.set_cons_zero, List.set_cons_succ]
            refine wpAnyH_take (i := 10) (oi := ?oo38) (v := ?vv38) ?ii38 (by kernel_rfl) ?ff38 (by kernel_rfl) ?qq38 (Or.inl ⟨?ww38, ?yy38⟩) hd ?rr38
            case ii38 => simp only [List.getElem?_toArray, List.getElem?_cons_succ, List.getElem?_cons_zero]; rfl
            case ff38 => kernel_rfl
            case qq38 => exact fun _ _ _ h => h
            case ww38 => rfl
            case yy38 => intro W hW; go_simp <;> with_reducible rfl
            try simp only [Act.put, List.setIfInBounds_toArray, List.set_cons_zero, List.set_cons_succ]
            refine wpAnyH_take (i := 11) (oi := ?oo39) (v := ?vv39) ?ii39 (by kernel_rfl) ?ff39 (by kernel_rfl) ?qq39 (Or.inl ⟨?ww39, ?yy39⟩) hd ?rr39
            case ii39 => simp only [List.getElem?_toArray, List.getElem?_cons_succ, List.getElem?_cons_zero]; rfl
            case ff39 => kernel_rfl
            case qq39 => exact fun _ _ _ h => h
            case ww39 => rfl
            case yy39 => intro W hW; go_simp <;> with_reducible rfl
            try simp only [Act.put, List.setIfInBounds_toArray, List.set_cons_zero, List.set_cons_succ]
            refine wpAnyH_take (i := 12) (oi := ?oo40) (v := ?vv40) ?ii40 (by kernel_rfl) ?ff40 (by kernel_rfl) ?qq40 (Or.inl ⟨?ww40, ?yy40⟩) hd ?rr40
            case ii40 => simp only [List.getElem?_toArray, List.getElem?_cons_succ, List.getElem?_cons_zero]; rfl
            case ff40 => kernel_rfl
            case qq40 => exact fun _ _ _ h => h
            case ww40 => rfl
            case yy40 => intro W hW; go_simp <;> with_reducible rfl
            try simp only [Act.put, List.setIfInBounds_toArray, List.set_cons_zero, List.set_cons_succ]
            generalize w9.drew = ws0 at *
            have kq := cell_at hp.pb 1 rfl
            have fq := free_at hp.pb 1
            have hq := hp.store HOk.out HPk.out 1 (.int .i64 (t1.n : Nat))
            simp only [List.setIfInBounds_toArray, List.set_cons_zero, List.set_cons_succ] at hq
            have hdq : (fun W : World => W.heap[(w6.heap.size + 1)]? = some (.cells #[.int .i64 (t1.n : Nat), .int .i64 (t2.n : Nat)] 3 (0, 0)) ∧ W.heap[w8.heap.size]? = some (.cells #[.int .i64 (t3.n : Nat), .int .i64 (t4.n : Nat), .int .i64 (t5.n : Nat), .int .i64 (t6.n : Nat), .int .i64 (t7.n : Nat), .int .i64 (t8.n : Nat)] 3 (0, 0))) (ws0.setCell ⟨w6.heap.size, 1, none⟩ (.int .i64 (t1.n : Nat))) := ⟨hq.xb, hq.yb⟩
            refine wpAnyH_ready (rs := [13]) (by kernel_rfl) (by simp) ?_
            refine AllReadyH.cons (o := ?oo41) ?ii41 (fun K hK => ?_) AllReadyH.nil
            case ii41 => simp only [List.getElem?_toArray, List.getElem?_cons_succ, List.getElem?_cons_zero]; rfl
            go_simp
            go_wp2_with fail
            refine hK.out _ _ hdq (fun _ => ?_)
            clear hK K
            clear kq fq hp hd
            generalize ws0.setCell ⟨w6.heap.size, 1, none⟩ (.int .i64 (t1.n : Nat)) = ws1 at *
            have hp := hq
            have hd := hdq
            clear hq hdq
            refine wpAnyH_take (i := 14) (oi := ?oo42) (v := ?vv42) ?ii42 (by kernel_rfl) ?ff42 (by kernel_rfl) ?qq42 (Or.inl ⟨?ww42, ?yy42⟩) hd ?rr42
            case ii42 => simp only [List.getElem?_toArray, List.getElem?_cons_succ, List.getElem?_cons_zero]; rfl
            case ff42 => kernel_rfl
            case qq42 => exact fun _ _ _ h => h
            case ww42 => rfl
            case yy42 => intro W hW; go_simp <;> with_reducible rfl
            try simp only [Act.put, List.setIfInBounds_toArray, List.set_cons_zero, List.set_cons_succ]
            have kq := cell_at hp.pb 2 rfl
            have fq := free_at hp.pb 2
            have hq := hp.store HOk.out HPk.out 2 (.int .i64 (t2.n : Nat))
            simp only [List.setIfInBounds_toArray, List.set_cons_zero, List.set_cons_succ] at hq
            have hdq : (fun W : World => W.heap[(w6.heap.size + 1)]? = some (.cells #[.int .i64 (t1.n : Nat), .int .i64 (t2.n : Nat)] 3 (0, 0)) ∧ W.heap[w8.heap.size]? = some (.cells #[.int .i64 (t3.n : Nat), .int .i64 (t4.n : Nat), .int .i64 (t5.n : Nat), .int .i64 (t6.n : Nat), .int .i64 (t7.n : Nat), .int .i64 (t8.n : Nat)] 3 (0, 0))) (ws1.setCell ⟨w6.heap.size, 2, none⟩ (.int .i64 (t2.n : Nat))) := ⟨hq.xb, hq.yb⟩
            refine wpAnyH_ready (rs := [15]) (by kernel_rfl) (by simp) ?_
            refine AllReadyH.cons (o := ?oo43) ?ii43 (fun K hK => ?_) AllReadyH.nil
            case ii43 => simp only [List.getElem?_toArray, List.getElem?_cons_succ, List.getElem?_cons_zero]; rfl
            go_simp
            go_wp2_with fail
            refine hK.out _ _ hdq (fun _ => ?_)
            clear hK K
            clear kq fq hp hd
            generalize ws1.setCell ⟨w6.heap.size, 2, none⟩ (.int .i64 (t2.n : Nat)) = ws2 at *
            have hp := hq
            have hd := hdq
            clear hq hdq
            refine wpAnyH_take (i := 16) (oi := ?oo44) (v := ?vv44) ?ii44 (by kernel_rfl) ?ff44 (by kernel_rfl) ?qq44 (Or.inl ⟨?ww44, ?yy44⟩) hd ?rr44
            case ii44 => simp only [List.getElem?_toArray, List.getElem?_cons_succ, List.getElem?_cons_zero]; rfl
            case ff44 => kernel_rfl
            case qq44 => exact fun _ _ _ h => h
            case ww44 => rfl
            case yy44 => intro W hW; go_simp <;> with_reducible rfl
            try simp only [Act.put, List.setIfInBounds_toArray, List.set_cons_zero, List.set_cons_succ]
            have kq := cell_at hp.pb 3 rfl
            have fq := free_at hp.pb 3
            have hq := hp.store HOk.out HPk.out 3 (.int .i64 (t3.n : Nat))
            simp only [List.setIfInBounds_toArray, List.set_cons_zero, List.set_cons_succ] at hq
            have hdq : (fun W : World => W.heap[(w6.heap.size + 1)]? = some (.cells #[.int .i64 (t1.n : Nat), .int .i64 (t2.n : Nat)] 3 (0, 0)) ∧ W.heap[w8.heap.size]? = some (.cells #[.int .i64 (t3.n : Nat), .int .i64 (t4.n : Nat), .int .i64 (t5.n : Nat), .int .i64 (t6.n : Nat), .int .i64 (t7.n : Nat), .int .i64 (t8.n : Nat)] 3 (0, 0))) (ws2.setCell ⟨w6.heap.size, 3, none⟩ (.int .i64 (t3.n : Nat))) := ⟨hq.xb, hq.yb⟩
            refine wpAnyH_ready (rs := [17]) (by kernel_rfl) (by simp) ?_
            refine AllReadyH.cons (o := ?oo45) ?ii45 (fun K hK => ?_) AllReadyH.nil
            case ii45 => simp only [List.getElem?_toArray, List.getElem?_cons_succ, List.getElem?_cons_zero]; rfl
            go_simp
            go_wp2_with fail
            refine hK.out _ _ hdq (fun _ => ?_)
            clear hK K
            clear kq fq hp hd
            generalize ws2.setCell ⟨w6.heap.size, 3, none⟩ (.int .i64 (t3.n : Nat)) = ws3 at *
            have hp := hq
            have hd := hdq
            clear hq hdq
            refine wpAnyH_take (i := 18) (oi := ?oo46) (v := ?vv46) ?ii46 (by kernel_rfl) ?ff46 (by kernel_rfl) ?qq46 (Or.inl ⟨?ww46, ?yy46⟩) hd ?rr46
            case ii46 => simp only [List.getElem?_toArray, List.getElem?_cons_succ, List.getElem?_cons_zero]; rfl
            case ff46 => kernel_rfl
            case qq46 => exact fun _ _ _ h => h
            case ww46 => rfl
            case yy46 => intro W hW; go_simp <;> with_reducible rfl
            try simp only [Act.put, List.setIfInBounds_toArray, List.set_cons_zero, List.set_cons_succ]
            have kq := cell_at hp.pb 4 rfl
            have fq := free_at hp.pb 4
            have hq := hp.store HOk.out HPk.out 4 (.int .i64 (t4.n : Nat))
            simp only [List.setIfInBounds_toArray, List.set_cons_zero, List.set_cons_succ] at hq
            have hdq : (fun W : World => W.heap[(w6.heap.size + 1)]? = some (.cells #[.int .i64 (t1.n : Nat), .int .i64 (t2.n : Nat)] 3 (0, 0)) ∧ W.heap[w8.heap.size]? = some (.cells #[.int .i64 (t3.n : Nat), .int .i64 (t4.n : Nat), .int .i64 (t5.n : Nat), .int .i64 (t6.n : Nat), .int .i64 (t7.n : Nat), .int .i64 (t8.n : Nat)] 3 (0, 0))) (ws3.setCell ⟨w6.heap.size, 4, none⟩ (.int .i64 (t4.n : Nat))) := ⟨hq.xb, hq.yb⟩
            refine wpAnyH_ready (rs := [19]) (by kernel_rfl) (by simp) ?_
            refine AllReadyH.cons (o := ?oo47) ?ii47 (fun K hK => ?_) AllReadyH.nil
            case ii47 => simp only [List.getElem?_toArray, List.getElem?_cons_succ, List.getElem?_cons_zero]; rfl
            go_simp
            go_wp2_with fail
            refine hK.out _ _ hdq (fun _ => ?_)
            clear hK K
            clear kq fq hp hd
            generalize ws3.setCell ⟨w6.heap.size, 4, none⟩ (.int .i64 (t4.n : Nat)) = ws4 at *
            have hp := hq
            have hd := hdq
            clear hq hdq
            refine wpAnyH_done (by kernel_rfl) ?_ _
            have HP0 : Hid (PB rr w.heap.size w3.heap.size wd.heap.size A n cap l w (wd.heap.size + 1) t8.at_ t8.short #[.int .i64 (x8.n : Nat), .int .i64 (x9.n : Nat), .int .i64 (x10.n : Nat)] (rdCells x0.n x1.n x2.n x3.n x4.n x5.n x6.n x7.n (.slice Av k cv) (.slice none 0 0) (.slice none 0 0)) (.slice Av k cv) ps w6.heap.size #[.int .i64 (t0.n : Nat), .int .i64 (t1.n : Nat), .int .i64 (t2.n : Nat), .int .i64 (t3.n : Nat), .int .i64 (t4.n : Nat), .int .u8 0, .int .u8 0, .int .u8 0, .int .u8 0] (w6.heap.size + 1) #[.int .i64 (t1.n : Nat), .int .i64 (t2.n : Nat)] w8.heap.size #[.int .i64 (t3.n : Nat), .int .i64 (t4.n : Nat), .int .i64 (t5.n : Nat), .int .i64 (t6.n : Nat), .int .i64 (t7.n : Nat), .int .i64 (t8.n : Nat)] ws4) := Lib.hid hp
            clear hp hd ka0 ka1 kb0 kb1 HP9
            go_wp2_with fail
            go_loopw [13] (fun i wx => (i = .int .i64 0 ∧ PB rr w.heap.size w3.heap.size wd.heap.size A n cap l w (wd.heap.size + 1) t8.at_ t8.short #[.int .i64 (x8.n : Nat), .int .i64 (x9.n : Nat), .int .i64 (x10.n : Nat)] (rdCells x0.n x1.n x2.n x3.n x4.n x5.n x6.n x7.n (.slice Av k cv) (.slice none 0 0) (.slice none 0 0)) (.slice Av k cv) ps w6.heap.size #[.int .i64 (t0.n : Nat), .int .i64 (t1.n : Nat), .int .i64 (t2.n : Nat), .int .i64 (t3.n : Nat), .int .i64 (t4.n : Nat), .int .u8 0, .int .u8 0, .int .u8 0, .int .u8 0] (w6.heap.size + 1) #[.int .i64 (t1.n : Nat), .int .i64 (t2.n : Nat)] w8.heap.size #[.int .i64 (t3.n : Nat), .int .i64 (t4.n : Nat), .int .i64 (t5.n : Nat), .int .i64 (t6.n : Nat), .int .i64 (t7.n : Nat), .int .i64 (t8.n : Nat)] wx) ∨ (i = .int .i64 1 ∧ PB rr w.heap.size w3.heap.size wd.heap.size A n cap l w (wd.heap.size + 1) t8.at_ t8.short #[.int .i64 (x8.n : Nat), .int .i64 (x9.n : Nat), .int .i64 (x10.n : Nat)] (rdCells x0.n x1.n x2.n x3.n x4.n x5.n x6.n x7.n (.slice Av k cv) (.slice none 0 0) (.slice none 0 0)) (.slice Av k cv) ps w6.heap.size #[.int .i64 (t0.n : Nat), .int .i64 (t1.n : Nat), .int .i64 (t2.n : Nat), .int .i64 (t3.n : Nat), .int .i64 (t4.n : Nat), .int .u8 (t5.n : Nat), .int .u8 0, .int .u8 0, .int .u8 0] (w6.heap.size + 1) #[.int .i64 (t1.n : Nat), .int .i64 (t2.n : Nat)] w8.heap.size #[.int .i64 (t3.n : Nat), .int .i64 (t4.n : Nat), .int .i64 (t5.n : Nat), .int .i64 (t6.n : Nat), .int .i64 (t7.n : Nat), .int .i64 (t8.n : Nat)] wx) ∨ (i = .int .i64 2 ∧ PB rr w.heap.size w3.heap.size wd.heap.size A n cap l w (wd.heap.size + 1) t8.at_ t8.short #[.int .i64 (x8.n : Nat), .int .i64 (x9.n : Nat), .int .i64 (x10.n : Nat)] (rdCells x0.n x1.n x2.n x3.n x4.n x5.n x6.n x7.n (.slice Av k cv) (.slice none 0 0) (.slice none 0 0)) (.slice Av k cv) ps w6.heap.size #[.int .i64 (t0.n : Nat), .int .i64 (t1.n : Nat), .int .i64 (t2.n : Nat), .int .i64 (t3.n : Nat), .int .i64 (t4.n : Nat), .int .u8 (t5.n : Nat), .int .u8 (t6.n : Nat), .int .u8 0, .int .u8 0] (w6.heap.size + 1) #[.int .i64 (t1.n : Nat), .int .i64 (t2.n : Nat)] w8.heap.size #[.int .i64 (t3.n : Nat), .int .i64 (t4.n : Nat), .int .i64 (t5.n : Nat), .int .i64 (t6.n : Nat), .int .i64 (t7.n : Nat), .int .i64 (t8.n : Nat)] wx) ∨ (i = .int .i64 3 ∧ PB rr w.heap.size w3.heap.size wd.heap.size A n cap l w (wd.heap.size + 1) t8.at_ t8.short #[.int .i64 (x8.n : Nat), .int .i64 (x9.n : Nat), .int .i64 (x10.n : Nat)] (rdCells x0.n x1.n x2.n x3.n x4.n x5.n x6.n x7.n (.slice Av k cv) (.slice none 0 0) (.slice none 0 0)) (.slice Av k cv) ps w6.heap.size #[.int .i64 (t0.n : Nat), .int .i64 (t1.n : Nat), .int .i64 (t2.n : Nat), .int .i64 (t3.n : Nat), .int .i64 (t4.n : Nat), .int .u8 (t5.n : Nat), .int .u8 (t6.n : Nat), .int .u8 (t7.n : Nat), .int .u8 0] (w6.heap.size + 1) #[.int .i64 (t1.n : Nat), .int .i64 (t2.n : Nat)] w8.heap.size #[.int .i64 (t3.n : Nat), .int .i64 (t4.n : Nat), .int .i64 (t5.n : Nat), .int .i64 (t6.n : Nat), .int .i64 (t7.n : Nat), .int .i64 (t8.n : Nat)] wx) ∨ (i = .int .i64 4 ∧ PB rr w.heap.size w3.heap.size wd.heap.size A n cap l w (wd.heap.size + 1) t8.at_ t8.short #[.int .i64 (x8.n : Nat), .int .i64 (x9.n : Nat), .int .i64 (x10.n : Nat)] (rdCells x0.n x1.n x2.n x3.n x4.n x5.n x6.n x7.n (.slice Av k cv) (.slice none 0 0) (.slice none 0 0)) (.slice Av k cv) ps w6.heap.size #[.int .i64 (t0.n : Nat), .int .i64 (t1.n : Nat), .int .i64 (t2.n : Nat), .int .i64 (t3.n : Nat), .int .i64 (t4.n : Nat), .int .u8 (t5.n : Nat), .int .u8 (t6.n : Nat), .int .u8 (t7.n : Nat), .int .u8 (t8.n : Nat)] (w6.heap.size + 1) #[.int .i64 (t1.n : Nat), .int .i64 (t2.n : Nat)] w8.heap.size #[.int .i64 (t3.n : Nat), .int .i64 (t4.n : Nat), .int .i64 (t5.n : Nat), .int .i64 (t6.n : Nat), .int .i64 (t7.n : Nat), .int .i64 (t8.n : Nat)] wx)) (fun i _ => (5 - intOf i).toNat)
            case atStart => exact .inl ⟨rfl, HP0.out⟩
            case round =>
              clear HP0
              rcases hrel with ⟨rfl, hb⟩ | ⟨rfl, hb⟩ | ⟨rfl, hb⟩ | ⟨rfl, hb⟩ | ⟨rfl, hb⟩
              · have kv := cell_at hb.yb 2 rfl
                have kq := cell_at hb.pb 5 rfl
                have fq := free_at hb.pb 5
                have HQ6 : Hid (PB rr w.heap.size w3.heap.size wd.heap.size A n cap l w (wd.heap.size + 1) t8.at_ t8.short #[.int .i64 (x8.n : Nat), .int .i64 (x9.n : Nat), .int .i64 (x10.n : Nat)] (rdCells x0.n x1.n x2.n x3.n x4.n x5.n x6.n x7.n (.slice Av k cv) (.slice none 0 0) (.slice none 0 0)) (.slice Av k cv) ps w6.heap.size #[.int .i64 (t0.n : Nat), .int .i64 (t1.n : Nat), .int .i64 (t2.n : Nat), .int .i64 (t3.n : Nat), .int .i64 (t4.n : Nat), .int .u8 (t5.n : Nat), .int .u8 0, .int .u8 0, .int .u8 0] (w6.heap.size + 1) #[.int .i64 (t1.n : Nat), .int .i64 (t2.n : Nat)] w8.heap.size #[.int .i64 (t3.n : Nat), .int .i64 (t4.n : Nat), .int .i64 (t5.n : Nat), .int .i64 (t6.n : Nat), .int .i64 (t7.n : Nat), .int .i64 (t8.n : Nat)] (wr.setCell ⟨w6.heap.size, 5, none⟩ (.int .u8 (t5.n : Nat)))) := Lib.hid (by
                  have h9 := hb.store HOk.out HPk.out 5 (.int .u8 (t5.n : Nat))
                  simpa only [List.setIfInBounds_toArray, List.set_cons_zero, List.set_cons_succ] using h9)
                clear hb
                go_wp2_with fail
                go_roundw
                case rel => exact (.inr (.inl ⟨rfl, HQ6.out⟩))
                case measure => simp [intOf]
              · have kv := cell_at hb.yb 3 rfl
                have kq := cell_at hb.pb 6 rfl
                have fq := free_at hb.pb 6
                have HQ6 : Hid (PB rr w.heap.size w3.heap.size wd.heap.size A n cap l w (wd.heap.size + 1) t8.at_ t8.short #[.int .i64 (x8.n : Nat), .int .i64 (x9.n : Nat), .int .i64 (x10.n : Nat)] (rdCells x0.n x1.n x2.n x3.n x4.n x5.n x6.n x7.n (.slice Av k cv) (.slice none 0 0) (.slice none 0 0)) (.slice Av k cv) ps w6.heap.size #[.int .i64 (t0.n : Nat), .int .i64 (t1.n : Nat), .int .i64 (t2.n : Nat), .int .i64 (t3.n : Nat), .int .i64 (t4.n : Nat), .int .u8 (t5.n : Nat), .int .u8 (t6.n : Nat), .int .u8 0, .int .u8 0] (w6.heap.size + 1) #[.int .i64 (t1.n : Nat), .int .i64 (t2.n : Nat)] w8.heap.size #[.int .i64 (t3.n : Nat), .int .i64 (t4.n : Nat), .int .i64 (t5.n : Nat), .int .i64 (t6.n : Nat), .int .i64 (t7.n : Nat), .int .i64 (t8.n : Nat)] (wr.setCell ⟨w6.heap.size, 6, none⟩ (.int .u8 (t6.n : Nat)))) := Lib.hid (by
                  have h9 := hb.store HOk.out HPk.out 6 (.int .u8 (t6.n : Nat))
                  simpa only [List.setIfInBounds_toArray, List.set_cons_zero, List.set_cons_succ] using h9)
                clear hb
                go_wp2_with fail
                go_roundw
                case rel => exact (.inr (.inr (.inl ⟨rfl, HQ6.out⟩)))
                case measure => simp [intOf]
              · have kv := cell_at hb.yb 4 rfl
                have kq := cell_at hb.pb 7 rfl
                have fq := free_at hb.pb 7
                have HQ6 : Hid (PB rr w.heap.size w3.heap.size wd.heap.size A n cap l w (wd.heap.size + 1) t8.at_ t8.short #[.int .i64 (x8.n : Nat), .int .i64 (x9.n : Nat), .int .i64 (x10.n : Nat)] (rdCells x0.n x1.n x2.n x3.n x4.n x5.n x6.n x7.n (.slice Av k cv) (.slice none 0 0) (.slice none 0 0)) (.slice Av k cv) ps w6.heap.size #[.int .i64 (t0.n : Nat), .int .i64 (t1.n : Nat), .int .i64 (t2.n : Nat), .int .i64 (t3.n : Nat), .int .i64 (t4.n : Nat), .int .u8 (t5.n : Nat), .int .u8 (t6.n : Nat), .int .u8 (t7.n : Nat), .int .u8 0] (w6.heap.size + 1) #[.int .i64 (t1.n : Nat), .int .i64 (t2.n : Nat)] w8.heap.size #[.int .i64 (t3.n : Nat), .int .i64 (t4.n : Nat), .int .i64 (t5.n : Nat), .int .i64 (t6.n : Nat), .int .i64 (t7.n : Nat), .int .i64 (t8.n : Nat)] (wr.setCell ⟨w6.heap.size, 7, none⟩ (.int .u8 (t7.n : Nat)))) := Lib.hid (by
                  have h9 := hb.store HOk.out HPk.out 7 (.int .u8 (t7.n : Nat))
                  simpa only [List.setIfInBounds_toArray, List.set_cons_zero, List.set_cons_succ] using h9)
                clear hb
                go_wp2_with fail
                go_roundw
                case rel => exact (.inr (.inr (.inr (.inl ⟨rfl, HQ6.out⟩))))
                case measure => simp [intOf]
              · have kv := cell_at hb.yb 5 rfl
                have kq := cell_at hb.pb 8 rfl
                have fq := free_at hb.pb 8
                have HQ6 : Hid (PB rr w.heap.size w3.heap.size wd.heap.size A n cap l w (wd.heap.size + 1) t8.at_ t8.short #[.int .i64 (x8.n : Nat), .int .i64 (x9.n : Nat), .int .i64 (x10.n : Nat)] (rdCells x0.n x1.n x2.n x3.n x4.n x5.n x6.n x7.n (.slice Av k cv) (.slice none 0 0) (.slice none 0 0)) (.slice Av k cv) ps w6.heap.size #[.int .i64 (t0.n : Nat), .int .i64 (t1.n : Nat), .int .i64 (t2.n : Nat), .int .i64 (t3.n : Nat), .int .i64 (t4.n : Nat), .int .u8 (t5.n : Nat), .int .u8 (t6.n : Nat), .int .u8 (t7.n : Nat), .int .u8 (t8.n : Nat)] (w6.heap.size + 1) #[.int .i64 (t1.n : Nat), .int .i64 (t2.n : Nat)] w8.heap.size #[.int .i64 (t3.n : Nat), .int .i64 (t4.n : Nat), .int .i64 (t5.n : Nat), .int .i64 (t6.n : Nat), .int .i64 (t7.n : Nat), .int .i64 (t8.n : Nat)] (wr.setCell ⟨w6.heap.size, 8, none⟩ (.int .u8 (t8.n : Nat)))) := Lib.hid (by
                  have h9 := hb.store HOk.out HPk.out 8 (.int .u8 (t8.n : Nat))
                  simpa only [List.setIfInBounds_toArray, List.set_cons_zero, List.set_cons_succ] using h9)
                clear hb
                go_wp2_with fail
                go_roundw
                case rel => exact (.inr (.inr (.inr (.inr ⟨rfl, HQ6.out⟩))))
                case measure => simp [intOf]
              · have HBx := Lib.hid hb
                have p0 := cell_at hb.pb 0 rfl
                have p1 := cell_at hb.pb 1 rfl
                have p2 := cell_at hb.pb 2 rfl
                have p3 := cell_at hb.pb 3 rfl
                have p4 := cell_at hb.pb 4 rfl
                have p5 := cell_at hb.pb 5 rfl
                have p6 := cell_at hb.pb 6 rfl
                have p7 := cell_at hb.pb 7 rfl
                have p8 := cell_at hb.pb 8 rfl
                have kb8 : wr.cell? ⟨wd.heap.size, 8, none⟩ = some (.slice Av k cv) := cell_at hb.rb.cb 8 rfl
                have hown8 : wr.ownsRow (wd.heap.size + 1) 60 9 (.slice Av k cv) k (itemsV partVals ps) := by have h9 := hb.ow.own; rw [Hpl.out] at h9; exact h9
                have Hl8 := Lib.hid hown8
                have hl255 : ps.length ≤ 255 := by rw [Hpl.out]; omega
                clear hb hown8
                go_wp2_with (at_builtin
                             refine wpList_append_s rfl (.tmp 115) (.tmp 117) _ rfl (wd.heap.size + 1) 60 _ 9 48 Try.underlying22 infoP rfl (by omega) _ k (itemsV partVals ps) rfl (Hl8.out.alloc _) (some ⟨wr.heap.size, 0, none⟩) 1 1 (partVals ⟨t0.n, t1.n, t2.n, t3.n, t4.n, t5.n, t6.n, t7.n, t8.n⟩) rfl rfl (fun _ => ⟨_, rfl, laid_at wr _ (partVals ⟨t0.n, t1.n, t2.n, t3.n, t4.n, t5.n, t6.n, t7.n, t8.n⟩) wr.heap.size rfl⟩) (partVals_one _) (by unfold maxLen; omega) (by omega) (by have := HBx.out.rb.sz; simp; omega) ?_
                             intro v10 w10 ho10 ha10 hb10
                             have ha100 : Apart (fun q => (Value.slice Av k cv).ownBlock = some q) wr w10 := ((Apart.refl _ wr).alloc _).trans ha10 (fun _ e => .inl e)
                             have hs10 := HBx.out.rb.new HOk.out ha100 (fun q e => HBx.out.ow.hi q e)
                             have hn10 : OwnI partVals 9 60 (wd.heap.size + 1) v10 (ps ++ [⟨t0.n, t1.n, t2.n, t3.n, t4.n, t5.n, t6.n, t7.n, t8.n⟩]) w10 := OwnI.more (by rw [Hpl.out]; exact ho10)
                             obtain ⟨A10, c10, rfl, -⟩ := own_slice ho10
                             have kb10 : w10.cell? ⟨wd.heap.size, 8, none⟩ = some (.slice Av k cv) := cell_at hs10.cb 8 rfl
                             have fb10 := free_at hs10.cb 8
                             have HS11 := Lib.hid (hs10.store HOk.out 8 (.slice A10 (k + 1) c10))
                             have HO11 := Lib.hid (hn10.apart (Apart.setCell (F := fun q => q = wd.heap.size) (Apart.refl _ w10) (p := ⟨wd.heap.size, 8, none⟩) (.inl rfl) (.slice A10 (k + 1) c10)) (fun q e => by omega))
                             clear ho10 ha10 hb10 hn10 hs10 ha100)
                go_roundw
                case rel => exact ⟨k + 1, _, .slice A10 (k + 1) c10, _, _, by omega, by go_num, HS11.out, HO11.out, by rw [List.length_append, Hpl.out]; rfl, Hst.out.1, Hst.out.2, A10, c10, rfl⟩
                case measure => simp [intOf]; omega
          | true =>
            have hne : (errText true a2).isEmpty = false := atT_ne' 4 (a2 : Nat)
            have HE2 := Lib.hid (hEnd.out (.inr rfl))
            simp only [strV] at r2
            generalize errText true a2 = et at *
            clear hEnd
            go_wp2_with fail
            go_meet
            exact HE2.out
        · have HE2 := Lib.hid (hEnd.out (.inl (by omega)))
          clear hEnd
          go_wp2_with fail
          go_meet
          exact HE2.out
    case rest =>
      clear HB5
      obtain ⟨ps, Av, cv, hb, ho, hpl, hpe⟩ := hcut
      have HBa := Lib.hid hb
      have HOP0 := Lib.hid ho
      have HPe := Lib.hid hpe
      clear hb ho hpe
      have HS2 : Hid (∀ qs a3, DQ = .inl (qs, a3, false) → DP.2.2 = false) := Lib.hid fun qs a3 e => by
        have h9 := HDQ.out
        rw [e] at h9
        exact (TableP.portsD_inv _ _ _ _ _ _ h9).1
      go_upto_block 4 with (fail)
      go_cut [] (fun wx => ∃ qs Bv cq q0 a3 s3, DQ = .inl (q0, a3, s3) ∧ RB rr w.heap.size w3.heap.size wd.heap.size A n cap l w (wd.heap.size + 1) a3 s3 #[.int .i64 (x8.n : Nat), .int .i64 (x9.n : Nat), .int .i64 (x10.n : Nat)] (rdCells x0.n x1.n x2.n x3.n x4.n x5.n x6.n x7.n (.slice Av ps.length cv) (.slice Bv qs.length cq) (.slice none 0 0)) wx ∧ OwnI partVals 9 60 (wd.heap.size + 1) (.slice Av ps.length cv) ps wx ∧ OwnI portVals 6 63 (wd.heap.size + 1) (.slice Bv qs.length cq) qs wx ∧ qs.length ≤ 255 ∧ (s3 = false → qs = q0))
      case first =>
        go_wp2_with fail
        go_loopw [14] (RefQRel rr w.heap.size w3.heap.size wd.heap.size A n cap l w (wd.heap.size + 1) #[.int .i64 (x8.n : Nat), .int .i64 (x9.n : Nat), .int .i64 (x10.n : Nat)] (fun v => (rdCells x0.n x1.n x2.n x3.n x4.n x5.n x6.n x7.n (.slice Av ps.length cv) v (.slice none 0 0))) (.slice Av ps.length cv) ps x9.n DQ) (fun i _ => (x9.n + 1 - intOf i).toNat)
        case atStart => exact ⟨0, [], .slice none 0 0, DP.2.1, DP.2.2, Nat.zero_le _, rfl, HBa.out, HOP0.out, OwnI.nil _ _ _ _ _, fun _ _ => by simp [Value.ownBlock], rfl, by rw [Nat.sub_zero, HDQ.out]; exact PortsTo.start _, none, 0, rfl⟩
        case round =>
          clear HBa HOP0
          obtain ⟨k, qs, v, a2, s2, hk, rfl, hb, hoP, hoQ, hdis, hql, hto, Bv, cq, rfl⟩ := hrel
          obtain ⟨r0, r1, r2, -, -, -⟩ := three_cells hb.rd.block
          have kn1 : wr.cell? ⟨w3.heap.size, 1, none⟩ = some (.int .i64 (x9.n : Nat)) := cell_at hb.nb 1 rfl
          have HB := Lib.hid hb
          have HOP := Lib.hid hoP
          have HOQ := Lib.hid hoQ
          have Hdis := Lib.hid hdis
          have Hql := Lib.hid hql
          have Hto := Lib.hid hto
          have hEnd : Hid ((k = x9.n ∨ s2 = true) → ∃ qs Bv cq q0 a3 s3, DQ = .inl (q0, a3, s3) ∧ RB rr w.heap.size w3.heap.size wd.heap.size A n cap l w (wd.heap.size + 1) a3 s3 #[.int .i64 (x8.n : Nat), .int .i64 (x9.n : Nat), .int .i64 (x10.n : Nat)] (rdCells x0.n x1.n x2.n x3.n x4.n x5.n x6.n x7.n (.slice Av ps.length cv) (.slice Bv qs.length cq) (.slice none 0 0)) wr ∧ OwnI partVals 9 60 (wd.heap.size + 1) (.slice Av ps.length cv) ps wr ∧ OwnI portVals 6 63 (wd.heap.size + 1) (.slice Bv qs.length cq) qs wr ∧ qs.length ≤ 255 ∧ (s3 = false → qs = q0)) := Lib.hid fun hor => by
            have e2 : TableP.portsD l (x9.n - k) k a2 s2 = .inl ([], a2, s2) := by
              rcases hor with e | e
              · rw [e, Nat.sub_self]; rfl
              · rw [e, portsD_true]
            have h2 := Hto.out
            rw [e2] at h2
            have h6 := HB.out
            have h7 := HOQ.out
            have h8 := Hql.out
            cases hDQ : DQ with
            | inr y => rw [hDQ] at h2; exact h2.elim
            | inl y =>
              obtain ⟨q0, a30, s30⟩ := y
              rw [hDQ] at h2
              obtain ⟨g1, g2⟩ := h2
              have e3 := Prod.mk.inj g1
              obtain ⟨rfl, rfl⟩ := e3
              refine ⟨qs, Bv, cq, q0, a2, s2, rfl, ?_, HOP.out, ?_, by omega, fun hs => by have := g2 hs; simpa using this⟩
              · rw [h8]; exact h6
              · rw [h8]; exact h7
          clear hb hoP hoQ hdis hql hto
          by_cases hlt : k < x9.n
          · cases s2 with
            | false =>
              have he : errText false a2 = [] := rfl
              rw [he] at r2
              simp only [strV] at r2
              obtain ⟨t0, e0⟩ : ∃ x, WireP.take l a2 false 1 = x := ⟨_, rfl⟩
              obtain ⟨t1, e1⟩ : ∃ x, WireP.take l t0.at_ t0.short 1 = x := ⟨_, rfl⟩
              obtain ⟨t2, e2⟩ : ∃ x, WireP.take l t1.at_ t1.short 1 = x := ⟨_, rfl⟩
              obtain ⟨t3, e3⟩ : ∃ x, WireP.take l t2.at_ t2.short 1 = x := ⟨_, rfl⟩
              obtain ⟨t4, e4⟩ : ∃ x, WireP.take l t3.at_ t3.short 1 = x := ⟨_, rfl⟩
              obtain ⟨t5, e5⟩ : ∃ x, WireP.take l t4.at_ t4.short 1 = x := ⟨_, rfl⟩
              have Hbad := Lib.hid (fun hb => portsD_bad (D := DQ) (ps := qs) (i := k) (j := x9.n - (k + 1)) e0 e1 e2 hb (by rw [show x9.n - (k + 1) + 1 = x9.n - k by omega]; exact Hto.out))
              have Hst := Lib.hid (fun hb => portsD_step (D := DQ) (ps := qs) (i := k) (j := x9.n - (k + 1)) e0 e1 e2 e3 e4 e5 hb (by rw [show x9.n - (k + 1) + 1 = x9.n - k by omega]; exact Hto.out))
              have m1 : IntKind.u8.wrap (t1.n : Int) = t1.n := by have := take_lt1 l t0.at_ t0.short; rw [e1] at this; show (t1.n : Int) % 256 = t1.n; omega
              have HX := Lib.hid (some3_any 1 (.inl rfl) HB.out.rd e0 e1 e2)
              have HY : Hid (∀ W, RefAt W rr A n cap l t2.at_ t2.short → Calls Try.prog 59 #[.pointer (some ⟨rr, 0, none⟩), .int .i64 1, .int .i64 3] W (SomeIs rr A n cap l 3 #[.int .i64 (t3.n : Nat), .int .i64 (t4.n : Nat), .int .i64 (t5.n : Nat)] t5.at_ t5.short W)) := Lib.hid fun W hW => some3_any 1 (.inl rfl) hW e3 e4 e5
              have hl255 : qs.length ≤ 255 := by rw [Hql.out]; omega
              clear e0 e1 e2 e3 e4 e5 he hEnd Hto
              go_wp2_with fail
              refine HX.out.mono ?_
              rintro e w6 ⟨rfl, hx6, hr6, ha6⟩
              have HB6 := Lib.hid (HB.out.tr HOk.out hr6 ha6)
              have HOP6 := Lib.hid (HOP.out.apart ha6 (fun q e => by have e : q = rr := e; omega))
              have HOQ6 := Lib.hid (HOQ.out.apart ha6 (fun q e => by have e : q = rr := e; omega))
              have hwr := HB.out.sz
              have hlo6 : ∀ q, (Value.slice Bv k cq).ownBlock = some q → q < wr.heap.size := fun q hq => (HOQ.out.own.lt q hq).2
              have Hlo6 := Lib.hid hlo6
              have Hx6 := Lib.hid hx6
              obtain ⟨r0, r1, r2, -, -, -⟩ := three_cells hr6.block
              have kx2 : w6.cell? ⟨wr.heap.size, 2, none⟩ = some (.int .i64 (t2.n : Nat)) := cell_at hx6 2 rfl
              have z6 : wr.heap.size < w6.heap.size := lt_of_block hx6
              clear hx6 hr6 ha6 HX HB HOP HOQ hlo6
              by_cases hbad : 1 < t2.n
              · obtain ⟨hDQ, hsh⟩ := Hbad.out hbad
                have q2 : decide ((1 : Int) < t2.n) = true := decide_eq_true (by omega)
                rw [hsh] at r2
                have he : errText false t2.at_ = [] := rfl
                rw [he] at r2
                simp only [strV] at r2
                have HA := Lib.hid (fun W => at_any 8 (k : Int) W (by omega) (by omega))
                have hb6 := HB6.out
                rw [hsh] at hb6
                have Hb6 := Lib.hid hb6
                clear hb6 HB6 Hbad Hst he hsh HY
                unfold strV at HA
                go_wp2_with fail
                clear r0 r1 r2 kx2
                refine (HA.out _).mono ?_
                rintro e W ⟨rfl, hb7⟩
                have hz6 : w.heap.size < w6.heap.size := lt_of_block Hb6.out.zb
                have hbz := (hb7.block w.heap.size hz6).trans Hb6.out.zb
                have Hr7 := Lib.hid (Hb6.out.rd.below hb7)
                have Ha7 : Hid (Apart (RF rr) w W) := Lib.hid (Hb6.out.ap.trans (F := RF rr) (G := fun _ => False) (Apart.of_below' hb7) (fun _ h => h.elim))
                clear hb7
                have k0 := cell_at hbz 0 rfl
                have k1 := cell_at hbz 1 rfl
                have k2 := cell_at hbz 2 rfl
                have k3 := cell_at hbz 3 rfl
                have k4 := cell_at hbz 4 rfl
                have k5 := cell_at hbz 5 rfl
                have k6 := cell_at hbz 6 rfl
                have k7 := cell_at hbz 7 rfl
                have k8 := cell_at hbz 8 rfl
                have k9 := cell_at hbz 9 rfl
                have k10 := cell_at hbz 10 rfl
                have f := fun i => free_at hbz i
                go_wp2_with fail
                clear k0 k1 k2 k3 k4 k5 k6 k7 k8 k9 k10 f
                show bodyPost _ _ _ _ _ (storeAll W w.heap.size [.int .i64 0, .int .i64 0, .int .i64 0, .int .i64 0, .int .i64 0, .int .i64 0, .int .i64 0, .int .i64 0, .slice none 0 0, .slice none 0 0, .slice none 0 0] 0)
                have hfin := zero_same2 hbz rfl [.int .i64 0, .int .i64 0, .int .i64 0, .int .i64 0, .int .i64 0, .int .i64 0, .int .i64 0, .int .i64 0, .slice none 0 0, .slice none 0 0, .slice none 0 0] rfl
                have h1 := storeAll_apart w.heap.size [.int .i64 0, .int .i64 0, .int .i64 0, .int .i64 0, .int .i64 0, .int .i64 0, .int .i64 0, .int .i64 0, .slice none 0 0, .slice none 0 0, .slice none 0 0] 0 W
                have HF : Hid (RefRestPost rr A n cap l x0.n x1.n x2.n x3.n x4.n x5.n x6.n x7.n x10.n DP DQ w (.returned (.tuple #[.agg #[.int .i64 0, .int .i64 0, .int .i64 0, .int .i64 0, .int .i64 0, .int .i64 0, .int .i64 0, .int .i64 0, .slice none 0 0, .slice none 0 0, .slice none 0 0], .string ⟨(atT 8 (k : Nat)).toArray⟩])) (storeAll W w.heap.size [.int .i64 0, .int .i64 0, .int .i64 0, .int .i64 0, .int .i64 0, .int .i64 0, .int .i64 0, .int .i64 0, .slice none 0 0, .slice none 0 0, .slice none 0 0] 0)) := Lib.hid (by
                  rw [hDQ]
                  exact ⟨rfl, Hr7.out.apart h1 (fun e => by have e : rr = w.heap.size := e; omega) (fun hl k hk e => by have e : k = w.heap.size := e; have := HQ.out hl k hk; omega), Ha7.out.trans h1 (fun k e => .inr (Nat.le_of_eq e.symm))⟩)
                clear h1
                generalize storeAll W w.heap.size [.int .i64 0, .int .i64 0, .int .i64 0, .int .i64 0, .int .i64 0, .int .i64 0, .int .i64 0, .int .i64 0, .slice none 0 0, .slice none 0 0, .slice none 0 0] 0 = Wf at *
                generalize (atT 8 (k : Nat)) = T8 at *
                have r0 := cell_at hfin 0 rfl
                have r1 := cell_at hfin 1 rfl
                have r2 := cell_at hfin 2 rfl
                have r3 := cell_at hfin 3 rfl
                have r4 := cell_at hfin 4 rfl
                have r5 := cell_at hfin 5 rfl
                have r6 := cell_at hfin 6 rfl
                have r7 := cell_at hfin 7 rfl
                have r8 := cell_at hfin 8 rfl
                have r9 := cell_at hfin 9 rfl
                have r10 := cell_at hfin 10 rfl
                refine bodyPost_ret (v := .tuple #[.agg #[.int .i64 0, .int .i64 0, .int .i64 0, .int .i64 0, .int .i64 0, .int .i64 0, .int .i64 0, .int .i64 0, .slice none 0 0, .slice none 0 0, .slice none 0 0], .string ⟨T8.toArray⟩]) (by simp [results, Try.results42, go_sem, r0, r1, r2, r3, r4, r5, r6, r7, r8, r9, r10]) rfl ?_
                exact HF.out
              · have Hst2 := Lib.hid (Hst.out hbad)
                have q2 : decide ((1 : Int) < t2.n) = false := decide_eq_false (by omega)
                clear Hbad Hst
                go_upto_region 24 with (fail)
                go_cut [146] (fun s wx => s = .bool false ∧ wx = w6)
                case first =>
                  clear Hst2 HY Hx6
                  cases hsh : t2.short with
                  | false =>
                    rw [hsh] at r2
                    have he : errText false t2.at_ = [] := rfl
                    rw [he] at r2
                    simp only [strV] at r2
                    clear he
                    go_wp2_with fail
                    go_meet
                    exact ⟨rfl, rfl⟩
                  | true =>
                    rw [hsh] at r2
                    have hne : (errText true t2.at_).isEmpty = false := atT_ne' 4 (t2.at_ : Nat)
                    simp only [strV] at r2
                    generalize errText true t2.at_ = et at *
                    go_wp2_with fail
                    go_meet
                    exact ⟨rfl, rfl⟩
                case rest =>
                  obtain ⟨rfl, hwc⟩ := hcut
                  subst wc
                  clear r0 r1 r2 kx2 kn1 q2
                  have hob : ((t2.n : Int) == 1) = (t2.n == 1) := by
                    by_cases h : t2.n = 1
                    · rw [h]; rfl
                    · rw [beq_eq_false_iff_ne.2 h, beq_eq_false_iff_ne]; omega
                  go_wp2_with fail
                  refine (HY.out w6 HB6.out.rd).mono ?_
                  rintro e w7 ⟨rfl, hy7, hr7, ha7⟩
                  have HB7 := Lib.hid (HB6.out.tr HOk.out hr7 ha7)
                  have HOP7 := Lib.hid (HOP6.out.apart ha7 (fun q e => by have e : q = rr := e; omega))
                  have HOQ7 := Lib.hid (HOQ6.out.apart ha7 (fun q e => by have e : q = rr := e; omega))
                  have hx7 := (ha7.block wr.heap.size z6 (fun e => by have e : wr.heap.size = rr := e; omega)).trans Hx6.out
                  have hown7 : w7.ownsRow (wd.heap.size + 1) 63 6 (.slice Bv k cq) k (itemsV portVals qs) := by have h9 := HOQ7.out.own; rw [Hql.out] at h9; exact h9
                  have Hl7 := Lib.hid hown7
                  have hz7 : w6.heap.size < w7.heap.size := lt_of_block hy7
                  have hb7d := HB7.out.drew HOk.out
                  have hoP7d := HOP7.out.new (F := fun _ => False) (Apart.refl _ w7).drew (fun _ _ h => h.elim)
                  have hoQ7d := HOQ7.out.new (F := fun _ => False) (Apart.refl _ w7).drew (fun _ _ h => h.elim)
                  have hown7d : w7.drew.ownsRow (wd.heap.size + 1) 63 6 (.slice Bv k cq) k (itemsV portVals qs) := by have h9 := hoQ7d.own; rw [Hql.out] at h9; exact h9
                  have hzx7 : wr.heap.size < w7.drew.heap.size := lt_of_block (w := w7.drew) hx7
                  have hzy7 : w6.heap.size < w7.drew.heap.size := lt_of_block (w := w7.drew) hy7
                  have hzc7 : wd.heap.size < w7.drew.heap.size := lt_of_block hb7d.cb
                  have hd : (fun W : World => W.heap[wd.heap.size]? = some (.cells (rdCells x0.n x1.n x2.n x3.n x4.n x5.n x6.n x7.n (.slice Av ps.length cv) (.slice Bv k cq) (.slice none 0 0)) 26 (0, 0)) ∧ W.heap[wr.heap.size]? = some (.cells #[.int .i64 (t0.n : Nat), .int .i64 (t1.n : Nat), .int .i64 (t2.n : Nat)] 3 (0, 0)) ∧ W.heap[w6.heap.size]? = some (.cells #[.int .i64 (t3.n : Nat), .int .i64 (t4.n : Nat), .int .i64 (t5.n : Nat)] 3 (0, 0))) w7.drew := ⟨hb7d.cb, hx7, hy7⟩
                  have kc9 : ∀ W : World, (W.heap[wd.heap.size]? = some (.cells (rdCells x0.n x1.n x2.n x3.n x4.n x5.n x6.n x7.n (.slice Av ps.length cv) (.slice Bv k cq) (.slice none 0 0)) 26 (0, 0)) ∧ W.heap[wr.heap.size]? = some (.cells #[.int .i64 (t0.n : Nat), .int .i64 (t1.n : Nat), .int .i64 (t2.n : Nat)] 3 (0, 0)) ∧ W.heap[w6.heap.size]? = some (.cells #[.int .i64 (t3.n : Nat), .int .i64 (t4.n : Nat), .int .i64 (t5.n : Nat)] 3 (0, 0))) → W.cell? ⟨wd.heap.size, 9, none⟩ = some (.slice Bv k cq) := fun W hW => cell_at hW.1 9 rfl
                  have kx0 := fun (W : World) (hW : W.heap[wd.heap.size]? = some (.cells (rdCells x0.n x1.n x2.n x3.n x4.n x5.n x6.n x7.n (.slice Av ps.length cv) (.slice Bv k cq) (.slice none 0 0)) 26 (0, 0)) ∧ W.heap[wr.heap.size]? = some (.cells #[.int .i64 (t0.n : Nat), .int .i64 (t1.n : Nat), .int .i64 (t2.n : Nat)] 3 (0, 0)) ∧ W.heap[w6.heap.size]? = some (.cells #[.int .i64 (t3.n : Nat), .int .i64 (t4.n : Nat), .int .i64 (t5.n : Nat)] 3 (0, 0))) => cell_at hW.2.1 0 rfl
                  have kx1 := fun (W : World) (hW : W.heap[wd.heap.size]? = some (.cells (rdCells x0.n x1.n x2.n x3.n x4.n x5.n x6.n x7.n (.slice Av ps.length cv) (.slice Bv k cq) (.slice none 0 0)) 26 (0, 0)) ∧ W.heap[wr.heap.size]? = some (.cells #[.int .i64 (t0.n : Nat), .int .i64 (t1.n : Nat), .int .i64 (t2.n : Nat)] 3 (0, 0)) ∧ W.heap[w6.heap.size]? = some (.cells #[.int .i64 (t3.n : Nat), .int .i64 (t4.n : Nat), .int .i64 (t5.n : Nat)] 3 (0, 0))) => cell_at hW.2.1 1 rfl
                  have kx2 := fun (W : World) (hW : W.heap[wd.heap.size]? = some (.cells (rdCells x0.n x1.n x2.n x3.n x4.n x5.n x6.n x7.n (.slice Av ps.length cv) (.slice Bv k cq) (.slice none 0 0)) 26 (0, 0)) ∧ W.heap[wr.heap.size]? = some (.cells #[.int .i64 (t0.n : Nat), .int .i64 (t1.n : Nat), .int .i64 (t2.n : Nat)] 3 (0, 0)) ∧ W.heap[w6.heap.size]? = some (.cells #[.int .i64 (t3.n : Nat), .int .i64 (t4.n : Nat), .int .i64 (t5.n : Nat)] 3 (0, 0))) => cell_at hW.2.1 2 rfl
                  have ky0 := fun (W : World) (hW : W.heap[wd.heap.size]? = some (.cells (rdCells x0.n x1.n x2.n x3.n x4.n x5.n x6.n x7.n (.slice Av ps.length cv) (.slice Bv k cq) (.slice none 0 0)) 26 (0, 0)) ∧ W.heap[wr.heap.size]? = some (.cells #[.int .i64 (t0.n : Nat), .int .i64 (t1.n : Nat), .int .i64 (t2.n : Nat)] 3 (0, 0)) ∧ W.heap[w6.heap.size]? = some (.cells #[.int .i64 (t3.n : Nat), .int .i64 (t4.n : Nat), .int .i64 (t5.n : Nat)] 3 (0, 0))) => cell_at hW.2.2 0 rfl
                  have ky1 := fun (W : World) (hW : W.heap[wd.heap.size]? = some (.cells (rdCells x0.n x1.n x2.n x3.n x4.n x5.n x6.n x7.n (.slice Av ps.length cv) (.slice Bv k cq) (.slice none 0 0)) 26 (0, 0)) ∧ W.heap[wr.heap.size]? = some (.cells #[.int .i64 (t0.n : Nat), .int .i64 (t1.n : Nat), .int .i64 (t2.n : Nat)] 3 (0, 0)) ∧ W.heap[w6.heap.size]? = some (.cells #[.int .i64 (t3.n : Nat), .int .i64 (t4.n : Nat), .int .i64 (t5.n : Nat)] 3 (0, 0))) => cell_at hW.2.2 1 rfl
                  have ky2 := fun (W : World) (hW : W.heap[wd.heap.size]? = some (.cells (rdCells x0.n x1.n x2.n x3.n x4.n x5.n x6.n x7.n (.slice Av ps.length cv) (.slice Bv k cq) (.slice none 0 0)) 26 (0, 0)) ∧ W.heap[wr.heap.size]? = some (.cells #[.int .i64 (t0.n : Nat), .int .i64 (t1.n : Nat), .int .i64 (t2.n : Nat)] 3 (0, 0)) ∧ W.heap[w6.heap.size]? = some (.cells #[.int .i64 (t3.n : Nat), .int .i64 (t4.n : Nat), .int .i64 (t5.n : Nat)] 3 (0, 0))) => cell_at hW.2.2 2 rfl
                  have Hlo := Lib.hid (fun q (hq : (Value.slice Bv k cq).ownBlock = some q) => Hlo6.out q hq)
                  clear hx7 hy7 hr7 ha7 HY HB6 HOP6 HOQ6 Hx6 HB7 HOP7 HOQ7 hown7 Hl7
                  go_wp2_with fail
                  refine wp_region_L_drew (st := 26) (S := fun W => W.heap[wd.heap.size]? = some (.cells (rdCells x0.n x1.n x2.n x3.n x4.n x5.n x6.n x7.n (.slice Av ps.length cv) (.slice Bv k cq) (.slice none 0 0)) 26 (0, 0)) ∧ W.heap[wr.heap.size]? = some (.cells #[.int .i64 (t0.n : Nat), .int .i64 (t1.n : Nat), .int .i64 (t2.n : Nat)] 3 (0, 0)) ∧ W.heap[w6.heap.size]? = some (.cells #[.int .i64 (t3.n : Nat), .int .i64 (t4.n : Nat), .int .i64 (t5.n : Nat)] 3 (0, 0))) (by kernel_rfl) hd (fun _ => ?_)
                  refine wpAnyL_take (i := 0) (f := 12) (oi := ?oo48) (v := ?vv48) ?ii48 (by kernel_rfl) ?ff48 (by kernel_rfl) ?pp48 ?qq48 (Or.inl ⟨?ww48, ?yy48⟩) hd ?rr48
                  case ii48 => simp only [List.getElem?_toArray, List.getElem?_cons_zero]; rfl
                  case ff48 => kernel_rfl
                  case pp48 => kernel_rfl
                  case qq48 => exact fun _ _ _ h => h
                  case ww48 => rfl
                  case yy48 => intro W hW; go_simp <;> with_reducible rfl
                  try simp only [Act.put, List.setIfInBounds_toArray, List.set_cons_zero, List.set_cons_succ]
                  refine wpAnyL_take (i := 1) (f := 12) (oi := ?oo49) (v := ?vv49) ?ii49 (by kernel_rfl) ?ff49 (by kernel_rfl) ?pp49 ?qq49 (Or.inl ⟨?ww49, ?yy49⟩) hd ?rr49
                  case ii49 => simp only [List.getElem?_toArray, List.getElem?_cons_succ, List.getElem?_cons_zero]; rfl
                  case ff49 => kernel_rfl
                  case pp49 => kernel_rfl
                  case qq49 => exact fun _ _ _ h => h
                  case ww49 => rfl
                  case yy49 => intro W hW; go_simp <;> with_reducible rfl
                  try simp only [Act.put, List.setIfInBounds_toArray, List.set_cons_zero, List.set_cons_succ]
                  refine wpAnyL_take (i := 2) (f := 12) (oi := ?oo50) (v := ?vv50) ?ii50 (by kernel_rfl) ?ff50 (by kernel_rfl) ?pp50 ?qq50 (Or.inl ⟨?ww50, ?yy50⟩) hd ?rr50
                  case ii50 => simp only [List.getElem?_toArray, List.getElem?_cons_succ, List.getElem?_cons_zero]; rfl
                  case ff50 => kernel_rfl
                  case pp50 => kernel_rfl
                  case qq50 => exact fun _ _ _ h => h
                  case ww50 => rfl
                  case yy50 => intro W hW; go_simp <;> with_reducible rfl
                  try simp only [Act.put, List.setIfInBounds_toArray, List.set_cons_zero, List.set_cons_succ]
                  refine wpAnyL_take (i := 3) (f := 12) (oi := ?oo51) (v := ?vv51) ?ii51 (by kernel_rfl) ?ff51 (by kernel_rfl) ?pp51 ?qq51 (Or.inl ⟨?ww51, ?yy51⟩) hd ?rr51
                  case ii51 => simp only [List.getElem?_toArray, List.getElem?_cons_succ, List.getElem?_cons_zero]; rfl
                  case ff51 => kernel_rfl
                  case pp51 => kernel_rfl
                  case qq51 => exact fun _ _ _ h => h
                  case ww51 => rfl
                  case yy51 => intro W hW; go_simp <;> with_reducible rfl
                  try simp only [Act.put, List.setIfInBounds_toArray, List.set_cons_zero, List.set_cons_succ]
                  refine wpAnyL_take (i := 4) (f := 12) (oi := ?oo52) (v := ?vv52) ?ii52 (by kernel_rfl) ?ff52 (by kernel_rfl) ?pp52 ?qq52 (Or.inl ⟨?ww52, ?yy52⟩) hd ?rr52
                  case ii52 => simp only [List.getElem?_toArray, List.getElem?_cons_succ, List.getElem?_cons_zero]; rfl
                  case ff52 => kernel_rfl
                  case pp52 => kernel_rfl
                  case qq52 => exact fun _ _ _ h => h
                  case ww52 => rfl
                  case yy52 => intro W hW; go_simp <;> with_reducible rfl
                  try simp only [Act.put, List.setIfInBounds_toArray, List.set_cons_zero, List.set_cons_succ]
                  refine wpAnyL_take (i := 5) (f := 12) (oi := ?oo53) (v := ?vv53) ?ii53 (by kernel_rfl) ?ff53 (by kernel_rfl) ?pp53 ?qq53 (Or.inl ⟨?ww53, ?yy53⟩) hd ?rr53
                  case ii53 => simp only [List.getElem?_toArray, List.getElem?_cons_succ, List.getElem?_cons_zero]; rfl
                  case ff53 => kernel_rfl
                  case pp53 => kernel_rfl
                  case qq53 => exact fun _ _ _ h => h
                  case ww53 => rfl
                  case yy53 => intro W hW; go_simp <;> with_reducible rfl
                  try simp only [Act.put, List.setIfInBounds_toArray, List.set_cons_zero, List.set_cons_succ]
                  refine wpAnyL_take (i := 6) (f := 12) (oi := ?oo54) (v := ?vv54) ?ii54 (by kernel_rfl) ?ff54 (by kernel_rfl) ?pp54 ?qq54 (Or.inl ⟨?ww54, ?yy54⟩) hd ?rr54
                  case ii54 => simp only [List.getElem?_toArray, List.getElem?_cons_succ, List.getElem?_cons_zero]; rfl
                  case ff54 => kernel_rfl
                  case pp54 => kernel_rfl
                  case qq54 => exact fun _ _ _ h => h
                  case ww54 => rfl
                  case yy54 => intro W hW; go_simp <;> with_reducible rfl
                  try simp only [Act.put, List.setIfInBounds_toArray, List.set_cons_zero, List.set_cons_succ]
                  refine wpAnyL_take (i := 7) (f := 12) (oi := ?oo55) (v := ?vv55) ?ii55 (by kernel_rfl) ?ff55 (by kernel_rfl) ?pp55 ?qq55 (Or.inl ⟨?ww55, ?yy55⟩) hd ?rr55
                  case ii55 => simp only [List.getElem?_toArray, List.getElem?_cons_succ, List.getElem?_cons_zero]; rfl
                  case ff55 => kernel_rfl
                  case pp55 => kernel_rfl
                  case qq55 => exact fun _ _ _ h => h
                  case ww55 => rfl
                  case yy55 => intro W hW; go_simp <;> with_reducible rfl
                  try simp only [Act.put, List.setIfInBounds_toArray, List.set_cons_zero, List.set_cons_succ]
                  refine wpAnyL_take (i := 8) (f := 12) (oi := ?oo56) (v := ?vv56) ?ii56 (by kernel_rfl) ?ff56 (by kernel_rfl) ?pp56 ?qq56 (Or.inl ⟨?ww56, ?yy56⟩) hd ?rr56
                  case ii56 => simp only [List.getElem?_toArray, List.getElem?_cons_succ, List.getElem?_cons_zero]; rfl
                  case ff56 => kernel_rfl
                  case pp56 => kernel_rfl
                  case qq56 => exact fun _ _ _ h => h
                  case ww56 => rfl
                  case yy56 => intro W hW; go_simp <;> with_reducible rfl
                  try simp only [Act.put, List.setIfInBounds_toArray, List.set_cons_zero, List.set_cons_succ]
                  refine wpAnyL_take (i := 9) (f := 12) (oi := ?oo57) (v := ?vv57) ?ii57 (by kernel_rfl) ?ff57 (by kernel_rfl) ?pp57 ?qq57 (Or.inl ⟨?ww57, ?yy57⟩) hd ?rr57
                  case ii57 => simp only [List.getElem?_toArray, List.getElem?_cons_succ, List.getElem?_cons_zero]; rfl
                  case ff57 => kernel_rfl
                  case pp57 => kernel_rfl
                  case qq57 => exact fun _ _ _ h => h
                  case ww57 => rfl
                  case yy57 => intro W hW; go_simp <;> with_reducible rfl
                  try simp only [Act.put, List.setIfInBounds_toArray, List.set_cons_zero, List.set_cons_succ]
                  refine wpAnyL_take (i := 10) (f := 12) (oi := ?oo58) (v := ?vv58) ?ii58 (by kernel_rfl) ?ff58 (by kernel_rfl) ?pp58 ?qq58 (Or.inl ⟨?ww58, ?yy58⟩) hd ?rr58
                  case ii58 => simp only [List.getElem?_toArray, List.getElem?_cons_succ, List.getElem?_cons_zero]; rfl
                  case ff58 => kernel_rfl
                  case pp58 => kernel_rfl
                  case qq58 => exact fun _ _ _ h => h
                  case ww58 => rfl
                  case yy58 => intro W hW; go_simp <;> with_reducible rfl
                  try simp only [Act.put, List.setIfInBounds_toArray, List.set_cons_zero, List.set_cons_succ]
                  refine wpAnyL_take (i := 11) (f := 12) (oi := ?oo59) (v := ?vv59) ?ii59 (by kernel_rfl) ?ff59 (by kernel_rfl) ?pp59 ?qq59 (Or.inl ⟨?ww59, ?yy59⟩) hd ?rr59
                  case ii59 => simp only [List.getElem?_toArray, List.getElem?_cons_succ, List.getElem?_cons_zero]; rfl
                  case ff59 => kernel_rfl
                  case pp59 => kernel_rfl
                  case qq59 => exact fun _ _ _ h => h
                  case ww59 => rfl
                  case yy59 => intro W hW; go_simp <;> with_reducible rfl
                  try simp only [Act.put, List.setIfInBounds_toArray, List.set_cons_zero, List.set_cons_succ]
                  refine wpAnyL_take (i := 12) (f := 12) (oi := ?oo60) (v := ?vv60) ?ii60 (by kernel_rfl) ?ff60 (by kernel_rfl) ?pp60 ?qq60 (Or.inl ⟨?ww60, ?yy60⟩) hd ?rr60
                  case ii60 => simp only [List.getElem?_toArray, List.getElem?_cons_succ, List.getElem?_cons_zero]; rfl
                  case ff60 => kernel_rfl
                  case pp60 => kernel_rfl
                  case qq60 => exact fun _ _ _ h => h
                  case ww60 => rfl
                  case yy60 => intro W hW; go_simp <;> with_reducible rfl
                  try simp only [Act.put, List.setIfInBounds_toArray, List.set_cons_zero, List.set_cons_succ]
                  refine wpAnyL_take (i := 13) (f := 12) (oi := ?oo61) (v := ?vv61) ?ii61 (by kernel_rfl) ?ff61 (by kernel_rfl) ?pp61 ?qq61 (Or.inl ⟨?ww61, ?yy61⟩) hd ?rr61
                  case ii61 => simp only [List.getElem?_toArray, List.getElem?_cons_succ, List.getElem?_cons_zero]; rfl
                  case ff61 => kernel_rfl
                  case pp61 => kernel_rfl
                  case qq61 => exact fun _ _ _ h => h
                  case ww61 => rfl
                  case yy61 => intro W hW; go_simp <;> with_reducible rfl
                  try simp only [Act.put, List.setIfInBounds_toArray, List.set_cons_zero, List.set_cons_succ]
                  refine wpAnyL_take (i := 14) (f := 12) (oi := ?oo62) (v := ?vv62) ?ii62 (by kernel_rfl) ?ff62 (by kernel_rfl) ?pp62 ?qq62 (Or.inl ⟨?ww62, ?yy62⟩) hd ?rr62
                  case ii62 => simp only [List.getElem?_toArray, List.getElem?_cons_succ, List.getElem?_cons_zero]; rfl
                  case ff62 => kernel_rfl
                  case pp62 => kernel_rfl
                  case qq62 => exact fun _ _ _ h => h
                  case ww62 => rfl
                  case yy62 => intro W hW; go_simp <;> with_reducible rfl
                  try simp only [Act.put, List.setIfInBounds_toArray, List.set_cons_zero, List.set_cons_succ]
                  refine wpAnyL_take (i := 15) (f := 12) (oi := ?oo63) (v := ?vv63) ?ii63 (by kernel_rfl) ?ff63 (by kernel_rfl) ?pp63 ?qq63 (Or.inl ⟨?ww63, ?yy63⟩) hd ?rr63
                  case ii63 => simp only [List.getElem?_toArray, List.getElem?_cons_succ, List.getElem?_cons_zero]; rfl
                  case ff63 => kernel_rfl
                  case pp63 => kernel_rfl
                  case qq63 => exact fun _ _ _ h => h
                  case ww63 => rfl
                  case yy63 => intro W hW; go_simp <;> with_reducible rfl
                  try simp only [Act.put, List.setIfInBounds_toArray, List.set_cons_zero, List.set_cons_succ]
                  refine wpAnyL_take (i := 16) (f := 12) (oi := ?oo64) (v := ?vv64) ?ii64 (by kernel_rfl) ?ff64 (by kernel_rfl) ?pp64 ?qq64 (Or.inl ⟨?ww64, ?yy64⟩) hd ?rr64
                  case ii64 => simp only [List.getElem?_toArray, List.getElem?_cons_succ, List.getElem?_cons_zero]; rfl
                  case ff64 => kernel_rfl
                  case pp64 => kernel_rfl
                  case qq64 => exact fun _ _ _ h => h
                  case ww64 => rfl
                  case yy64 => intro W hW; go_simp <;> with_reducible rfl
                  try simp only [Act.put, List.setIfInBounds_toArray, List.set_cons_zero, List.set_cons_succ]
                  refine wpAnyL_take (i := 17) (f := 12) (oi := ?oo65) (v := ?vv65) ?ii65 (by kernel_rfl) ?ff65 (by kernel_rfl) ?pp65 ?qq65 (Or.inl ⟨?ww65, ?yy65⟩) hd ?rr65
                  case ii65 => simp only [List.getElem?_toArray, List.getElem?_cons_succ, List.getElem?_cons_zero]; rfl
                  case ff65 => kernel_rfl
                  case pp65 => kernel_rfl
                  case qq65 => exact fun _ _ _ h => h
                  case ww65 => rfl
                  case yy65 => intro W hW; go_simp <;> with_reducible rfl
                  try simp only [Act.put, List.setIfInBounds_toArray, List.set_cons_zero, List.set_cons_succ]
                  refine wpAnyL_take (i := 18) (f := 12) (oi := ?oo66) (v := ?vv66) ?ii66 (by kernel_rfl) ?ff66 (by kernel_rfl) ?pp66 ?qq66 (Or.inl ⟨?ww66, ?yy66⟩) hd ?rr66
                  case ii66 => simp only [List.getElem?_toArray, List.getElem?_cons_succ, List.getElem?_cons_zero]; rfl
                  case ff66 => kernel_rfl
                  case pp66 => kernel_rfl
                  case qq66 => exact fun _ _ _ h => h
                  case ww66 => rfl
                  case yy66 => intro W hW; go_simp <;> with_reducible rfl
                  try simp only [Act.put, List.setIfInBounds_toArray, List.set_cons_zero, List.set_cons_succ]
                  refine wpAnyL_take (i := 19) (f := 12) (oi := ?oo67) (v := ?vv67) ?ii67 (by kernel_rfl) ?ff67 (by kernel_rfl) ?pp67 ?qq67 (Or.inl ⟨?ww67, ?yy67⟩) hd ?rr67
                  case ii67 => simp only [List.getElem?_toArray, List.getElem?_cons_succ, List.getElem?_cons_zero]; rfl
                  case ff67 => kernel_rfl
                  case pp67 => kernel_rfl
                  case qq67 => exact fun _ _ _ h => h
                  case ww67 => rfl
                  case yy67 => intro W hW; go_simp <;> with_reducible rfl
                  try simp only [Act.put, List.setIfInBounds_toArray, List.set_cons_zero, List.set_cons_succ]
                  refine wpAnyL_take (i := 20) (f := 12) (oi := ?oo68) (v := ?vv68) ?ii68 (by kernel_rfl) ?ff68 (by kernel_rfl) ?pp68 ?qq68 (Or.inl ⟨?ww68, ?yy68⟩) hd ?rr68
                  case ii68 => simp only [List.getElem?_toArray, List.getElem?_cons_succ, List.getElem?_cons_zero]; rfl
                  case ff68 => kernel_rfl
                  case pp68 => kernel_rfl
                  case qq68 => exact fun _ _ _ h => h
                  case ww68 => rfl
                  case yy68 => intro W hW; go_simp <;> with_reducible rfl
                  try simp only [Act.put, List.setIfInBounds_toArray, List.set_cons_zero, List.set_cons_succ]
                  refine wpAnyL_take (i := 21) (f := 12) (oi := ?oo69) (v := ?vv69) ?ii69 (by kernel_rfl) ?ff69 (by kernel_rfl) ?pp69 ?qq69 (Or.inl ⟨?ww69, ?yy69⟩) hd ?rr69
                  case ii69 => simp only [List.getElem?_toArray, List.getElem?_cons_succ, List.getElem?_cons_zero]; rfl
                  case ff69 => kernel_rfl
                  case pp69 => kernel_rfl
                  case qq69 => exact fun _ _ _ h => h
                  case ww69 => rfl
                  case yy69 => intro W hW; go_simp <;> with_reducible rfl
                  try simp only [Act.put, List.setIfInBounds_toArray, List.set_cons_zero, List.set_cons_succ]
                  refine wpAnyL_take (i := 22) (f := 12) (oi := ?oo70) (v := ?vv70) ?ii70 (by kernel_rfl) ?ff70 (by kernel_rfl) ?pp70 ?qq70 (Or.inl ⟨?ww70, ?yy70⟩) hd ?rr70
                  case ii70 => simp only [List.getElem?_toArray, List.getElem?_cons_succ, List.getElem?_cons_zero]; rfl
                  case ff70 => kernel_rfl
                  case pp70 => kernel_rfl
                  case qq70 => exact fun _ _ _ h => h
                  case ww70 => rfl
                  case yy70 => intro W hW; go_simp <;> with_reducible rfl
                  try simp only [Act.put, List.setIfInBounds_toArray, List.set_cons_zero, List.set_cons_succ]
                  generalize w7.drew = we at *
                  clear kc9 kx0 kx1 kx2 ky0 ky1 ky2
                  have HBe := Lib.hid hb7d
                  have HOPe := Lib.hid hoP7d
                  have HOQe := Lib.hid hoQ7d
                  have Hle := Lib.hid hown7d
                  have Hde := Lib.hid hd
                  have hda : (fun W : World => W.heap[wd.heap.size]? = some (.cells (rdCells x0.n x1.n x2.n x3.n x4.n x5.n x6.n x7.n (.slice Av ps.length cv) (.slice Bv k cq) (.slice none 0 0)) 26 (0, 0)) ∧ W.heap[wr.heap.size]? = some (.cells #[.int .i64 (t0.n : Nat), .int .i64 (t1.n : Nat), .int .i64 (t2.n : Nat)] 3 (0, 0)) ∧ W.heap[w6.heap.size]? = some (.cells #[.int .i64 (t3.n : Nat), .int .i64 (t4.n : Nat), .int .i64 (t5.n : Nat)] 3 (0, 0))) (we.alloc (.cells (portVals ⟨t0.n, t1.n, t2.n == 1, t3.n, t4.n, t5.n⟩).toArray 63)) := ⟨(Below.heap_alloc _ _ _ (by omega)).trans hd.1, (Below.heap_alloc _ _ _ (by omega)).trans hd.2.1, (Below.heap_alloc _ _ _ (by omega)).trans hd.2.2⟩
                  clear hb7d hoP7d hoQ7d hown7d hd
                  refine wpAnyL_one (k := 23) (o := ?oo71) (by kernel_rfl) ?ii71 (fun K hK => ?_)
                  case ii71 => simp only [List.getElem?_toArray, List.getElem?_cons_succ, List.getElem?_cons_zero]; rfl
                  go_simp
                  go_wp2_with fail
                  refine hK.out _ _ (fun _ => hda) ?_
                  clear hK K
                  refine wpAnyL_one (k := 24) (o := ?oo72) (by kernel_rfl) ?ii72 (fun K hK => ?_)
                  case ii72 => simp only [List.getElem?_toArray, List.getElem?_cons_succ, List.getElem?_cons_zero]; rfl
                  refine step_append_s rfl (.tmp 153) (.tmp 175) _ rfl (wd.heap.size + 1) 63 _ 6 40 Try.underlying23 infoQ rfl (by omega) _ k (itemsV portVals qs) rfl (Hle.out.alloc _) (some ⟨we.heap.size, 0, none⟩) 1 1 (portVals ⟨t0.n, t1.n, t2.n == 1, t3.n, t4.n, t5.n⟩) rfl rfl (fun _ => ⟨_, rfl, laid_at we _ (portVals ⟨t0.n, t1.n, t2.n == 1, t3.n, t4.n, t5.n⟩) we.heap.size rfl⟩) (portVals_one _) (by unfold maxLen; omega) (by omega) (by have := HBe.out.sz; simp; omega) ?_
                  intro v8 w8 ho8 ha8 hb8
                  have ha80 : Apart (fun q => (Value.slice Bv k cq).ownBlock = some q) we w8 := ((Apart.refl _ we).alloc _).trans ha8 (fun _ e => .inl e)
                  have hs8 := HBe.out.new HOk.out ha80 (fun q e => HOQe.out.hi q e)
                  have hn8 : OwnI portVals 6 63 (wd.heap.size + 1) v8 (qs ++ [⟨t0.n, t1.n, t2.n == 1, t3.n, t4.n, t5.n⟩]) w8 := OwnI.more (by rw [Hql.out]; exact ho8)
                  have hp8 := HOPe.out.new ha80 (fun q hq e => Hdis.out q hq e)
                  have Hdis8 := Lib.hid (grow_ne hb8 Hdis.out (fun q hq => by have := (HOPe.out.own.lt q hq).2; simp; omega))
                  have hd8 : (fun W : World => W.heap[wd.heap.size]? = some (.cells (rdCells x0.n x1.n x2.n x3.n x4.n x5.n x6.n x7.n (.slice Av ps.length cv) (.slice Bv k cq) (.slice none 0 0)) 26 (0, 0)) ∧ W.heap[wr.heap.size]? = some (.cells #[.int .i64 (t0.n : Nat), .int .i64 (t1.n : Nat), .int .i64 (t2.n : Nat)] 3 (0, 0)) ∧ W.heap[w6.heap.size]? = some (.cells #[.int .i64 (t3.n : Nat), .int .i64 (t4.n : Nat), .int .i64 (t5.n : Nat)] 3 (0, 0))) w8 := ⟨hs8.cb, (ha80.block _ hzx7 (fun e => by have := Hlo.out _ e; omega)).trans Hde.out.2.1, (ha80.block _ hzy7 (fun e => by have := Hlo.out _ e; omega)).trans Hde.out.2.2⟩
                  obtain ⟨A8, c8, rfl, -⟩ := own_slice ho8
                  have kb8 : w8.cell? ⟨wd.heap.size, 9, none⟩ = some (.slice Bv k cq) := cell_at hs8.cb 9 rfl
                  have fb8 := free_at hs8.cb 9
                  have HS9 := Lib.hid (hs8.store HOk.out 9 (.slice A8 (k + 1) c8))
                  have HO9 := Lib.hid (hn8.apart (Apart.setCell (F := fun q => q = wd.heap.size) (Apart.refl _ w8) (p := ⟨wd.heap.size, 9, none⟩) (.inl rfl) (.slice A8 (k + 1) c8)) (fun q e => by omega))
                  have HP9 := Lib.hid (hp8.apart (Apart.setCell (F := fun q => q = wd.heap.size) (Apart.refl _ w8) (p := ⟨wd.heap.size, 9, none⟩) (.inl rfl) (.slice A8 (k + 1) c8)) (fun q e => by omega))
                  clear ho8 ha8 hb8 hn8 hs8 ha80 hp8
                  go_wp2_with fail
                  refine hK.out _ _ (fun _ => hd8) ?_
                  clear hK K
                  refine wpAnyL_take (i := 25) (f := 12) (oi := ?oo73) (v := ?vv73) ?ii73 (by kernel_rfl) ?ff73 (by kernel_rfl) ?pp73 ?qq73 (Or.inl ⟨?ww73, ?yy73⟩) hd8 ?rr73
                  case ii73 => simp only [List.getElem?_toArray, List.getElem?_cons_succ, List.getElem?_cons_zero]; rfl
                  case ff73 => kernel_rfl
                  case pp73 => kernel_rfl
                  case qq73 => exact fun _ _ _ h => h
                  case ww73 => rfl
                  case yy73 => intro W hW; go_simp <;> with_reducible rfl
                  try simp only [Act.put, List.setIfInBounds_toArray, List.set_cons_zero, List.set_cons_succ]
                  refine wpAnyL_last (k := 26) (o := ?oo74) (by kernel_rfl) ?ii74 (fun K hK => ?_)
                  case ii74 => simp only [List.getElem?_toArray, List.getElem?_cons_succ, List.getElem?_cons_zero]; rfl
                  go_simp
                  go_wp2_with fail
                  refine hK.out _ _ ?_
                  clear hK K
                  refine wpAnyL_done (by kernel_rfl) ?_ _
                  go_wp2_with fail
                  go_roundw
                  case rel => exact ⟨k + 1, _, .slice A8 (k + 1) c8, _, _, by omega, by go_num, HS9.out, HP9.out, HO9.out, Hdis8.out, by rw [List.length_append, Hql.out]; rfl, Hst2.out, A8, c8, rfl⟩
                  case measure => simp [intOf]; omega
            | true =>
              have hne : (errText true a2).isEmpty = false := atT_ne' 4 (a2 : Nat)
              have HE2 := Lib.hid (hEnd.out (.inr rfl))
              simp only [strV] at r2
              generalize errText true a2 = et at *
              clear hEnd
              go_wp2_with fail
              go_meet
              exact HE2.out
          · have HE2 := Lib.hid (hEnd.out (.inl (by omega)))
            clear hEnd
            go_wp2_with fail
            go_meet
            exact HE2.out
      case rest =>
        clear HBa HOP0
        obtain ⟨qs, Bv, cq, q0, a3, s3, hDQ, hb, hoP, hoQ, hql, hqe⟩ := hcut
        subst hDQ
        have HBb := Lib.hid hb
        have HOPb := Lib.hid hoP
        have HOQb := Lib.hid hoQ
        have HQe := Lib.hid hqe
        have HS3 : Hid (s3 = false → DP.2.2 = false) := Lib.hid fun hs => HS2.out q0 a3 (by rw [hs])
        obtain ⟨D3, hD3⟩ : ∃ D, TableP.routesD l x10.n a3 s3 = D := ⟨_, rfl⟩
        have HD3 := Lib.hid hD3
        clear hb hoP hoQ hqe hD3 HS2
        go_upto_block 6 with (fail)
        go_cut [] (fun wx => ∃ rs Cv cr, RB rr w.heap.size w3.heap.size wd.heap.size A n cap l w (wd.heap.size + 1) D3.2.1 D3.2.2 #[.int .i64 (x8.n : Nat), .int .i64 (x9.n : Nat), .int .i64 (x10.n : Nat)] (rdCells x0.n x1.n x2.n x3.n x4.n x5.n x6.n x7.n (.slice Av ps.length cv) (.slice Bv qs.length cq) (.slice Cv rs.length cr)) wx ∧ OwnI partVals 9 60 (wd.heap.size + 1) (.slice Av ps.length cv) ps wx ∧ OwnI portVals 6 63 (wd.heap.size + 1) (.slice Bv qs.length cq) qs wx ∧ OwnI routeVals 2 66 (wd.heap.size + 1) (.slice Cv rs.length cr) rs wx ∧ rs.length ≤ 255 ∧ (D3.2.2 = false → rs = D3.1))
        case first =>
          go_wp2_with fail
          go_loopw [17] (RefRRel rr w.heap.size w3.heap.size wd.heap.size A n cap l w (wd.heap.size + 1) #[.int .i64 (x8.n : Nat), .int .i64 (x9.n : Nat), .int .i64 (x10.n : Nat)] (fun v => (rdCells x0.n x1.n x2.n x3.n x4.n x5.n x6.n x7.n (.slice Av ps.length cv) (.slice Bv qs.length cq) v)) (.slice Av ps.length cv) ps (.slice Bv qs.length cq) qs x10.n D3) (fun i _ => (x10.n + 1 - intOf i).toNat)
          case atStart => exact ⟨0, [], .slice none 0 0, a3, s3, Nat.zero_le _, rfl, HBb.out, HOPb.out, HOQb.out, OwnI.nil _ _ _ _ _, fun _ _ => by simp [Value.ownBlock], fun _ _ => by simp [Value.ownBlock], rfl, by rw [Nat.sub_zero, HD3.out], fun _ => by rw [Nat.sub_zero, HD3.out]; rfl, none, 0, rfl⟩
          case round =>
            clear HBb HOPb HOQb
            obtain ⟨k, rs, v, a2, s2, hk, rfl, hb, hoP, hoQ, hoR, hdP, hdQ, hrl2, g2, g3, Cv, cr, rfl⟩ := hrel
            obtain ⟨r0, r1, r2, -, -, -⟩ := three_cells hb.rd.block
            have kn2 : wr.cell? ⟨w3.heap.size, 2, none⟩ = some (.int .i64 (x10.n : Nat)) := cell_at hb.nb 2 rfl
            have HB := Lib.hid hb
            have HOP := Lib.hid hoP
            have HOQ := Lib.hid hoQ
            have HOw := Lib.hid hoR
            have HdP := Lib.hid hdP
            have HdQ := Lib.hid hdQ
            have Hrl := Lib.hid hrl2
            have G2 := Lib.hid g2
            have G3 := Lib.hid g3
            have hEnd : Hid ((k = x10.n ∨ s2 = true) → ∃ rs Cv cr, RB rr w.heap.size w3.heap.size wd.heap.size A n cap l w (wd.heap.size + 1) D3.2.1 D3.2.2 #[.int .i64 (x8.n : Nat), .int .i64 (x9.n : Nat), .int .i64 (x10.n : Nat)] (rdCells x0.n x1.n x2.n x3.n x4.n x5.n x6.n x7.n (.slice Av ps.length cv) (.slice Bv qs.length cq) (.slice Cv rs.length cr)) wr ∧ OwnI partVals 9 60 (wd.heap.size + 1) (.slice Av ps.length cv) ps wr ∧ OwnI portVals 6 63 (wd.heap.size + 1) (.slice Bv qs.length cq) qs wr ∧ OwnI routeVals 2 66 (wd.heap.size + 1) (.slice Cv rs.length cr) rs wr ∧ rs.length ≤ 255 ∧ (D3.2.2 = false → rs = D3.1)) := Lib.hid fun hor => by
              have e2 : a2 = D3.2.1 ∧ s2 = D3.2.2 ∧ (D3.2.2 = false → rs = D3.1) := by
                rcases hor with e | e
                · have h2 := G2.out
                  have h3 := G3.out
                  rw [e, Nat.sub_self] at h2 h3
                  exact ⟨congrArg Prod.fst h2, congrArg Prod.snd h2, fun h => by have := h3 h; simpa [TableP.routesD] using this⟩
                · have h2 := G2.out
                  rw [e, routesD_true] at h2
                  have h4 : true = D3.2.2 := congrArg Prod.snd h2
                  exact ⟨congrArg Prod.fst h2, by rw [e]; exact h4, fun h => by rw [← h4] at h; cases h⟩
              obtain ⟨e3, e4, e5⟩ := e2
              have h6 := HB.out
              rw [e3, e4] at h6
              refine ⟨rs, Cv, cr, ?_, HOP.out, HOQ.out, ?_, by rw [Hrl.out]; omega, e5⟩
              · rw [Hrl.out]; exact h6
              · rw [Hrl.out]; exact HOw.out
            clear hb hoP hoQ hoR hdP hdQ hrl2 g2 g3
            by_cases hlt : k < x10.n
            · cases s2 with
              | false =>
                have he : errText false a2 = [] := rfl
                rw [he] at r2
                simp only [strV] at r2
                obtain ⟨t0, e0⟩ : ∃ x, WireP.take l a2 false 1 = x := ⟨_, rfl⟩
                obtain ⟨t1, e1⟩ : ∃ x, WireP.take l t0.at_ t0.short 1 = x := ⟨_, rfl⟩
                have Hst := Lib.hid (routesD_step (D := D3) (ps := rs) (j := x10.n - (k + 1)) e0 e1 (by rw [show x10.n - (k + 1) + 1 = x10.n - k by omega]; exact G2.out) (by rw [show x10.n - (k + 1) + 1 = x10.n - k by omega]; exact G3.out))
                have HX := Lib.hid (some2_any 1 (.inl rfl) HB.out.rd e0 e1)
                have hl255 : rs.length ≤ 255 := by rw [Hrl.out]; omega
                have hwr := HB.out.sz
                clear e0 e1 he hEnd G2 G3
                go_wp2_with fail
                refine HX.out.mono ?_
                rintro e w7 ⟨rfl, hx7, hr7, ha7⟩
                have HB7 := Lib.hid (HB.out.tr HOk.out hr7 ha7)
                have HOP7 := Lib.hid (HOP.out.apart ha7 (fun q e => by have e : q = rr := e; omega))
                have HOQ7 := Lib.hid (HOQ.out.apart ha7 (fun q e => by have e : q = rr := e; omega))
                have HOR7 := Lib.hid (HOw.out.apart ha7 (fun q e => by have e : q = rr := e; omega))
                have hown7 : w7.ownsRow (wd.heap.size + 1) 66 2 (.slice Cv k cr) k (itemsV routeVals rs) := by have h9 := HOR7.out.own; rw [Hrl.out] at h9; exact h9
                have Hl7 := Lib.hid hown7
                have hb7d := HB7.out.drew HOk.out
                have hoP7d := HOP7.out.new (F := fun _ => False) (Apart.refl _ w7).drew (fun _ _ h => h.elim)
                have hoQ7d := HOQ7.out.new (F := fun _ => False) (Apart.refl _ w7).drew (fun _ _ h => h.elim)
                have hoR7d := HOR7.out.new (F := fun _ => False) (Apart.refl _ w7).drew (fun _ _ h => h.elim)
                have hown7d : w7.drew.ownsRow (wd.heap.size + 1) 66 2 (.slice Cv k cr) k (itemsV routeVals rs) := by have h9 := hoR7d.own; rw [Hrl.out] at h9; exact h9
                have hzx7 : wr.heap.size < w7.drew.heap.size := lt_of_block (w := w7.drew) hx7
                have hzc7 : wd.heap.size < w7.drew.heap.size := lt_of_block hb7d.cb
                have Hlo : Hid (∀ q, (Value.slice Cv k cr).ownBlock = some q → q < wr.heap.size) := Lib.hid (fun q hq => (HOw.out.own.lt q hq).2)
                have hd : (fun W : World => W.heap[wd.heap.size]? = some (.cells (rdCells x0.n x1.n x2.n x3.n x4.n x5.n x6.n x7.n (.slice Av ps.length cv) (.slice Bv qs.length cq) (.slice Cv k cr)) 26 (0, 0)) ∧ W.heap[wr.heap.size]? = some (.cells #[.int .i64 (t0.n : Nat), .int .i64 (t1.n : Nat)] 3 (0, 0))) w7.drew := ⟨hb7d.cb, hx7⟩
                have kc9 : ∀ W : World, (W.heap[wd.heap.size]? = some (.cells (rdCells x0.n x1.n x2.n x3.n x4.n x5.n x6.n x7.n (.slice Av ps.length cv) (.slice Bv qs.length cq) (.slice Cv k cr)) 26 (0, 0)) ∧ W.heap[wr.heap.size]? = some (.cells #[.int .i64 (t0.n : Nat), .int .i64 (t1.n : Nat)] 3 (0, 0))) → W.cell? ⟨wd.heap.size, 10, none⟩ = some (.slice Cv k cr) := fun W hW => cell_at hW.1 10 rfl
                have kx0 := fun (W : World) (hW : W.heap[wd.heap.size]? = some (.cells (rdCells x0.n x1.n x2.n x3.n x4.n x5.n x6.n x7.n (.slice Av ps.length cv) (.slice Bv qs.length cq) (.slice Cv k cr)) 26 (0, 0)) ∧ W.heap[wr.heap.size]? = some (.cells #[.int .i64 (t0.n : Nat), .int .i64 (t1.n : Nat)] 3 (0, 0))) => cell_at hW.2 0 rfl
                have kx1 := fun (W : World) (hW : W.heap[wd.heap.size]? = some (.cells (rdCells x0.n x1.n x2.n x3.n x4.n x5.n x6.n x7.n (.slice Av ps.length cv) (.slice Bv qs.length cq) (.slice Cv k cr)) 26 (0, 0)) ∧ W.heap[wr.heap.size]? = some (.cells #[.int .i64 (t0.n : Nat), .int .i64 (t1.n : Nat)] 3 (0, 0))) => cell_at hW.2 1 rfl
                clear hx7 hr7 ha7 HX HB HOP HOQ HOw r0 r1 r2 kn2 HB7 HOP7 HOQ7 HOR7 hown7 Hl7
                go_wp2_with fail
                refine wp_region_L_drew (st := 12) (S := fun W => W.heap[wd.heap.size]? = some (.cells (rdCells x0.n x1.n x2.n x3.n x4.n x5.n x6.n x7.n (.slice Av ps.length cv) (.slice Bv qs.length cq) (.slice Cv k cr)) 26 (0, 0)) ∧ W.heap[wr.heap.size]? = some (.cells #[.int .i64 (t0.n : Nat), .int .i64 (t1.n : Nat)] 3 (0, 0))) (by kernel_rfl) hd (fun _ => ?_)
                refine wpAnyL_take (i := 0) (f := 12) (oi := ?oo75) (v := ?vv75) ?ii75 (by kernel_rfl) ?ff75 (by kernel_rfl) ?pp75 ?qq75 (Or.inl ⟨?ww75, ?yy75⟩) hd ?rr75
                case ii75 => simp only [List.getElem?_toArray, List.getElem?_cons_zero]; rfl
                case ff75 => kernel_rfl
                case pp75 => kernel_rfl
                case qq75 => exact fun _ _ _ h => h
                case ww75 => rfl
                case yy75 => intro W hW; go_simp <;> with_reducible rfl
                try simp only [Act.put, List.setIfInBounds_toArray, List.set_cons_zero, List.set_cons_succ]
                refine wpAnyL_take (i := 1) (f := 12) (oi := ?oo76) (v := ?vv76) ?ii76 (by kernel_rfl) ?ff76 (by kernel_rfl) ?pp76 ?qq76 (Or.inl ⟨?ww76, ?yy76⟩) hd ?rr76
                case ii76 => simp only [List.getElem?_toArray, List.getElem?_cons_succ, List.getElem?_cons_zero]; rfl
                case ff76 => kernel_rfl
                case pp76 => kernel_rfl
                case qq76 => exact fun _ _ _ h => h
                case ww76 => rfl
                case yy76 => intro W hW; go_simp <;> with_reducible rfl
                try simp only [Act.put, List.setIfInBounds_toArray, List.set_cons_zero, List.set_cons_succ]
                refine wpAnyL_take (i := 2) (f := 12) (oi := ?oo77) (v := ?vv77) ?ii77 (by kernel_rfl) ?ff77 (by kernel_rfl) ?pp77 ?qq77 (Or.inl ⟨?ww77, ?yy77⟩) hd ?rr77
                case ii77 => simp only [List.getElem?_toArray, List.getElem?_cons_succ, List.getElem?_cons_zero]; rfl
                case ff77 => kernel_rfl
                case pp77 => kernel_rfl
                case qq77 => exact fun _ _ _ h => h
                case ww77 => rfl
                case yy77 => intro W hW; go_simp <;> with_reducible rfl
                try simp only [Act.put, List.setIfInBounds_toArray, List.set_cons_zero, List.set_cons_succ]
                refine wpAnyL_take (i := 3) (f := 12) (oi := ?oo78) (v := ?vv78) ?ii78 (by kernel_rfl) ?ff78 (by kernel_rfl) ?pp78 ?qq78 (Or.inl ⟨?ww78, ?yy78⟩) hd ?rr78
                case ii78 => simp only [List.getElem?_toArray, List.getElem?_cons_succ, List.getElem?_cons_zero]; rfl
                case ff78 => kernel_rfl
                case pp78 => kernel_rfl
                case qq78 => exact fun _ _ _ h => h
                case ww78 => rfl
                case yy78 => intro W hW; go_simp <;> with_reducible rfl
                try simp only [Act.put, List.setIfInBounds_toArray, List.set_cons_zero, List.set_cons_succ]
                refine wpAnyL_take (i := 4) (f := 12) (oi := ?oo79) (v := ?vv79) ?ii79 (by kernel_rfl) ?ff79 (by kernel_rfl) ?pp79 ?qq79 (Or.inl ⟨?ww79, ?yy79⟩) hd ?rr79
                case ii79 => simp only [List.getElem?_toArray, List.getElem?_cons_succ, List.getElem?_cons_zero]; rfl
                case ff79 => kernel_rfl
                case pp79 => kernel_rfl
                case qq79 => exact fun _ _ _ h => h
                case ww79 => rfl
                case yy79 => intro W hW; go_simp <;> with_reducible rfl
                try simp only [Act.put, List.setIfInBounds_toArray, List.set_cons_zero, List.set_cons_succ]
                refine wpAnyL_take (i := 5) (f := 12) (oi := ?oo80) (v := ?vv80) ?ii80 (by kernel_rfl) ?ff80 (by kernel_rfl) ?pp80 ?qq80 (Or.inl ⟨?ww80, ?yy80⟩) hd ?rr80
                case ii80 => simp only [List.getElem?_toArray, List.getElem?_cons_succ, List.getElem?_cons_zero]; rfl
                case ff80 => kernel_rfl
                case pp80 => kernel_rfl
                case qq80 => exact fun _ _ _ h => h
                case ww80 => rfl
                case yy80 => intro W hW; go_simp <;> with_reducible rfl
                try simp only [Act.put, List.setIfInBounds_toArray, List.set_cons_zero, List.set_cons_succ]
                refine wpAnyL_take (i := 6) (f := 12) (oi := ?oo81) (v := ?vv81) ?ii81 (by kernel_rfl) ?ff81 (by kernel_rfl) ?pp81 ?qq81 (Or.inl ⟨?ww81, ?yy81⟩) hd ?rr81
                case ii81 => simp only [List.getElem?_toArray, List.getElem?_cons_succ, List.getElem?_cons_zero]; rfl
                case ff81 => kernel_rfl
                case pp81 => kernel_rfl
                case qq81 => exact fun _ _ _ h => h
                case ww81 => rfl
                case yy81 => intro W hW; go_simp <;> with_reducible rfl
                try simp only [Act.put, List.setIfInBounds_toArray, List.set_cons_zero, List.set_cons_succ]
                refine wpAnyL_take (i := 7) (f := 12) (oi := ?oo82) (v := ?vv82) ?ii82 (by kernel_rfl) ?ff82 (by kernel_rfl) ?pp82 ?qq82 (Or.inl ⟨?ww82, ?yy82⟩) hd ?rr82
                case ii82 => simp only [List.getElem?_toArray, List.getElem?_cons_succ, List.getElem?_cons_zero]; rfl
                case ff82 => kernel_rfl
                case pp82 => kernel_rfl
                case qq82 => exact fun _ _ _ h => h
                case ww82 => rfl
                case yy82 => intro W hW; go_simp <;> with_reducible rfl
                try simp only [Act.put, List.setIfInBounds_toArray, List.set_cons_zero, List.set_cons_succ]
                refine wpAnyL_take (i := 8) (f := 12) (oi := ?oo83) (v := ?vv83) ?ii83 (by kernel_rfl) ?ff83 (by kernel_rfl) ?pp83 ?qq83 (Or.inl ⟨?ww83, ?yy83⟩) hd ?rr83
                case ii83 => simp only [List.getElem?_toArray, List.getElem?_cons_succ, List.getElem?_cons_zero]; rfl
                case ff83 => kernel_rfl
                case pp83 => kernel_rfl
                case qq83 => exact fun _ _ _ h => h
                case ww83 => rfl
                case yy83 => intro W hW; go_simp <;> with_reducible rfl
                try simp only [Act.put, List.setIfInBounds_toArray, List.set_cons_zero, List.set_cons_succ]
                generalize w7.drew = we at *
                clear kc9 kx0 kx1
                have HBe := Lib.hid hb7d
                have HOPe := Lib.hid hoP7d
                have HOQe := Lib.hid hoQ7d
                have HORe := Lib.hid hoR7d
                have Hle := Lib.hid hown7d
                have Hde := Lib.hid hd
                have hda : (fun W : World => W.heap[wd.heap.size]? = some (.cells (rdCells x0.n x1.n x2.n x3.n x4.n x5.n x6.n x7.n (.slice Av ps.length cv) (.slice Bv qs.length cq) (.slice Cv k cr)) 26 (0, 0)) ∧ W.heap[wr.heap.size]? = some (.cells #[.int .i64 (t0.n : Nat), .int .i64 (t1.n : Nat)] 3 (0, 0))) (we.alloc (.cells (routeVals ⟨t0.n, t1.n⟩).toArray 66)) := ⟨(Below.heap_alloc _ _ _ (by omega)).trans hd.1, (Below.heap_alloc _ _ _ (by omega)).trans hd.2⟩
                clear hb7d hoP7d hoQ7d hoR7d hown7d hd
                refine wpAnyL_one (k := 9) (o := ?oo84) (by kernel_rfl) ?ii84 (fun K hK => ?_)
                case ii84 => simp only [List.getElem?_toArray, List.getElem?_cons_succ, List.getElem?_cons_zero]; rfl
                go_simp
                go_wp2_with fail
                refine hK.out _ _ (fun _ => hda) ?_
                clear hK K
                refine wpAnyL_one (k := 10) (o := ?oo85) (by kernel_rfl) ?ii85 (fun K hK => ?_)
                case ii85 => simp only [List.getElem?_toArray, List.getElem?_cons_succ, List.getElem?_cons_zero]; rfl
                refine step_append_s rfl (.tmp 195) (.tmp 203) _ rfl (wd.heap.size + 1) 66 _ 2 16 Try.underlying24 infoR rfl (by omega) _ k (itemsV routeVals rs) rfl (Hle.out.alloc _) (some ⟨we.heap.size, 0, none⟩) 1 1 (routeVals ⟨t0.n, t1.n⟩) rfl rfl (fun _ => ⟨_, rfl, laid_at we _ (routeVals ⟨t0.n, t1.n⟩) we.heap.size rfl⟩) (routeVals_one _) (by unfold maxLen; omega) (by omega) (by have := HBe.out.sz; simp; omega) ?_
                intro v8 w8 ho8 ha8 hb8
                have ha80 : Apart (fun q => (Value.slice Cv k cr).ownBlock = some q) we w8 := ((Apart.refl _ we).alloc _).trans ha8 (fun _ e => .inl e)
                have hs8 := HBe.out.new HOk.out ha80 (fun q e => HORe.out.hi q e)
                have hn8 : OwnI routeVals 2 66 (wd.heap.size + 1) v8 (rs ++ [⟨t0.n, t1.n⟩]) w8 := OwnI.more (by rw [Hrl.out]; exact ho8)
                have hp8 := HOPe.out.new ha80 (fun q hq e => HdP.out q hq e)
                have hq8 := HOQe.out.new ha80 (fun q hq e => HdQ.out q hq e)
                have HdP8 := Lib.hid (grow_ne hb8 HdP.out (fun q hq => by have := (HOPe.out.own.lt q hq).2; simp; omega))
                have HdQ8 := Lib.hid (grow_ne hb8 HdQ.out (fun q hq => by have := (HOQe.out.own.lt q hq).2; simp; omega))
                have hd8 : (fun W : World => W.heap[wd.heap.size]? = some (.cells (rdCells x0.n x1.n x2.n x3.n x4.n x5.n x6.n x7.n (.slice Av ps.length cv) (.slice Bv qs.length cq) (.slice Cv k cr)) 26 (0, 0)) ∧ W.heap[wr.heap.size]? = some (.cells #[.int .i64 (t0.n : Nat), .int .i64 (t1.n : Nat)] 3 (0, 0))) w8 := ⟨hs8.cb, (ha80.block _ hzx7 (fun e => by have := Hlo.out _ e; omega)).trans Hde.out.2⟩
                obtain ⟨A8, c8, rfl, -⟩ := own_slice ho8
                have kb8 : w8.cell? ⟨wd.heap.size, 10, none⟩ = some (.slice Cv k cr) := cell_at hs8.cb 10 rfl
                have fb8 := free_at hs8.cb 10
                have HS9 := Lib.hid (hs8.store HOk.out 10 (.slice A8 (k + 1) c8))
                have HO9 := Lib.hid (hn8.apart (Apart.setCell (F := fun q => q = wd.heap.size) (Apart.refl _ w8) (p := ⟨wd.heap.size, 10, none⟩) (.inl rfl) (.slice A8 (k + 1) c8)) (fun q e => by omega))
                have HP9 := Lib.hid (hp8.apart (Apart.setCell (F := fun q => q = wd.heap.size) (Apart.refl _ w8) (p := ⟨wd.heap.size, 10, none⟩) (.inl rfl) (.slice A8 (k + 1) c8)) (fun q e => by omega))
                have HQ9 := Lib.hid (hq8.apart (Apart.setCell (F := fun q => q = wd.heap.size) (Apart.refl _ w8) (p := ⟨wd.heap.size, 10, none⟩) (.inl rfl) (.slice A8 (k + 1) c8)) (fun q e => by omega))
                clear ho8 ha8 hb8 hn8 hs8 ha80 hp8 hq8
                go_wp2_with fail
                refine hK.out _ _ (fun _ => hd8) ?_
                clear hK K
                refine wpAnyL_take (i := 11) (f := 12) (oi := ?oo86) (v := ?vv86) ?ii86 (by kernel_rfl) ?ff86 (by kernel_rfl) ?pp86 ?qq86 (Or.inl ⟨?ww86, ?yy86⟩) hd8 ?rr86
                case ii86 => simp only [List.getElem?_toArray, List.getElem?_cons_succ, List.getElem?_cons_zero]; rfl
                case ff86 => kernel_rfl
                case pp86 => kernel_rfl
                case qq86 => exact fun _ _ _ h => h
                case ww86 => rfl
                case yy86 => intro W hW; go_simp <;> with_reducible rfl
                try simp only [Act.put, List.setIfInBounds_toArray, List.set_cons_zero, List.set_cons_succ]
                refine wpAnyL_last (k := 12) (o := ?oo87) (by kernel_rfl) ?ii87 (fun K hK => ?_)
                case ii87 => simp only [List.getElem?_toArray, List.getElem?_cons_succ, List.getElem?_cons_zero]; rfl
                go_simp
                go_wp2_with fail
                refine hK.out _ _ ?_
                clear hK K
                refine wpAnyL_done (by kernel_rfl) ?_ _
                go_wp2_with fail
                go_roundw
                case rel => exact ⟨k + 1, _, .slice A8 (k + 1) c8, _, _, by omega, by go_num, HS9.out, HP9.out, HQ9.out, HO9.out, HdP8.out, HdQ8.out, by rw [List.length_append, Hrl.out]; rfl, Hst.out.1, Hst.out.2, A8, c8, rfl⟩
                case measure => simp [intOf]; omega
              | true =>
                have hne : (errText true a2).isEmpty = false := atT_ne' 4 (a2 : Nat)
                have HE2 := Lib.hid (hEnd.out (.inr rfl))
                simp only [strV] at r2
                generalize errText true a2 = et at *
                clear hEnd
                go_wp2_with fail
                go_meet
                exact HE2.out
            · have HE2 := Lib.hid (hEnd.out (.inl (by omega)))
              clear hEnd
              go_wp2_with fail
              go_meet
              exact HE2.out
        case rest =>
          clear HBb HOPb HOQb
          obtain ⟨rs, Cv, cr, hb, hoP, hoQ, hoR, hrl2, hre⟩ := hcut
          have hbz := hb.zb
          have hbc : wc.heap[wd.heap.size]? = some (.cells #[.int .i64 (x0.n : Nat), .int .i64 (x1.n : Nat), .int .i64 (x2.n : Nat), .int .i64 (x3.n : Nat), .int .i64 (x4.n : Nat), .int .i64 (x5.n : Nat), .int .i64 (x6.n : Nat), .int .i64 (x7.n : Nat), .slice Av ps.length cv, .slice Bv qs.length cq, .slice Cv rs.length cr] 26 (0, 0)) := hb.cb
          have hS4 : D3.2.2 = false → s3 = false := fun hs => (TableP.routesD_inv _ _ _ _ _ (show TableP.routesD l x10.n a3 s3 = (D3.1, D3.2.1, false) by rw [HD3.out, ← hs])).1
          have HF : Hid (RefRestPost rr A n cap l x0.n x1.n x2.n x3.n x4.n x5.n x6.n x7.n x10.n DP (.inl (q0, a3, s3)) w (.returned (.tuple #[.agg #[.int .i64 (x0.n : Nat), .int .i64 (x1.n : Nat), .int .i64 (x2.n : Nat), .int .i64 (x3.n : Nat), .int .i64 (x4.n : Nat), .int .i64 (x5.n : Nat), .int .i64 (x6.n : Nat), .int .i64 (x7.n : Nat), .slice Av ps.length cv, .slice Bv qs.length cq, .slice Cv rs.length cr], .string ⟨#[]⟩])) (storeAll wc w.heap.size [.int .i64 (x0.n : Nat), .int .i64 (x1.n : Nat), .int .i64 (x2.n : Nat), .int .i64 (x3.n : Nat), .int .i64 (x4.n : Nat), .int .i64 (x5.n : Nat), .int .i64 (x6.n : Nat), .int .i64 (x7.n : Nat), .slice Av ps.length cv, .slice Bv qs.length cq, .slice Cv rs.length cr] 0)) := Lib.hid (by
            have h1 := storeAll_apart w.heap.size [.int .i64 (x0.n : Nat), .int .i64 (x1.n : Nat), .int .i64 (x2.n : Nat), .int .i64 (x3.n : Nat), .int .i64 (x4.n : Nat), .int .i64 (x5.n : Nat), .int .i64 (x6.n : Nat), .int .i64 (x7.n : Nat), .slice Av ps.length cv, .slice Bv qs.length cq, .slice Cv rs.length cr] 0 wc
            have oP := hoP.apart h1 (fun q e => by have e : q = w.heap.size := e; omega)
            have oQ := hoQ.apart h1 (fun q e => by have e : q = w.heap.size := e; omega)
            have oR := hoR.apart h1 (fun q e => by have e : q = w.heap.size := e; omega)
            unfold RefRestPost RefAll
            simp only
            rw [HD3.out]
            obtain ⟨p1, p2⟩ := items_own partVals_len oP rfl
            obtain ⟨q1, q2⟩ := items_own portVals_len oQ rfl
            obtain ⟨r1, r2⟩ := items_own routeVals_len oR rfl
            refine ⟨⟨x0.n, x1.n, x2.n, x3.n, x4.n, x5.n, x6.n, x7.n, Av, ps.length, cv, ps, Bv, qs.length, cq, qs, Cv, rs.length, cr, rs⟩, rfl, hb.rd.apart h1 (fun e => by have e : rr = w.heap.size := e; omega) (fun hl q hq e => by have e : q = w.heap.size := e; have := HQ.out hl q hq; omega), hb.ap.trans h1 (fun q e => .inr (Nat.le_of_eq e.symm)), ⟨p2, rfl, p1, by simp only; omega, q2, rfl, q1, by simp only; omega, r2, rfl, r1, by simp only; omega⟩, ⟨fun _ q hq => ?_, fun _ q hq => ?_, fun _ q hq => ?_⟩, fun hs => ?_⟩
            · have := oP.hi q (by rw [ownBlock_slice]; exact hq); omega
            · have := oQ.hi q (by rw [ownBlock_slice]; exact hq); omega
            · have := oR.hi q (by rw [ownBlock_slice]; exact hq); omega
            · simp only [CfgC.plain]
              rw [HPe.out (HS3.out (hS4 hs)), HQe.out (hS4 hs), hre hs])
          have hfin := zero_same2 hbz rfl [.int .i64 (x0.n : Nat), .int .i64 (x1.n : Nat), .int .i64 (x2.n : Nat), .int .i64 (x3.n : Nat), .int .i64 (x4.n : Nat), .int .i64 (x5.n : Nat), .int .i64 (x6.n : Nat), .int .i64 (x7.n : Nat), .slice Av ps.length cv, .slice Bv qs.length cq, .slice Cv rs.length cr] rfl
          clear hb hoP hoQ hoR hre hS4
          have k0 := cell_at hbc 0 rfl
          have k1 := cell_at hbc 1 rfl
          have k2 := cell_at hbc 2 rfl
          have k3 := cell_at hbc 3 rfl
          have k4 := cell_at hbc 4 rfl
          have k5 := cell_at hbc 5 rfl
          have k6 := cell_at hbc 6 rfl
          have k7 := cell_at hbc 7 rfl
          have k8 := cell_at hbc 8 rfl
          have k9 := cell_at hbc 9 rfl
          have k10 := cell_at hbc 10 rfl
          have j0 := cell_at hbz 0 rfl
          have j1 := cell_at hbz 1 rfl
          have j2 := cell_at hbz 2 rfl
          have j3 := cell_at hbz 3 rfl
          have j4 := cell_at hbz 4 rfl
          have j5 := cell_at hbz 5 rfl
          have j6 := cell_at hbz 6 rfl
          have j7 := cell_at hbz 7 rfl
          have j8 := cell_at hbz 8 rfl
          have j9 := cell_at hbz 9 rfl
          have j10 := cell_at hbz 10 rfl
          have f := fun i => free_at hbz i
          go_wp2_with fail
          clear k0 k1 k2 k3 k4 k5 k6 k7 k8 k9 k10 j0 j1 j2 j3 j4 j5 j6 j7 j8 j9 j10 f
          show bodyPost _ _ _ _ _ (storeAll wc w.heap.size [.int .i64 (x0.n : Nat), .int .i64 (x1.n : Nat), .int .i64 (x2.n : Nat), .int .i64 (x3.n : Nat), .int .i64 (x4.n : Nat), .int .i64 (x5.n : Nat), .int .i64 (x6.n : Nat), .int .i64 (x7.n : Nat), .slice Av ps.length cv, .slice Bv qs.length cq, .slice Cv rs.length cr] 0)
          generalize storeAll wc w.heap.size [.int .i64 (x0.n : Nat), .int .i64 (x1.n : Nat), .int .i64 (x2.n : Nat), .int .i64 (x3.n : Nat), .int .i64 (x4.n : Nat), .int .i64 (x5.n : Nat), .int .i64 (x6.n : Nat), .int .i64 (x7.n : Nat), .slice Av ps.length cv, .slice Bv qs.length cq, .slice Cv rs.length cr] 0 = Wf at *
          have r0 := cell_at hfin 0 rfl
          have r1 := cell_at hfin 1 rfl
          have r2 := cell_at hfin 2 rfl
          have r3 := cell_at hfin 3 rfl
          have r4 := cell_at hfin 4 rfl
          have r5 := cell_at hfin 5 rfl
          have r6 := cell_at hfin 6 rfl
          have r7 := cell_at hfin 7 rfl
          have r8 := cell_at hfin 8 rfl
          have r9 := cell_at hfin 9 rfl
          have r10 := cell_at hfin 10 rfl
          refine bodyPost_ret (v := .tuple #[.agg #[.int .i64 (x0.n : Nat), .int .i64 (x1.n : Nat), .int .i64 (x2.n : Nat), .int .i64 (x3.n : Nat), .int .i64 (x4.n : Nat), .int .i64 (x5.n : Nat), .int .i64 (x6.n : Nat), .int .i64 (x7.n : Nat), .slice Av ps.length cv, .slice Bv qs.length cq, .slice Cv rs.length cr], .string ⟨#[]⟩]) (by simp [results, Try.results42, go_sem, r0, r1, r2, r3, r4, r5, r6, r7, r8, r9, r10]) rfl ?_
          exact HF.out
end Go.Proofs.Ytgceleipaiameaa
