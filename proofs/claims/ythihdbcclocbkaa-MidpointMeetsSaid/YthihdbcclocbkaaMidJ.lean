/- MidpointMeets: the walk of the law at ints in memory. Conditions: where they lie, that they are ints. -/
import Derived.Test.YthihdbcclocbkaaMidK
import Derived.Laws.Cover1
namespace Go.Proofs.Ythihdbcclocbkaa
open Go.RowKit
set_option maxRecDepth 100000

/-- What both lists hold behind k rounds. -/
def MeetR (u : World) (n ga gb f x : Nat) (lo hi i : Value) (W : World) : Prop :=
  ∃ (k : Nat) (a b : List Int) (lv hv : Int), k ≤ n ∧ i = .int .i64 (k : Nat) ∧ lo = .int .i64 lv ∧ hi = .int .i64 hv ∧ a.length = n ∧ b.length = n ∧ Ints a ∧ Ints b ∧ TwoI u.heap.size n ga gb a b W ∧ Below u.heap.size u W ∧
    (-2000000 ≤ lv ∧ lv ≤ 2000000 ∧ -2000000 ≤ hv ∧ hv ≤ 2000000) ∧
    (∀ (j : Nat) (y : Int), f ≤ j → j < k → a[j]? = some y → lv ≤ y ∧ y ≤ hv) ∧ (∀ (j : Nat) (y : Int), f ≤ j → j < k → b[j]? = some y → lv ≤ y ∧ y ≤ hv) ∧
    (∀ (j : Nat) (y z : Int), f ≤ j → j < k → a[j]? = some y → b[j]? = some z → y ≤ z + x ∧ z ≤ y + x)
/-- Behind the noise. -/
def MeetC (u : World) (n ga gb : Nat) (a b : List Int) (k x : Nat) (zm : Int) (W : World) : Prop :=
  ∃ zb : Int, TwoI u.heap.size n ga gb (a.set k zm) (b.set k zb) W ∧ Below u.heap.size u W ∧ (zm ≤ zb + x ∧ zb ≤ zm + x)
theorem tmod_noise {y m : Int} (h : 0 < m) : -m < y.tmod m ∧ y.tmod m < m := by
  by_cases h0 : 0 ≤ y
  · rw [Int.tmod_eq_emod_of_nonneg h0]
    have := Int.emod_nonneg y (show m ≠ 0 by omega)
    have := Int.emod_lt_of_pos y h
    omega
  · have := Int.neg_tmod (a := -y) (b := m)
    rw [Int.neg_neg] at this
    rw [this, Int.tmod_eq_emod_of_nonneg (by omega)]
    have := Int.emod_nonneg (-y) (show m ≠ 0 by omega)
    have := Int.emod_lt_of_pos (-y) h
    omega
theorem set_get {l : List Int} {k j : Nat} {x y : Int} (h : (l.set k x)[j]? = some y) : (j = k ∧ y = x) ∨ (j ≠ k ∧ l[j]? = some y) := by
  by_cases e : j = k
  · subst e
    rw [List.getElem?_set_self (by have := (List.getElem?_eq_some_iff.1 h).1; simpa using this)] at h
    cases h
    exact .inl ⟨rfl, rfl⟩
  · rw [List.getElem?_set_ne (fun e2 => e e2.symm)] at h
    exact .inr ⟨e, h⟩
theorem ints_rep (n : Nat) : Ints (List.replicate n 0) := fun x hx => by
  have := (List.mem_replicate.1 hx).2
  subst this
  decide

def QCells (ga gb k : Nat) (zm zb : Int) (wc W : World) : Prop := W.cell? ⟨ga, k, none⟩ = some (.int .i64 zm) ∧ W.cell? ⟨gb, k, none⟩ = some (.int .i64 zb) ∧ Below wc.heap.size wc W
theorem min2 (x y : Int) : ∃ m, min x y = m ∧ (if y < x then y else x) = m ∧ m ≤ x ∧ m ≤ y ∧ (m = x ∨ m = y) := ⟨_, rfl, by split <;> omega, by omega, by omega, by omega⟩
theorem max2 (x y : Int) : ∃ m, max x y = m ∧ (if y > x then y else x) = m ∧ x ≤ m ∧ y ≤ m ∧ (m = x ∨ m = y) := ⟨_, rfl, by split <;> omega, by omega, by omega, by omega⟩
theorem min3 (x y z : Int) : ∃ m, min (min x y) z = m ∧ (if z < (if y < x then y else x) then z else (if y < x then y else x)) = m ∧ m ≤ x ∧ m ≤ y ∧ m ≤ z ∧ (m = x ∨ m = y ∨ m = z) :=
  ⟨_, rfl, by split <;> split <;> omega, by omega, by omega, by omega, by omega⟩
theorem max3 (x y z : Int) : ∃ m, max (max x y) z = m ∧ (if (if x < y then y else x) < z then z else (if x < y then y else x)) = m ∧ x ≤ m ∧ y ≤ m ∧ z ≤ m ∧ (m = x ∨ m = y ∨ m = z) :=
  ⟨_, rfl, by split <;> split <;> omega, by omega, by omega, by omega, by omega⟩

set_option maxHeartbeats 8000000 in
theorem mmeets_law (A : Option Addr) (n cap : Nat) (l : List Int) (hl : l.length = n) (A1 : Option Addr) (n1 cap1 : Nat) (l1 : List Int) (hl1 : l1.length = n1) (A2 : Option Addr) (n2 cap2 : Nat) (l2 : List Int) (hl2 : l2.length = n2)
    (A3 : Option Addr) (n3 cap3 : Nat) (l3 : List Int) (hl3 : l3.length = n3) (f0 x0 : Int) (w : World) (h : IntsIn w A l) (_ : Ints l) (h1 : IntsIn w A1 l1) (_ : Ints l1) (h2 : IntsIn w A2 l2) (hi2 : Ints l2) (h3 : IntsIn w A3 l3) (hi3 : Ints l3) :
    Calls Try.prog 5 #[.slice A n cap, .slice A1 n1 cap1, .slice A2 n2 cap2, .slice A3 n3 cap3, .int .i64 f0, .int .i64 x0] w (MTrue w) := by
  have HA := Lib.hid (awake10_any w)
  have Hl := Lib.hid hl
  have HI := Lib.hid h
  have Hl1 := Lib.hid hl1
  have HI1 := Lib.hid h1
  have Hl2 := Lib.hid hl2
  have HI2 := Lib.hid h2
  have Hin2 := Lib.hid hi2
  have Hl3 := Lib.hid hl3
  have HI3 := Lib.hid h3
  have Hin3 := Lib.hid hi3
  clear h hl h1 hl1 h2 hl2 hi2 h3 hl3 hi3
  by_cases hn1 : n < 1
  · obtain rfl : n = 0 := by omega
    clear hn1
    go_enter Try.func5, Try.ntmps5
    go_wp2_with fail
    refine HA.out.mono ?_
    rintro e w1 ⟨rfl, hb1⟩
    go_wp2_with fail
    go_ret
    exact ⟨rfl, hb1⟩
  have p1 : decide ((n : Int) < 1) = false := decide_eq_false (by omega)
  have p2 : decide (n < 1) = false := decide_eq_false hn1
  by_cases hn : n ≤ 60
  case neg =>
    have q1 : decide ((60 : Int) < (n : Int)) = true := decide_eq_true (by omega)
    have q2 : decide (60 < n) = true := decide_eq_true (by omega)
    clear hn
    go_enter Try.func5, Try.ntmps5
    go_wp2_with fail
    refine HA.out.mono ?_
    rintro e w1 ⟨rfl, hb1⟩
    go_wp2_with fail
    go_ret
    exact ⟨rfl, hb1⟩
  obtain ⟨p, rfl⟩ : ∃ p, n = p + 1 := ⟨n - 1, by omega⟩
  clear p1 p2
  have p1 : decide ((p : Int) + 1 < 1) = false := decide_eq_false (by omega)
  have q1 : decide ((60 : Int) < (p : Int) + 1) = false := decide_eq_false (by omega)
  obtain ⟨f, hf, ef⟩ := mod_of f0 ((p : Int) / 3 + 1) (by omega) (by omega)
  have eu : IntKind.u64.wrap ((p : Int) / 3 + 1) = (p : Int) / 3 + 1 := u64_in _ (by omega) (by omega)
  have zu : ¬ (p : Int) / 3 + 1 = 0 := by omega
  obtain ⟨x, hx, ex⟩ := mod_of x0 1000 (by omega) (by omega)
  have e0 : IntKind.i64.wrap (p : Int) = (p : Int) := IntWalk.i64_in _ (by omega)
  have e1 : IntKind.i64.wrap ((p : Int) / 3) = (p : Int) / 3 := IntWalk.i64_in _ (by omega)
  have e2 : IntKind.i64.wrap ((p : Int) / 3 + 1) = (p : Int) / 3 + 1 := IntWalk.i64_in _ (by omega)
  have hf2 : 3 * f < p + 1 := by omega
  obtain ⟨v, hv⟩ : ∃ v, l[0]? = some v := ⟨_, List.getElem?_eq_getElem (by rw [Hl.out]; omega)⟩
  obtain ⟨ba, oa, rfl, -, -⟩ := HI.out.at_ hv
  have HArg : Hid (∀ W, Below w.heap.size w W → ∀ (j : Nat) (x : Int), l[j]? = some x → W.cell? ⟨ba, oa + j, none⟩ = some (.int .i64 x)) := Lib.hid fun W hW j x hx => by
    obtain ⟨b', o', e', -, h9⟩ := (HI.out.below hW).at_ hx
    cases e'
    exact h9
  clear hn1 hv HI
  go_enter Try.func5, Try.ntmps5
  go_wp2_with fail
  refine HA.out.mono ?_
  rintro e u ⟨rfl, hb1⟩
  have Hb1 := Lib.hid hb1
  clear hb1 HA
  go_upto_region 7 with (fail)
  rw [ef, ex]
  go_cut [14, 15] (fun a b wx => TwoV u (p + 1) a b wx)
  case first =>
    have hd0 : Below u.heap.size u u.drew := (Below.refl _ _).drew
    have H1 := two_made u u.drew hd0 rfl (n := p + 1) (by omega)
    have hm1 := hd0.alloc hd0.size (.cells (madeCells #[.int .i64 0] (p + 1)) 3)
    have hm2 := hm1.alloc hm1.size (.cells (madeCells #[.int .i64 0] (p + 1)) 3)
    have HA2 := Lib.hid H1.1
    have HB2 := Lib.hid H1.2
    clear H1
    have hmk : ∀ W, (Instr.makeSlice 22 (.int .i64 ((p : Int) + 1)) (.int .i64 ((p : Int) + 1))).run Try.prog W = .ok (.slice (some ⟨W.heap.size, 0, none⟩) (p + 1) (p + 1)) (W.alloc (.cells (madeCells #[.int .i64 0] (p + 1)) 3)) := fun W => run_make_row' (P := Try.prog) 22 3 (.int .i64 0) 8 Try.underlying22 infoInt rfl .i64 .i64 (p + 1) (by omega) (by omega) W
    go_wp2_with fail
    refine wp_region_held_drew (S := fun W => Below u.heap.size u W) (by kernel_rfl) hd0 (fun _ => ?_)
    refine wpAnyH_take (i := 0) (oi := ?oo1) (v := ?vv1) ?ii1 (by kernel_rfl) ?ff1 (by kernel_rfl) ?qq1 (Or.inl ⟨?ww1, ?yy1⟩) hd0 ?rr1
    case ii1 => simp only [List.getElem?_toArray, List.getElem?_cons_zero]; rfl
    case ff1 => kernel_rfl
    case qq1 => exact fun _ _ _ h => h
    case ww1 => rfl
    case yy1 => intro W hW; go_simp <;> with_reducible rfl
    try simp only [Act.put, List.setIfInBounds_toArray, List.set_cons_zero, List.set_cons_succ]
    refine wpAnyH_take (i := 2) (oi := ?oo2) (v := ?vv2) ?ii2 (by kernel_rfl) ?ff2 (by kernel_rfl) ?qq2 (Or.inl ⟨?ww2, ?yy2⟩) hd0 ?rr2
    case ii2 => simp only [List.getElem?_toArray, List.getElem?_cons_succ, List.getElem?_cons_zero]; rfl
    case ff2 => kernel_rfl
    case qq2 => exact fun _ _ _ h => h
    case ww2 => rfl
    case yy2 => intro W hW; go_simp <;> with_reducible rfl
    try simp only [Act.put, List.setIfInBounds_toArray, List.set_cons_zero, List.set_cons_succ]
    refine wpAnyH_ready (rs := [1, 3]) (by kernel_rfl) (by simp) ?_
    refine AllReadyH.cons (o := ?oa101) ?ia101 (fun K hK => ?_) (AllReadyH.cons (o := ?ob101) ?ib101 (fun K hK => ?_) AllReadyH.nil)
    case ia101 => simp only [List.getElem?_toArray, List.getElem?_cons_succ, List.getElem?_cons_zero]; rfl
    case ib101 => simp only [List.getElem?_toArray, List.getElem?_cons_succ, List.getElem?_cons_zero]; rfl
    · go_simp
      go_wp2_with fail
      refine hK.out _ _ ?h102 (fun _ => ?_)
      case h102 => exact hm1
      clear hK K
      refine wpAnyH_take (i := 4) (oi := ?oo3) (v := ?vv3) ?ii3 (by kernel_rfl) ?ff3 (by kernel_rfl) ?qq3 (Or.inl ⟨?ww3, ?yy3⟩) hm1 ?rr3
      case ii3 => simp only [List.getElem?_toArray, List.getElem?_cons_succ, List.getElem?_cons_zero]; rfl
      case ff3 => kernel_rfl
      case qq3 => exact fun _ _ _ h => h
      case ww3 => rfl
      case yy3 => intro W hW; go_simp <;> with_reducible rfl
      try simp only [Act.put, List.setIfInBounds_toArray, List.set_cons_zero, List.set_cons_succ]
      refine wpAnyH_ready (rs := [3]) (by kernel_rfl) (by simp) ?_
      refine AllReadyH.cons (o := ?oo4) ?ii4 (fun K hK => ?_) AllReadyH.nil
      case ii4 => simp only [List.getElem?_toArray, List.getElem?_cons_succ, List.getElem?_cons_zero]; rfl
      go_simp
      go_wp2_with fail
      refine hK.out _ _ hm2 (fun _ => ?_)
      clear hK K
      refine wpAnyH_take (i := 5) (oi := ?oo5) (v := ?vv5) ?ii5 (by kernel_rfl) ?ff5 (by kernel_rfl) ?qq5 (Or.inl ⟨?ww5, ?yy5⟩) hm2 ?rr5
      case ii5 => simp only [List.getElem?_toArray, List.getElem?_cons_succ, List.getElem?_cons_zero]; rfl
      case ff5 => kernel_rfl
      case qq5 => exact fun _ _ _ h => h
      case ww5 => rfl
      case yy5 => intro W hW; go_simp <;> with_reducible rfl
      try simp only [Act.put, List.setIfInBounds_toArray, List.set_cons_zero, List.set_cons_succ]
      refine wpAnyH_done (by kernel_rfl) ?_ _
      go_wp2_with fail
      go_meet
      exact HA2.out
    · go_simp
      go_wp2_with fail
      refine hK.out _ _ ?h104 (fun _ => ?_)
      case h104 => exact hm1
      clear hK K
      refine wpAnyH_ready (rs := [1]) (by kernel_rfl) (by simp) ?_
      refine AllReadyH.cons (o := ?oo6) ?ii6 (fun K hK => ?_) AllReadyH.nil
      case ii6 => simp only [List.getElem?_toArray, List.getElem?_cons_succ, List.getElem?_cons_zero]; rfl
      go_simp
      go_wp2_with fail
      refine hK.out _ _ hm2 (fun _ => ?_)
      clear hK K
      refine wpAnyH_take (i := 4) (oi := ?oo7) (v := ?vv7) ?ii7 (by kernel_rfl) ?ff7 (by kernel_rfl) ?qq7 (Or.inl ⟨?ww7, ?yy7⟩) hm2 ?rr7
      case ii7 => simp only [List.getElem?_toArray, List.getElem?_cons_succ, List.getElem?_cons_zero]; rfl
      case ff7 => kernel_rfl
      case qq7 => exact fun _ _ _ h => h
      case ww7 => rfl
      case yy7 => intro W hW; go_simp <;> with_reducible rfl
      try simp only [Act.put, List.setIfInBounds_toArray, List.set_cons_zero, List.set_cons_succ]
      refine wpAnyH_take (i := 5) (oi := ?oo8) (v := ?vv8) ?ii8 (by kernel_rfl) ?ff8 (by kernel_rfl) ?qq8 (Or.inl ⟨?ww8, ?yy8⟩) hm2 ?rr8
      case ii8 => simp only [List.getElem?_toArray, List.getElem?_cons_succ, List.getElem?_cons_zero]; rfl
      case ff8 => kernel_rfl
      case qq8 => exact fun _ _ _ h => h
      case ww8 => rfl
      case yy8 => intro W hW; go_simp <;> with_reducible rfl
      try simp only [Act.put, List.setIfInBounds_toArray, List.set_cons_zero, List.set_cons_succ]
      refine wpAnyH_done (by kernel_rfl) ?_ _
      go_wp2_with fail
      go_meet
      exact HB2.out
  case rest =>
  obtain ⟨ga, gb, rfl, rfl, h2, hbc⟩ := hcut
  have hgab := h2.1
  have hgba : gb ≠ ga := fun e => hgab e.symm
  have HS : Hid (MeetR u (p + 1) ga gb f x (.int .i64 0) (.int .i64 0) (.int .i64 0) wc) := Lib.hid ⟨0, List.replicate (p + 1) 0, List.replicate (p + 1) 0, 0, 0, by omega, rfl, rfl, rfl, List.length_replicate, List.length_replicate, ints_rep _, ints_rep _, h2, hbc, by omega, fun j y _ hj => by omega, fun j y _ hj => by omega, fun j y z _ hj => by omega⟩
  clear h2 hbc
  go_wp2_with fail
  go_loopw [16, 17, 53] (MeetR u (p + 1) ga gb f x) (fun _ _ i _ => (p + 2 - intOf i).toNat)
  case atStart => exact HS.out
  case round =>
    clear HS
    obtain ⟨k, a, b, lv, hv, hk, rfl, rfl, rfl, hla, hlb, hia, hib, h2, hb, hlh, hra, hrb, hab⟩ := hrel
    by_cases hkn : k < p + 1
    case neg =>
      obtain rfl : k = p + 1 := by omega
      have s1 : decide (((p + 1 : Nat) : Int) < (p : Int) + 1) = false := decide_eq_false (by omega)
      have hra' : ∀ (j : Nat) (y : Int), f ≤ j → a[j]? = some y → lv ≤ y ∧ y ≤ hv := fun j y h1 h3 => hra j y h1 (by have := (List.getElem?_eq_some_iff.1 h3).1; omega) h3
      have hrb' : ∀ (j : Nat) (y : Int), f ≤ j → b[j]? = some y → lv ≤ y ∧ y ≤ hv := fun j y h1 h3 => hrb j y h1 (by have := (List.getElem?_eq_some_iff.1 h3).1; omega) h3
      have hma := MidP.mid_holds (l := a) (f := f) (by omega) hra'
      have hmb := MidP.mid_holds (l := b) (f := f) (by omega) hrb'
      have hme := MidP.mid_meets (l := a) (m := b) (f := f) (lo := lv) (hi := hv) (x := (x : Int)) (by omega) (by omega) (by omega) hra' hrb' (fun j y z h1 h3 h4 => hab j y z h1 (by have := (List.getElem?_eq_some_iff.1 h3).1; omega) h3 h4)
      have HM1 := Lib.hid (mid_good (some ⟨ga, 0, none⟩) (p + 1) (p + 1) a hla (by omega) f (by omega) wr (h2.ints hla) hia)
      have HM2 := Lib.hid (fun W hW => mid_good (some ⟨gb, 0, none⟩) (p + 1) (p + 1) b hlb (by omega) f (by omega) W ((h2.keep hW).swap.ints hlb) hib)
      generalize MidP.midT a f = ma at *
      generalize MidP.midT b f = mb at *
      obtain ⟨D, hD⟩ : ∃ D : Nat, hv - lv = (D : Int) := ⟨(hv - lv).toNat, by omega⟩
      obtain ⟨dd, hdd⟩ : ∃ dd : Int, ma - mb = dd := ⟨_, rfl⟩
      rw [hD] at hme
      have hDb : D ≤ 4000000 := by omega
      have t1 : IntKind.i64.wrap (hv - lv) = (D : Int) := by rw [hD]; exact IntWalk.i64_in _ (by omega)
      have t2 : IntKind.i64.wrap ((D : Int) + 1) = (D : Int) + 1 := IntWalk.i64_in _ (by omega)
      have t3 : IntKind.i64.wrap (((D : Int) + 1) / 2) = ((D : Int) + 1) / 2 := IntWalk.i64_in _ (by omega)
      have t4 : IntKind.i64.wrap (((D : Int) + 1) / 2 + (x : Int)) = ((D : Int) + 1) / 2 + (x : Int) := IntWalk.i64_in _ (by omega)
      have t5 : IntKind.i64.wrap (((D : Int) + 1) / 2 + (x : Int) + 1) = ((D : Int) + 1) / 2 + (x : Int) + 1 := IntWalk.i64_in _ (by omega)
      have t6 : IntKind.i64.wrap (ma - mb) = dd := by rw [hdd]; exact IntWalk.i64_in _ (by omega)
      have t7 : IntKind.i64.wrap (-dd) = -dd := IntWalk.i64_in _ (by omega)
      have Hb := Lib.hid (b2 Hb1.out hb)
      have hde : dd ≤ ((D : Int) + 1) / 2 + (x : Int) + 1 ∧ -dd ≤ ((D : Int) + 1) / 2 + (x : Int) + 1 := by omega
      have Hde := Lib.hid hde
      have t8 : decide (dd ≤ ((D : Int) + 1) / 2 + (x : Int) + 1) = true := decide_eq_true hde.1
      have t9 : decide (-dd ≤ ((D : Int) + 1) / 2 + (x : Int) + 1) = true := decide_eq_true hde.2
      by_cases hd0 : dd < 0
      case pos =>
        have t0 : decide (dd < 0) = true := decide_eq_true hd0
        clear hla hlb hia hib h2 hb hlh hra hrb hab hra' hrb' hma hmb hme hD hdd hde hkn hd0
        go_wp2_with fail
        refine HM1.out.mono ?_
        rintro e w5 ⟨rfl, hb5⟩
        have Hb5 := Lib.hid (b2 Hb.out hb5)
        have HM3 := Lib.hid (HM2.out _ hb5)
        clear hb5 HM1 HM2
        go_wp2_with fail
        refine HM3.out.mono ?_
        rintro e w6 ⟨rfl, hb6⟩
        have Hb6 := Lib.hid (b2 Hb5.out hb6)
        clear hb6 HM3
        go_wp2_with fail
        go_ret
        exact ⟨rfl, Hb6.out⟩
      have t0 : decide (dd < 0) = false := decide_eq_false hd0
      clear hla hlb hia hib h2 hb hlh hra hrb hab hra' hrb' hma hmb hme hD hdd hde hkn hd0
      go_wp2_with fail
      refine HM1.out.mono ?_
      rintro e w5 ⟨rfl, hb5⟩
      have Hb5 := Lib.hid (b2 Hb.out hb5)
      have HM3 := Lib.hid (HM2.out _ hb5)
      clear hb5 HM1 HM2
      go_wp2_with fail
      refine HM3.out.mono ?_
      rintro e w6 ⟨rfl, hb6⟩
      have Hb6 := Lib.hid (b2 Hb5.out hb6)
      clear hb6 HM3
      go_wp2_with fail
      go_ret
      exact ⟨rfl, Hb6.out⟩
    obtain ⟨z, hz⟩ : ∃ z, l[k]? = some z := ⟨_, List.getElem?_eq_getElem (by rw [Hl.out]; exact hkn)⟩
    have cz := HArg.out _ (b2 Hb1.out hb) k z hz
    have fa := h2.free k
    have fb := h2.swap.free k
    obtain ⟨ao, hao⟩ : ∃ zo, a[k]? = some zo := ⟨_, List.getElem?_eq_getElem (by omega)⟩
    have ca := h2.cell hao hkn
    obtain ⟨bo, hbo⟩ : ∃ zo, b[k]? = some zo := ⟨_, List.getElem?_eq_getElem (by omega)⟩
    have cb := h2.swap.cell hbo hkn
    obtain ⟨zm, ezm⟩ : ∃ zm, z.tmod 1000000 = zm := ⟨_, rfl⟩
    have hzm : -1000000 < zm ∧ zm < 1000000 := by rw [← ezm]; exact tmod_in _
    have s1 : decide ((k : Int) < (p : Int) + 1) = true := decide_eq_true (by omega)
    have hkz : (k : Int) < (p : Int) + 1 := by omega
    have s2 : IntKind.i64.wrap ((k : Int) + 1) = (k : Int) + 1 := IntWalk.i64_in _ (by omega)
    have H2 : Hid (TwoI u.heap.size (p + 1) ga gb (a.set k zm) (b.set k zm) ((wr.setCell ⟨ga, k, none⟩ (.int .i64 zm)).setCell ⟨gb, k, none⟩ (.int .i64 zm))) := Lib.hid ((h2.set k zm).swap.set k zm).swap
    have Hb2 : Hid (Below u.heap.size u ((wr.setCell ⟨ga, k, none⟩ (.int .i64 zm)).setCell ⟨gb, k, none⟩ (.int .i64 zm))) := Lib.hid ((hb.setCell h2.lt.1 _).setCell h2.swap.lt.1 _)
    clear hz hao hbo h2 hb
    go_upto_if 74 with (fail)
    generalize (wr.setCell ⟨ga, k, none⟩ (.int .i64 zm)).setCell ⟨gb, k, none⟩ (.int .i64 zm) = w2 at *
    clear cz fa fb ca cb
    go_cut [] (fun wx => MeetC u (p + 1) ga gb a b k x zm wx)
    case first =>
      by_cases hk1 : k < n1
      case neg =>
        have t1 : decide ((k : Int) < (n1 : Int)) = false := decide_eq_false (by omega)
        have HF : Hid (MeetC u (p + 1) ga gb a b k x zm w2) := Lib.hid ⟨zm, H2.out, Hb2.out, by omega, by omega⟩
        clear hla hlb hia hib hlh hra hrb hab
        go_wp2_with fail
        go_meet
        exact HF.out
      have t1 : decide ((k : Int) < (n1 : Int)) = true := decide_eq_true (by omega)
      have hkz1 : (k : Int) < (n1 : Int) := by omega
      obtain ⟨nz, hnz⟩ : ∃ z, l1[k]? = some z := ⟨_, List.getElem?_eq_getElem (by rw [Hl1.out]; exact hk1)⟩
      obtain ⟨bn, on, rfl, -, cn⟩ := (HI1.out.below (b2 Hb1.out Hb2.out)).at_ hnz
      obtain ⟨d, ed⟩ : ∃ d, nz.tmod ((x : Int) + 1) = d := ⟨_, rfl⟩
      have hd : -((x : Int) + 1) < d ∧ d < (x : Int) + 1 := by rw [← ed]; exact tmod_noise (by omega)
      have ed2 : IntKind.i64.wrap d = d := IntWalk.i64_in _ (by omega)
      have ed3 : IntKind.i64.wrap (zm + d) = zm + d := IntWalk.i64_in _ (by omega)
      have ex1 : IntKind.i64.wrap ((x : Int) + 1) = (x : Int) + 1 := IntWalk.i64_in _ (by omega)
      have zx : ¬ (x : Int) + 1 = 0 := by omega
      have cb : w2.cell? ⟨gb, k, none⟩ = some (.int .i64 zm) := H2.out.swap.cell (by rw [List.getElem?_set_self (by omega)]) hkn
      have fb := H2.out.swap.free k
      have HF : Hid (MeetC u (p + 1) ga gb a b k x zm (w2.setCell ⟨gb, k, none⟩ (.int .i64 (zm + d))).drew) := Lib.hid ⟨zm + d, by
        have h9 := (H2.out.swap.set k (zm + d)).swap
        rw [List.set_set] at h9
        exact h9.keep (Below.refl _ _).drew, (Hb2.out.setCell (H2.out.swap.lt.1) _).drew, by omega, by omega⟩
      clear hla hlb hia hib hlh hra hrb hab hnz hzm hd
      go_wp2_with fail
      go_region
      go_wp2_with fail
      go_meet
      exact HF.out
    case rest =>
    clear H2 Hb2 w2
    obtain ⟨zb, h3, hb3, hzb⟩ := hcut
    have ca : wc.cell? ⟨ga, k, none⟩ = some (.int .i64 zm) := h3.cell (by rw [List.getElem?_set_self (by omega)]) hkn
    have cb : wc.cell? ⟨gb, k, none⟩ = some (.int .i64 zb) := h3.swap.cell (by rw [List.getElem?_set_self (by omega)]) hkn
    have fa := h3.free k
    have fb := h3.swap.free k
    have hlk : (a.set k zm).length = p + 1 := by rw [List.length_set]; exact hla
    have hlk2 : (b.set k zb).length = p + 1 := by rw [List.length_set]; exact hlb
    have hik : Ints (a.set k zm) := ints_set hia (by omega)
    have hik2 : Ints (b.set k zb) := ints_set hib (by omega)
    by_cases hkf : k < f
    case pos =>
      have t1 : decide ((k : Int) < (f : Int)) = true := decide_eq_true (by omega)
      have HLow : Hid (∀ (a' b' : List Int) W, a'.length = p + 1 → b'.length = p + 1 → Ints a' → Ints b' → TwoI u.heap.size (p + 1) ga gb a' b' W → Below u.heap.size u W → MeetR u (p + 1) ga gb f x (.int .i64 lv) (.int .i64 hv) (.int .i64 ((k : Int) + 1)) W) := Lib.hid fun a' b' W g1 g2 g3 g4 g5 g6 =>
        ⟨k + 1, a', b', lv, hv, by omega, by go_num, rfl, rfl, g1, g2, g3, g4, g5, g6, hlh, fun j y g7 g8 => by omega, fun j y g7 g8 => by omega, fun j y z g7 g8 => by omega⟩
      by_cases hk2 : k < n2
      case pos =>
        have t2 : decide ((k : Int) < (n2 : Int)) = true := decide_eq_true (by omega)
        have hkz2 : (k : Int) < (n2 : Int) := by omega
        obtain ⟨y2, hy2⟩ : ∃ z, l2[k]? = some z := ⟨_, List.getElem?_eq_getElem (by rw [Hl2.out]; exact hk2)⟩
        obtain ⟨bo, oo, rfl, -, c2⟩ := (HI2.out.below (b2 Hb1.out hb3)).at_ hy2
        by_cases hk3 : k < n3
        case pos =>
          have t3 : decide ((k : Int) < (n3 : Int)) = true := decide_eq_true (by omega)
          have hkz3 : (k : Int) < (n3 : Int) := by omega
          obtain ⟨y3, hy3⟩ : ∃ z, l3[k]? = some z := ⟨_, List.getElem?_eq_getElem (by rw [Hl3.out]; exact hk3)⟩
          obtain ⟨bp, op, rfl, h31, c3⟩ := (HI3.out).at_ hy3
          have c3' : wc.cell? ⟨bp, op + k, none⟩ = some (.int .i64 y3) := (World.cell?_of_block (w := w) (a := ⟨bp, op + k, none⟩) ((b2 Hb1.out hb3).block bp h31)).trans c3
          have hne3 : bp ≠ ga := by have := h3.lt; have := Hb1.out.size; omega
          have HR : Hid (MeetR u (p + 1) ga gb f x (.int .i64 lv) (.int .i64 hv) (.int .i64 ((k : Int) + 1)) ((wc.setCell ⟨ga, k, none⟩ (.int .i64 y2)).setCell ⟨gb, k, none⟩ (.int .i64 y3))) := Lib.hid (HLow.out ((a.set k zm).set k y2) ((b.set k zb).set k y3) _ (by rw [List.length_set]; exact hlk) (by rw [List.length_set]; exact hlk2) (ints_set hik (Hin2.out.get hy2)) (ints_set hik2 (Hin3.out.get hy3)) ((h3.set k y2).swap.set k y3).swap ((hb3.setCell h3.lt.1 _).setCell h3.swap.lt.1 _))
          clear hla hlb hia hib hlh hra hrb hab h3 hb3 hzb hlk hlk2 hik hik2 HLow hy2 hy3 h31 c3 hzm
          go_wp2_with fail
          go_roundw
          case rel => exact HR.out
          case measure => simp [intOf]; omega
        have t3 : decide ((k : Int) < (n3 : Int)) = false := decide_eq_false (by omega)
        have HR : Hid (MeetR u (p + 1) ga gb f x (.int .i64 lv) (.int .i64 hv) (.int .i64 ((k : Int) + 1)) (wc.setCell ⟨ga, k, none⟩ (.int .i64 y2))) := Lib.hid (HLow.out ((a.set k zm).set k y2) (b.set k zb) _ (by rw [List.length_set]; exact hlk) hlk2 (ints_set hik (Hin2.out.get hy2)) hik2 (h3.set k y2) (hb3.setCell h3.lt.1 _))
        clear hla hlb hia hib hlh hra hrb hab h3 hb3 hzb hlk hlk2 hik hik2 HLow hy2 hzm
        go_wp2_with fail
        go_roundw
        case rel => exact HR.out
        case measure => simp [intOf]; omega
      have t2 : decide ((k : Int) < (n2 : Int)) = false := decide_eq_false (by omega)
      by_cases hk3 : k < n3
      case pos =>
        have t3 : decide ((k : Int) < (n3 : Int)) = true := decide_eq_true (by omega)
        have hkz3 : (k : Int) < (n3 : Int) := by omega
        obtain ⟨y3, hy3⟩ : ∃ z, l3[k]? = some z := ⟨_, List.getElem?_eq_getElem (by rw [Hl3.out]; exact hk3)⟩
        obtain ⟨bp, op, rfl, -, c3⟩ := (HI3.out.below (b2 Hb1.out hb3)).at_ hy3
        have HR : Hid (MeetR u (p + 1) ga gb f x (.int .i64 lv) (.int .i64 hv) (.int .i64 ((k : Int) + 1)) (wc.setCell ⟨gb, k, none⟩ (.int .i64 y3))) := Lib.hid (HLow.out (a.set k zm) ((b.set k zb).set k y3) _ hlk (by rw [List.length_set]; exact hlk2) hik (ints_set hik2 (Hin3.out.get hy3)) (h3.swap.set k y3).swap (hb3.setCell h3.swap.lt.1 _))
        clear hla hlb hia hib hlh hra hrb hab h3 hb3 hzb hlk hlk2 hik hik2 HLow hy3 hzm
        go_wp2_with fail
        go_roundw
        case rel => exact HR.out
        case measure => simp [intOf]; omega
      have t3 : decide ((k : Int) < (n3 : Int)) = false := decide_eq_false (by omega)
      have HR : Hid (MeetR u (p + 1) ga gb f x (.int .i64 lv) (.int .i64 hv) (.int .i64 ((k : Int) + 1)) wc) := Lib.hid (HLow.out (a.set k zm) (b.set k zb) _ hlk hlk2 hik hik2 h3 hb3)
      clear hla hlb hia hib hlh hra hrb hab h3 hb3 hzb hlk hlk2 hik hik2 HLow hzm
      go_wp2_with fail
      go_roundw
      case rel => exact HR.out
      case measure => simp [intOf]; omega
    have t1 : decide ((k : Int) < (f : Int)) = false := decide_eq_false (by omega)
    have hzb2 : -2000000 ≤ zb ∧ zb ≤ 2000000 := by omega
    have HR : Hid (∀ m lo' hi', (k = f ∨ (lo' ≤ lv ∧ hv ≤ hi')) → (lo' ≤ zm ∧ lo' ≤ zb ∧ zm ≤ hi' ∧ zb ≤ hi') → (-2000000 ≤ lo' ∧ hi' ≤ 2000000) → MeetR u (p + 1) ga gb f x (.int .i64 lo') (.int .i64 hi') (.int .i64 ((k : Int) + 1)) (wc.drewN m)) := Lib.hid fun m lo' hi' g1 g2 g3 => by
      refine ⟨k + 1, a.set k zm, b.set k zb, lo', hi', by omega, by go_num, rfl, rfl, hlk, hlk2, hik, hik2, h3.keep (below_drewNc (Below.refl _ _) m), below_drewNc hb3 m, by omega, fun j y g7 g8 g9 => ?_, fun j y g7 g8 g9 => ?_, fun j y z g7 g8 g9 g10 => ?_⟩
      · rcases set_get g9 with ⟨-, rfl⟩ | ⟨g11, g12⟩
        · omega
        · have := hra j y g7 (by omega) g12
          omega
      · rcases set_get g9 with ⟨-, rfl⟩ | ⟨g11, g12⟩
        · omega
        · have := hrb j y g7 (by omega) g12
          omega
      · rcases set_get g9 with ⟨e1, rfl⟩ | ⟨g11, g12⟩
        · subst e1
          rcases set_get g10 with ⟨-, rfl⟩ | ⟨g13, -⟩
          · omega
          · exact absurd rfl g13
        · rcases set_get g10 with ⟨e1, -⟩ | ⟨-, g14⟩
          · exact absurd e1 g11
          · exact hab j y z g7 (by omega) g12 g14
    have Hlh := Lib.hid hlh
    have Hzm := Lib.hid hzm
    have Hzb := Lib.hid hzb2
    obtain ⟨lo2, hmn, hmn2, hl3, hl4, hl5, hl6⟩ := min3 lv zm zb
    obtain ⟨hi2', hmx, hmx2, hm3, hm4, hm5, hm6⟩ := max3 hv zm zb
    have HR2 : Hid (∀ m, k ≠ f → MeetR u (p + 1) ga gb f x (.int .i64 lo2) (.int .i64 hi2') (.int .i64 ((k : Int) + 1)) (wc.drewN m)) := Lib.hid fun m _ => HR.out m lo2 hi2' (.inr ⟨hl3, hm3⟩) ⟨hl4, hl5, hm4, hm5⟩ (by omega)
    have gmn : ∀ (W : World) ts t, (Builtin.min_ ts t #[.int .i64 lv, .int .i64 zm, .int .i64 zb]).run Try.prog W = .ok (.int .i64 lo2) W := fun W ts t => by rw [run_min_int3, hmn2]
    have gmx : ∀ (W : World) ts t, (Builtin.max_ ts t #[.int .i64 hv, .int .i64 zm, .int .i64 zb]).run Try.prog W = .ok (.int .i64 hi2') W := fun W ts t => by rw [run_max_int3, hmx2]
    by_cases hke : k = f
    case pos =>
      have t2 : ((k : Int) == (f : Int)) = true := by rw [beq_iff_eq]; omega
      obtain ⟨lo1, hn1, hn2, hn3, hn4, hn5⟩ := min2 zm zb
      obtain ⟨hi1, hx1, hx2, hx3, hx4, hx5⟩ := max2 zm zb
      have gm1 : ∀ (W : World) ts t, (Builtin.min_ ts t #[.int .i64 zm, .int .i64 zb]).run Try.prog W = .ok (.int .i64 lo1) W := fun W ts t => by rw [run_min_int2, hn2]
      have gm2 : ∀ (W : World) ts t, (Builtin.max_ ts t #[.int .i64 zm, .int .i64 zb]).run Try.prog W = .ok (.int .i64 hi1) W := fun W ts t => by rw [run_max_int2, hx2]
      have gm3 : ∀ (W : World) ts t, (Builtin.min_ ts t #[.int .i64 lo1, .int .i64 zm, .int .i64 zb]).run Try.prog W = .ok (.int .i64 lo1) W := fun W ts t => by
        rw [run_min_int3]
        have e : (if zb < (if zm < lo1 then zm else lo1) then zb else (if zm < lo1 then zm else lo1)) = lo1 := by split <;> split <;> omega
        rw [e]
      have gm4 : ∀ (W : World) ts t, (Builtin.max_ ts t #[.int .i64 hi1, .int .i64 zm, .int .i64 zb]).run Try.prog W = .ok (.int .i64 hi1) W := fun W ts t => by
        rw [run_max_int3]
        have e : (if zb > (if zm > hi1 then zm else hi1) then zb else (if zm > hi1 then zm else hi1)) = hi1 := by split <;> split <;> omega
        rw [e]
      have HR3 : Hid (∀ m, MeetR u (p + 1) ga gb f x (.int .i64 lo1) (.int .i64 hi1) (.int .i64 ((k : Int) + 1)) (wc.drewN m)) := Lib.hid fun m => HR.out m lo1 hi1 (.inl hke) ⟨hn3, hn4, hx3, hx4⟩ (by omega)
      have Hba := Lib.hid (fun m => show (wc.drewN m).cell? ⟨ga, k, none⟩ = some (.int .i64 zm) from ca)
      have Hbb := Lib.hid (fun m => show (wc.drewN m).cell? ⟨gb, k, none⟩ = some (.int .i64 zb) from cb)
      have Hdd := Lib.hid (fun (a b : Nat) => show (wc.drewN a).drewN b = wc.drewN (a + b) from World.drewN_drewN wc a b)
      clear hla hlb hia hib hlh hra hrb hab h3 hb3 hzb hlk hlk2 hik hik2 hzm hzb2 hl3 hl4 hl5 hl6 hm3 hm4 hm5 hm6 hmn hmn2 hmx hmx2 hn2 hn3 hn4 hn5 hx2 hx3 hx4 hx5 gmn gmx gm1 gm2 hke
      go_wp2_with fail
      go_quiet (fail)
      have ca4 := Hba.out nq
      have cb4 := Hbb.out nq
      have HR4 : Hid (∀ b, MeetR u (p + 1) ga gb f x (.int .i64 lo1) (.int .i64 hi1) (.int .i64 ((k : Int) + 1)) ((wc.drewN nq).drewN b)) := Lib.hid fun b => by rw [Hdd.out]; exact HR3.out _
      clear Hba Hbb Hdd HR3 ca cb fa fb
      generalize wc.drewN nq = w4 at *
      go_wp2_with fail
      go_quiet (fail)
      go_wp2_with fail
      exact ⟨HR4.out _, by simp [intOf]; omega⟩
    have t2 : ((k : Int) == (f : Int)) = false := by rw [beq_eq_false_iff_ne]; omega
    clear hla hlb hia hib hlh hra hrb hab h3 hb3 hzb hlk hlk2 hik hik2 hzm hzb2 hl3 hl4 hl5 hl6 hm3 hm4 hm5 hm6 hmn hmn2 hmx hmx2
    go_wp2_with fail
    go_quiet (fail)
    go_wp2_with fail
    exact ⟨HR2.out _ hke, by simp [intOf]; omega⟩
end Go.Proofs.Ythihdbcclocbkaa
