/- MidpointMoves: the walk of the law at ints in memory. Conditions: where they lie, that they are ints. -/
import Derived.Test.YthihdbcclocbkaaMidI
import Derived.Deep.OwnRows
namespace Go.Proofs.Ythihdbcclocbkaa
open Go.RowKit
set_option maxRecDepth 100000

theorem ints_made {w : World} {B n : Nat} (hB : B ≤ w.heap.size) (hn : n ≤ maxLen) : (w.alloc (.cells (madeCells #[.int .i64 0] n) 3)).ownsRow B 3 1 (.slice (some ⟨w.heap.size, 0, none⟩) n n) n (intV (List.replicate n 0)) := by
  have h1 := World.ownsRow_lit (e := 3) (size := 1) (base := B) w (madeCells #[.int .i64 0] n) n hB hn (by have := congrArg List.length (toList_madeCells_one (.int .i64 0) n); simpa using this)
  rw [toList_madeCells_one] at h1
  have e1 : intV (List.replicate n 0) = List.replicate n (.int .i64 0) := by simp [intV]
  rw [e1]
  exact h1
/-- Two rows of ints of the call's own. -/
def TwoI (B n ga gb : Nat) (la lb : List Int) (W : World) : Prop :=
  ga ≠ gb ∧ W.ownsRow B 3 1 (.slice (some ⟨ga, 0, none⟩) n n) n (intV la) ∧ W.ownsRow B 3 1 (.slice (some ⟨gb, 0, none⟩) n n) n (intV lb)
section
variable {B n ga gb : Nat} {la lb : List Int} {W W' : World}
theorem TwoI.keep (h : TwoI B n ga gb la lb W) (hb : Below W.heap.size W W') : TwoI B n ga gb la lb W' := ⟨h.1, ikeep h.2.1 hb, ikeep h.2.2 hb⟩
theorem TwoI.swap (h : TwoI B n ga gb la lb W) : TwoI B n gb ga lb la W := ⟨fun e => h.1 e.symm, h.2.2, h.2.1⟩
theorem TwoI.set (h : TwoI B n ga gb la lb W) (k : Nat) (x : Int) : TwoI B n ga gb (la.set k x) lb (W.setCell ⟨ga, k, none⟩ (.int .i64 x)) := by
  refine ⟨h.1, istored h.2.1 k x, ?_⟩
  exact own_apart (F := fun q => q = ga) h.2.2 (Apart.setCell (F := fun q => q = ga) (Apart.refl _ W) (p := ⟨ga, k, none⟩) (.inl rfl) _) (fun q e => by
    have e : some gb = some q := e
    cases e
    exact fun e => h.1 e.symm)
theorem TwoI.cell (h : TwoI B n ga gb la lb W) {k : Nat} {x : Int} (hk : la[k]? = some x) (hkn : k < n) : W.cell? ⟨ga, k, none⟩ = some (.int .i64 x) := by
  rw [h.2.1.cellAt k (by omega)]
  exact intV_get hk
theorem TwoI.free (h : TwoI B n ga gb la lb W) (k : Nat) : W.frozen? ⟨ga, k, none⟩ = false := h.2.1.frozenAt k
theorem TwoI.lt (h : TwoI B n ga gb la lb W) : B ≤ ga ∧ ga < W.heap.size := h.2.1.lt ga rfl
theorem TwoI.ints (h : TwoI B n ga gb la lb W) (hl : la.length = n) : IntsIn W (some ⟨ga, 0, none⟩) la := fun _ => ⟨ga, 0, rfl, h.lt.2, fun i x hx => by
  rw [Nat.zero_add]
  exact h.cell hx (by have := (List.getElem?_eq_some_iff.1 hx).1; omega)⟩
end
def TwoV (u : World) (n : Nat) (a b : Value) (W : World) : Prop :=
  ∃ ga gb, a = .slice (some ⟨ga, 0, none⟩) n n ∧ b = .slice (some ⟨gb, 0, none⟩) n n ∧ TwoI u.heap.size n ga gb (List.replicate n 0) (List.replicate n 0) W ∧ Below u.heap.size u W
theorem two_made (u v : World) (hd : Below u.heap.size u v) (hs : v.heap.size = u.heap.size) {n : Nat} (hn : n ≤ 1000000) :
    TwoV u n (.slice (some ⟨u.heap.size, 0, none⟩) n n) (.slice (some ⟨u.heap.size + 1, 0, none⟩) n n) ((v.alloc (.cells (madeCells #[.int .i64 0] n) 3)).alloc (.cells (madeCells #[.int .i64 0] n) 3)) ∧
    TwoV u n (.slice (some ⟨u.heap.size + 1, 0, none⟩) n n) (.slice (some ⟨u.heap.size, 0, none⟩) n n) ((v.alloc (.cells (madeCells #[.int .i64 0] n) 3)).alloc (.cells (madeCells #[.int .i64 0] n) 3)) := by
  have hN : n ≤ maxLen := by unfold maxLen; omega
  have h1 := ints_made (w := v) (B := u.heap.size) (n := n) hd.size hN
  have hsz : (v.alloc (.cells (madeCells #[.int .i64 0] n) 3)).heap.size = u.heap.size + 1 := by rw [World.size_alloc, hs]
  have h2 := ints_made (w := v.alloc (.cells (madeCells #[.int .i64 0] n) 3)) (B := u.heap.size) (n := n) (by omega) hN
  have hb2 : Below (v.alloc (.cells (madeCells #[.int .i64 0] n) 3)).heap.size (v.alloc (.cells (madeCells #[.int .i64 0] n) 3)) ((v.alloc (.cells (madeCells #[.int .i64 0] n) 3)).alloc (.cells (madeCells #[.int .i64 0] n) 3)) := (Below.refl _ _).alloc (Nat.le_refl _) _
  have h3 := ikeep h1 hb2
  rw [hs] at h3
  rw [hsz] at h2
  have hB : Below u.heap.size u ((v.alloc (.cells (madeCells #[.int .i64 0] n) 3)).alloc (.cells (madeCells #[.int .i64 0] n) 3)) := (hd.alloc hd.size _).alloc (by omega) _
  exact ⟨⟨_, _, rfl, rfl, ⟨by omega, h3, h2⟩, hB⟩, ⟨_, _, rfl, rfl, ⟨by omega, h2, h3⟩, hB⟩⟩
/-- A list that says, place by place, what f says of another. -/
theorem map_is {l m : List Int} {g : Int → Int} (hl : m.length = l.length) (h : ∀ (j : Nat) (x : Int), l[j]? = some x → m[j]? = some (g x)) : m = l.map g := by
  apply List.ext_getElem?
  intro j
  rw [List.getElem?_map]
  cases hx : l[j]? with
  | none =>
    rw [List.getElem?_eq_none_iff] at hx
    rw [List.getElem?_eq_none (by omega)]
    rfl
  | some x => rw [h j x hx]; rfl

theorem tmod_in (x : Int) : -1000000 < x.tmod 1000000 ∧ x.tmod 1000000 < 1000000 := by
  by_cases h : 0 ≤ x
  · rw [Int.tmod_eq_emod_of_nonneg h]; omega
  · have := Int.neg_tmod (a := -x) (b := 1000000)
    rw [Int.neg_neg] at this
    rw [this, Int.tmod_eq_emod_of_nonneg (by omega)]
    omega
def MovR1 (u : World) (l : List Int) (n ga gb : Nat) (i : Value) (W : World) : Prop :=
  ∃ (k : Nat) (la : List Int), k ≤ n ∧ i = .int .i64 (k : Nat) ∧ la.length = n ∧ TwoI u.heap.size n ga gb la (List.replicate n 0) W ∧ Below u.heap.size u W ∧ ∀ (j : Nat) (x : Int), j < k → l[j]? = some x → la[j]? = some (x.tmod 1000000)
def MovR2 (u : World) (la : List Int) (n ga gb : Nat) (by_ : Int) (i : Value) (W : World) : Prop :=
  ∃ (k : Nat) (lb : List Int), k ≤ n ∧ i = .int .i64 (k : Nat) ∧ lb.length = n ∧ TwoI u.heap.size n ga gb la lb W ∧ Below u.heap.size u W ∧ ∀ (j : Nat) (x : Int), j < k → la[j]? = some x → lb[n - 1 - j]? = some (x + by_)

set_option maxHeartbeats 4000000 in
theorem mmoves_law (A : Option Addr) (n cap : Nat) (l : List Int) (hl : l.length = n) (f0 by0 : Int) (w : World) (h : IntsIn w A l) (_ : Ints l) :
    Calls Try.prog 6 #[.slice A n cap, .int .i64 f0, .int .i64 by0] w (MTrue w) := by
  have HA := Lib.hid (awake10_any w)
  have Hl := Lib.hid hl
  have HI := Lib.hid h
  clear h hl
  by_cases hn1 : n < 1
  · obtain rfl : n = 0 := by omega
    clear hn1
    go_enter Try.func6, Try.ntmps6
    go_wp2_with fail
    refine HA.out.mono ?_
    rintro e w1 ⟨rfl, hb1⟩
    go_wp2_with fail
    go_ret
    exact ⟨rfl, hb1⟩
  have p1 : decide ((n : Int) < 1) = false := decide_eq_false (by omega)
  have p2 : decide (n < 1) = false := decide_eq_false hn1
  by_cases hn : n ≤ 100
  case neg =>
    have q1 : decide ((100 : Int) < (n : Int)) = true := decide_eq_true (by omega)
    have q2 : decide (100 < n) = true := decide_eq_true (by omega)
    clear hn
    go_enter Try.func6, Try.ntmps6
    go_wp2_with fail
    refine HA.out.mono ?_
    rintro e w1 ⟨rfl, hb1⟩
    go_wp2_with fail
    go_ret
    exact ⟨rfl, hb1⟩
  obtain ⟨p, rfl⟩ : ∃ p, n = p + 1 := ⟨n - 1, by omega⟩
  clear p1 p2
  have p1 : decide ((p : Int) + 1 < 1) = false := decide_eq_false (by omega)
  have q1 : decide ((100 : Int) < (p : Int) + 1) = false := decide_eq_false (by omega)
  obtain ⟨f, hf, ef⟩ := mod_of f0 ((p : Int) / 2 + 1) (by omega) (by omega)
  have eu : IntKind.u64.wrap ((p : Int) / 2 + 1) = (p : Int) / 2 + 1 := u64_in _ (by omega) (by omega)
  have zu : ¬ (p : Int) / 2 + 1 = 0 := by omega
  have e0 : IntKind.i64.wrap (p : Int) = (p : Int) := IntWalk.i64_in _ (by omega)
  have e1 : IntKind.i64.wrap ((p : Int) / 2) = (p : Int) / 2 := IntWalk.i64_in _ (by omega)
  have e2 : IntKind.i64.wrap ((p : Int) / 2 + 1) = (p : Int) / 2 + 1 := IntWalk.i64_in _ (by omega)
  have hf2 : 2 * f + 1 ≤ p + 1 := by omega
  obtain ⟨by_, eby⟩ : ∃ by_, by0.tmod 1000000 = by_ := ⟨_, rfl⟩
  have hby : -1000000 < by_ ∧ by_ < 1000000 := by rw [← eby]; exact tmod_in _
  obtain ⟨v, hv⟩ : ∃ v, l[0]? = some v := ⟨_, List.getElem?_eq_getElem (by rw [Hl.out]; omega)⟩
  obtain ⟨ba, oa, rfl, -, -⟩ := HI.out.at_ hv
  have HArg : Hid (∀ W, Below w.heap.size w W → ∀ (j : Nat) (x : Int), l[j]? = some x → W.cell? ⟨ba, oa + j, none⟩ = some (.int .i64 x)) := Lib.hid fun W hW j x hx => by
    obtain ⟨b', o', e', -, h9⟩ := (HI.out.below hW).at_ hx
    cases e'
    exact h9
  clear hn1 hv HI
  go_enter Try.func6, Try.ntmps6
  go_wp2_with fail
  refine HA.out.mono ?_
  rintro e u ⟨rfl, hb1⟩
  have Hb1 := Lib.hid hb1
  clear hb1 HA
  go_upto_region 6 with (fail)
  rw [ef]
  go_cut [7, 8] (fun a b wx => TwoV u (p + 1) a b wx)
  case first =>
    have hd0 : Below u.heap.size u u.drew := (Below.refl _ _).drew
    have H1 := two_made u u.drew hd0 rfl (n := p + 1) (by omega)
    have hm1 := hd0.alloc hd0.size (.cells (madeCells #[.int .i64 0] (p + 1)) 3)
    have hm2 := hm1.alloc hm1.size (.cells (madeCells #[.int .i64 0] (p + 1)) 3)
    have HA2 := Lib.hid H1.1
    have HB2 := Lib.hid H1.2
    clear H1
    have hmk : ∀ W, (Instr.makeSlice 22 (.int .i64 ((p : Int) + 1)) (.int .i64 ((p : Int) + 1))).run Try.prog W = .ok (.slice (some ⟨W.heap.size, 0, none⟩) (p + 1) (p + 1)) (W.alloc (.cells (madeCells #[.int .i64 0] (p + 1)) 3)) := fun W => run_make_row' (P := Try.prog) 22 3 (.int .i64 0) 8 Try.underlying22 infoInt rfl .i64 .i64 (p + 1) (by omega) (by omega) W
    go_wp2_with fail
    refine wp_region_held_drew (S := fun W => Below u.heap.size u W) (by kernel_rfl) hd0 (fun _ => ?_)
    refine wpAnyH_take (i := 0) (oi := ?oo1) (v := ?vv1) ?ii1 (by kernel_rfl) ?ff1 (by kernel_rfl) ?qq1 (Or.inl ⟨?ww1, ?yy1⟩) hd0 ?rr1
    case ii1 => simp only [List.getElem?_toArray, List.getElem?_cons_zero]; rfl
    case ff1 => kernel_rfl
    case qq1 => exact fun _ _ _ h => h
    case ww1 => rfl
    case yy1 => intro W hW; go_simp <;> with_reducible rfl
    try simp only [Act.put, List.setIfInBounds_toArray, List.set_cons_zero, List.set_cons_succ]
    refine wpAnyH_take (i := 1) (oi := ?oo2) (v := ?vv2) ?ii2 (by kernel_rfl) ?ff2 (by kernel_rfl) ?qq2 (Or.inl ⟨?ww2, ?yy2⟩) hd0 ?rr2
    case ii2 => simp only [List.getElem?_toArray, List.getElem?_cons_succ, List.getElem?_cons_zero]; rfl
    case ff2 => kernel_rfl
    case qq2 => exact fun _ _ _ h => h
    case ww2 => rfl
    case yy2 => intro W hW; go_simp <;> with_reducible rfl
    try simp only [Act.put, List.setIfInBounds_toArray, List.set_cons_zero, List.set_cons_succ]
    refine wpAnyH_take (i := 3) (oi := ?oo3) (v := ?vv3) ?ii3 (by kernel_rfl) ?ff3 (by kernel_rfl) ?qq3 (Or.inl ⟨?ww3, ?yy3⟩) hd0 ?rr3
    case ii3 => simp only [List.getElem?_toArray, List.getElem?_cons_succ, List.getElem?_cons_zero]; rfl
    case ff3 => kernel_rfl
    case qq3 => exact fun _ _ _ h => h
    case ww3 => rfl
    case yy3 => intro W hW; go_simp <;> with_reducible rfl
    try simp only [Act.put, List.setIfInBounds_toArray, List.set_cons_zero, List.set_cons_succ]
    refine wpAnyH_take (i := 4) (oi := ?oo4) (v := ?vv4) ?ii4 (by kernel_rfl) ?ff4 (by kernel_rfl) ?qq4 (Or.inl ⟨?ww4, ?yy4⟩) hd0 ?rr4
    case ii4 => simp only [List.getElem?_toArray, List.getElem?_cons_succ, List.getElem?_cons_zero]; rfl
    case ff4 => kernel_rfl
    case qq4 => exact fun _ _ _ h => h
    case ww4 => rfl
    case yy4 => intro W hW; go_simp <;> with_reducible rfl
    try simp only [Act.put, List.setIfInBounds_toArray, List.set_cons_zero, List.set_cons_succ]
    refine wpAnyH_ready (rs := [2, 5]) (by kernel_rfl) (by simp) ?_
    refine AllReadyH.cons (o := ?oa101) ?ia101 (fun K hK => ?_) (AllReadyH.cons (o := ?ob101) ?ib101 (fun K hK => ?_) AllReadyH.nil)
    case ia101 => simp only [List.getElem?_toArray, List.getElem?_cons_succ, List.getElem?_cons_zero]; rfl
    case ib101 => simp only [List.getElem?_toArray, List.getElem?_cons_succ, List.getElem?_cons_zero]; rfl
    · go_simp
      go_wp2_with fail
      refine hK.out _ _ ?h102 (fun _ => ?_)
      case h102 => exact hm1
      clear hK K
      refine wpAnyH_take (i := 6) (oi := ?oo5) (v := ?vv5) ?ii5 (by kernel_rfl) ?ff5 (by kernel_rfl) ?qq5 (Or.inl ⟨?ww5, ?yy5⟩) hm1 ?rr5
      case ii5 => simp only [List.getElem?_toArray, List.getElem?_cons_succ, List.getElem?_cons_zero]; rfl
      case ff5 => kernel_rfl
      case qq5 => exact fun _ _ _ h => h
      case ww5 => rfl
      case yy5 => intro W hW; go_simp <;> with_reducible rfl
      try simp only [Act.put, List.setIfInBounds_toArray, List.set_cons_zero, List.set_cons_succ]
      refine wpAnyH_ready (rs := [5]) (by kernel_rfl) (by simp) ?_
      refine AllReadyH.cons (o := ?oo6) ?ii6 (fun K hK => ?_) AllReadyH.nil
      case ii6 => simp only [List.getElem?_toArray, List.getElem?_cons_succ, List.getElem?_cons_zero]; rfl
      go_simp
      go_wp2_with fail
      refine hK.out _ _ hm2 (fun _ => ?_)
      clear hK K
      refine wpAnyH_take (i := 7) (oi := ?oo7) (v := ?vv7) ?ii7 (by kernel_rfl) ?ff7 (by kernel_rfl) ?qq7 (Or.inl ⟨?ww7, ?yy7⟩) hm2 ?rr7
      case ii7 => simp only [List.getElem?_toArray, List.getElem?_cons_succ, List.getElem?_cons_zero]; rfl
      case ff7 => kernel_rfl
      case qq7 => exact fun _ _ _ h => h
      case ww7 => rfl
      case yy7 => intro W hW; go_simp <;> with_reducible rfl
      try simp only [Act.put, List.setIfInBounds_toArray, List.set_cons_zero, List.set_cons_succ]
      refine wpAnyH_done (by kernel_rfl) ?_ _
      go_wp2_with fail
      go_meet
      exact HA2.out
    · go_simp
      go_wp2_with fail
      refine hK.out _ _ ?h104 (fun _ => ?_)
      case h104 => exact hm1
      clear hK K
      refine wpAnyH_ready (rs := [2]) (by kernel_rfl) (by simp) ?_
      refine AllReadyH.cons (o := ?oo8) ?ii8 (fun K hK => ?_) AllReadyH.nil
      case ii8 => simp only [List.getElem?_toArray, List.getElem?_cons_succ, List.getElem?_cons_zero]; rfl
      go_simp
      go_wp2_with fail
      refine hK.out _ _ hm2 (fun _ => ?_)
      clear hK K
      refine wpAnyH_take (i := 6) (oi := ?oo9) (v := ?vv9) ?ii9 (by kernel_rfl) ?ff9 (by kernel_rfl) ?qq9 (Or.inl ⟨?ww9, ?yy9⟩) hm2 ?rr9
      case ii9 => simp only [List.getElem?_toArray, List.getElem?_cons_succ, List.getElem?_cons_zero]; rfl
      case ff9 => kernel_rfl
      case qq9 => exact fun _ _ _ h => h
      case ww9 => rfl
      case yy9 => intro W hW; go_simp <;> with_reducible rfl
      try simp only [Act.put, List.setIfInBounds_toArray, List.set_cons_zero, List.set_cons_succ]
      refine wpAnyH_take (i := 7) (oi := ?oo10) (v := ?vv10) ?ii10 (by kernel_rfl) ?ff10 (by kernel_rfl) ?qq10 (Or.inl ⟨?ww10, ?yy10⟩) hm2 ?rr10
      case ii10 => simp only [List.getElem?_toArray, List.getElem?_cons_succ, List.getElem?_cons_zero]; rfl
      case ff10 => kernel_rfl
      case qq10 => exact fun _ _ _ h => h
      case ww10 => rfl
      case yy10 => intro W hW; go_simp <;> with_reducible rfl
      try simp only [Act.put, List.setIfInBounds_toArray, List.set_cons_zero, List.set_cons_succ]
      refine wpAnyH_done (by kernel_rfl) ?_ _
      go_wp2_with fail
      go_meet
      exact HB2.out
  case rest =>
  obtain ⟨ga, gb, rfl, rfl, h2, hbc⟩ := hcut
  have HS : Hid (MovR1 u l (p + 1) ga gb (.int .i64 0) wc) := Lib.hid ⟨0, List.replicate (p + 1) 0, by omega, rfl, List.length_replicate, h2, hbc, fun j x hj => by omega⟩
  clear h2 hbc
  go_wp2_with fail
  go_loopw [45] (MovR1 u l (p + 1) ga gb) (fun i _ => (p + 2 - intOf i).toNat)
  case atStart => exact HS.out
  case round =>
    clear HS
    obtain ⟨k, la, hk, rfl, hla, h2, hb, hla2⟩ := hrel
    by_cases hkn : k < p + 1
    case pos =>
      obtain ⟨z, hz⟩ : ∃ z, l[k]? = some z := ⟨_, List.getElem?_eq_getElem (by rw [Hl.out]; exact hkn)⟩
      have cz := HArg.out _ (b2 Hb1.out hb) k z hz
      have fz := h2.free k
      obtain ⟨zo, hzo⟩ : ∃ zo, la[k]? = some zo := ⟨_, List.getElem?_eq_getElem (by omega)⟩
      have co := h2.cell hzo hkn
      obtain ⟨zm, ezm⟩ : ∃ zm, z.tmod 1000000 = zm := ⟨_, rfl⟩
      have s1 : decide ((k : Int) < (p : Int) + 1) = true := decide_eq_true (by omega)
      have hkz : (k : Int) < (p : Int) + 1 := by omega
      have s2 : IntKind.i64.wrap ((k : Int) + 1) = (k : Int) + 1 := IntWalk.i64_in _ (by omega)
      have HR : Hid (MovR1 u l (p + 1) ga gb (.int .i64 ((k : Int) + 1)) (wr.setCell ⟨ga, k, none⟩ (.int .i64 zm))) := Lib.hid ⟨k + 1, la.set k zm, by omega, by go_num, by rw [List.length_set]; exact hla, h2.set k zm, hb.setCell h2.lt.1 _, fun j x hj hx => by
        by_cases hjk : j = k
        · subst hjk
          rw [hz] at hx
          cases hx
          rw [List.getElem?_set_self (by omega), ezm]
        · rw [List.getElem?_set_ne (by omega)]
          exact hla2 j x (by omega) hx⟩
      clear hla h2 hb hla2 hz hzo
      go_wp2_with fail
      go_roundw
      case rel => exact HR.out
      case measure => simp [intOf]; omega
    obtain rfl : k = p + 1 := by omega
    have s1 : decide (((p + 1 : Nat) : Int) < (p : Int) + 1) = false := decide_eq_false (by omega)
    have hmap : la = l.map (fun x => x.tmod 1000000) := map_is (by rw [hla, Hl.out]) (fun j x hx => hla2 j x (by have := (List.getElem?_eq_some_iff.1 hx).1; rw [Hl.out] at this; exact this) hx)
    have hin : MidP.In (-1000000) 1000000 la := fun x hx => by
      rw [hmap] at hx
      obtain ⟨y, -, rfl⟩ := List.mem_map.1 hx
      have := tmod_in y
      omega
    have HIn := Lib.hid hin
    have Hla := Lib.hid hla
    have HS2 : Hid (MovR2 u la (p + 1) ga gb by_ (.int .i64 0) wr) := Lib.hid ⟨0, List.replicate (p + 1) 0, by omega, rfl, List.length_replicate, h2, hb, fun j x hj => by omega⟩
    clear hla h2 hb hla2 hmap hin hkn
    go_wp2_with fail
    go_loopw [59] (MovR2 u la (p + 1) ga gb by_) (fun i _ => (p + 2 - intOf i).toNat)
    case atStart => exact HS2.out
    case round =>
      clear HS2
      obtain ⟨k, lb, hk, rfl, hlb, h2, hb, hlb2⟩ := hrel
      by_cases hkn : k < p + 1
      case pos =>
        obtain ⟨z, hz⟩ : ∃ z, la[k]? = some z := ⟨_, List.getElem?_eq_getElem (by rw [Hla.out]; exact hkn)⟩
        have cz := h2.cell hz hkn
        obtain ⟨m, hm⟩ : ∃ m, p = m + k := ⟨p - k, by omega⟩
        have hz2 := HIn.out.get hz
        have fz := h2.swap.free m
        obtain ⟨zo, hzo⟩ : ∃ zo, lb[m]? = some zo := ⟨_, List.getElem?_eq_getElem (by omega)⟩
        have co := h2.swap.cell hzo (by omega)
        have s1 : decide ((k : Int) < (p : Int) + 1) = true := decide_eq_true (by omega)
        have hkz : (k : Int) < (p : Int) + 1 := by omega
        have hmz : (m : Int) < (p : Int) + 1 := by omega
        have s2 : IntKind.i64.wrap ((k : Int) + 1) = (k : Int) + 1 := IntWalk.i64_in _ (by omega)
        have s3 : IntKind.i64.wrap ((p : Int) - (k : Int)) = (m : Int) := by rw [show (p : Int) - (k : Int) = (m : Int) by omega]; exact IntWalk.i64_in _ (by omega)
        have s4 : IntKind.i64.wrap (z + by_) = z + by_ := IntWalk.i64_in _ (by omega)
        have HR : Hid (MovR2 u la (p + 1) ga gb by_ (.int .i64 ((k : Int) + 1)) (wr.setCell ⟨gb, m, none⟩ (.int .i64 (z + by_)))) := Lib.hid ⟨k + 1, lb.set m (z + by_), by omega, by go_num, by rw [List.length_set]; exact hlb, (h2.swap.set m (z + by_)).swap, hb.setCell h2.swap.lt.1 _, fun j x hj hx => by
          by_cases hjk : j = k
          · subst hjk
            rw [hz] at hx
            cases hx
            rw [show p + 1 - 1 - j = m by omega, List.getElem?_set_self (by omega)]
          · rw [List.getElem?_set_ne (by omega)]
            exact hlb2 j x (by omega) hx⟩
        have Hm := Lib.hid hm
        clear hlb h2 hb hlb2 hz hm hz2 hby hzo
        go_wp2_with fail
        go_roundw
        case rel => exact HR.out
        case measure => simp [intOf]; omega
      obtain rfl : k = p + 1 := by omega
      have s1 : decide (((p + 1 : Nat) : Int) < (p : Int) + 1) = false := decide_eq_false (by omega)
      have hrev : lb = (la.map (· + by_)).reverse := by
        apply List.ext_getElem?
        intro j
        by_cases hj : j < p + 1
        · have hx : la[p - j]? = some (la[p - j]'(by rw [Hla.out]; omega)) := List.getElem?_eq_getElem _
          have h5 := hlb2 (p - j) _ (by omega) hx
          rw [show p + 1 - 1 - (p - j) = j by omega] at h5
          have h6 : (la.map (· + by_)).length - 1 - j = p - j := by rw [List.length_map, Hla.out]; omega
          rw [h5, List.getElem?_reverse (by rw [List.length_map, Hla.out]; exact hj), h6, List.getElem?_map, hx]
          rfl
        · rw [List.getElem?_eq_none (by omega), List.getElem?_eq_none (by rw [List.length_reverse, List.length_map, Hla.out]; omega)]
      have hperm : lb.Perm (la.map (· + by_)) := by rw [hrev]; exact List.reverse_perm _
      have hmv := MidP.mid_moves (f := f) hperm (by rw [Hla.out]; omega)
      have hmi := MidP.mid_in (f := f) HIn.out (by rw [Hla.out]; omega)
      have hi1 : Ints la := fun x hx => by have := HIn.out x hx; omega
      have hi2 : Ints lb := fun x hx => by
        have := hperm.mem_iff.1 hx
        obtain ⟨y, hy, rfl⟩ := List.mem_map.1 this
        have := HIn.out y hy
        omega
      have HM1 := Lib.hid (mid_good (some ⟨ga, 0, none⟩) (p + 1) (p + 1) la Hla.out (by omega) f (by omega) wr (h2.ints Hla.out) hi1)
      have HM2 := Lib.hid (fun W hW => mid_good (some ⟨gb, 0, none⟩) (p + 1) (p + 1) lb hlb (by omega) f (by omega) W ((h2.keep hW).swap.ints hlb) hi2)
      rw [hmv] at HM2
      generalize MidP.midT la f = m1 at *
      have s4 : IntKind.i64.wrap (m1 + by_) = m1 + by_ := IntWalk.i64_in _ (by omega)
      have Hb := Lib.hid (b2 Hb1.out hb)
      clear hlb h2 hb hlb2 hkn hrev hperm hmv hmi hi1 hi2
      go_wp2_with fail
      refine HM1.out.mono ?_
      rintro e w5 ⟨rfl, hb5⟩
      have Hb5 := Lib.hid (b2 Hb.out hb5)
      have HM3 := Lib.hid (HM2.out _ hb5)
      clear hb5 HM1 HM2
      go_wp2_with fail
      refine HM3.out.mono ?_
      rintro e w6 ⟨rfl, hb6⟩
      have Hb6 := Lib.hid (b2 Hb5.out hb6)
      clear hb6 HM3
      go_wp2_with fail
      go_ret
      exact ⟨rfl, Hb6.out⟩
end Go.Proofs.Ythihdbcclocbkaa
