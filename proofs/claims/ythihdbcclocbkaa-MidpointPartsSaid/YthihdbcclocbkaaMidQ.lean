/- Plain: what Cut, Middle and Most answer, and the ways by which the program and the document come to it. No conditions beyond those that each states. -/
import Derived.Test.YthihdbcclocbkaaMidP
namespace MidP

/-- Rising. -/
def srt (l : List Int) : List Int := l.mergeSort fun x y => decide (x ≤ y)
theorem srt_perm (l : List Int) : (srt l).Perm l := List.mergeSort_perm l _
theorem srt_length (l : List Int) : (srt l).length = l.length := (srt_perm l).length_eq
theorem srt_rising (l : List Int) : Rising (srt l) := by
  have h := List.pairwise_mergeSort (le := fun x y : Int => decide (x ≤ y)) (fun a b c h1 h2 => by simp at h1 h2 ⊢; omega) (fun a b => by simp; omega) l
  exact h.imp fun {a b} h => by simpa using h
theorem srt_unique {s l : List Int} (hs : Rising s) (hp : s.Perm l) : s = srt l := rising_unique hs (srt_rising l) (hp.trans (srt_perm l).symm)
theorem srt_of_perm {l m : List Int} (h : l.Perm m) : srt l = srt m := srt_unique (srt_rising l) ((srt_perm l).trans h)
theorem srt_add (l : List Int) (by_ : Int) : srt (l.map (· + by_)) = (srt l).map (· + by_) := by
  symm
  refine srt_unique ?_ ((srt_perm l).map _)
  exact List.Pairwise.map _ (fun a b h => by omega) (srt_rising l)

/-- Put into its place: behind all that are no greater. -/
def insAt (x : Int) (l : List Int) (at_ : Nat) : List Int := l.take at_ ++ x :: l.drop at_
theorem insAt_perm (x : Int) (l : List Int) (at_ : Nat) : (insAt x l at_).Perm (l ++ [x]) := by
  unfold insAt
  have h1 : (l.take at_ ++ x :: l.drop at_).Perm (x :: (l.take at_ ++ l.drop at_)) := List.perm_middle
  rw [List.take_append_drop] at h1
  exact h1.trans (List.perm_append_comm (l₁ := [x]) (l₂ := l))
theorem insAt_rising {x : Int} {l : List Int} {at_ : Nat} (hl : Rising l) (hat : at_ ≤ l.length) (h1 : ∀ y, 0 < at_ → l[at_ - 1]? = some y → y ≤ x) (h2 : ∀ i y, at_ ≤ i → l[i]? = some y → x < y) : Rising (insAt x l at_) := by
  unfold insAt Rising
  have hd : ∀ b ∈ l.drop at_, x < b := fun b hb => by
    obtain ⟨i, hi, rfl⟩ := List.getElem_of_mem hb
    rw [List.length_drop] at hi
    rw [List.getElem_drop]
    exact h2 (at_ + i) _ (by omega) (List.getElem?_eq_getElem (by omega))
  have ht : ∀ a ∈ l.take at_, a ≤ x := fun a ha => by
    obtain ⟨i, hi, rfl⟩ := List.getElem_of_mem ha
    rw [List.length_take] at hi
    rw [List.getElem_take]
    have hlast := h1 (l[at_ - 1]'(by omega)) (by omega) (List.getElem?_eq_getElem (by omega))
    have := rising_le hl (i := i) (j := at_ - 1) (by omega) (by omega)
    omega
  rw [List.pairwise_append]
  refine ⟨List.Pairwise.sublist (List.take_sublist at_ l) hl, List.pairwise_cons.2 ⟨fun b hb => Int.le_of_lt (hd b hb), List.Pairwise.sublist (List.drop_sublist at_ l) hl⟩, fun a ha b hb => ?_⟩
  rcases List.mem_cons.1 hb with rfl | hb
  · exact ht a ha
  · have := ht a ha
    have := hd b hb
    omega

/-- Cut's list, and its ends. -/
def cutT (l : List Int) (f : Nat) : List Int := ((srt l).take (l.length - f)).drop f
theorem cutT_length {l : List Int} {f : Nat} : (cutT l f).length = l.length - 2 * f := by
  unfold cutT; rw [List.length_drop, List.length_take, srt_length]; omega
theorem cutT_at {l : List Int} {f k : Nat} (h : k < l.length - 2 * f) : (cutT l f)[k]? = (srt l)[f + k]? := by
  unfold cutT
  rw [List.getElem?_drop, List.getElem?_take, if_pos (by omega)]
def firstT (l : List Int) (f : Nat) : Int := (srt l).getD f 0
def lastT (l : List Int) (f : Nat) : Int := (srt l).getD (l.length - 1 - f) 0
def midT (l : List Int) (f : Nat) : Int := (firstT l f + lastT l f) / 2
theorem first_at {l : List Int} {f : Nat} (h : 2 * f + 1 ≤ l.length) : (cutT l f)[0]? = some (firstT l f) := by
  have hs := srt_length l
  rw [cutT_at (by omega), Nat.add_zero, List.getElem?_eq_getElem (by omega)]
  unfold firstT
  rw [List.getD_eq_getElem?_getD, List.getElem?_eq_getElem (by omega)]; rfl
theorem last_at {l : List Int} {f : Nat} (h : 2 * f + 1 ≤ l.length) : (cutT l f)[l.length - 2 * f - 1]? = some (lastT l f) := by
  have hs := srt_length l
  have e : f + (l.length - 2 * f - 1) = l.length - 1 - f := by omega
  rw [cutT_at (by omega), e, List.getElem?_eq_getElem (by omega)]
  unfold lastT
  rw [List.getD_eq_getElem?_getD, List.getElem?_eq_getElem (by omega)]; rfl
theorem firstT_get {l : List Int} {f : Nat} (h : f < (srt l).length) : firstT l f = (srt l)[f] := by
  unfold firstT
  rw [List.getD_eq_getElem?_getD, List.getElem?_eq_getElem h]; rfl
theorem lastT_get {l : List Int} {f : Nat} (h : l.length - 1 - f < (srt l).length) : lastT l f = (srt l)[l.length - 1 - f] := by
  unfold lastT
  rw [List.getD_eq_getElem?_getD, List.getElem?_eq_getElem h]; rfl
theorem first_le_last {l : List Int} {f : Nat} (h : 2 * f + 1 ≤ l.length) : firstT l f ≤ lastT l f := by
  have hs := srt_length l
  rw [firstT_get (by omega), lastT_get (by omega)]
  exact rising_le (srt_rising l) (by omega) (by omega)
/-- All from lo to hi. -/
def In (lo hi : Int) (l : List Int) : Prop := ∀ x ∈ l, lo ≤ x ∧ x ≤ hi
theorem In.get {lo hi : Int} {l : List Int} (h : In lo hi l) {i : Nat} {x : Int} (hx : l[i]? = some x) : lo ≤ x ∧ x ≤ hi := h x (List.mem_of_getElem? hx)
theorem In.srt {lo hi : Int} {l : List Int} (h : In lo hi l) : In lo hi (srt l) := fun x hx => h x ((srt_perm l).mem_iff.1 hx)
theorem ends_in {lo hi : Int} {l : List Int} {f : Nat} (hl : In lo hi l) (h : 2 * f + 1 ≤ l.length) : (lo ≤ firstT l f ∧ firstT l f ≤ hi) ∧ (lo ≤ lastT l f ∧ lastT l f ≤ hi) := by
  have hs := srt_length l
  refine ⟨?_, ?_⟩
  · rw [firstT_get (by omega)]
    exact hl.srt _ (List.getElem_mem _)
  · rw [lastT_get (by omega)]
    exact hl.srt _ (List.getElem_mem _)
theorem mid_in {lo hi : Int} {l : List Int} {f : Nat} (hl : In lo hi l) (h : 2 * f + 1 ≤ l.length) : lo ≤ midT l f ∧ midT l f ≤ hi := by
  have := ends_in hl h
  unfold midT
  omega

theorem bad_few (n f : Nat) : (List.range n).countP (fun i => decide (i < f)) ≤ f := by
  by_cases hnf : n ≤ f
  · have := List.countP_le_length (p := fun i => decide (i < f)) (l := List.range n)
    rw [List.length_range] at this
    omega
  have e : List.range n = List.range f ++ (List.range' f (n - f)) := by
    have h1 : List.range' 0 (f + (n - f)) = List.range' 0 f ++ List.range' (0 + f) (n - f) := List.range'_append_1.symm
    rw [Nat.zero_add, show f + (n - f) = n by omega] at h1
    rw [List.range_eq_range', List.range_eq_range']
    exact h1
  rw [e, List.countP_append]
  have h0 : (List.range' f (n - f)).countP (fun i => decide (i < f)) = 0 := by
    rw [List.countP_eq_zero]
    intro i hi
    have := List.mem_range'_1.1 hi
    simp; omega
  rw [h0]
  have := List.countP_le_length (p := fun i => decide (i < f)) (l := List.range f)
  rw [List.length_range] at this
  omega
/-- Whatever the first f are: the middle lies among the others. -/
theorem mid_holds {l : List Int} {f : Nat} {lo hi : Int} (h : 2 * f + 1 ≤ l.length) (hg : ∀ i x, f ≤ i → l[i]? = some x → lo ≤ x ∧ x ≤ hi) : lo ≤ midT l f ∧ midT l f ≤ hi := by
  have hs := srt_length l
  have hb := bad_few l.length f
  have hg2 : ∀ i, i < l.length → decide (i < f) = false → lo ≤ l.getD i 0 ∧ l.getD i 0 ≤ hi := fun i hi hn => by
    have hn : ¬ i < f := by simpa using hn
    have := hg i (l[i]) (by omega) (List.getElem?_eq_getElem hi)
    rw [List.getD_eq_getElem?_getD, List.getElem?_eq_getElem hi]
    exact this
  have a1 := holds_lo (srt_rising l) (srt_perm l) (fun i => decide (i < f)) hb (fun i hi hn => (hg2 i hi hn).1) (k := f) (by omega) (Nat.le_refl _)
  have a2 := holds_hi (srt_rising l) (srt_perm l) (fun i => decide (i < f)) hb (fun i hi hn => (hg2 i hi hn).2) (k := l.length - 1 - f) (by omega) (by omega)
  have a3 := first_le_last h
  rw [← firstT_get] at a1
  rw [← lastT_get] at a2
  unfold midT
  omega
/-- Two lists that are near, but for the first f places. -/
theorem mid_meets {l m : List Int} {f : Nat} {lo hi x : Int} (hlm : l.length = m.length) (h3 : 3 * f < l.length) (hx : 0 ≤ x)
    (hl : ∀ i y, f ≤ i → l[i]? = some y → lo ≤ y ∧ y ≤ hi) (hm : ∀ i y, f ≤ i → m[i]? = some y → lo ≤ y ∧ y ≤ hi)
    (hn : ∀ i y z, f ≤ i → l[i]? = some y → m[i]? = some z → y ≤ z + x ∧ z ≤ y + x) :
    midT l f - midT m f ≤ (hi - lo + 1) / 2 + x + 1 ∧ midT m f - midT l f ≤ (hi - lo + 1) / 2 + x + 1 := by
  have hsl := srt_length l
  have hsm := srt_length m
  have hb := bad_few l.length f
  have hb2 := bad_few m.length f
  have g : ∀ (k : List Int), k.length = l.length → (∀ i y, f ≤ i → k[i]? = some y → lo ≤ y ∧ y ≤ hi) → ∀ i, i < l.length → decide (i < f) = false → lo ≤ k.getD i 0 ∧ k.getD i 0 ≤ hi := fun k hk hh i hi hn => by
    have hn : ¬ i < f := by simpa using hn
    have := hh i (k[i]) (by omega) (List.getElem?_eq_getElem (by omega))
    rw [List.getD_eq_getElem?_getD, List.getElem?_eq_getElem (by omega)]
    exact this
  have gl := g l rfl hl
  have gm := g m hlm.symm hm
  have gn : ∀ i, i < l.length → decide (i < f) = false → l.getD i 0 ≤ m.getD i 0 + x ∧ m.getD i 0 ≤ l.getD i 0 + x := fun i hi hn2 => by
    have hn2 : ¬ i < f := by simpa using hn2
    have := hn i (l[i]) (m[i]) (by omega) (List.getElem?_eq_getElem (by omega)) (List.getElem?_eq_getElem (by omega))
    rw [List.getD_eq_getElem?_getD, List.getElem?_eq_getElem (by omega), List.getD_eq_getElem?_getD, List.getElem?_eq_getElem (by omega)]
    exact this
  have a1 := holds_lo (srt_rising l) (srt_perm l) (fun i => decide (i < f)) hb (fun i hi hn => (gl i hi hn).1) (k := f) (by omega) (Nat.le_refl _)
  have a2 := holds_hi (srt_rising l) (srt_perm l) (fun i => decide (i < f)) hb (fun i hi hn => (gl i hi hn).2) (k := l.length - 1 - f) (by omega) (by omega)
  have b1 := holds_lo (srt_rising m) (srt_perm m) (fun i => decide (i < f)) hb2 (fun i hi hn => (gm i (by omega) hn).1) (k := f) (by omega) (Nat.le_refl _)
  have b2 := holds_hi (srt_rising m) (srt_perm m) (fun i => decide (i < f)) hb2 (fun i hi hn => (gm i (by omega) hn).2) (k := m.length - 1 - f) (by omega) (by omega)
  have c1 := meets (srt_rising l) (srt_perm l) (srt_rising m) (srt_perm m) hlm h3 (x := x) (fun i => decide (i < f)) hb (fun i hi hn => (gn i hi hn).1) (by omega) (by omega)
  have c2 := meets (srt_rising m) (srt_perm m) (srt_rising l) (srt_perm l) hlm.symm (by omega) (x := x) (fun i => decide (i < f)) hb2 (fun i hi hn => (gn i (by omega) hn).2) (by omega) (by omega)
  have e1 : (srt m)[(srt m).length - 1 - f]'(by omega) = lastT m f := by rw [lastT_get (by omega)]; congr 1; omega
  have e2 : (srt l)[(srt l).length - 1 - f]'(by omega) = lastT l f := by rw [lastT_get (by omega)]; congr 1; omega
  rw [e1, ← firstT_get] at c1
  rw [e2, ← firstT_get] at c2
  rw [← firstT_get] at a1 b1
  rw [← lastT_get] at a2 b2
  exact middles a1 a2 b1 b2 c1 c2 hx
/-- All numbers more by one number, in whatever order. -/
theorem mid_moves {l m : List Int} {f : Nat} {by_ : Int} (hp : m.Perm (l.map (· + by_))) (h : 2 * f + 1 ≤ l.length) : midT m f = midT l f + by_ := by
  have hs := srt_length l
  have hlen : m.length = l.length := by rw [hp.length_eq, List.length_map]
  have hsm := srt_length m
  have e : srt m = (srt l).map (· + by_) := by rw [srt_of_perm hp, srt_add]
  have e1 : firstT m f = firstT l f + by_ := by
    rw [firstT_get (by omega), firstT_get (by omega)]
    simp only [e, List.getElem_map]
  have e2 : lastT m f = lastT l f + by_ := by
    rw [lastT_get (by omega), lastT_get (by omega)]
    simp only [e, List.getElem_map, hlen]
  unfold midT
  rw [e1, e2]
  omega

/-- Halfway between two ints, rounded down, as the program reckons it. -/
theorem halfway_is {a b : Int} : a + (b - a) / 2 = (a + b) / 2 := by omega
/-- .. and as the document does. -/
theorem halves {a b : Int} : a / 2 + b / 2 + (if a % 2 = 1 ∧ b % 2 = 1 then 1 else 0) = (a + b) / 2 := by
  split <;> omega

/-- In how many places a number stands. -/
def cnt (x : Int) (l : List Int) : Nat := l.countP (· == x)
theorem cnt_nil (x : Int) : cnt x [] = 0 := rfl
theorem cnt_le (x : Int) (l : List Int) : cnt x l ≤ l.length := List.countP_le_length
theorem cnt_more (x y : Int) (l : List Int) : cnt x (l ++ [y]) = cnt x l + if y = x then 1 else 0 := by
  unfold cnt
  rw [List.countP_append]
  congr 1
  by_cases h : y = x <;> simp [h]
theorem cnt_take {l : List Int} {k : Nat} {y : Int} (x : Int) (h : l[k]? = some y) : cnt x (l.take (k + 1)) = cnt x (l.take k) + if y = x then 1 else 0 := by
  rw [List.take_add_one, h]
  exact cnt_more x y _
/-- That stands in more than half of the places. -/
def Most (l : List Int) (x : Int) : Prop := l.length < 2 * cnt x l
theorem most_one {l : List Int} {x y : Int} (hx : Most l x) (hy : Most l y) : x = y := by
  obtain ⟨_, h1⟩ := most_mid (srt_rising l) (srt_perm l) hx
  obtain ⟨_, h2⟩ := most_mid (srt_rising l) (srt_perm l) hy
  exact h1.symm.trans h2
/-- What Most answers. -/
def mostT (l : List Int) : Int × Bool :=
  match l.find? (fun x => decide (l.length < 2 * cnt x l)) with
  | some x => (x, true)
  | none => (0, false)
theorem mostT_yes {l : List Int} {x : Int} (h : Most l x) : mostT l = (x, true) := by
  unfold mostT
  cases hf : l.find? (fun x => decide (l.length < 2 * cnt x l)) with
  | some y =>
    have hy : Most l y := by have := List.find?_some hf; simpa [Most] using this
    rw [most_one h hy]
  | none =>
    have h0 := List.find?_eq_none.1 hf
    have hpos : 0 < cnt x l := by unfold Most at h; omega
    obtain ⟨y, hy, e⟩ := List.countP_pos_iff.1 hpos
    have e : y = x := by simpa using e
    subst e
    have := h0 y hy
    simp [Most] at this h
    omega
theorem mostT_no {l : List Int} (h : ∀ x, x ∈ l → ¬ Most l x) : mostT l = (0, false) := by
  unfold mostT
  cases hf : l.find? (fun x => decide (l.length < 2 * cnt x l)) with
  | some y =>
    have hy : Most l y := by have := List.find?_some hf; simpa [Most] using this
    exact absurd hy (h y (List.mem_of_find?_eq_some hf))
  | none => rfl

/-- Behind some numbers: the one that is left, and its lead. -/
def Lead (p : List Int) (n lead : Int) : Prop := 0 ≤ lead ∧ lead ≤ p.length ∧ (2 * (cnt n p : Int) ≤ p.length + lead) ∧ ∀ y, y ≠ n → 2 * (cnt y p : Int) ≤ p.length - lead
theorem lead_start : Lead [] 0 0 := ⟨by omega, by simp, by simp [cnt], fun y _ => by simp [cnt]⟩
theorem lead_new {p : List Int} {n : Int} (h : Lead p n 0) (x : Int) : Lead (p ++ [x]) x 1 := by
  obtain ⟨h1, h2, h3, h4⟩ := h
  have h5 : ∀ y, 2 * (cnt y p : Int) ≤ p.length := fun y => by
    by_cases hy : y = n
    · subst hy; omega
    · have := h4 y hy; omega
  refine ⟨by omega, by rw [List.length_append]; simp; omega, ?_, fun y hy => ?_⟩
  · have := h5 x
    rw [cnt_more, if_pos rfl, List.length_append]
    simp; omega
  · have := h5 y
    rw [cnt_more, if_neg (fun e => hy e.symm), List.length_append]
    simp; omega
theorem lead_same {p : List Int} {n lead : Int} (h : Lead p n lead) : Lead (p ++ [n]) n (lead + 1) := by
  obtain ⟨h1, h2, h3, h4⟩ := h
  refine ⟨by omega, by simp; omega, ?_, fun y hy => ?_⟩
  · rw [cnt_more, if_pos rfl, List.length_append]
    simp; omega
  · have := h4 y hy
    rw [cnt_more, if_neg (fun e => hy e.symm), List.length_append]
    simp; omega
theorem lead_other {p : List Int} {n lead x : Int} (h : Lead p n lead) (h0 : lead ≠ 0) (hx : x ≠ n) : Lead (p ++ [x]) n (lead - 1) := by
  obtain ⟨h1, h2, h3, h4⟩ := h
  refine ⟨by omega, by simp; omega, ?_, fun y hy => ?_⟩
  · rw [cnt_more, if_neg hx, List.length_append]
    simp; omega
  · have := h4 y hy
    rw [cnt_more, List.length_append]
    by_cases e : x = y
    · rw [if_pos e]; simp; omega
    · rw [if_neg e]; simp; omega
theorem lead_most {l : List Int} {n lead : Int} (h : Lead l n lead) : mostT l = if cnt n l ≤ l.length / 2 then (0, false) else (n, true) := by
  obtain ⟨h1, h2, h3, h4⟩ := h
  split
  · refine mostT_no fun x _ hm => ?_
    unfold Most at hm
    by_cases e : x = n
    · subst e; omega
    · have := h4 x e; omega
  · exact mostT_yes (by unfold Most; omega)
/-- None so far stands in more than half of the places. -/
theorem most_none {l : List Int} (h : ∀ (k : Nat) (x : Int), l[k]? = some x → ¬ Most l x) : mostT l = (0, false) :=
  mostT_no fun x hx => by
    obtain ⟨k, hk⟩ := List.getElem?_of_mem hx
    exact h k x hk
/-- A number that stands in one place more than the others do together is found, wherever they stand. -/
theorem most_turned {l : List Int} {x : Int} {from_ : Nat} : mostT ((l ++ List.replicate (l.length + 1) x).drop from_ ++ (l ++ List.replicate (l.length + 1) x).take from_) = (x, true) := by
  refine mostT_yes ?_
  have hp : ((l ++ List.replicate (l.length + 1) x).drop from_ ++ (l ++ List.replicate (l.length + 1) x).take from_).Perm (l ++ List.replicate (l.length + 1) x) := by
    have h1 := List.perm_append_comm (l₁ := (l ++ List.replicate (l.length + 1) x).drop from_) (l₂ := (l ++ List.replicate (l.length + 1) x).take from_)
    rwa [List.take_append_drop] at h1
  unfold Most cnt
  rw [hp.length_eq, hp.countP_eq, List.countP_append, List.length_append, List.length_replicate, List.countP_replicate]
  simp
  omega

/-- How many of a list's numbers lie below what is left, and above. -/
theorem less_few {l : List Int} {f : Nat} (h : 2 * f + 1 ≤ l.length) : l.countP (fun x => decide (x < firstT l f)) ≤ f := by
  have hs := srt_length l
  have := count_lt (srt_rising l) (srt_perm l) (k := f) (by omega)
  rwa [← firstT_get] at this
theorem more_few {l : List Int} {f : Nat} (h : 2 * f + 1 ≤ l.length) : l.countP (fun x => decide (lastT l f < x)) ≤ f := by
  have hs := srt_length l
  have := count_gt (srt_rising l) (srt_perm l) (k := l.length - 1 - f) (by omega)
  rw [← lastT_get] at this
  omega
theorem cut_rises {l : List Int} {f k : Nat} {x y : Int} (h1 : (cutT l f)[k]? = some x) (h2 : (cutT l f)[k + 1]? = some y) : x ≤ y := by
  have hk : k + 1 < (cutT l f).length := (List.getElem?_eq_some_iff.1 h2).1
  rw [cutT_length] at hk
  rw [cutT_at (by omega)] at h1
  rw [cutT_at (by omega)] at h2
  obtain ⟨a1, rfl⟩ := List.getElem?_eq_some_iff.1 h1
  obtain ⟨a2, rfl⟩ := List.getElem?_eq_some_iff.1 h2
  exact rising_le (srt_rising l) (by omega) a2
end MidP
