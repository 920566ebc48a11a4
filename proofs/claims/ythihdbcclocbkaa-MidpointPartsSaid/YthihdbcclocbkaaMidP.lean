/- Plain: the middle of what may be wrong. No conditions beyond those that each states. -/
import Derived.KernelRfl
namespace MidP

theorem count_three {α : Type} (p q r : α → Bool) : ∀ (l : List α), (∀ x ∈ l, p x = true ∨ q x = true ∨ r x = true) → l.length ≤ l.countP p + l.countP q + l.countP r
  | [], _ => by simp
  | x :: l, h => by
    have h1 := count_three p q r l (fun y hy => h y (by simp [hy]))
    have h2 := h x (by simp)
    simp only [List.length_cons, List.countP_cons]
    rcases h2 with h2 | h2 | h2
    · rw [if_pos h2]; omega
    · rw [if_pos h2]; omega
    · rw [if_pos h2]; omega

/-- Where few are bad, few q and few r, one is none of it. -/
theorem one_left {n a b c : Nat} (p q r : Nat → Bool) (hp : (List.range n).countP p ≤ a) (hq : (List.range n).countP q ≤ b) (hr : (List.range n).countP r ≤ c) (h : a + b + c < n) : ∃ i, i < n ∧ p i = false ∧ q i = false ∧ r i = false := by
  refine Classical.byContradiction fun hn => ?_
  have h1 := count_three p q r (List.range n) (fun i hi => by
    have hi := List.mem_range.1 hi
    cases hpi : p i with
    | true => exact .inl rfl
    | false =>
      cases hqi : q i with
      | true => exact .inr (.inl rfl)
      | false =>
        cases hri : r i with
        | true => exact .inr (.inr rfl)
        | false => exact absurd ⟨i, hi, hpi, hqi, hri⟩ hn)
  rw [List.length_range] at h1
  omega

theorem count_index (l : List Int) (p : Int → Bool) : (List.range l.length).countP (fun i => p (l.getD i 0)) = l.countP p := by
  have e : l = (List.range l.length).map (fun i => l.getD i 0) := by
    apply List.ext_getElem?
    intro i
    by_cases hi : i < l.length
    · simp [hi, List.getD]
    · simp [hi]
  conv => rhs; rw [e]
  rw [List.countP_map]
  rfl

/-- Rising. -/
def Rising (s : List Int) : Prop := s.Pairwise (· ≤ ·)

theorem rising_le {s : List Int} (hs : Rising s) {i j : Nat} (hij : i ≤ j) (hj : j < s.length) : s[i]'(by omega) ≤ s[j] := by
  rcases Nat.lt_or_eq_of_le hij with h | h
  · exact List.pairwise_iff_getElem.1 hs i j (by omega) hj h
  · subst h; exact Int.le_refl _

theorem count_lt {s l : List Int} (hs : Rising s) (hp : s.Perm l) {k : Nat} (hk : k < s.length) : l.countP (fun x => decide (x < s[k])) ≤ k := by
  rw [← hp.countP_eq]
  have e : s = s.take k ++ s.drop k := (List.take_append_drop k s).symm
  have h0 : (s.drop k).countP (fun x => decide (x < s[k])) = 0 := by
    rw [List.countP_eq_zero]
    intro x hx
    obtain ⟨i, hi, rfl⟩ := List.getElem_of_mem hx
    rw [List.length_drop] at hi
    rw [List.getElem_drop]
    have := rising_le hs (i := k) (j := k + i) (by omega) (by omega)
    simp; omega
  generalize hv : s[k] = v at *
  rw [e, List.countP_append, h0]
  have := List.countP_le_length (p := fun x => decide (x < v)) (l := s.take k)
  rw [List.length_take] at this
  omega
theorem count_gt {s l : List Int} (hs : Rising s) (hp : s.Perm l) {k : Nat} (hk : k < s.length) : l.countP (fun x => decide (s[k] < x)) ≤ s.length - 1 - k := by
  rw [← hp.countP_eq]
  have e : s = s.take (k + 1) ++ s.drop (k + 1) := (List.take_append_drop (k + 1) s).symm
  have h0 : (s.take (k + 1)).countP (fun x => decide (s[k] < x)) = 0 := by
    rw [List.countP_eq_zero]
    intro x hx
    obtain ⟨i, hi, rfl⟩ := List.getElem_of_mem hx
    rw [List.length_take] at hi
    rw [List.getElem_take]
    have := rising_le hs (i := i) (j := k) (by omega) (by omega)
    simp; omega
  generalize hv : s[k] = v at *
  have hl := List.countP_le_length (p := fun x => decide (v < x)) (l := s.drop (k + 1))
  rw [List.length_drop] at hl
  conv => lhs; rw [e]
  rw [List.countP_append, h0]
  omega

/-- Of n numbers, of which all but f lie from lo to hi, what is left when f are cut off at each end does too. -/
theorem holds_lo {s l : List Int} (hs : Rising s) (hp : s.Perm l) {f : Nat} {lo : Int} (bad : Nat → Bool) (hb : (List.range l.length).countP bad ≤ f) (hg : ∀ i, i < l.length → bad i = false → lo ≤ l.getD i 0) {k : Nat} (hk : k < s.length) (hfk : f ≤ k) : lo ≤ s[k] := by
  have hl := hp.length_eq
  have h1 := count_gt hs hp hk
  rw [← count_index l (fun x => decide (s[k] < x))] at h1
  obtain ⟨i, hi, h2, h3, -⟩ := one_left bad (fun i => decide (s[k] < l.getD i 0)) (fun _ => false) hb h1 (c := 0) (by simp) (by omega)
  have h4 := hg i hi h2
  simp at h3
  simp at h4
  omega
theorem holds_hi {s l : List Int} (hs : Rising s) (hp : s.Perm l) {f : Nat} {hi : Int} (bad : Nat → Bool) (hb : (List.range l.length).countP bad ≤ f) (hg : ∀ i, i < l.length → bad i = false → l.getD i 0 ≤ hi) {k : Nat} (hk : k < s.length) (hfk : k + f < s.length) : s[k] ≤ hi := by
  have hl := hp.length_eq
  have h1 := count_lt hs hp hk
  rw [← count_index l (fun x => decide (x < s[k]))] at h1
  obtain ⟨i, hi', h2, h3, -⟩ := one_left bad (fun i => decide (l.getD i 0 < s[k])) (fun _ => false) hb h1 (c := 0) (by simp) (by omega)
  have h4 := hg i hi' h2
  simp at h3
  simp at h4
  omega

/-- Two lists that are near, but for f places: what is left of the one does not lie beyond what is left of the other. -/
theorem meets {s l t m : List Int} (hs : Rising s) (hp : s.Perm l) (ht : Rising t) (hq : t.Perm m) (hlm : l.length = m.length) {f : Nat} (h3f : 3 * f < l.length) {x : Int} (bad : Nat → Bool) (hb : (List.range l.length).countP bad ≤ f)
    (hg : ∀ i, i < l.length → bad i = false → l.getD i 0 ≤ m.getD i 0 + x) (h1 : f < s.length) (h2 : t.length - 1 - f < t.length) : s[f] ≤ t[t.length - 1 - f] + x := by
  have hl := hp.length_eq
  have hm := hq.length_eq
  have c1 := count_lt hs hp h1
  have c2 := count_gt ht hq h2
  rw [← count_index l (fun x => decide (x < s[f]))] at c1
  rw [← count_index m (fun x => decide (t[t.length - 1 - f] < x)), ← hlm] at c2
  obtain ⟨i, hi, g1, g2, g3⟩ := one_left bad (fun i => decide (l.getD i 0 < s[f])) (fun i => decide (t[t.length - 1 - f] < m.getD i 0)) hb c1 c2 (by omega)
  have g4 := hg i hi g1
  simp at g2 g3 g4
  omega

/-- The middles. -/
theorem middles {a b c d lo hi x : Int} (h1 : lo ≤ a) (h3 : b ≤ hi) (h4 : lo ≤ c) (h6 : d ≤ hi) (h7 : a ≤ d + x) (h8 : c ≤ b + x) (hx : 0 ≤ x) :
    (a + b) / 2 - (c + d) / 2 ≤ (hi - lo + 1) / 2 + x + 1 ∧ (c + d) / 2 - (a + b) / 2 ≤ (hi - lo + 1) / 2 + x + 1 := by
  omega
theorem middle_in {a b lo hi : Int} (h1 : lo ≤ a) (h2 : a ≤ b) (h3 : b ≤ hi) : lo ≤ (a + b) / 2 ∧ (a + b) / 2 ≤ hi := by omega

/-- A rising list is fixed by its numbers. -/
theorem rising_unique : ∀ {s t : List Int}, Rising s → Rising t → s.Perm t → s = t
  | [], t, _, _, h => (List.nil_perm.1 h).symm
  | x :: s, t, hs, ht, h => by
    match t, ht, h with
    | [], _, h => exact absurd h.length_eq (by simp)
    | y :: t, ht, h =>
      have hx : y ≤ x := by
        have : x ∈ y :: t := h.mem_iff.1 (by simp)
        rcases List.mem_cons.1 this with e | e
        · exact Int.le_of_eq e.symm
        · exact List.rel_of_pairwise_cons ht e
      have hy : x ≤ y := by
        have : y ∈ x :: s := h.mem_iff.2 (by simp)
        rcases List.mem_cons.1 this with e | e
        · exact Int.le_of_eq e.symm
        · exact List.rel_of_pairwise_cons hs e
      obtain rfl : x = y := Int.le_antisymm hy hx
      rw [rising_unique (List.Pairwise.of_cons hs) (List.Pairwise.of_cons ht) (List.Perm.cons_inv h)]

/-- A number that stands in more than half of the places stands in the middle of the rising list. -/
theorem most_mid {s l : List Int} (hs : Rising s) (hp : s.Perm l) {x : Int} (h : l.length < 2 * l.countP (· == x)) : ∃ hk : s.length / 2 < s.length, s[s.length / 2] = x := by
  have hl := hp.length_eq
  have hc := List.countP_le_length (p := (· == x)) (l := l)
  have hk : s.length / 2 < s.length := by omega
  refine ⟨hk, ?_⟩
  have h1 := count_lt hs hp hk
  have h2 := count_gt hs hp hk
  generalize hv : s[s.length / 2] = v at *
  refine Classical.byContradiction fun hne => ?_
  have h3 : l.countP (· == x) ≤ l.countP (fun y => decide (y < v)) ∨ l.countP (· == x) ≤ l.countP (fun y => decide (v < y)) := by
    rcases Int.lt_or_gt_of_ne hne with h | h
    · right
      apply List.countP_mono_left
      intro y _ hy
      simp at hy ⊢
      omega
    · left
      apply List.countP_mono_left
      intro y _ hy
      simp at hy ⊢
      omega
  rcases h3 with h3 | h3 <;> omega
end MidP
