/- Plain: clocks that drift (chapter 7). No conditions beyond those that each states. · Plain: the middle of what may be wrong. No conditions beyond those that each states. · Plain: clocks put right (chapter 11): two that hear the same others begin again nearer. No conditions beyond those that each states. · Plain: what Cut, Middle and Most answer, and the ways by which the program and the document come to it. No conditions beyond those that each states. -/
import Derived.KernelRfl
namespace ClkP

/-- What a clock shows, rounded down. -/
def localT (since rate real : Int) : Int := (real - since) * (1000000 + rate) / 1000000
/-- When it shows so much first. -/
def realT (since rate loc : Int) : Int := since - -(loc * 1000000) / (1000000 + rate)

theorem quo_up {a b : Int} (h : 0 ≤ a) : a.tdiv b = a / b := Int.tdiv_eq_ediv_of_nonneg h
theorem quo_down {a b : Int} (h : a ≤ 0) : a.tdiv b = -(-a / b) := by
  have : a = -(-a) := by omega
  rw [this, Int.neg_tdiv, Int.tdiv_eq_ediv_of_nonneg (by omega)]
  simp
theorem rest_up {a b : Int} (h : 0 ≤ a) : a.tmod b = a % b := Int.tmod_eq_emod_of_nonneg h
theorem rest_lt {a b : Int} (hb : 0 < b) : -b < a.tmod b ∧ a.tmod b < b :=
  ⟨Int.lt_tmod_of_pos a hb, Int.tmod_lt_of_pos a hb⟩
theorem quo_rest (a b : Int) : b * a.tdiv b + a.tmod b = a := Int.mul_tdiv_add_tmod a b
/-- Between which the quotient rounded down lies. -/
theorem div_in (a : Int) {b : Int} (hb : 0 < b) : b * (a / b) ≤ a ∧ a < b * (a / b) + b := by
  have h1 := Int.mul_ediv_add_emod a b
  have h2 := Int.emod_nonneg a (Int.ne_of_gt hb)
  have h3 := Int.emod_lt_of_pos a hb
  omega
theorem div_eq {a b q : Int} (hb : 0 < b) (h1 : b * q ≤ a) (h2 : a < b * q + b) : a / b = q := by
  have h3 := Int.le_ediv_iff_mul_le (a := q) (b := a) hb
  have h4 := Int.ediv_lt_iff_lt_mul (a := a) (b := q + 1) hb
  have h5 : q ≤ a / b := h3.2 (by rw [Int.mul_comm]; exact h1)
  have h6 : a / b < q + 1 := h4.2 (by rw [Int.mul_comm, Int.mul_add, Int.mul_one]; exact h2)
  omega
/-- The document's quotient, rounded down. -/
theorem down_no {a b : Int} (hb : 0 < b) (h : ¬ a.tmod b < 0) : (a - a.tmod b).tdiv b = a / b := by
  have h1 := quo_rest a b
  have h2 := rest_lt (a := a) hb
  have h3 : a / b = a.tdiv b := div_eq hb (by omega) (by omega)
  rw [h3, show a - a.tmod b = a.tdiv b * b by rw [Int.mul_comm]; omega, Int.mul_tdiv_cancel _ (by omega)]
theorem down_yes {a b : Int} (hb : 0 < b) (h : a.tmod b < 0) : (a - (a.tmod b + b)).tdiv b = a / b := by
  have h1 := quo_rest a b
  have h2 := rest_lt (a := a) hb
  have e : b * (a.tdiv b - 1) = b * a.tdiv b - b := by rw [Int.mul_sub, Int.mul_one]
  have h3 : a / b = a.tdiv b - 1 := div_eq hb (by omega) (by omega)
  rw [h3, show a - (a.tmod b + b) = (a.tdiv b - 1) * b by rw [Int.mul_comm]; omega, Int.mul_tdiv_cancel _ (by omega)]
/-- A quotient towards 0, put right by its rest (other spellings of rounding down). -/
theorem floor_no {a b : Int} (hb : 0 < b) (h : ¬ a.tmod b < 0) : a.tdiv b = a / b := by
  have h1 := quo_rest a b
  have h2 := rest_lt (a := a) hb
  exact (div_eq hb (by omega) (by omega)).symm
theorem floor_yes {a b : Int} (hb : 0 < b) (h : a.tmod b < 0) : a.tdiv b - 1 = a / b := by
  have h1 := quo_rest a b
  have h2 := rest_lt (a := a) hb
  have e : b * (a.tdiv b - 1) = b * a.tdiv b - b := by rw [Int.mul_sub, Int.mul_one]
  exact (div_eq hb (by omega) (by omega)).symm
/-- Rounding up. -/
theorem up_no {a b : Int} (hb : 0 < b) (h : ¬ 0 < a.tmod b) : a.tdiv b = -(-a / b) := by
  have h1 := floor_no (a := -a) hb (by rw [Int.neg_tmod]; omega)
  rw [← h1, Int.neg_tdiv]; omega
theorem up_yes {a b : Int} (hb : 0 < b) (h : 0 < a.tmod b) : a.tdiv b + 1 = -(-a / b) := by
  have h1 := floor_yes (a := -a) hb (by rw [Int.neg_tmod]; omega)
  rw [← h1, Int.neg_tdiv]; omega

/-- A rate that may be. -/
def RateOk (rate : Int) : Prop := -200 ≤ rate ∧ rate ≤ 200
def Near (t : Int) : Prop := -549755813888 ≤ t ∧ t ≤ 549755813888
theorem near_mod (t : Int) : Near (t.tmod 549755813888) := by
  have := rest_lt (a := t) (b := 549755813888) (by decide)
  unfold Near; omega
/-- The product stays small. -/
theorem mul_small {d rate m : Int} (hr : RateOk rate) (h1 : -m ≤ d) (h2 : d ≤ m) :
    -(m * 1000200) ≤ d * (1000000 + rate) ∧ d * (1000000 + rate) ≤ m * 1000200 := by
  obtain ⟨r1, r2⟩ := hr
  by_cases h : 0 ≤ d
  · have a1 := Int.mul_nonneg h (show 0 ≤ 1000000 + rate by omega)
    have a2 := Int.mul_le_mul_of_nonneg_left (show 1000000 + rate ≤ 1000200 by omega) h
    omega
  · have a1 := Int.mul_nonneg (show 0 ≤ -d by omega) (show 0 ≤ 1000000 + rate by omega)
    have a2 := Int.mul_le_mul_of_nonneg_left (show 1000000 + rate ≤ 1000200 by omega) (show 0 ≤ -d by omega)
    rw [Int.neg_mul] at a1 a2
    omega
/-- Both ways: the greatest and the least that they answer. -/
theorem local_small {since rate real m : Int} (hr : RateOk rate) (h1 : -m ≤ real - since) (h2 : real - since ≤ m) :
    -(2 * m) - 1 ≤ localT since rate real ∧ localT since rate real ≤ 2 * m + 1 := by
  have h := mul_small hr h1 h2
  unfold localT
  omega
theorem real_small {since rate loc m : Int} (hr : RateOk rate) (h1 : -m ≤ loc) (h2 : loc ≤ m) :
    -(2 * m) - 1 ≤ realT since rate loc - since ∧ realT since rate loc - since ≤ 2 * m + 1 := by
  obtain ⟨r1, r2⟩ := hr
  have hk : 0 < 1000000 + rate := by omega
  have h := div_in (-(loc * 1000000)) hk
  unfold realT
  generalize -(loc * 1000000) / (1000000 + rate) = q at h ⊢
  by_cases hq : 0 ≤ q
  · have a := Int.mul_le_mul_of_nonneg_right (show 999800 ≤ 1000000 + rate by omega) hq
    omega
  · have a := Int.mul_le_mul_of_nonneg_right (show 999800 ≤ 1000000 + rate by omega) (show 0 ≤ -q by omega)
    rw [Int.mul_neg, Int.mul_neg] at a
    omega

/-- Real is the first real time at which the clock shows so much. -/
theorem first {since rate loc : Int} (hr : RateOk rate) :
    loc ≤ localT since rate (realT since rate loc) ∧ localT since rate (realT since rate loc - 1) < loc ∧
    (localT since rate (realT since rate loc) - loc = 0 ∨ localT since rate (realT since rate loc) - loc = 1 ∧ 0 < rate) ∧
    ∀ t, realT since rate (localT since rate t) ≤ t := by
  obtain ⟨r1, r2⟩ := hr
  have hk : 0 < 1000000 + rate := by omega
  have h := div_in (-(loc * 1000000)) hk
  refine ⟨?_, ?_, ?_, ?_⟩
  · unfold localT realT
    generalize -(loc * 1000000) / (1000000 + rate) = q at h ⊢
    rw [show since - q - since = -q by omega, Int.neg_mul, Int.mul_comm q]
    omega
  · unfold localT realT
    generalize -(loc * 1000000) / (1000000 + rate) = q at h ⊢
    rw [show since - q - 1 - since = -(q + 1) by omega, Int.neg_mul, Int.mul_comm (q + 1), Int.mul_add, Int.mul_one]
    omega
  · unfold localT realT
    generalize -(loc * 1000000) / (1000000 + rate) = q at h ⊢
    rw [show since - q - since = -q by omega, Int.neg_mul, Int.mul_comm q]
    omega
  · intro t
    unfold realT localT
    have g := div_in ((t - since) * (1000000 + rate)) (b := 1000000) (by decide)
    generalize (t - since) * (1000000 + rate) / 1000000 = l at g ⊢
    have : -(t - since) ≤ -(l * 1000000) / (1000000 + rate) := (Int.le_ediv_iff_mul_le hk).2 (by rw [Int.neg_mul]; omega)
    omega
/-- Two clocks that begin together. -/
theorem parts {since a b d : Int} :
    localT since a (since + d) - localT since b (since + d) - ((a - b) * d).tdiv 1000000 ≤ 2 ∧
    ((a - b) * d).tdiv 1000000 - (localT since a (since + d) - localT since b (since + d)) ≤ 2 := by
  have q1 := quo_rest ((a - b) * d) 1000000
  have q2 := rest_lt (a := (a - b) * d) (b := 1000000) (by decide)
  unfold localT
  rw [show since + d - since = d by omega, Int.mul_add, Int.mul_add, Int.mul_comm d a, Int.mul_comm d b]
  rw [Int.sub_mul] at q1 q2 ⊢
  omega
/-- Two moments of one clock. -/
theorem rises {since rate a b : Int} (hr : RateOk rate) (h : a ≤ b) :
    localT since rate (since + a) ≤ localT since rate (since + b) ∧
    localT since rate (since + b) - localT since rate (since + a) - ((b - a).tdiv 1000000 * (1000000 + rate) + ((b - a).tmod 1000000 * (1000000 + rate)).tdiv 1000000) ≤ 2 ∧
    (b - a).tdiv 1000000 * (1000000 + rate) + ((b - a).tmod 1000000 * (1000000 + rate)).tdiv 1000000 - (localT since rate (since + b) - localT since rate (since + a)) ≤ 2 := by
  obtain ⟨r1, r2⟩ := hr
  have k0 : 0 ≤ 1000000 + rate := by omega
  unfold localT
  rw [show since + a - since = a by omega, show since + b - since = b by omega]
  have hd := Int.mul_nonneg (show 0 ≤ b - a by omega) k0
  rw [quo_up (show 0 ≤ b - a by omega), rest_up (show 0 ≤ b - a by omega),
    quo_up (Int.mul_nonneg (Int.emod_nonneg _ (by decide)) k0)]
  have e : (b - a) * (1000000 + rate) = 1000000 * ((b - a) / 1000000 * (1000000 + rate)) + (b - a) % 1000000 * (1000000 + rate) := by
    rw [← Int.mul_assoc, ← Int.add_mul, Int.mul_ediv_add_emod]
  rw [Int.sub_mul] at hd e
  generalize a * (1000000 + rate) = A at *
  generalize b * (1000000 + rate) = B at *
  generalize (b - a) / 1000000 * (1000000 + rate) = C at *
  generalize (b - a) % 1000000 * (1000000 + rate) = D at *
  omega
theorem real_rises {since rate x y : Int} (hr : RateOk rate) (h : x ≤ y) : realT since rate x ≤ realT since rate y := by
  obtain ⟨r1, r2⟩ := hr
  unfold realT
  have := Int.ediv_le_ediv (a := -(y * 1000000)) (b := -(x * 1000000)) (c := 1000000 + rate) (by omega) (by omega)
  omega
/-- A clock without drift; one that begins later. -/
theorem plain_local (since d : Int) : localT since 0 (since + d) = d := by unfold localT; omega
theorem plain_real (since d : Int) : realT since 0 d = since + d := by unfold realT; omega
theorem later_local (since rate by_ d : Int) : localT since rate (since + d) = localT (since + by_) rate (since + by_ + d) := by
  unfold localT
  rw [show since + d - since = d by omega, show since + by_ + d - (since + by_) = d by omega]
theorem later_real (since rate by_ d : Int) : realT since rate d + by_ = realT (since + by_) rate d := by unfold realT; omega

/-- A number by parts: the whole part and the rest, each times t. -/
theorem whole_rest {n t b : Int} (hb : 0 < b) : n / b * t + n % b * t / b = n * t / b := by
  have e : n * t = n % b * t + b * (n / b * t) := by
    rw [← Int.mul_assoc, ← Int.add_mul, Int.emod_add_mul_ediv]
  rw [e, Int.add_mul_ediv_left _ _ (Int.ne_of_gt hb)]
  omega
/-- A product's bounds. -/
theorem prod_in {a t m : Int} (h1 : -m ≤ a) (h2 : a ≤ m) (ht : 0 ≤ t) (hk : t ≤ 1000200) : -(m * 1000200) ≤ a * t ∧ a * t ≤ m * 1000200 := by
  by_cases h : 0 ≤ a
  · have a1 := Int.mul_nonneg h ht
    have a2 := Int.mul_le_mul_of_nonneg_left hk h
    omega
  · have a1 := Int.mul_nonneg (show 0 ≤ -a by omega) ht
    have a2 := Int.mul_le_mul_of_nonneg_left hk (show 0 ≤ -a by omega)
    rw [Int.neg_mul] at a1 a2
    omega
/-- A quotient's bounds. -/
theorem quot_in {a b m : Int} (h1 : -m ≤ a) (h2 : a ≤ m) (hb : 0 < b) : -m - 1 ≤ a / b ∧ a / b ≤ m + 1 := by
  have h := div_in a hb
  generalize a / b = q at h ⊢
  have hm : 0 ≤ m := by omega
  constructor
  · by_cases h0 : q + 1 < 0
    · have := Int.mul_le_mul_of_nonneg_right (show 1 ≤ b by omega) (show 0 ≤ -(q + 1) by omega)
      simp only [Int.mul_neg, Int.mul_add, Int.mul_one, Int.one_mul] at this
      omega
    · omega
  · by_cases hq : 0 ≤ q
    · have := Int.mul_le_mul_of_nonneg_right (show 1 ≤ b by omega) hq
      rw [Int.one_mul] at this
      omega
    · omega

end ClkP
namespace MidP

theorem count_three {α : Type} (p q r : α → Bool) : ∀ (l : List α), (∀ x ∈ l, p x = true ∨ q x = true ∨ r x = true) → l.length ≤ l.countP p + l.countP q + l.countP r
  | [], _ => by simp
  | x :: l, h => by
    have h1 := count_three p q r l (fun y hy => h y (by simp [hy]))
    have h2 := h x (by simp)
    simp only [List.length_cons, List.countP_cons]
    rcases h2 with h2 | h2 | h2
    · rw [if_pos h2]; omega
    · rw [if_pos h2]; omega
    · rw [if_pos h2]; omega

/-- Where few are bad, few q and few r, one is none of it. -/
theorem one_left {n a b c : Nat} (p q r : Nat → Bool) (hp : (List.range n).countP p ≤ a) (hq : (List.range n).countP q ≤ b) (hr : (List.range n).countP r ≤ c) (h : a + b + c < n) : ∃ i, i < n ∧ p i = false ∧ q i = false ∧ r i = false := by
  refine Classical.byContradiction fun hn => ?_
  have h1 := count_three p q r (List.range n) (fun i hi => by
    have hi := List.mem_range.1 hi
    cases hpi : p i with
    | true => exact .inl rfl
    | false =>
      cases hqi : q i with
      | true => exact .inr (.inl rfl)
      | false =>
        cases hri : r i with
        | true => exact .inr (.inr rfl)
        | false => exact absurd ⟨i, hi, hpi, hqi, hri⟩ hn)
  rw [List.length_range] at h1
  omega

theorem count_index (l : List Int) (p : Int → Bool) : (List.range l.length).countP (fun i => p (l.getD i 0)) = l.countP p := by
  have e : l = (List.range l.length).map (fun i => l.getD i 0) := by
    apply List.ext_getElem?
    intro i
    by_cases hi : i < l.length
    · simp [hi, List.getD]
    · simp [hi]
  conv => rhs; rw [e]
  rw [List.countP_map]
  rfl

/-- Rising. -/
def Rising (s : List Int) : Prop := s.Pairwise (· ≤ ·)

theorem rising_le {s : List Int} (hs : Rising s) {i j : Nat} (hij : i ≤ j) (hj : j < s.length) : s[i]'(by omega) ≤ s[j] := by
  rcases Nat.lt_or_eq_of_le hij with h | h
  · exact List.pairwise_iff_getElem.1 hs i j (by omega) hj h
  · subst h; exact Int.le_refl _

theorem count_lt {s l : List Int} (hs : Rising s) (hp : s.Perm l) {k : Nat} (hk : k < s.length) : l.countP (fun x => decide (x < s[k])) ≤ k := by
  rw [← hp.countP_eq]
  have e : s = s.take k ++ s.drop k := (List.take_append_drop k s).symm
  have h0 : (s.drop k).countP (fun x => decide (x < s[k])) = 0 := by
    rw [List.countP_eq_zero]
    intro x hx
    obtain ⟨i, hi, rfl⟩ := List.getElem_of_mem hx
    rw [List.length_drop] at hi
    rw [List.getElem_drop]
    have := rising_le hs (i := k) (j := k + i) (by omega) (by omega)
    simp; omega
  generalize hv : s[k] = v at *
  rw [e, List.countP_append, h0]
  have := List.countP_le_length (p := fun x => decide (x < v)) (l := s.take k)
  rw [List.length_take] at this
  omega
theorem count_gt {s l : List Int} (hs : Rising s) (hp : s.Perm l) {k : Nat} (hk : k < s.length) : l.countP (fun x => decide (s[k] < x)) ≤ s.length - 1 - k := by
  rw [← hp.countP_eq]
  have e : s = s.take (k + 1) ++ s.drop (k + 1) := (List.take_append_drop (k + 1) s).symm
  have h0 : (s.take (k + 1)).countP (fun x => decide (s[k] < x)) = 0 := by
    rw [List.countP_eq_zero]
    intro x hx
    obtain ⟨i, hi, rfl⟩ := List.getElem_of_mem hx
    rw [List.length_take] at hi
    rw [List.getElem_take]
    have := rising_le hs (i := i) (j := k) (by omega) (by omega)
    simp; omega
  generalize hv : s[k] = v at *
  have hl := List.countP_le_length (p := fun x => decide (v < x)) (l := s.drop (k + 1))
  rw [List.length_drop] at hl
  conv => lhs; rw [e]
  rw [List.countP_append, h0]
  omega

/-- Of n numbers, of which all but f lie from lo to hi, what is left when f are cut off at each end does too. -/
theorem holds_lo {s l : List Int} (hs : Rising s) (hp : s.Perm l) {f : Nat} {lo : Int} (bad : Nat → Bool) (hb : (List.range l.length).countP bad ≤ f) (hg : ∀ i, i < l.length → bad i = false → lo ≤ l.getD i 0) {k : Nat} (hk : k < s.length) (hfk : f ≤ k) : lo ≤ s[k] := by
  have hl := hp.length_eq
  have h1 := count_gt hs hp hk
  rw [← count_index l (fun x => decide (s[k] < x))] at h1
  obtain ⟨i, hi, h2, h3, -⟩ := one_left bad (fun i => decide (s[k] < l.getD i 0)) (fun _ => false) hb h1 (c := 0) (by simp) (by omega)
  have h4 := hg i hi h2
  simp at h3
  simp at h4
  omega
theorem holds_hi {s l : List Int} (hs : Rising s) (hp : s.Perm l) {f : Nat} {hi : Int} (bad : Nat → Bool) (hb : (List.range l.length).countP bad ≤ f) (hg : ∀ i, i < l.length → bad i = false → l.getD i 0 ≤ hi) {k : Nat} (hk : k < s.length) (hfk : k + f < s.length) : s[k] ≤ hi := by
  have hl := hp.length_eq
  have h1 := count_lt hs hp hk
  rw [← count_index l (fun x => decide (x < s[k]))] at h1
  obtain ⟨i, hi', h2, h3, -⟩ := one_left bad (fun i => decide (l.getD i 0 < s[k])) (fun _ => false) hb h1 (c := 0) (by simp) (by omega)
  have h4 := hg i hi' h2
  simp at h3
  simp at h4
  omega

/-- Two lists that are near, but for f places: what is left of the one does not lie beyond what is left of the other. -/
theorem meets {s l t m : List Int} (hs : Rising s) (hp : s.Perm l) (ht : Rising t) (hq : t.Perm m) (hlm : l.length = m.length) {f : Nat} (h3f : 3 * f < l.length) {x : Int} (bad : Nat → Bool) (hb : (List.range l.length).countP bad ≤ f)
    (hg : ∀ i, i < l.length → bad i = false → l.getD i 0 ≤ m.getD i 0 + x) (h1 : f < s.length) (h2 : t.length - 1 - f < t.length) : s[f] ≤ t[t.length - 1 - f] + x := by
  have hl := hp.length_eq
  have hm := hq.length_eq
  have c1 := count_lt hs hp h1
  have c2 := count_gt ht hq h2
  rw [← count_index l (fun x => decide (x < s[f]))] at c1
  rw [← count_index m (fun x => decide (t[t.length - 1 - f] < x)), ← hlm] at c2
  obtain ⟨i, hi, g1, g2, g3⟩ := one_left bad (fun i => decide (l.getD i 0 < s[f])) (fun i => decide (t[t.length - 1 - f] < m.getD i 0)) hb c1 c2 (by omega)
  have g4 := hg i hi g1
  simp at g2 g3 g4
  omega

/-- The middles. -/
theorem middles {a b c d lo hi x : Int} (h1 : lo ≤ a) (h3 : b ≤ hi) (h4 : lo ≤ c) (h6 : d ≤ hi) (h7 : a ≤ d + x) (h8 : c ≤ b + x) (hx : 0 ≤ x) :
    (a + b) / 2 - (c + d) / 2 ≤ (hi - lo + 1) / 2 + x + 1 ∧ (c + d) / 2 - (a + b) / 2 ≤ (hi - lo + 1) / 2 + x + 1 := by
  omega
theorem middle_in {a b lo hi : Int} (h1 : lo ≤ a) (h2 : a ≤ b) (h3 : b ≤ hi) : lo ≤ (a + b) / 2 ∧ (a + b) / 2 ≤ hi := by omega

/-- A rising list is fixed by its numbers. -/
theorem rising_unique : ∀ {s t : List Int}, Rising s → Rising t → s.Perm t → s = t
  | [], t, _, _, h => (List.nil_perm.1 h).symm
  | x :: s, t, hs, ht, h => by
    match t, ht, h with
    | [], _, h => exact absurd h.length_eq (by simp)
    | y :: t, ht, h =>
      have hx : y ≤ x := by
        have : x ∈ y :: t := h.mem_iff.1 (by simp)
        rcases List.mem_cons.1 this with e | e
        · exact Int.le_of_eq e.symm
        · exact List.rel_of_pairwise_cons ht e
      have hy : x ≤ y := by
        have : y ∈ x :: s := h.mem_iff.2 (by simp)
        rcases List.mem_cons.1 this with e | e
        · exact Int.le_of_eq e.symm
        · exact List.rel_of_pairwise_cons hs e
      obtain rfl : x = y := Int.le_antisymm hy hx
      rw [rising_unique (List.Pairwise.of_cons hs) (List.Pairwise.of_cons ht) (List.Perm.cons_inv h)]

/-- A number that stands in more than half of the places stands in the middle of the rising list. -/
theorem most_mid {s l : List Int} (hs : Rising s) (hp : s.Perm l) {x : Int} (h : l.length < 2 * l.countP (· == x)) : ∃ hk : s.length / 2 < s.length, s[s.length / 2] = x := by
  have hl := hp.length_eq
  have hc := List.countP_le_length (p := (· == x)) (l := l)
  have hk : s.length / 2 < s.length := by omega
  refine ⟨hk, ?_⟩
  have h1 := count_lt hs hp hk
  have h2 := count_gt hs hp hk
  generalize hv : s[s.length / 2] = v at *
  refine Classical.byContradiction fun hne => ?_
  have h3 : l.countP (· == x) ≤ l.countP (fun y => decide (y < v)) ∨ l.countP (· == x) ≤ l.countP (fun y => decide (v < y)) := by
    rcases Int.lt_or_gt_of_ne hne with h | h
    · right
      apply List.countP_mono_left
      intro y _ hy
      simp at hy ⊢
      omega
    · left
      apply List.countP_mono_left
      intro y _ hy
      simp at hy ⊢
      omega
  rcases h3 with h3 | h3 <;> omega
end MidP
namespace PacP
open ClkP MidP

/-- The middles, nearer: when lo and hi hold both lists. -/
theorem middles_near {a b c d lo hi x : Int} (h1 : lo ≤ a) (h3 : b ≤ hi) (h4 : lo ≤ c) (h6 : d ≤ hi) (h7 : a ≤ d + x) (h8 : c ≤ b + x) :
    (a + b) / 2 - (c + d) / 2 ≤ (hi - lo + x + 1) / 2 ∧ (c + d) / 2 - (a + b) / 2 ≤ (hi - lo + x + 1) / 2 := by
  omega
theorem mul_in {a b m : Int} (h1 : -m ≤ a) (h2 : a ≤ m) (hb : 0 ≤ b) : -(m * b) ≤ b * a ∧ b * a ≤ m * b := by
  have g1 := Int.mul_le_mul_of_nonneg_right h2 hb
  have g2 := Int.mul_le_mul_of_nonneg_right h1 hb
  rw [Int.neg_mul] at g2
  rw [Int.mul_comm b a]
  exact ⟨g2, g1⟩

/-- What a clock that goes a little wrong shows within a round. -/
theorem dev_in {R rho D s rate t : Int} (hD : D = (2 * rho * R + 999999) / 1000000 + 2) (hr : -rho ≤ rate ∧ rate ≤ rho) (h0 : 0 ≤ t - s) (h1 : t - s ≤ R) :
    -D ≤ 2 * (localT s rate t - (t - s)) ∧ 2 * (localT s rate t - (t - s)) ≤ D - 2 := by
  have g := mul_in hr.1 hr.2 h0
  have g2 := Int.mul_le_mul_of_nonneg_left h1 (show 0 ≤ rho by omega)
  unfold localT
  rw [Int.mul_add]
  rw [Int.mul_assoc] at hD
  generalize (t - s) * rate = Q at *
  generalize rho * (t - s) = Q1 at *
  generalize rho * R = Q2 at *
  omega
/-- When it shows so much, within a round and a third. -/
theorem next_in {R rho D s rate l : Int} (hD : D = (2 * rho * R + 999999) / 1000000 + 2) (hr : -rho ≤ rate ∧ rate ≤ rho) (hrho : rho ≤ 200) (hR : 100 ≤ R) (h0 : 0 ≤ l) (h1 : 3 * l ≤ 4 * R) :
    -(3 * (D - 2)) ≤ 4 * (realT s rate l - s - l) ∧ 4 * (realT s rate l - s - l) ≤ 3 * (D - 2) + 4 := by
  have hk : 0 < 1000000 + rate := by omega
  have h := div_in (-(l * 1000000)) hk
  unfold realT
  generalize -(l * 1000000) / (1000000 + rate) = q' at h ⊢
  obtain ⟨q, rfl⟩ : ∃ q, q' = -q := ⟨-q', by omega⟩
  rw [show s - -q - s - l = q - l by omega]
  rw [Int.mul_neg, Int.add_mul] at h
  have hq0 : 0 ≤ q := by
    by_cases c : 0 ≤ q
    · exact c
    · have a := mul_in hr.1 hr.2 (show 0 ≤ -q by omega)
      rw [Int.neg_mul, Int.mul_neg, Int.mul_comm q rate] at a
      have b := Int.mul_le_mul_of_nonneg_right hrho (show 0 ≤ -q by omega)
      rw [Int.mul_neg, Int.mul_neg] at b
      omega
  have a := mul_in hr.1 hr.2 hq0
  rw [Int.mul_comm q rate] at a
  have b := Int.mul_le_mul_of_nonneg_right hrho hq0
  have hq1 : 2 * q ≤ 3 * R := by omega
  have c := Int.mul_le_mul_of_nonneg_left hq1 (show 0 ≤ rho by omega)
  rw [Int.mul_assoc] at hD
  rw [show rho * (2 * q) = 2 * (rho * q) by rw [Int.mul_left_comm], show rho * (3 * R) = 3 * (rho * R) by rw [Int.mul_left_comm]] at c
  generalize rate * q = Q at *
  generalize rho * q = Q1 at *
  generalize rho * R = Q2 at *
  omega

/-- The numbers of tables that work, as far as a round's end needs them. -/
structure Num (rho R D P slot nodes margin dmin dmax : Int) : Prop where
  drift : D = (2 * rho * R + 999999) / 1000000 + 2
  prec : P = 4 * (dmax - dmin) + 16 * D + 64
  rho0 : 0 ≤ rho
  rho1 : rho ≤ 200
  dmin0 : 0 ≤ dmin
  dmax0 : dmin ≤ dmax
  D0 : 2 ≤ D
  margin0 : P + (dmax - dmin) + D ≤ margin
  slot0 : 2 * margin + dmax + P ≤ slot
  round : nodes * slot ≤ R
  nodes0 : 1 ≤ nodes

variable {rho R D P slot nodes margin dmin dmax : Int}

/-- When a plain frame comes, within the round of who hears it. -/
theorem when_in (H : Num rho R D P slot nodes margin dmin dmax) {base s si i delay : Int} (hi : 0 ≤ i ∧ i < nodes) (hs : base ≤ s ∧ s ≤ base + P / 2) (hsi : base ≤ si ∧ si ≤ base + P / 2)
    (hd : 0 ≤ delay ∧ delay ≤ dmax - dmin) :
    0 ≤ si + (i * slot + margin) + dmin + delay - s ∧ si + (i * slot + margin) + dmin + delay - s ≤ R := by
  obtain ⟨h1, h2, h3, h4, h5, h6, h7, h8, h9, h10, h11⟩ := H
  have hs0 : 0 ≤ slot := by omega
  have a1 := Int.mul_nonneg hi.1 hs0
  have a2 := Int.mul_le_mul_of_nonneg_right (show i ≤ nodes - 1 by omega) hs0
  rw [Int.sub_mul, Int.one_mul] at a2
  generalize i * slot = I at *
  generalize nodes * slot = N at *
  clear h1
  omega
/-- Its deviation, as one that hears it reads it, beside that one's own beginning. -/
theorem dev_lies (H : Num rho R D P slot nodes margin dmin dmax) {base s si i delay rate : Int} (hr : -rho ≤ rate ∧ rate ≤ rho) (hi : 0 ≤ i ∧ i < nodes) (hs : base ≤ s ∧ s ≤ base + P / 2) (hsi : base ≤ si ∧ si ≤ base + P / 2)
    (hd : 0 ≤ delay ∧ delay ≤ dmax - dmin) :
    -D ≤ 2 * (localT s rate (si + (i * slot + margin) + dmin + delay) - (i * slot + margin) - (dmin + (dmax - dmin) / 2) + s - si - (delay - (dmax - dmin) / 2)) ∧
    2 * (localT s rate (si + (i * slot + margin) + dmin + delay) - (i * slot + margin) - (dmin + (dmax - dmin) / 2) + s - si - (delay - (dmax - dmin) / 2)) ≤ D - 2 := by
  obtain ⟨w1, w2⟩ := when_in H hi hs hsi hd
  have h := dev_in H.drift hr w1 w2
  generalize localT s rate (si + (i * slot + margin) + dmin + delay) = L at *
  generalize i * slot = I at *
  omega

/-- What two that hear the same others begin their next rounds at: s, t: their beginnings; A, B: what each reads, place by place. -/
theorem meet_again (H : Num rho R D P slot nodes margin dmin dmax) {base s t rs rt : Int} (hrs : -rho ≤ rs ∧ rs ≤ rho) (hrt : -rho ≤ rt ∧ rt ≤ rho)
    (hs : base ≤ s ∧ s ≤ base + P / 2) (ht : base ≤ t ∧ t ≤ base + P / 2)
    {A B S T : List Int} (hS : Rising S) (hT : Rising T) (hSA : S.Perm A) (hTB : T.Perm B) (hl : A.length = B.length) {f : Nat} (hf : 3 * f < A.length)
    (bad : Nat → Bool) (hb : (List.range A.length).countP bad ≤ f)
    (hA : ∀ i, i < A.length → bad i = false → ∃ v, base ≤ v ∧ v ≤ base + P / 2 ∧
      ∃ p q, -((dmax - dmin) / 2) ≤ p ∧ p ≤ dmax - dmin - (dmax - dmin) / 2 ∧ -((dmax - dmin) / 2) ≤ q ∧ q ≤ dmax - dmin - (dmax - dmin) / 2 ∧
        -D ≤ 2 * (A.getD i 0 + s - v - p) ∧ 2 * (A.getD i 0 + s - v - p) ≤ D - 2 ∧ -D ≤ 2 * (B.getD i 0 + t - v - q) ∧ 2 * (B.getD i 0 + t - v - q) ≤ D - 2)
    (h1 : f < S.length) (h2 : S.length - 1 - f < S.length) (h3 : f < T.length) (h4 : T.length - 1 - f < T.length) :
    realT s rs (R + (S[f] + S[S.length - 1 - f]) / 2) - realT t rt (R + (T[f] + T[T.length - 1 - f]) / 2) ≤ P / 2 ∧
    realT t rt (R + (T[f] + T[T.length - 1 - f]) / 2) - realT s rs (R + (S[f] + S[S.length - 1 - f]) / 2) ≤ P / 2 := by
  have lS := hSA.length_eq
  have lT := hTB.length_eq
  have a1 : base - (dmax - dmin) / 2 - (D + 1) / 2 - s ≤ S[f] := holds_lo hS hSA bad hb (fun i hi hg => by
    obtain ⟨v, v1, v2, p, q, p1, p2, q1, q2, g1, g2, g3, g4⟩ := hA i hi hg; omega) h1 (Nat.le_refl f)
  have a2 : S[S.length - 1 - f] ≤ base + P / 2 + (dmax - dmin - (dmax - dmin) / 2) + (D - 2) / 2 - s := holds_hi hS hSA bad hb (fun i hi hg => by
    obtain ⟨v, v1, v2, p, q, p1, p2, q1, q2, g1, g2, g3, g4⟩ := hA i hi hg; omega) h2 (by omega)
  have a3 : base - (dmax - dmin) / 2 - (D + 1) / 2 - t ≤ T[f] := holds_lo hT hTB bad (by rw [← hl]; exact hb) (fun i hi hg => by
    obtain ⟨v, v1, v2, p, q, p1, p2, q1, q2, g1, g2, g3, g4⟩ := hA i (by omega) hg; omega) h3 (Nat.le_refl f)
  have a4 : T[T.length - 1 - f] ≤ base + P / 2 + (dmax - dmin - (dmax - dmin) / 2) + (D - 2) / 2 - t := holds_hi hT hTB bad (by rw [← hl]; exact hb) (fun i hi hg => by
    obtain ⟨v, v1, v2, p, q, p1, p2, q1, q2, g1, g2, g3, g4⟩ := hA i (by omega) hg; omega) h4 (by omega)
  have a5 : S[f] ≤ T[T.length - 1 - f] + (t - s + (dmax - dmin) + D - 1) := meets hS hSA hT hTB hl hf bad hb (fun i hi hg => by
    obtain ⟨v, v1, v2, p, q, p1, p2, q1, q2, g1, g2, g3, g4⟩ := hA i hi hg; omega) h1 h4
  have a6 : T[f] ≤ S[S.length - 1 - f] + (s - t + (dmax - dmin) + D - 1) := meets hT hTB hS hSA hl.symm (by omega) bad (by rw [← hl]; exact hb) (fun i hi hg => by
    obtain ⟨v, v1, v2, p, q, p1, p2, q1, q2, g1, g2, g3, g4⟩ := hA i (by omega) hg; omega) h3 h2
  have a7 : S[f] ≤ S[S.length - 1 - f] := rising_le hS (by omega) h2
  have a8 : T[f] ≤ T[T.length - 1 - f] := rising_le hT (by omega) h4
  generalize S[f] = a at *
  generalize S[S.length - 1 - f] = b at *
  generalize T[f] = c at *
  generalize T[T.length - 1 - f] = d at *
  clear hA hS hT
  have hR : 2 * margin + P + dmax ≤ R := by
    have h1 := H.slot0
    have h2 := H.round
    have h3 := Int.mul_le_mul_of_nonneg_right H.nodes0 (show 0 ≤ slot by have := H.margin0; have := H.dmax0; have := H.dmin0; have := H.D0; have := H.prec; omega)
    omega
  have hm := H.margin0
  have hp := H.prec
  have hD0 := H.D0
  have hx := H.dmax0
  have hn := H.dmin0
  have e1 := next_in (s := s) (l := R + (a + b) / 2) H.drift hrs H.rho1 (by omega) (by omega) (by omega)
  have e2 := next_in (s := t) (l := R + (c + d) / 2) H.drift hrt H.rho1 (by omega) (by omega) (by omega)
  have m := middles_near (a := a + s) (b := b + s) (c := c + t) (d := d + t) (x := dmax - dmin + D - 1) (lo := base - (dmax - dmin) / 2 - (D + 1) / 2) (hi := base + P / 2 + (dmax - dmin - (dmax - dmin) / 2) + (D - 2) / 2)
    (by omega) (by omega) (by omega) (by omega) (by omega) (by omega)
  generalize realT s rs (R + (a + b) / 2) = X at *
  generalize realT t rt (R + (c + d) / 2) = Y at *
  clear a1 a2 a3 a4 a5 a6
  omega
end PacP
namespace MidP

/-- Rising. -/
def srt (l : List Int) : List Int := l.mergeSort fun x y => decide (x ≤ y)
theorem srt_perm (l : List Int) : (srt l).Perm l := List.mergeSort_perm l _
theorem srt_length (l : List Int) : (srt l).length = l.length := (srt_perm l).length_eq
theorem srt_rising (l : List Int) : Rising (srt l) := by
  have h := List.pairwise_mergeSort (le := fun x y : Int => decide (x ≤ y)) (fun a b c h1 h2 => by simp at h1 h2 ⊢; omega) (fun a b => by simp; omega) l
  exact h.imp fun {a b} h => by simpa using h
theorem srt_unique {s l : List Int} (hs : Rising s) (hp : s.Perm l) : s = srt l := rising_unique hs (srt_rising l) (hp.trans (srt_perm l).symm)
theorem srt_of_perm {l m : List Int} (h : l.Perm m) : srt l = srt m := srt_unique (srt_rising l) ((srt_perm l).trans h)
theorem srt_add (l : List Int) (by_ : Int) : srt (l.map (· + by_)) = (srt l).map (· + by_) := by
  symm
  refine srt_unique ?_ ((srt_perm l).map _)
  exact List.Pairwise.map _ (fun a b h => by omega) (srt_rising l)

/-- Put into its place: behind all that are no greater. -/
def insAt (x : Int) (l : List Int) (at_ : Nat) : List Int := l.take at_ ++ x :: l.drop at_
theorem insAt_perm (x : Int) (l : List Int) (at_ : Nat) : (insAt x l at_).Perm (l ++ [x]) := by
  unfold insAt
  have h1 : (l.take at_ ++ x :: l.drop at_).Perm (x :: (l.take at_ ++ l.drop at_)) := List.perm_middle
  rw [List.take_append_drop] at h1
  exact h1.trans (List.perm_append_comm (l₁ := [x]) (l₂ := l))
theorem insAt_rising {x : Int} {l : List Int} {at_ : Nat} (hl : Rising l) (hat : at_ ≤ l.length) (h1 : ∀ y, 0 < at_ → l[at_ - 1]? = some y → y ≤ x) (h2 : ∀ i y, at_ ≤ i → l[i]? = some y → x < y) : Rising (insAt x l at_) := by
  unfold insAt Rising
  have hd : ∀ b ∈ l.drop at_, x < b := fun b hb => by
    obtain ⟨i, hi, rfl⟩ := List.getElem_of_mem hb
    rw [List.length_drop] at hi
    rw [List.getElem_drop]
    exact h2 (at_ + i) _ (by omega) (List.getElem?_eq_getElem (by omega))
  have ht : ∀ a ∈ l.take at_, a ≤ x := fun a ha => by
    obtain ⟨i, hi, rfl⟩ := List.getElem_of_mem ha
    rw [List.length_take] at hi
    rw [List.getElem_take]
    have hlast := h1 (l[at_ - 1]'(by omega)) (by omega) (List.getElem?_eq_getElem (by omega))
    have := rising_le hl (i := i) (j := at_ - 1) (by omega) (by omega)
    omega
  rw [List.pairwise_append]
  refine ⟨List.Pairwise.sublist (List.take_sublist at_ l) hl, List.pairwise_cons.2 ⟨fun b hb => Int.le_of_lt (hd b hb), List.Pairwise.sublist (List.drop_sublist at_ l) hl⟩, fun a ha b hb => ?_⟩
  rcases List.mem_cons.1 hb with rfl | hb
  · exact ht a ha
  · have := ht a ha
    have := hd b hb
    omega

/-- Cut's list, and its ends. -/
def cutT (l : List Int) (f : Nat) : List Int := ((srt l).take (l.length - f)).drop f
theorem cutT_length {l : List Int} {f : Nat} : (cutT l f).length = l.length - 2 * f := by
  unfold cutT; rw [List.length_drop, List.length_take, srt_length]; omega
theorem cutT_at {l : List Int} {f k : Nat} (h : k < l.length - 2 * f) : (cutT l f)[k]? = (srt l)[f + k]? := by
  unfold cutT
  rw [List.getElem?_drop, List.getElem?_take, if_pos (by omega)]
def firstT (l : List Int) (f : Nat) : Int := (srt l).getD f 0
def lastT (l : List Int) (f : Nat) : Int := (srt l).getD (l.length - 1 - f) 0
def midT (l : List Int) (f : Nat) : Int := (firstT l f + lastT l f) / 2
theorem first_at {l : List Int} {f : Nat} (h : 2 * f + 1 ≤ l.length) : (cutT l f)[0]? = some (firstT l f) := by
  have hs := srt_length l
  rw [cutT_at (by omega), Nat.add_zero, List.getElem?_eq_getElem (by omega)]
  unfold firstT
  rw [List.getD_eq_getElem?_getD, List.getElem?_eq_getElem (by omega)]; rfl
theorem last_at {l : List Int} {f : Nat} (h : 2 * f + 1 ≤ l.length) : (cutT l f)[l.length - 2 * f - 1]? = some (lastT l f) := by
  have hs := srt_length l
  have e : f + (l.length - 2 * f - 1) = l.length - 1 - f := by omega
  rw [cutT_at (by omega), e, List.getElem?_eq_getElem (by omega)]
  unfold lastT
  rw [List.getD_eq_getElem?_getD, List.getElem?_eq_getElem (by omega)]; rfl
theorem firstT_get {l : List Int} {f : Nat} (h : f < (srt l).length) : firstT l f = (srt l)[f] := by
  unfold firstT
  rw [List.getD_eq_getElem?_getD, List.getElem?_eq_getElem h]; rfl
theorem lastT_get {l : List Int} {f : Nat} (h : l.length - 1 - f < (srt l).length) : lastT l f = (srt l)[l.length - 1 - f] := by
  unfold lastT
  rw [List.getD_eq_getElem?_getD, List.getElem?_eq_getElem h]; rfl
theorem first_le_last {l : List Int} {f : Nat} (h : 2 * f + 1 ≤ l.length) : firstT l f ≤ lastT l f := by
  have hs := srt_length l
  rw [firstT_get (by omega), lastT_get (by omega)]
  exact rising_le (srt_rising l) (by omega) (by omega)
/-- All from lo to hi. -/
def In (lo hi : Int) (l : List Int) : Prop := ∀ x ∈ l, lo ≤ x ∧ x ≤ hi
theorem In.get {lo hi : Int} {l : List Int} (h : In lo hi l) {i : Nat} {x : Int} (hx : l[i]? = some x) : lo ≤ x ∧ x ≤ hi := h x (List.mem_of_getElem? hx)
theorem In.srt {lo hi : Int} {l : List Int} (h : In lo hi l) : In lo hi (srt l) := fun x hx => h x ((srt_perm l).mem_iff.1 hx)
theorem ends_in {lo hi : Int} {l : List Int} {f : Nat} (hl : In lo hi l) (h : 2 * f + 1 ≤ l.length) : (lo ≤ firstT l f ∧ firstT l f ≤ hi) ∧ (lo ≤ lastT l f ∧ lastT l f ≤ hi) := by
  have hs := srt_length l
  refine ⟨?_, ?_⟩
  · rw [firstT_get (by omega)]
    exact hl.srt _ (List.getElem_mem _)
  · rw [lastT_get (by omega)]
    exact hl.srt _ (List.getElem_mem _)
theorem mid_in {lo hi : Int} {l : List Int} {f : Nat} (hl : In lo hi l) (h : 2 * f + 1 ≤ l.length) : lo ≤ midT l f ∧ midT l f ≤ hi := by
  have := ends_in hl h
  unfold midT
  omega

theorem bad_few (n f : Nat) : (List.range n).countP (fun i => decide (i < f)) ≤ f := by
  by_cases hnf : n ≤ f
  · have := List.countP_le_length (p := fun i => decide (i < f)) (l := List.range n)
    rw [List.length_range] at this
    omega
  have e : List.range n = List.range f ++ (List.range' f (n - f)) := by
    have h1 : List.range' 0 (f + (n - f)) = List.range' 0 f ++ List.range' (0 + f) (n - f) := List.range'_append_1.symm
    rw [Nat.zero_add, show f + (n - f) = n by omega] at h1
    rw [List.range_eq_range', List.range_eq_range']
    exact h1
  rw [e, List.countP_append]
  have h0 : (List.range' f (n - f)).countP (fun i => decide (i < f)) = 0 := by
    rw [List.countP_eq_zero]
    intro i hi
    have := List.mem_range'_1.1 hi
    simp; omega
  rw [h0]
  have := List.countP_le_length (p := fun i => decide (i < f)) (l := List.range f)
  rw [List.length_range] at this
  omega
/-- Whatever the first f are: the middle lies among the others. -/
theorem mid_holds {l : List Int} {f : Nat} {lo hi : Int} (h : 2 * f + 1 ≤ l.length) (hg : ∀ i x, f ≤ i → l[i]? = some x → lo ≤ x ∧ x ≤ hi) : lo ≤ midT l f ∧ midT l f ≤ hi := by
  have hs := srt_length l
  have hb := bad_few l.length f
  have hg2 : ∀ i, i < l.length → decide (i < f) = false → lo ≤ l.getD i 0 ∧ l.getD i 0 ≤ hi := fun i hi hn => by
    have hn : ¬ i < f := by simpa using hn
    have := hg i (l[i]) (by omega) (List.getElem?_eq_getElem hi)
    rw [List.getD_eq_getElem?_getD, List.getElem?_eq_getElem hi]
    exact this
  have a1 := holds_lo (srt_rising l) (srt_perm l) (fun i => decide (i < f)) hb (fun i hi hn => (hg2 i hi hn).1) (k := f) (by omega) (Nat.le_refl _)
  have a2 := holds_hi (srt_rising l) (srt_perm l) (fun i => decide (i < f)) hb (fun i hi hn => (hg2 i hi hn).2) (k := l.length - 1 - f) (by omega) (by omega)
  have a3 := first_le_last h
  rw [← firstT_get] at a1
  rw [← lastT_get] at a2
  unfold midT
  omega
/-- Two lists that are near, but for the first f places. -/
theorem mid_meets {l m : List Int} {f : Nat} {lo hi x : Int} (hlm : l.length = m.length) (h3 : 3 * f < l.length) (hx : 0 ≤ x)
    (hl : ∀ i y, f ≤ i → l[i]? = some y → lo ≤ y ∧ y ≤ hi) (hm : ∀ i y, f ≤ i → m[i]? = some y → lo ≤ y ∧ y ≤ hi)
    (hn : ∀ i y z, f ≤ i → l[i]? = some y → m[i]? = some z → y ≤ z + x ∧ z ≤ y + x) :
    midT l f - midT m f ≤ (hi - lo + 1) / 2 + x + 1 ∧ midT m f - midT l f ≤ (hi - lo + 1) / 2 + x + 1 := by
  have hsl := srt_length l
  have hsm := srt_length m
  have hb := bad_few l.length f
  have hb2 := bad_few m.length f
  have g : ∀ (k : List Int), k.length = l.length → (∀ i y, f ≤ i → k[i]? = some y → lo ≤ y ∧ y ≤ hi) → ∀ i, i < l.length → decide (i < f) = false → lo ≤ k.getD i 0 ∧ k.getD i 0 ≤ hi := fun k hk hh i hi hn => by
    have hn : ¬ i < f := by simpa using hn
    have := hh i (k[i]) (by omega) (List.getElem?_eq_getElem (by omega))
    rw [List.getD_eq_getElem?_getD, List.getElem?_eq_getElem (by omega)]
    exact this
  have gl := g l rfl hl
  have gm := g m hlm.symm hm
  have gn : ∀ i, i < l.length → decide (i < f) = false → l.getD i 0 ≤ m.getD i 0 + x ∧ m.getD i 0 ≤ l.getD i 0 + x := fun i hi hn2 => by
    have hn2 : ¬ i < f := by simpa using hn2
    have := hn i (l[i]) (m[i]) (by omega) (List.getElem?_eq_getElem (by omega)) (List.getElem?_eq_getElem (by omega))
    rw [List.getD_eq_getElem?_getD, List.getElem?_eq_getElem (by omega), List.getD_eq_getElem?_getD, List.getElem?_eq_getElem (by omega)]
    exact this
  have a1 := holds_lo (srt_rising l) (srt_perm l) (fun i => decide (i < f)) hb (fun i hi hn => (gl i hi hn).1) (k := f) (by omega) (Nat.le_refl _)
  have a2 := holds_hi (srt_rising l) (srt_perm l) (fun i => decide (i < f)) hb (fun i hi hn => (gl i hi hn).2) (k := l.length - 1 - f) (by omega) (by omega)
  have b1 := holds_lo (srt_rising m) (srt_perm m) (fun i => decide (i < f)) hb2 (fun i hi hn => (gm i (by omega) hn).1) (k := f) (by omega) (Nat.le_refl _)
  have b2 := holds_hi (srt_rising m) (srt_perm m) (fun i => decide (i < f)) hb2 (fun i hi hn => (gm i (by omega) hn).2) (k := m.length - 1 - f) (by omega) (by omega)
  have c1 := meets (srt_rising l) (srt_perm l) (srt_rising m) (srt_perm m) hlm h3 (x := x) (fun i => decide (i < f)) hb (fun i hi hn => (gn i hi hn).1) (by omega) (by omega)
  have c2 := meets (srt_rising m) (srt_perm m) (srt_rising l) (srt_perm l) hlm.symm (by omega) (x := x) (fun i => decide (i < f)) hb2 (fun i hi hn => (gn i (by omega) hn).2) (by omega) (by omega)
  have e1 : (srt m)[(srt m).length - 1 - f]'(by omega) = lastT m f := by rw [lastT_get (by omega)]; congr 1; omega
  have e2 : (srt l)[(srt l).length - 1 - f]'(by omega) = lastT l f := by rw [lastT_get (by omega)]; congr 1; omega
  rw [e1, ← firstT_get] at c1
  rw [e2, ← firstT_get] at c2
  rw [← firstT_get] at a1 b1
  rw [← lastT_get] at a2 b2
  exact middles a1 a2 b1 b2 c1 c2 hx
/-- All numbers more by one number, in whatever order. -/
theorem mid_moves {l m : List Int} {f : Nat} {by_ : Int} (hp : m.Perm (l.map (· + by_))) (h : 2 * f + 1 ≤ l.length) : midT m f = midT l f + by_ := by
  have hs := srt_length l
  have hlen : m.length = l.length := by rw [hp.length_eq, List.length_map]
  have hsm := srt_length m
  have e : srt m = (srt l).map (· + by_) := by rw [srt_of_perm hp, srt_add]
  have e1 : firstT m f = firstT l f + by_ := by
    rw [firstT_get (by omega), firstT_get (by omega)]
    simp only [e, List.getElem_map]
  have e2 : lastT m f = lastT l f + by_ := by
    rw [lastT_get (by omega), lastT_get (by omega)]
    simp only [e, List.getElem_map, hlen]
  unfold midT
  rw [e1, e2]
  omega

/-- Halfway between two ints, rounded down, as the program reckons it. -/
theorem halfway_is {a b : Int} : a + (b - a) / 2 = (a + b) / 2 := by omega
/-- .. and as the document does. -/
theorem halves {a b : Int} : a / 2 + b / 2 + (if a % 2 = 1 ∧ b % 2 = 1 then 1 else 0) = (a + b) / 2 := by
  split <;> omega

/-- In how many places a number stands. -/
def cnt (x : Int) (l : List Int) : Nat := l.countP (· == x)
theorem cnt_nil (x : Int) : cnt x [] = 0 := rfl
theorem cnt_le (x : Int) (l : List Int) : cnt x l ≤ l.length := List.countP_le_length
theorem cnt_more (x y : Int) (l : List Int) : cnt x (l ++ [y]) = cnt x l + if y = x then 1 else 0 := by
  unfold cnt
  rw [List.countP_append]
  congr 1
  by_cases h : y = x <;> simp [h]
theorem cnt_take {l : List Int} {k : Nat} {y : Int} (x : Int) (h : l[k]? = some y) : cnt x (l.take (k + 1)) = cnt x (l.take k) + if y = x then 1 else 0 := by
  rw [List.take_add_one, h]
  exact cnt_more x y _
/-- That stands in more than half of the places. -/
def Most (l : List Int) (x : Int) : Prop := l.length < 2 * cnt x l
theorem most_one {l : List Int} {x y : Int} (hx : Most l x) (hy : Most l y) : x = y := by
  obtain ⟨_, h1⟩ := most_mid (srt_rising l) (srt_perm l) hx
  obtain ⟨_, h2⟩ := most_mid (srt_rising l) (srt_perm l) hy
  exact h1.symm.trans h2
/-- What Most answers. -/
def mostT (l : List Int) : Int × Bool :=
  match l.find? (fun x => decide (l.length < 2 * cnt x l)) with
  | some x => (x, true)
  | none => (0, false)
theorem mostT_yes {l : List Int} {x : Int} (h : Most l x) : mostT l = (x, true) := by
  unfold mostT
  cases hf : l.find? (fun x => decide (l.length < 2 * cnt x l)) with
  | some y =>
    have hy : Most l y := by have := List.find?_some hf; simpa [Most] using this
    rw [most_one h hy]
  | none =>
    have h0 := List.find?_eq_none.1 hf
    have hpos : 0 < cnt x l := by unfold Most at h; omega
    obtain ⟨y, hy, e⟩ := List.countP_pos_iff.1 hpos
    have e : y = x := by simpa using e
    subst e
    have := h0 y hy
    simp [Most] at this h
    omega
theorem mostT_no {l : List Int} (h : ∀ x, x ∈ l → ¬ Most l x) : mostT l = (0, false) := by
  unfold mostT
  cases hf : l.find? (fun x => decide (l.length < 2 * cnt x l)) with
  | some y =>
    have hy : Most l y := by have := List.find?_some hf; simpa [Most] using this
    exact absurd hy (h y (List.mem_of_find?_eq_some hf))
  | none => rfl

/-- Behind some numbers: the one that is left, and its lead. -/
def Lead (p : List Int) (n lead : Int) : Prop := 0 ≤ lead ∧ lead ≤ p.length ∧ (2 * (cnt n p : Int) ≤ p.length + lead) ∧ ∀ y, y ≠ n → 2 * (cnt y p : Int) ≤ p.length - lead
theorem lead_start : Lead [] 0 0 := ⟨by omega, by simp, by simp [cnt], fun y _ => by simp [cnt]⟩
theorem lead_new {p : List Int} {n : Int} (h : Lead p n 0) (x : Int) : Lead (p ++ [x]) x 1 := by
  obtain ⟨h1, h2, h3, h4⟩ := h
  have h5 : ∀ y, 2 * (cnt y p : Int) ≤ p.length := fun y => by
    by_cases hy : y = n
    · subst hy; omega
    · have := h4 y hy; omega
  refine ⟨by omega, by rw [List.length_append]; simp; omega, ?_, fun y hy => ?_⟩
  · have := h5 x
    rw [cnt_more, if_pos rfl, List.length_append]
    simp; omega
  · have := h5 y
    rw [cnt_more, if_neg (fun e => hy e.symm), List.length_append]
    simp; omega
theorem lead_same {p : List Int} {n lead : Int} (h : Lead p n lead) : Lead (p ++ [n]) n (lead + 1) := by
  obtain ⟨h1, h2, h3, h4⟩ := h
  refine ⟨by omega, by simp; omega, ?_, fun y hy => ?_⟩
  · rw [cnt_more, if_pos rfl, List.length_append]
    simp; omega
  · have := h4 y hy
    rw [cnt_more, if_neg (fun e => hy e.symm), List.length_append]
    simp; omega
theorem lead_other {p : List Int} {n lead x : Int} (h : Lead p n lead) (h0 : lead ≠ 0) (hx : x ≠ n) : Lead (p ++ [x]) n (lead - 1) := by
  obtain ⟨h1, h2, h3, h4⟩ := h
  refine ⟨by omega, by simp; omega, ?_, fun y hy => ?_⟩
  · rw [cnt_more, if_neg hx, List.length_append]
    simp; omega
  · have := h4 y hy
    rw [cnt_more, List.length_append]
    by_cases e : x = y
    · rw [if_pos e]; simp; omega
    · rw [if_neg e]; simp; omega
theorem lead_most {l : List Int} {n lead : Int} (h : Lead l n lead) : mostT l = if cnt n l ≤ l.length / 2 then (0, false) else (n, true) := by
  obtain ⟨h1, h2, h3, h4⟩ := h
  split
  · refine mostT_no fun x _ hm => ?_
    unfold Most at hm
    by_cases e : x = n
    · subst e; omega
    · have := h4 x e; omega
  · exact mostT_yes (by unfold Most; omega)
/-- None so far stands in more than half of the places. -/
theorem most_none {l : List Int} (h : ∀ (k : Nat) (x : Int), l[k]? = some x → ¬ Most l x) : mostT l = (0, false) :=
  mostT_no fun x hx => by
    obtain ⟨k, hk⟩ := List.getElem?_of_mem hx
    exact h k x hk
/-- A number that stands in one place more than the others do together is found, wherever they stand. -/
theorem most_turned {l : List Int} {x : Int} {from_ : Nat} : mostT ((l ++ List.replicate (l.length + 1) x).drop from_ ++ (l ++ List.replicate (l.length + 1) x).take from_) = (x, true) := by
  refine mostT_yes ?_
  have hp : ((l ++ List.replicate (l.length + 1) x).drop from_ ++ (l ++ List.replicate (l.length + 1) x).take from_).Perm (l ++ List.replicate (l.length + 1) x) := by
    have h1 := List.perm_append_comm (l₁ := (l ++ List.replicate (l.length + 1) x).drop from_) (l₂ := (l ++ List.replicate (l.length + 1) x).take from_)
    rwa [List.take_append_drop] at h1
  unfold Most cnt
  rw [hp.length_eq, hp.countP_eq, List.countP_append, List.length_append, List.length_replicate, List.countP_replicate]
  simp
  omega

/-- How many of a list's numbers lie below what is left, and above. -/
theorem less_few {l : List Int} {f : Nat} (h : 2 * f + 1 ≤ l.length) : l.countP (fun x => decide (x < firstT l f)) ≤ f := by
  have hs := srt_length l
  have := count_lt (srt_rising l) (srt_perm l) (k := f) (by omega)
  rwa [← firstT_get] at this
theorem more_few {l : List Int} {f : Nat} (h : 2 * f + 1 ≤ l.length) : l.countP (fun x => decide (lastT l f < x)) ≤ f := by
  have hs := srt_length l
  have := count_gt (srt_rising l) (srt_perm l) (k := l.length - 1 - f) (by omega)
  rw [← lastT_get] at this
  omega
theorem cut_rises {l : List Int} {f k : Nat} {x y : Int} (h1 : (cutT l f)[k]? = some x) (h2 : (cutT l f)[k + 1]? = some y) : x ≤ y := by
  have hk : k + 1 < (cutT l f).length := (List.getElem?_eq_some_iff.1 h2).1
  rw [cutT_length] at hk
  rw [cutT_at (by omega)] at h1
  rw [cutT_at (by omega)] at h2
  obtain ⟨a1, rfl⟩ := List.getElem?_eq_some_iff.1 h1
  obtain ⟨a2, rfl⟩ := List.getElem?_eq_some_iff.1 h2
  exact rising_le (srt_rising l) (by omega) a2
end MidP
