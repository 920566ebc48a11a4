/- Plain: clocks that drift (chapter 7). No conditions beyond those that each states. -/
import Derived.KernelRfl
namespace ClkP

/-- What a clock shows, rounded down. -/
def localT (since rate real : Int) : Int := (real - since) * (1000000 + rate) / 1000000
/-- When it shows so much first. -/
def realT (since rate loc : Int) : Int := since - -(loc * 1000000) / (1000000 + rate)

theorem quo_up {a b : Int} (h : 0 ≤ a) : a.tdiv b = a / b := Int.tdiv_eq_ediv_of_nonneg h
theorem quo_down {a b : Int} (h : a ≤ 0) : a.tdiv b = -(-a / b) := by
  have : a = -(-a) := by omega
  rw [this, Int.neg_tdiv, Int.tdiv_eq_ediv_of_nonneg (by omega)]
  simp
theorem rest_up {a b : Int} (h : 0 ≤ a) : a.tmod b = a % b := Int.tmod_eq_emod_of_nonneg h
theorem rest_lt {a b : Int} (hb : 0 < b) : -b < a.tmod b ∧ a.tmod b < b :=
  ⟨Int.lt_tmod_of_pos a hb, Int.tmod_lt_of_pos a hb⟩
theorem quo_rest (a b : Int) : b * a.tdiv b + a.tmod b = a := Int.mul_tdiv_add_tmod a b
/-- Between which the quotient rounded down lies. -/
theorem div_in (a : Int) {b : Int} (hb : 0 < b) : b * (a / b) ≤ a ∧ a < b * (a / b) + b := by
  have h1 := Int.mul_ediv_add_emod a b
  have h2 := Int.emod_nonneg a (Int.ne_of_gt hb)
  have h3 := Int.emod_lt_of_pos a hb
  omega
theorem div_eq {a b q : Int} (hb : 0 < b) (h1 : b * q ≤ a) (h2 : a < b * q + b) : a / b = q := by
  have h3 := Int.le_ediv_iff_mul_le (a := q) (b := a) hb
  have h4 := Int.ediv_lt_iff_lt_mul (a := a) (b := q + 1) hb
  have h5 : q ≤ a / b := h3.2 (by rw [Int.mul_comm]; exact h1)
  have h6 : a / b < q + 1 := h4.2 (by rw [Int.mul_comm, Int.mul_add, Int.mul_one]; exact h2)
  omega
/-- The document's quotient, rounded down. -/
theorem down_no {a b : Int} (hb : 0 < b) (h : ¬ a.tmod b < 0) : (a - a.tmod b).tdiv b = a / b := by
  have h1 := quo_rest a b
  have h2 := rest_lt (a := a) hb
  have h3 : a / b = a.tdiv b := div_eq hb (by omega) (by omega)
  rw [h3, show a - a.tmod b = a.tdiv b * b by rw [Int.mul_comm]; omega, Int.mul_tdiv_cancel _ (by omega)]
theorem down_yes {a b : Int} (hb : 0 < b) (h : a.tmod b < 0) : (a - (a.tmod b + b)).tdiv b = a / b := by
  have h1 := quo_rest a b
  have h2 := rest_lt (a := a) hb
  have e : b * (a.tdiv b - 1) = b * a.tdiv b - b := by rw [Int.mul_sub, Int.mul_one]
  have h3 : a / b = a.tdiv b - 1 := div_eq hb (by omega) (by omega)
  rw [h3, show a - (a.tmod b + b) = (a.tdiv b - 1) * b by rw [Int.mul_comm]; omega, Int.mul_tdiv_cancel _ (by omega)]
/-- A quotient towards 0, put right by its rest (other spellings of rounding down). -/
theorem floor_no {a b : Int} (hb : 0 < b) (h : ¬ a.tmod b < 0) : a.tdiv b = a / b := by
  have h1 := quo_rest a b
  have h2 := rest_lt (a := a) hb
  exact (div_eq hb (by omega) (by omega)).symm
theorem floor_yes {a b : Int} (hb : 0 < b) (h : a.tmod b < 0) : a.tdiv b - 1 = a / b := by
  have h1 := quo_rest a b
  have h2 := rest_lt (a := a) hb
  have e : b * (a.tdiv b - 1) = b * a.tdiv b - b := by rw [Int.mul_sub, Int.mul_one]
  exact (div_eq hb (by omega) (by omega)).symm
/-- Rounding up. -/
theorem up_no {a b : Int} (hb : 0 < b) (h : ¬ 0 < a.tmod b) : a.tdiv b = -(-a / b) := by
  have h1 := floor_no (a := -a) hb (by rw [Int.neg_tmod]; omega)
  rw [← h1, Int.neg_tdiv]; omega
theorem up_yes {a b : Int} (hb : 0 < b) (h : 0 < a.tmod b) : a.tdiv b + 1 = -(-a / b) := by
  have h1 := floor_yes (a := -a) hb (by rw [Int.neg_tmod]; omega)
  rw [← h1, Int.neg_tdiv]; omega

/-- A rate that may be. -/
def RateOk (rate : Int) : Prop := -200 ≤ rate ∧ rate ≤ 200
def Near (t : Int) : Prop := -549755813888 ≤ t ∧ t ≤ 549755813888
theorem near_mod (t : Int) : Near (t.tmod 549755813888) := by
  have := rest_lt (a := t) (b := 549755813888) (by decide)
  unfold Near; omega
/-- The product stays small. -/
theorem mul_small {d rate m : Int} (hr : RateOk rate) (h1 : -m ≤ d) (h2 : d ≤ m) :
    -(m * 1000200) ≤ d * (1000000 + rate) ∧ d * (1000000 + rate) ≤ m * 1000200 := by
  obtain ⟨r1, r2⟩ := hr
  by_cases h : 0 ≤ d
  · have a1 := Int.mul_nonneg h (show 0 ≤ 1000000 + rate by omega)
    have a2 := Int.mul_le_mul_of_nonneg_left (show 1000000 + rate ≤ 1000200 by omega) h
    omega
  · have a1 := Int.mul_nonneg (show 0 ≤ -d by omega) (show 0 ≤ 1000000 + rate by omega)
    have a2 := Int.mul_le_mul_of_nonneg_left (show 1000000 + rate ≤ 1000200 by omega) (show 0 ≤ -d by omega)
    rw [Int.neg_mul] at a1 a2
    omega
/-- Both ways: the greatest and the least that they answer. -/
theorem local_small {since rate real m : Int} (hr : RateOk rate) (h1 : -m ≤ real - since) (h2 : real - since ≤ m) :
    -(2 * m) - 1 ≤ localT since rate real ∧ localT since rate real ≤ 2 * m + 1 := by
  have h := mul_small hr h1 h2
  unfold localT
  omega
theorem real_small {since rate loc m : Int} (hr : RateOk rate) (h1 : -m ≤ loc) (h2 : loc ≤ m) :
    -(2 * m) - 1 ≤ realT since rate loc - since ∧ realT since rate loc - since ≤ 2 * m + 1 := by
  obtain ⟨r1, r2⟩ := hr
  have hk : 0 < 1000000 + rate := by omega
  have h := div_in (-(loc * 1000000)) hk
  unfold realT
  generalize -(loc * 1000000) / (1000000 + rate) = q at h ⊢
  by_cases hq : 0 ≤ q
  · have a := Int.mul_le_mul_of_nonneg_right (show 999800 ≤ 1000000 + rate by omega) hq
    omega
  · have a := Int.mul_le_mul_of_nonneg_right (show 999800 ≤ 1000000 + rate by omega) (show 0 ≤ -q by omega)
    rw [Int.mul_neg, Int.mul_neg] at a
    omega

/-- Real is the first real time at which the clock shows so much. -/
theorem first {since rate loc : Int} (hr : RateOk rate) :
    loc ≤ localT since rate (realT since rate loc) ∧ localT since rate (realT since rate loc - 1) < loc ∧
    (localT since rate (realT since rate loc) - loc = 0 ∨ localT since rate (realT since rate loc) - loc = 1 ∧ 0 < rate) ∧
    ∀ t, realT since rate (localT since rate t) ≤ t := by
  obtain ⟨r1, r2⟩ := hr
  have hk : 0 < 1000000 + rate := by omega
  have h := div_in (-(loc * 1000000)) hk
  refine ⟨?_, ?_, ?_, ?_⟩
  · unfold localT realT
    generalize -(loc * 1000000) / (1000000 + rate) = q at h ⊢
    rw [show since - q - since = -q by omega, Int.neg_mul, Int.mul_comm q]
    omega
  · unfold localT realT
    generalize -(loc * 1000000) / (1000000 + rate) = q at h ⊢
    rw [show since - q - 1 - since = -(q + 1) by omega, Int.neg_mul, Int.mul_comm (q + 1), Int.mul_add, Int.mul_one]
    omega
  · unfold localT realT
    generalize -(loc * 1000000) / (1000000 + rate) = q at h ⊢
    rw [show since - q - since = -q by omega, Int.neg_mul, Int.mul_comm q]
    omega
  · intro t
    unfold realT localT
    have g := div_in ((t - since) * (1000000 + rate)) (b := 1000000) (by decide)
    generalize (t - since) * (1000000 + rate) / 1000000 = l at g ⊢
    have : -(t - since) ≤ -(l * 1000000) / (1000000 + rate) := (Int.le_ediv_iff_mul_le hk).2 (by rw [Int.neg_mul]; omega)
    omega
/-- Two clocks that begin together. -/
theorem parts {since a b d : Int} :
    localT since a (since + d) - localT since b (since + d) - ((a - b) * d).tdiv 1000000 ≤ 2 ∧
    ((a - b) * d).tdiv 1000000 - (localT since a (since + d) - localT since b (since + d)) ≤ 2 := by
  have q1 := quo_rest ((a - b) * d) 1000000
  have q2 := rest_lt (a := (a - b) * d) (b := 1000000) (by decide)
  unfold localT
  rw [show since + d - since = d by omega, Int.mul_add, Int.mul_add, Int.mul_comm d a, Int.mul_comm d b]
  rw [Int.sub_mul] at q1 q2 ⊢
  omega
/-- Two moments of one clock. -/
theorem rises {since rate a b : Int} (hr : RateOk rate) (h : a ≤ b) :
    localT since rate (since + a) ≤ localT since rate (since + b) ∧
    localT since rate (since + b) - localT since rate (since + a) - ((b - a).tdiv 1000000 * (1000000 + rate) + ((b - a).tmod 1000000 * (1000000 + rate)).tdiv 1000000) ≤ 2 ∧
    (b - a).tdiv 1000000 * (1000000 + rate) + ((b - a).tmod 1000000 * (1000000 + rate)).tdiv 1000000 - (localT since rate (since + b) - localT since rate (since + a)) ≤ 2 := by
  obtain ⟨r1, r2⟩ := hr
  have k0 : 0 ≤ 1000000 + rate := by omega
  unfold localT
  rw [show since + a - since = a by omega, show since + b - since = b by omega]
  have hd := Int.mul_nonneg (show 0 ≤ b - a by omega) k0
  rw [quo_up (show 0 ≤ b - a by omega), rest_up (show 0 ≤ b - a by omega),
    quo_up (Int.mul_nonneg (Int.emod_nonneg _ (by decide)) k0)]
  have e : (b - a) * (1000000 + rate) = 1000000 * ((b - a) / 1000000 * (1000000 + rate)) + (b - a) % 1000000 * (1000000 + rate) := by
    rw [← Int.mul_assoc, ← Int.add_mul, Int.mul_ediv_add_emod]
  rw [Int.sub_mul] at hd e
  generalize a * (1000000 + rate) = A at *
  generalize b * (1000000 + rate) = B at *
  generalize (b - a) / 1000000 * (1000000 + rate) = C at *
  generalize (b - a) % 1000000 * (1000000 + rate) = D at *
  omega
theorem real_rises {since rate x y : Int} (hr : RateOk rate) (h : x ≤ y) : realT since rate x ≤ realT since rate y := by
  obtain ⟨r1, r2⟩ := hr
  unfold realT
  have := Int.ediv_le_ediv (a := -(y * 1000000)) (b := -(x * 1000000)) (c := 1000000 + rate) (by omega) (by omega)
  omega
/-- A clock without drift; one that begins later. -/
theorem plain_local (since d : Int) : localT since 0 (since + d) = d := by unfold localT; omega
theorem plain_real (since d : Int) : realT since 0 d = since + d := by unfold realT; omega
theorem later_local (since rate by_ d : Int) : localT since rate (since + d) = localT (since + by_) rate (since + by_ + d) := by
  unfold localT
  rw [show since + d - since = d by omega, show since + by_ + d - (since + by_) = d by omega]
theorem later_real (since rate by_ d : Int) : realT since rate d + by_ = realT (since + by_) rate d := by unfold realT; omega

/-- A number by parts: the whole part and the rest, each times t. -/
theorem whole_rest {n t b : Int} (hb : 0 < b) : n / b * t + n % b * t / b = n * t / b := by
  have e : n * t = n % b * t + b * (n / b * t) := by
    rw [← Int.mul_assoc, ← Int.add_mul, Int.emod_add_mul_ediv]
  rw [e, Int.add_mul_ediv_left _ _ (Int.ne_of_gt hb)]
  omega
/-- A product's bounds. -/
theorem prod_in {a t m : Int} (h1 : -m ≤ a) (h2 : a ≤ m) (ht : 0 ≤ t) (hk : t ≤ 1000200) : -(m * 1000200) ≤ a * t ∧ a * t ≤ m * 1000200 := by
  by_cases h : 0 ≤ a
  · have a1 := Int.mul_nonneg h ht
    have a2 := Int.mul_le_mul_of_nonneg_left hk h
    omega
  · have a1 := Int.mul_nonneg (show 0 ≤ -a by omega) ht
    have a2 := Int.mul_le_mul_of_nonneg_left hk (show 0 ≤ -a by omega)
    rw [Int.neg_mul] at a1 a2
    omega
/-- A quotient's bounds. -/
theorem quot_in {a b m : Int} (h1 : -m ≤ a) (h2 : a ≤ m) (hb : 0 < b) : -m - 1 ≤ a / b ∧ a / b ≤ m + 1 := by
  have h := div_in a hb
  generalize a / b = q at h ⊢
  have hm : 0 ≤ m := by omega
  constructor
  · by_cases h0 : q + 1 < 0
    · have := Int.mul_le_mul_of_nonneg_right (show 1 ≤ b by omega) (show 0 ≤ -(q + 1) by omega)
      simp only [Int.mul_neg, Int.mul_add, Int.mul_one, Int.one_mul] at this
      omega
    · omega
  · by_cases hq : 0 ≤ q
    · have := Int.mul_le_mul_of_nonneg_right (show 1 ≤ b by omega) hq
      rw [Int.one_mul] at this
      omega
    · omega

end ClkP
