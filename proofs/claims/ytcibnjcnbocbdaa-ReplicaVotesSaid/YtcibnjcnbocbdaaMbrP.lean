/- Plain: sets of nodes as bits, and what more than half bear (chapter 12). No conditions beyond those that each states. -/
import Derived.KernelRfl
namespace MbrP

/-! ### Sets -/
def has (s n : Nat) : Bool := decide (n < 7) && s.testBit n
def withN (s n : Nat) : Nat := if n < 7 then s ||| 2 ^ n else s
def outN (s n : Nat) : Nat := if n < 7 ∧ s.testBit n = true then s - 2 ^ n else s
def len8 (s : Nat) : Nat := (List.range 8).countP (fun n => s.testBit n)
def lst (s : Nat) : List Nat := (List.range 7).filter (fun n => s.testBit n)
/-- The set of some numbers. -/
def ofL (l : List Nat) : Nat := l.foldl withN 0
theorem parts_all : ∀ (s : Fin 128) (n : Fin 7), has (withN s.1 n.1) n.1 = true ∧ has (outN s.1 n.1) n.1 = false ∧ outN (withN s.1 n.1) n.1 = outN s.1 n.1 ∧ len8 (withN s.1 n.1) = len8 (outN s.1 n.1) + 1 ∧ (decide (withN s.1 n.1 = s.1)) = has s.1 n.1 := by decide +kernel
theorem lists_all : ∀ s : Fin 128, ofL (lst s.1) = s.1 ∧ (lst s.1).length = len8 s.1 := by decide +kernel
theorem bits_all : ∀ (s : Fin 256) (n : Fin 8), s.1.testBit n.1 = decide (s.1 / 2 ^ n.1 % 2 = 1) := by decide +kernel
theorem with_small : ∀ (s : Fin 256) (n : Fin 8), s.1 ||| 2 ^ n.1 < 256 := by decide +kernel

/-! ### What more than half bear -/
section
variable {α : Type} [DecidableEq α]
def cnt (x : α) (l : List α) : Nat := l.countP (fun y => decide (y = x))
theorem cnt_two {x y : α} (h : x ≠ y) : ∀ l : List α, cnt x l + cnt y l ≤ l.length
  | [] => by simp [cnt]
  | z :: l => by
    have ih := cnt_two h l
    unfold cnt at ih ⊢
    rw [List.countP_cons, List.countP_cons, List.length_cons]
    by_cases h1 : z = x
    · simp only [h1, decide_true, if_true]
      have h3 : ¬ x = y := h
      simp only [h3, decide_false]
      simp
      omega
    · simp only [h1, decide_false]
      by_cases h2 : z = y
      · simp only [h2, decide_true]; simp; omega
      · simp only [h2, decide_false]; simp; omega
def Most (l : List α) (x : α) : Prop := l.length < 2 * cnt x l
instance (l : List α) (x : α) : Decidable (Most l x) := by unfold Most; infer_instance
theorem most_one {l : List α} {x y : α} (hx : Most l x) (hy : Most l y) : x = y := by
  by_cases h : x = y
  · exact h
  · have := cnt_two h l
    unfold Most at hx hy
    omega
theorem most_mem {l : List α} {x : α} (h : Most l x) : x ∈ l := by
  have h0 : 0 < cnt x l := by unfold Most at h; omega
  obtain ⟨y, hy, e⟩ := List.countP_pos_iff.1 h0
  have e : y = x := by simpa using e
  exact e ▸ hy
def mostT (l : List α) : Option α := l.find? (fun x => decide (Most l x))
theorem mostT_yes {l : List α} {x : α} (h : Most l x) : mostT l = some x := by
  unfold mostT
  cases hf : l.find? (fun x => decide (Most l x)) with
  | some y =>
    have hy : Most l y := by have := List.find?_some hf; simpa using this
    rw [most_one h hy]
  | none => exact absurd h (by simpa using List.find?_eq_none.1 hf x (most_mem h))
theorem mostT_no {l : List α} (h : ∀ x, x ∈ l → ¬ Most l x) : mostT l = none := by
  unfold mostT
  rw [List.find?_eq_none]
  intro x hx
  simpa using h x hx
theorem mostT_some {l : List α} {x : α} (h : mostT l = some x) : Most l x := by
  unfold mostT at h
  have := List.find?_some h
  simpa using this
theorem cnt_perm {l m : List α} (h : l.Perm m) (x : α) : cnt x l = cnt x m := h.countP_eq _
/-- Whatever the order. -/
theorem mostT_perm {l m : List α} (h : l.Perm m) : mostT l = mostT m := by
  have e : ∀ x, Most l x ↔ Most m x := fun x => by unfold Most; rw [cnt_perm h, h.length_eq]
  cases hl : mostT l with
  | some x => exact (mostT_yes ((e x).1 (mostT_some hl))).symm
  | none =>
    cases hm : mostT m with
    | none => rfl
    | some x =>
      have := mostT_yes ((e x).2 (mostT_some hm))
      rw [hl] at this
      cases this
/-- The stamp that counts: one's own, if it is known. -/
def rightT (known : Bool) (mine : α) (l : List α) : Option α := if known = true then some mine else mostT l
end
end MbrP
