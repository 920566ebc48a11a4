/- Plain: where messages may come: the least set that a partition is in and that its edges don't leave. No conditions. -/
import Derived.Test.YtfgpfmhjnccccaaPlA
namespace Go.Proofs.Ytfgpfmhjnccccaa.RchP

/-- An edge for each route: between its ports' partitions. -/
def partN (l : List TableP.Port) (i : Int) : Nat := match l[i.toNat]? with | some p => p.part.toNat | none => 0
def edge (l : List TableP.Port) (r : TableP.Route) : Nat × Nat := (partN l r.src, partN l r.dst)
def edges (c : TableP.Cfg) : List (Nat × Nat) := c.routes.map (edge c.ports)
def nbr (E : List (Nat × Nat)) (f : Nat) : List Nat := (E.filter (fun e => decide (e.1 = f))).map (·.2)
theorem nbr_snoc (E : List (Nat × Nat)) (a b f : Nat) : nbr (E ++ [(a, b)]) f = if a = f then nbr E f ++ [b] else nbr E f := by
  unfold nbr
  rw [List.filter_append]
  by_cases h : a = f <;> simp [h]
theorem nbr_length (E : List (Nat × Nat)) (f : Nat) : (nbr E f).length ≤ E.length := by
  unfold nbr
  rw [List.length_map]
  exact List.length_filter_le _ _
theorem mem_nbr {E : List (Nat × Nat)} {f c : Nat} : c ∈ nbr E f ↔ (f, c) ∈ E := by
  unfold nbr
  simp only [List.mem_map, List.mem_filter, decide_eq_true_eq]
  constructor
  · rintro ⟨⟨a, b⟩, ⟨h1, h2⟩, h3⟩
    simp only at h2 h3
    subst h2 h3
    exact h1
  · intro h
    exact ⟨(f, c), ⟨h, rfl⟩, rfl⟩
/-- What is reached. -/
inductive Rch (E : List (Nat × Nat)) (a : Nat) : Nat → Prop
  | base : Rch E a a
  | step {b c : Nat} : Rch E a b → (b, c) ∈ E → Rch E a c
theorem Rch.trans {E : List (Nat × Nat)} {a b c : Nat} (h : Rch E a b) (k : Rch E b c) : Rch E a c := by
  induction k with
  | base => exact h
  | step _ h2 ih => exact .step ih h2
theorem Rch.bound {E : List (Nat × Nat)} {a n : Nat} (ha : a < n) (hE : ∀ e ∈ E, e.2 < n) {b : Nat} (h : Rch E a b) : b < n := by
  induction h with
  | base => exact ha
  | step _ h2 _ => exact hE _ h2
/-- A list of marks that says what is reached. -/
def Says (E : List (Nat × Nat)) (n a : Nat) (bl : List Bool) : Prop := bl.length = n ∧ ∀ k, k < n → (bl[k]? = some true ↔ Rch E a k)
theorem closed {E : List (Nat × Nat)} {a : Nat} {bl : List Bool} (ha : bl[a]? = some true) (h2 : ∀ k : Nat, bl[k]? = some true → ∀ c ∈ nbr E k, bl[c]? = some true) {k : Nat} (h : Rch E a k) : bl[k]? = some true := by
  induction h with
  | base => exact ha
  | step _ he ih => exact h2 _ ih _ (mem_nbr.2 he)
/-- A set that the start is in, that no edge leaves, and all of which is reached. -/
theorem says_of {E : List (Nat × Nat)} {n a : Nat} {bl : List Bool} (hl : bl.length = n) (ha : bl[a]? = some true) (h1 : ∀ k : Nat, bl[k]? = some true → Rch E a k) (h2 : ∀ k : Nat, bl[k]? = some true → ∀ c ∈ nbr E k, bl[c]? = some true) : Says E n a bl :=
  ⟨hl, fun k _ => ⟨h1 k, closed ha h2⟩⟩
theorem Says.same {E : List (Nat × Nat)} {n a : Nat} {bl bl2 : List Bool} (h : Says E n a bl) (h2 : Says E n a bl2) : bl = bl2 := by
  apply List.ext_getElem?
  intro k
  by_cases hk : k < n
  · have e1 := h.2 k hk
    have e2 := h2.2 k hk
    obtain ⟨x, hx⟩ : ∃ x, bl[k]? = some x := ⟨_, List.getElem?_eq_getElem (by have := h.1; omega)⟩
    obtain ⟨y, hy⟩ : ∃ y, bl2[k]? = some y := ⟨_, List.getElem?_eq_getElem (by have := h2.1; omega)⟩
    rw [hx] at e1 ⊢
    rw [hy] at e2 ⊢
    cases x <;> cases y <;> simp_all
  · rw [List.getElem?_eq_none (by have := h.1; omega), List.getElem?_eq_none (by have := h2.1; omega)]
/-- How many are not marked. -/
def bare (bl : List Bool) : Nat := bl.countP (fun b => !b)
theorem bare_set : ∀ {bl : List Bool} {k : Nat}, bl[k]? = some false → bare (bl.set k true) + 1 = bare bl
  | [], _, h => by simp at h
  | b :: r, 0, h => by
    simp at h
    subst h
    simp [bare]
  | b :: r, k + 1, h => by
    have := bare_set (bl := r) (k := k) (by simpa using h)
    unfold bare at *
    simp only [List.set_cons_succ, List.countP_cons]
    omega
theorem get_set {bl : List Bool} {k j : Nat} (hk : k < bl.length) : (bl.set k true)[j]? = some true ↔ (j = k ∨ bl[j]? = some true) := by
  by_cases h : k = j
  · subst h
    rw [List.getElem?_set_self hk]
    simp
  · rw [List.getElem?_set_ne h]
    constructor
    · exact .inr
    · rintro (h1 | h1)
      · exact absurd h1.symm h
      · exact h1
/-- The state between two partitions of a search in breadth: what waits is marked; all that is marked and doesn't wait has its neighbours marked. -/
structure Wave (E : List (Nat × Nat)) (a : Nat) (bl : List Bool) (l : List Nat) (f : Nat → Prop) : Prop where
  start : bl[a]? = some true
  reached : ∀ k : Nat, bl[k]? = some true → Rch E a k
  waits : ∀ k ∈ l, bl[k]? = some true
  done : ∀ k : Nat, bl[k]? = some true → k ∉ l → f k ∨ ∀ c ∈ nbr E k, bl[c]? = some true
theorem Wave.begin {E : List (Nat × Nat)} {n a : Nat} (ha : a < n) : Wave E a ((List.replicate n false).set a true) [a] (fun _ => False) := by
  have hs : ∀ j : Nat, ((List.replicate n false).set a true)[j]? = some true ↔ j = a := fun j => by
    rw [get_set (by simpa using ha)]
    constructor
    · rintro (h | h)
      · exact h
      · rw [List.getElem?_replicate] at h; split at h <;> simp at h
    · exact .inl
  exact ⟨(hs a).2 rfl, fun k hk => by rw [(hs k).1 hk]; exact .base, fun k hk => (hs k).2 (List.mem_singleton.1 hk), fun k hk hn => absurd (List.mem_singleton.2 ((hs k).1 hk)) hn⟩
theorem Wave.pop {E : List (Nat × Nat)} {a f : Nat} {bl : List Bool} {l : List Nat} (h : Wave E a bl (f :: l) (fun _ => False)) : Wave E a bl l (fun k => k = f) :=
  ⟨h.start, h.reached, fun k hk => h.waits k (by simp [hk]), fun k hk hn => by
    by_cases hf : k = f
    · exact .inl hf
    · rcases h.done k hk (by simp [hf, hn]) with h1 | h1
      · exact h1.elim
      · exact .inr h1⟩
theorem Wave.push {E : List (Nat × Nat)} {a f c : Nat} {bl : List Bool} {l : List Nat} (h : Wave E a bl l (fun k => k = f)) (hf : bl[f]? = some true) (hc : (f, c) ∈ E) (hlt : c < bl.length) : Wave E a (bl.set c true) (l ++ [c]) (fun k => k = f) := by
  refine ⟨(get_set hlt).2 (.inr h.start), fun k hk => ?_, fun k hk => ?_, fun k hk hn => ?_⟩
  · rcases (get_set hlt).1 hk with rfl | hk
    · exact .step (h.reached f hf) hc
    · exact h.reached k hk
  · rcases List.mem_append.1 hk with hk | hk
    · exact (get_set hlt).2 (.inr (h.waits k hk))
    · exact (get_set hlt).2 (.inl (List.mem_singleton.1 hk))
  · rcases (get_set hlt).1 hk with rfl | hk
    · exact absurd (by simp) hn
    · rcases h.done k hk (fun hm => hn (by simp [hm])) with h1 | h1
      · exact .inl h1
      · exact .inr fun d hd => (get_set hlt).2 (.inr (h1 d hd))
theorem Wave.next {E : List (Nat × Nat)} {a f : Nat} {bl : List Bool} {l : List Nat} (h : Wave E a bl l (fun k => k = f)) (hall : ∀ c ∈ nbr E f, bl[c]? = some true) : Wave E a bl l (fun _ => False) :=
  ⟨h.start, h.reached, h.waits, fun k hk hn => .inr (by
    rcases h.done k hk hn with rfl | h1
    · exact hall
    · exact h1)⟩
theorem Wave.says {E : List (Nat × Nat)} {n a : Nat} {bl : List Bool} (h : Wave E a bl [] (fun _ => False)) (hl : bl.length = n) : Says E n a bl :=
  says_of hl h.start h.reached fun k hk => (h.done k hk (by simp)).resolve_left (fun h => h)
end Go.Proofs.Ytfgpfmhjnccccaa.RchP
