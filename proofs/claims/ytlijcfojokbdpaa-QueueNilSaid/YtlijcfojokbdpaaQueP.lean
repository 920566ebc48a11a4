/- Plain: a heap in a list, and a queue of events that stands in one (chapter 8). No conditions beyond those that each states. -/
import Derived.KernelRfl
namespace QueP

/-- A heap in a list: what stands at a place is not above what stands at the places below it. -/
def okAt {α : Type} (le : α → α → Prop) (l : List α) (j : Nat) : Prop :=
  ∀ a b, l[(j - 1) / 2]? = some a → l[j]? = some b → le a b
def Heap {α : Type} (le : α → α → Prop) (l : List α) : Prop := ∀ j, 0 < j → okAt le l j
/-- A heap but for what stands at i, which may be too small for its place. -/
def UpAt {α : Type} (le : α → α → Prop) (l : List α) (i : Nat) : Prop :=
  (∀ j, 0 < j → j ≠ i → okAt le l j) ∧
  (0 < i → ∀ c a b, 0 < c → (c - 1) / 2 = i → l[(i - 1) / 2]? = some a → l[c]? = some b → le a b)
/-- A heap but for what stands at i, which may be too great for its place. -/
def DownAt {α : Type} (le : α → α → Prop) (l : List α) (i : Nat) : Prop :=
  (∀ j, 0 < j → (j - 1) / 2 ≠ i → okAt le l j) ∧
  (0 < i → ∀ c a b, 0 < c → (c - 1) / 2 = i → l[(i - 1) / 2]? = some a → l[c]? = some b → le a b)

theorem get_swap {α : Type} {l : List α} {i p : Nat} {x y : α} (hi : l[i]? = some x) (hp : l[p]? = some y) (j : Nat) :
    ((l.set i y).set p x)[j]? = if p = j then some x else if i = j then some y else l[j]? := by
  obtain ⟨li, -⟩ := List.getElem?_eq_some_iff.1 hi
  obtain ⟨lp, -⟩ := List.getElem?_eq_some_iff.1 hp
  rw [List.getElem?_set, List.getElem?_set, List.length_set, if_pos lp, if_pos li]
theorem perm_swap {α : Type} {l : List α} {i p : Nat} {x y : α} (hi : l[i]? = some x) (hp : l[p]? = some y) :
    ((l.set i y).set p x).Perm l := by
  obtain ⟨li, rfl⟩ := List.getElem?_eq_some_iff.1 hi
  obtain ⟨lp, rfl⟩ := List.getElem?_eq_some_iff.1 hp
  exact List.set_set_perm li lp

section
variable {α : Type} {le : α → α → Prop} (tr : ∀ a b c, le a b → le b c → le a c)
include tr

theorem up_step {l : List α} {i : Nat} {x y : α} (h : UpAt le l i) (h0 : 0 < i) (hi : l[i]? = some x) (hp : l[(i - 1) / 2]? = some y) (hxy : le x y) :
    UpAt le ((l.set i y).set ((i - 1) / 2) x) ((i - 1) / 2) := by
  obtain ⟨h1, h2⟩ := h
  have hlt : (i - 1) / 2 < i := by omega
  generalize hpp : (i - 1) / 2 = p at *
  have G := get_swap hi hp
  refine ⟨?_, ?_⟩
  · intro j hj hjp a b ha hb
    rw [G] at ha hb
    rw [if_neg (by omega)] at hb
    by_cases e : i = j
    · subst e
      rw [if_pos rfl] at hb
      rw [if_pos hpp.symm] at ha
      cases ha; cases hb
      exact hxy
    · rw [if_neg e] at hb
      by_cases f : p = (j - 1) / 2
      · rw [if_pos f] at ha
        cases ha
        exact tr _ _ _ hxy (h1 j hj (by omega) y b (by rw [← f]; exact hp) hb)
      · rw [if_neg f] at ha
        by_cases g : i = (j - 1) / 2
        · rw [if_pos g] at ha
          cases ha
          exact h2 h0 j y b hj g.symm hp hb
        · rw [if_neg g] at ha
          exact h1 j hj (by omega) a b ha hb
  · intro hp0 c a b hc hcp ha hb
    rw [G] at ha hb
    rw [if_neg (by omega), if_neg (by omega)] at ha
    have hy : le a y := h1 p hp0 (by omega) a y ha hp
    rw [if_neg (by omega)] at hb
    by_cases e : i = c
    · rw [if_pos e] at hb; cases hb; exact hy
    · rw [if_neg e] at hb
      exact tr _ _ _ hy (h1 c hc (by omega) y b (by rw [hcp]; exact hp) hb)
omit tr in
theorem up_end {l : List α} {i : Nat} (h : UpAt le l i) (he : i = 0 ∨ okAt le l i) : Heap le l := by
  intro j hj
  by_cases e : j = i
  · subst e
    rcases he with he | he
    · omega
    · exact he
  · exact h.1 j hj e
omit tr in
theorem up_new {l : List α} (h : Heap le l) (x : α) : UpAt le (l ++ [x]) l.length := by
  refine ⟨?_, ?_⟩
  · intro j hj hn a b ha hb
    have hjl : j < l.length := by
      obtain ⟨hlt, -⟩ := List.getElem?_eq_some_iff.1 hb
      rw [List.length_append, List.length_singleton] at hlt
      omega
    rw [List.getElem?_append_left (by omega)] at ha hb
    exact h j hj a b ha hb
  · intro _ c a b hc hcp ha hb
    obtain ⟨hlt, -⟩ := List.getElem?_eq_some_iff.1 hb
    rw [List.length_append, List.length_singleton] at hlt
    omega

omit tr in
theorem down_step {l : List α} {i c : Nat} {x y : α} (h : DownAt le l i) (hc0 : 0 < c) (hci : (c - 1) / 2 = i) (hi : l[i]? = some x) (hc : l[c]? = some y) (hyx : le y x)
    (hm : ∀ d z, 0 < d → (d - 1) / 2 = i → l[d]? = some z → le y z) :
    DownAt le ((l.set i y).set c x) c := by
  obtain ⟨h1, h2⟩ := h
  have G := get_swap hi hc
  refine ⟨?_, ?_⟩
  · intro j hj hjc a b ha hb
    rw [G] at ha hb
    rw [if_neg (by omega)] at ha
    by_cases e : c = j
    · subst e
      rw [if_pos rfl] at hb
      rw [if_pos hci.symm] at ha
      cases ha; cases hb
      exact hyx
    · rw [if_neg e] at hb
      by_cases f : i = j
      · subst f
        rw [if_pos rfl] at hb
        rw [if_neg (by omega)] at ha
        cases hb
        exact h2 hj c a y hc0 hci ha hc
      · rw [if_neg f] at hb
        by_cases g : i = (j - 1) / 2
        · rw [if_pos g] at ha
          cases ha
          exact hm j b hj g.symm hb
        · rw [if_neg g] at ha
          exact h1 j hj (by omega) a b ha hb
  · intro _ d a b hd hdc ha hb
    rw [G] at ha hb
    rw [if_neg (by omega), if_pos hci.symm] at ha
    rw [if_neg (by omega), if_neg (by omega)] at hb
    cases ha
    exact h1 d hd (by omega) y b (by rw [hdc]; exact hc) hb
omit tr in
theorem down_end {l : List α} {i : Nat} {x : α} (h : DownAt le l i) (hi : l[i]? = some x) (he : ∀ d z, 0 < d → (d - 1) / 2 = i → l[d]? = some z → le x z) : Heap le l := by
  intro j hj
  by_cases e : (j - 1) / 2 = i
  · intro a b ha hb
    rw [e, hi] at ha
    cases ha
    exact he j b hj e hb
  · exact h.1 j hj e
omit tr in
/-- The first one goes: the last one stands in its place. -/
theorem down_new {l : List α} (h : Heap le l) (z : α) : DownAt le ((l.take (l.length - 1)).set 0 z) 0 := by
  refine ⟨?_, fun h0 => absurd h0 (Nat.lt_irrefl 0)⟩
  intro j hj hjp a b ha hb
  rw [List.getElem?_set, if_neg (by omega), List.getElem?_take] at ha hb
  split at hb
  · rw [if_pos (by omega)] at ha
    exact h j hj a b ha hb
  · cases hb
theorem least (rf : ∀ a, le a a) {l : List α} (h : Heap le l) {a : α} (h0 : l[0]? = some a) : ∀ (j : Nat) (b : α), l[j]? = some b → le a b
  | 0, b, hb => by rw [h0] at hb; cases hb; exact rf a
  | j + 1, b, hb => by
    obtain ⟨hlt, -⟩ := List.getElem?_eq_some_iff.1 hb
    have hp : (j + 1 - 1) / 2 < l.length := by omega
    exact tr _ _ _ (least rf h h0 ((j + 1 - 1) / 2) _ (List.getElem?_eq_getElem hp)) (h (j + 1) (by omega) _ b (List.getElem?_eq_getElem hp) hb)
  termination_by j => j
  decreasing_by omega
end

/-- What is left when the first goes. -/
theorem perm_take {α : Type} {l : List α} {a z : α} (h2 : 2 ≤ l.length) (ha : l[0]? = some a) (hz : l[l.length - 1]? = some z) :
    (a :: (l.take (l.length - 1)).set 0 z).Perm l := by
  match l, h2, ha with
  | b :: t, h2, ha =>
    simp only [List.length_cons] at h2
    simp only [List.getElem?_cons_zero] at ha
    cases ha
    simp only [List.length_cons, Nat.add_sub_cancel] at hz ⊢
    obtain ⟨m, hm⟩ : ∃ m, t.length = m + 1 := ⟨t.length - 1, by omega⟩
    rw [hm] at hz ⊢
    simp only [List.getElem?_cons_succ] at hz
    simp only [List.take_succ_cons, List.set_cons_zero]
    refine List.Perm.cons _ ?_
    have e : t = t.take m ++ [z] := by
      obtain ⟨hlt, hzz⟩ := List.getElem?_eq_some_iff.1 hz
      have := List.take_append_drop m t
      rw [List.drop_eq_getElem_cons hlt, hzz, List.drop_of_length_le (by omega)] at this
      exact this.symm
    rw [e]
    simp only [List.take_append, List.length_take, Nat.min_eq_left (show m ≤ t.length by omega), List.take_take, Nat.min_self, Nat.sub_self, List.take_zero, List.append_nil]
    exact (List.perm_append_singleton z _).symm
theorem perm_new {α : Type} (l : List α) (x : α) : (l ++ [x]).Perm (x :: l) := List.perm_append_singleton x l
/-- A sift that moves a hole: the list as if what is carried stood in it. -/
theorem hole_step {α : Type} (m : List α) (i p : Nat) (x y : α) : ((m.set i x).set i y).set p x = (m.set i y).set p x := by rw [List.set_set]

/-- An event; one that waits, with its number in the order of the puts. -/
structure Ev where
  at_ : Int
  rank : Int
  what : Int
structure Ent where
  ev : Ev
  n : Int
def less (a b : Ev) : Prop := a.at_ < b.at_ ∨ a.at_ = b.at_ ∧ a.rank < b.rank
instance (a b : Ev) : Decidable (less a b) := by unfold less; infer_instance
def le (a b : Ent) : Prop := less a.ev b.ev ∨ a.ev.at_ = b.ev.at_ ∧ a.ev.rank = b.ev.rank ∧ a.n ≤ b.n
instance (a b : Ent) : Decidable (le a b) := by unfold le; infer_instance
theorem le_refl (a : Ent) : le a a := Or.inr ⟨rfl, rfl, Int.le_refl _⟩
theorem le_trans (a b c : Ent) (h : le a b) (g : le b c) : le a c := by unfold le less at *; omega
theorem le_total (a b : Ent) : le a b ∨ le b a := by unfold le less; omega
theorem le_same {a b : Ent} (h : le a b) (g : le b a) : a.n = b.n := by unfold le less at *; omega
/-- As a program may ask it: is a ahead of b? -/
theorem le_not {a b : Ent} (h : a.n ≠ b.n) : ¬ le b a ↔ le a b := by unfold le less; omega

/-- The events that wait, in the order in which they were put, with rising numbers below next. -/
structure Queued (want : List Ev) (ents : List Ent) (next : Int) : Prop where
  same : ents.map Ent.ev = want
  rise : ents.Pairwise (fun a b => a.n < b.n)
  below : ∀ e ∈ ents, e.n < next
theorem queued_none (next : Int) : Queued [] [] next := ⟨rfl, List.Pairwise.nil, fun _ h => by cases h⟩
theorem queued_put {want : List Ev} {ents : List Ent} {next : Int} (h : Queued want ents next) (e : Ev) (k : Int) (hk : next < k) :
    Queued (want ++ [e]) (ents ++ [⟨e, next⟩]) k := by
  obtain ⟨h1, h2, h3⟩ := h
  refine ⟨by simp [h1], ?_, ?_⟩
  · rw [List.pairwise_append]
    refine ⟨h2, List.pairwise_singleton _ _, ?_⟩
    intro a ha b hb
    rw [List.mem_singleton] at hb
    subst hb
    exact h3 a ha
  · intro x hx
    rw [List.mem_append, List.mem_singleton] at hx
    rcases hx with hx | rfl
    · have := h3 x hx; omega
    · exact hk
theorem queued_take {want : List Ev} {ents : List Ent} {next : Int} (h : Queued want ents next) (i : Nat) :
    Queued (want.eraseIdx i) (ents.eraseIdx i) next := by
  obtain ⟨h1, h2, h3⟩ := h
  refine ⟨?_, h2.sublist (List.eraseIdx_sublist ..), fun e he => h3 e (List.mem_of_mem_eraseIdx he)⟩
  rw [← h1, List.eraseIdx_eq_take_drop_succ, List.eraseIdx_eq_take_drop_succ, List.map_append, List.map_take, List.map_drop]

/-- The best so far of what waits: the least, of these the first put. -/
def Best (want : List Ev) (k b : Nat) : Prop :=
  ∃ x, want[b]? = some x ∧ (∀ j y, j < k → want[j]? = some y → ¬ less y x) ∧ ∀ j y, j < b → want[j]? = some y → less x y
theorem best_none {want : List Ev} {x : Ev} (h : want[0]? = some x) : Best want 0 0 :=
  ⟨x, h, fun _ _ hj => absurd hj (Nat.not_lt_zero _), fun _ _ hj => absurd hj (Nat.not_lt_zero _)⟩
theorem best_step {want : List Ev} {k b : Nat} {x y : Ev} (h : Best want k b) (hb : want[b]? = some x) (hk : want[k]? = some y) :
    Best want (k + 1) (if less y x then k else b) := by
  obtain ⟨x', hx, h1, h2⟩ := h
  rw [hb] at hx
  cases hx
  by_cases hl : less y x
  · rw [if_pos hl]
    refine ⟨y, hk, ?_, ?_⟩
    · intro j z hj hz
      by_cases e : j = k
      · subst e; rw [hk] at hz; cases hz
        unfold less; omega
      · have := h1 j z (by omega) hz
        unfold less at *; omega
    · intro j z hj hz
      have := h1 j z hj hz
      unfold less at *; omega
  · rw [if_neg hl]
    refine ⟨x, hb, ?_, h2⟩
    intro j z hj hz
    by_cases e : j = k
    · subst e; rw [hk] at hz; cases hz; exact hl
    · exact h1 j z (by omega) hz

theorem number_once {ents : List Ent} (h : ents.Pairwise (fun a b => a.n < b.n)) {i j : Nat} {a b : Ent} (hi : ents[i]? = some a) (hj : ents[j]? = some b) (hn : a.n = b.n) : i = j := by
  obtain ⟨li, rfl⟩ := List.getElem?_eq_some_iff.1 hi
  obtain ⟨lj, rfl⟩ := List.getElem?_eq_some_iff.1 hj
  rw [List.pairwise_iff_getElem] at h
  rcases Nat.lt_trichotomy i j with g | g | g
  · have := h i j li lj g; omega
  · exact g
  · have := h j i lj li g; omega
/-- What stands first in a heap is the best of what waits. -/
theorem first_best {want : List Ev} {ents l : List Ent} {next : Int} {b : Nat} {a : Ent}
    (h : Queued want ents next) (hp : l.Perm ents) (hh : Heap le l) (h0 : l[0]? = some a) (hb : Best want want.length b) :
    ents[b]? = some a ∧ want[b]? = some a.ev := by
  obtain ⟨h1, h2, h3⟩ := h
  obtain ⟨x, hx, g1, g2⟩ := hb
  have hmem : a ∈ ents := hp.mem_iff.1 (List.mem_of_getElem? h0)
  obtain ⟨i, hi⟩ := List.mem_iff_getElem?.1 hmem
  have hw : ∀ j : Nat, want[j]? = (ents[j]?).map Ent.ev := fun j => by rw [← h1, List.getElem?_map]
  obtain ⟨e, he, hex⟩ : ∃ e, ents[b]? = some e ∧ e.ev = x := by
    have := hw b
    rw [hx] at this
    cases hq : ents[b]? with
    | none => rw [hq] at this; cases this
    | some e => rw [hq] at this; simp only [Option.map_some, Option.some.injEq] at this; exact ⟨e, rfl, this.symm⟩
  have l1 : le a e := by
    obtain ⟨j, hj⟩ := List.mem_iff_getElem?.1 (hp.mem_iff.2 (List.mem_of_getElem? he))
    exact least le_trans le_refl hh h0 j e hj
  have hwi : want[i]? = some a.ev := by rw [hw, hi]; rfl
  have li : i < want.length := (List.getElem?_eq_some_iff.1 hwi).1
  have l2 : ¬ less a.ev e.ev := hex ▸ g1 i a.ev li hwi
  have l3 : ¬ i < b := fun c => by
    have := g2 i a.ev c hwi
    rw [← hex] at this
    unfold le less at *; omega
  have e1 : i = b := by
    by_cases c : i = b
    · exact c
    · have lt : b < i := by omega
      have h4 := h2
      rw [List.pairwise_iff_getElem] at h4
      obtain ⟨q1, q2⟩ := List.getElem?_eq_some_iff.1 he
      obtain ⟨q3, q4⟩ := List.getElem?_eq_some_iff.1 hi
      have := h4 b i q1 q3 lt
      rw [q2, q4] at this
      unfold le less at *; omega
  subst e1
  exact ⟨hi, hwi⟩
theorem perm_erase {α : Type} : ∀ {l : List α} {i : Nat} {a : α}, l[i]? = some a → l.Perm (a :: l.eraseIdx i)
  | x :: l, 0, a, h => by simp at h; subst h; exact List.Perm.refl _
  | x :: l, i + 1, a, h => by
    have := perm_erase (l := l) (i := i) (a := a) (by simpa using h)
    exact (List.Perm.cons x this).trans (List.Perm.swap a x _)
/-- What is left. -/
theorem left_perm {ents l r : List Ent} {b : Nat} {a : Ent} (hb : ents[b]? = some a) (hp : l.Perm ents) (hr : (a :: r).Perm l) : r.Perm (ents.eraseIdx b) :=
  List.Perm.cons_inv ((hr.trans hp).trans (perm_erase hb))
end QueP
