/- Plain: what waits while events come out of a queue (QueueSorts). No conditions beyond those that each states. -/
import Derived.Test.YtlijcfojokbdpaaQueR
namespace QueP

/-- The events, each with its place. -/
def sortL (l : List Ev) : List Ev := l.mapIdx fun i e => ⟨e.at_, e.rank, (i : Int)⟩
theorem sortL_length (l : List Ev) : (sortL l).length = l.length := by simp [sortL]
theorem sortL_get (l : List Ev) (i : Nat) : (sortL l)[i]? = (l[i]?).map fun e => ⟨e.at_, e.rank, (i : Int)⟩ := by simp [sortL]
theorem sortL_take {l : List Ev} {k : Nat} {e : Ev} (h : l[k]? = some e) : (sortL l).take (k + 1) = (sortL l).take k ++ [⟨e.at_, e.rank, (k : Int)⟩] := by
  rw [List.take_add_one, sortL_get, h]; rfl
theorem sortL_rise (l : List Ev) : (sortL l).Pairwise (fun a b => a.what < b.what) := by
  rw [List.pairwise_iff_getElem]
  intro i j hi hj hij
  have h1 := sortL_get l i
  have h2 := sortL_get l j
  rw [List.getElem?_eq_getElem hi, List.getElem?_eq_getElem (show i < l.length by rw [← sortL_length l]; exact hi)] at h1
  rw [List.getElem?_eq_getElem hj, List.getElem?_eq_getElem (show j < l.length by rw [← sortL_length l]; exact hj)] at h2
  simp only [Option.map_some, Option.some.injEq] at h1 h2
  rw [h1, h2]
  show (i : Int) < (j : Int)
  omega

def lexless (y z : Ev) : Prop := y.at_ < z.at_ ∨ y.at_ = z.at_ ∧ (y.rank < z.rank ∨ y.rank = z.rank ∧ y.what < z.what)
structure SortsP (l : List Ev) (k : Nat) (want : List Ev) (bl : List Bool) (last : Ev) : Prop where
  len : want.length + k = l.length
  rise : want.Pairwise (fun a b => a.what < b.what)
  mem : ∀ x ∈ want, ∃ i : Nat, x.what = i ∧ bl[i]? = some false ∧ ∃ e, l[i]? = some e ∧ e.at_ = x.at_ ∧ e.rank = x.rank
  blen : bl.length = l.length
  low : 0 < k → ∀ y ∈ want, ¬ lexless y last
theorem sorts_start (l : List Ev) (last : Ev) : SortsP l 0 (sortL l) (List.replicate l.length false) last := by
  refine ⟨sortL_length l, sortL_rise l, ?_, List.length_replicate .., fun h => absurd h (Nat.lt_irrefl 0)⟩
  intro x hx
  obtain ⟨i, hi⟩ := List.mem_iff_getElem?.1 hx
  rw [sortL_get] at hi
  cases he : l[i]? with
  | none => rw [he] at hi; cases hi
  | some e =>
    rw [he] at hi
    simp only [Option.map_some, Option.some.injEq] at hi
    subst hi
    exact ⟨i, rfl, by rw [List.getElem?_replicate, if_pos (List.getElem?_eq_some_iff.1 he).1], e, he, rfl, rfl⟩
theorem sorts_step {l : List Ev} {k : Nat} {want : List Ev} {bl : List Bool} {last x : Ev} (h : SortsP l k want bl last) (hp : 0 < want.length) (hx : want[bestTo want want.length]? = some x) :
    ∃ i : Nat, x.what = i ∧ i < l.length ∧ bl[i]? = some false ∧ (∃ e, l[i]? = some e ∧ e.at_ = x.at_ ∧ e.rank = x.rank) ∧ (0 < k → ¬ lexless x last) ∧ SortsP l (k + 1) (want.eraseIdx (bestTo want want.length)) (bl.set i true) x := by
  obtain ⟨x', hx', g1, g2⟩ := best_to want hp want.length (Nat.le_refl _)
  rw [hx] at hx'
  cases hx'
  generalize bestTo want want.length = b at *
  have hb := (List.getElem?_eq_some_iff.1 hx).1
  have hxm : x ∈ want := List.mem_of_getElem? hx
  obtain ⟨i, hi, hbl, e, he, he1, he2⟩ := h.mem x hxm
  have hother : ∀ y ∈ want.eraseIdx b, ∃ j, j ≠ b ∧ want[j]? = some y := fun y hy => by
    obtain ⟨j, hj, hjy⟩ := List.mem_eraseIdx_iff_getElem?.1 hy
    exact ⟨j, hj, hjy⟩
  have hrise : ∀ (j j' : Nat) y y', j < j' → want[j]? = some y → want[j']? = some y' → y.what < y'.what := fun j j' y y' hj hy hy' => by
    obtain ⟨lj, rfl⟩ := List.getElem?_eq_some_iff.1 hy
    obtain ⟨lj', rfl⟩ := List.getElem?_eq_some_iff.1 hy'
    exact List.pairwise_iff_getElem.1 h.rise j j' lj lj' hj
  refine ⟨i, hi, (List.getElem?_eq_some_iff.1 he).1, hbl, ⟨e, he, he1, he2⟩, fun hk => h.low hk x hxm, ?_, ?_, ?_, ?_, ?_⟩
  · have := h.len
    rw [List.length_eraseIdx, if_pos hb]
    omega
  · exact h.rise.sublist (List.eraseIdx_sublist ..)
  · intro y hy
    obtain ⟨j, hj, hjy⟩ := hother y hy
    obtain ⟨i', hi', hbl', e', he', q1, q2⟩ := h.mem y (List.mem_of_getElem? hjy)
    refine ⟨i', hi', ?_, e', he', q1, q2⟩
    rw [List.getElem?_set_ne]
    · exact hbl'
    · intro e1
      subst e1
      rcases Nat.lt_or_gt_of_ne hj with c | c
      · have := hrise j b y x c hjy hx; omega
      · have := hrise b j x y c hx hjy; omega
  · rw [List.length_set]; exact h.blen
  · intro _ y hy hl
    obtain ⟨j, hj, hjy⟩ := hother y hy
    have n1 := g1 j y (List.getElem?_eq_some_iff.1 hjy).1 hjy
    unfold lexless at hl
    rcases Nat.lt_or_gt_of_ne hj with c | c
    · have := g2 j y c hjy
      unfold less at *
      omega
    · have := hrise b j x y c hx hjy
      unfold less at *
      omega
end QueP
