/- Plain: indices in the order of a key: inserted one by one. No conditions. -/
import Derived.Test.YtfgpfmhjnccccaaPlA
namespace Go.Proofs.Ytfgpfmhjnccccaa.OrdP

/-- An index laid behind all whose key is no greater. -/
def ins (key : Nat → Int) (i : Nat) : List Nat → List Nat
  | [] => [i]
  | x :: r => if key x ≤ key i then x :: ins key i r else i :: x :: r
def srt (key : Nat → Int) (l : List Nat) : List Nat := l.foldl (fun a i => ins key i a) []
def Rising (key : Nat → Int) (l : List Nat) : Prop := l.Pairwise (fun a b => key a ≤ key b)

theorem srt_snoc (key : Nat → Int) (l : List Nat) (i : Nat) : srt key (l ++ [i]) = ins key i (srt key l) := by simp [srt]
theorem ins_perm (key : Nat → Int) (i : Nat) : ∀ l, (ins key i l).Perm (i :: l)
  | [] => List.Perm.refl _
  | x :: r => by
    unfold ins
    split
    · exact ((ins_perm key i r).cons x).trans (List.Perm.swap i x r)
    · exact List.Perm.refl _
theorem ins_length (key : Nat → Int) (i : Nat) (l : List Nat) : (ins key i l).length = l.length + 1 := by
  have := (ins_perm key i l).length_eq; simpa using this
theorem ins_rising (key : Nat → Int) (i : Nat) : ∀ {l : List Nat}, Rising key l → Rising key (ins key i l)
  | [], _ => by simp [ins, Rising]
  | x :: r, h => by
    have h' := List.pairwise_cons.1 h
    unfold ins
    split
    · rename_i hx
      refine List.pairwise_cons.2 ⟨fun y hy => ?_, ins_rising key i h'.2⟩
      rcases List.mem_cons.1 ((ins_perm key i r).mem_iff.1 hy) with rfl | hy
      · exact hx
      · exact h'.1 y hy
    · rename_i hx
      refine List.pairwise_cons.2 ⟨fun y hy => ?_, h⟩
      rcases List.mem_cons.1 hy with rfl | hy
      · omega
      · have := h'.1 y hy; omega
theorem srt_rising (key : Nat → Int) (l : List Nat) : Rising key (srt key l) := by
  suffices ∀ (l a : List Nat), Rising key a → Rising key (l.foldl (fun a i => ins key i a) a) from this l [] List.Pairwise.nil
  intro l
  induction l with
  | nil => intro a h; exact h
  | cons x r ih => intro a h; exact ih _ (ins_rising key x h)
theorem srt_perm (key : Nat → Int) (l : List Nat) : (srt key l).Perm l := by
  suffices ∀ (l a : List Nat), (l.foldl (fun a i => ins key i a) a).Perm (a ++ l) from by simpa [srt] using this l []
  intro l
  induction l with
  | nil => intro a; simp
  | cons x r ih =>
    intro a
    refine (ih _).trans ?_
    exact ((ins_perm key x a).append_right r).trans (List.perm_middle.symm)
theorem srt_length (key : Nat → Int) (l : List Nat) : (srt key l).length = l.length := (srt_perm key l).length_eq
theorem ins_split (key : Nat → Int) (i : Nat) : ∀ {pre post : List Nat}, (∀ x ∈ pre, key x ≤ key i) → (∀ x ∈ post, key i < key x) → ins key i (pre ++ post) = pre ++ i :: post
  | [], [], _, _ => rfl
  | [], y :: r, _, h => by
    have := h y (by simp)
    show ins key i (y :: r) = _
    unfold ins
    rw [if_neg (by omega)]; rfl
  | x :: r, post, h, h2 => by
    show ins key i (x :: (r ++ post)) = _
    unfold ins
    rw [if_pos (h x (by simp)), ins_split key i (fun y hy => h y (by simp [hy])) h2]
    rfl
/-- All ahead of the place are no greater, if the last of them is not. -/
theorem le_of_last {key : Nat → Int} {pre post : List Nat} {y i : Nat} (h : Rising key ((pre ++ [y]) ++ post)) (hy : key y ≤ key i) : ∀ x ∈ pre ++ [y], key x ≤ key i := fun x hx => by
  have h1 := (List.pairwise_append.1 h).1
  have h2 := (List.pairwise_append.1 h1).2.2
  rcases List.mem_append.1 hx with hx | hx
  · have := h2 x hx y (by simp); omega
  · rw [List.mem_singleton.1 hx]; exact hy
/-- The exchange of two neighbours. -/
theorem swap_at {α : Type} (pre post : List α) (y e : α) : ((pre ++ y :: e :: post).set (pre.length + 1) y).set pre.length e = pre ++ e :: y :: post := by
  rw [List.set_append_right _ _ (by omega), List.set_append_right _ _ (by omega)]
  simp
theorem get_at1 {α : Type} (pre post : List α) (y e : α) : (pre ++ y :: e :: post)[pre.length + 1]? = some e := by
  rw [List.getElem?_append_right (by omega)]; simp
theorem get_at0 {α : Type} (pre post : List α) (y e : α) : (pre ++ y :: e :: post)[pre.length]? = some y := by
  rw [List.getElem?_append_right (by omega)]; simp
/-- A node's partitions, in the tables' order, among the first k. -/
def pick (l : List TableP.Part) (node : Int) (k : Nat) : List Nat := (List.range k).filter fun i => match l[i]? with | some p => decide (p.node = node) | none => false
theorem pick_step {l : List TableP.Part} {node : Int} {k : Nat} {p : TableP.Part} (h : l[k]? = some p) : pick l node (k + 1) = if p.node = node then pick l node k ++ [k] else pick l node k := by
  unfold pick
  rw [List.range_succ, List.filter_append]
  simp only [List.filter_cons, h, List.filter_nil]
  by_cases hn : p.node = node <;> simp [hn]
theorem pick_mem {l : List TableP.Part} {node : Int} {k i : Nat} (h : i ∈ pick l node k) : i < k ∧ ∃ p, l[i]? = some p ∧ p.node = node := by
  unfold pick at h
  obtain ⟨h1, h2⟩ := List.mem_filter.1 h
  refine ⟨List.mem_range.1 h1, ?_⟩
  cases hp : l[i]? with
  | none => rw [hp] at h2; cases h2
  | some p => rw [hp] at h2; exact ⟨p, rfl, by simpa using h2⟩
theorem pick_length (l : List TableP.Part) (node : Int) (k : Nat) : (pick l node k).length ≤ k := by
  have := List.length_filter_le (fun i => match l[i]? with | some p => decide (p.node = node) | none => false) (List.range k)
  simpa [pick] using this
theorem pick_nodup (l : List TableP.Part) (node : Int) (k : Nat) : (pick l node k).Nodup := (List.nodup_range).filter _
def keyP (l : List TableP.Part) (i : Nat) : Int := match l[i]? with | some p => p.start | none => 0
/-- A node's partitions by their windows' beginnings. -/
def ord (l : List TableP.Part) (node : Int) : List Nat := srt (keyP l) (pick l node l.length)
def cmpI (a b : Int) : Int := if a < b then -1 else if b < a then 1 else 0
theorem cmpI_neg {a b : Int} : cmpI a b < 0 ↔ a < b := by unfold cmpI; split <;> (try split) <;> omega
end Go.Proofs.Ytfgpfmhjnccccaa.OrdP
