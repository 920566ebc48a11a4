/- Plain: all nodes' orders together are all partitions, each once. No conditions. -/
import Derived.Test.YtpfhkcikjenjiaaSndQ
namespace Go.Proofs.Ytpfhkcikjenjiaa.OrdP

theorem pick_count (l : List TableP.Part) (node : Int) : ∀ k, k ≤ l.length → (pick l node k).length = (l.take k).countP (fun p => decide (p.node = node))
  | 0, _ => by simp [pick]
  | k + 1, h => by
    have hk : l[k]? = some (l[k]'(by omega)) := List.getElem?_eq_getElem (by omega)
    rw [pick_step hk, List.take_add_one, hk, List.countP_append]
    have ih := pick_count l node k (by omega)
    by_cases hn : (l[k]'(by omega)).node = node
    · rw [if_pos hn, List.length_append, ih]; simp [hn]
    · rw [if_neg hn, ih]; simp [hn]
def cnt (l : List TableP.Part) (i : Int) : Nat := l.countP (fun p => decide (p.node < i))
theorem cnt_step (i : Int) : ∀ l : List TableP.Part, cnt l (i + 1) = cnt l i + l.countP (fun p => decide (p.node = i))
  | [] => rfl
  | p :: r => by
    have ih := cnt_step i r
    unfold cnt at *
    simp only [List.countP_cons, ih, decide_eq_true_eq]
    by_cases h1 : p.node < i
    · rw [if_pos (show p.node < i + 1 by omega), if_pos h1, if_neg (show ¬ p.node = i by omega)]; omega
    · by_cases h2 : p.node = i
      · rw [if_pos (show p.node < i + 1 by omega), if_neg h1, if_pos h2]; omega
      · rw [if_neg (show ¬ p.node < i + 1 by omega), if_neg h1, if_neg h2]; omega
theorem ord_length (l : List TableP.Part) (node : Int) : (ord l node).length = l.countP (fun p => decide (p.node = node)) := by
  unfold ord
  rw [srt_length, pick_count l node _ (Nat.le_refl _), List.take_length]
theorem cnt_ord (l : List TableP.Part) (i : Int) : cnt l (i + 1) = cnt l i + (ord l i).length := by rw [cnt_step, ord_length]
theorem cnt_none {l : List TableP.Part} (h : ∀ p ∈ l, 0 ≤ p.node) : cnt l 0 = 0 := by
  unfold cnt
  rw [List.countP_eq_zero]
  intro p hp
  have := h p hp
  simp; omega
theorem cnt_all {l : List TableP.Part} {n : Int} (h : ∀ p ∈ l, p.node < n) : cnt l n = l.length := by
  unfold cnt
  rw [List.countP_eq_length]
  intro p hp
  simpa using h p hp
theorem ord_mem {l : List TableP.Part} {node : Int} {p : Nat} (h : p ∈ ord l node) : ∃ q, l[p]? = some q ∧ q.node = node := (pick_mem ((srt_perm _ _).mem_iff.1 h)).2
theorem mem_ord {l : List TableP.Part} {node : Int} {p : Nat} {q : TableP.Part} (h : l[p]? = some q) (hq : q.node = node) : p ∈ ord l node := by
  refine (srt_perm _ _).mem_iff.2 ?_
  unfold pick
  refine List.mem_filter.2 ⟨List.mem_range.2 (List.getElem?_eq_some_iff.1 h).1, ?_⟩
  rw [h]; simpa using hq
theorem ord_nodup (l : List TableP.Part) (node : Int) : (ord l node).Nodup := (srt_perm _ _).nodup_iff.2 (pick_nodup _ _ _)
theorem ord_next {l : List TableP.Part} {node : Int} {j a b : Nat} (h1 : (ord l node)[j]? = some a) (h2 : (ord l node)[j + 1]? = some b) : keyP l a ≤ keyP l b := by
  have h := srt_rising (keyP l) (pick l node l.length)
  obtain ⟨hj, ha⟩ := List.getElem?_eq_some_iff.1 h1
  obtain ⟨hj2, hb⟩ := List.getElem?_eq_some_iff.1 h2
  have := List.pairwise_iff_getElem.1 h j (j + 1) hj hj2 (by omega)
  rw [← ha, ← hb]
  exact this
theorem ord_fresh {l : List TableP.Part} {node : Int} {j p : Nat} (h : (ord l node)[j]? = some p) : p ∉ (ord l node).take j := fun hm => by
  obtain ⟨hj, hp⟩ := List.getElem?_eq_some_iff.1 h
  obtain ⟨k, hk, hkp⟩ := List.mem_take_iff_getElem.1 hm
  have hn := List.pairwise_iff_getElem.1 (ord_nodup l node) k j (by omega) hj (by omega)
  exact hn (by rw [hkp, hp])
theorem ord_empty {l : List TableP.Part} {n : Int} (h : ∀ p ∈ l, p.node < n) : ord l n = [] := by
  apply List.eq_nil_of_length_eq_zero
  rw [ord_length, List.countP_eq_zero]
  intro p hp
  have := h p hp
  simp; omega
/-- What has been seen. -/
def Marks (l : List TableP.Part) (i : Int) (s : List Nat) (bl : List Bool) : Prop := bl.length = l.length ∧ ∀ (k : Nat) p, l[k]? = some p → bl[k]? = some (decide (p.node < i) || decide (k ∈ s))
theorem Marks.start {l : List TableP.Part} (h : ∀ p ∈ l, 0 ≤ p.node) : Marks l 0 [] (List.replicate l.length false) := ⟨by simp, fun k p hk => by
  have h1 := h p (List.mem_of_getElem? hk)
  have h2 := (List.getElem?_eq_some_iff.1 hk).1
  rw [List.getElem?_replicate, if_pos h2]
  simp; omega⟩
theorem Marks.set {l : List TableP.Part} {i : Int} {s : List Nat} {bl : List Bool} (h : Marks l i s bl) (p : Nat) : Marks l i (s ++ [p]) (bl.set p true) := ⟨by simp [h.1], fun k q hk => by
  have h1 := h.2 k q hk
  by_cases hpk : p = k
  · subst hpk
    rw [List.getElem?_set_self (by have := (List.getElem?_eq_some_iff.1 hk).1; have := h.1; omega)]
    simp
  · rw [List.getElem?_set_ne hpk, h1]
    simp [Ne.symm hpk]⟩
theorem Marks.next {l : List TableP.Part} {i : Int} {bl : List Bool} (h : Marks l i (ord l i) bl) : Marks l (i + 1) [] bl := ⟨h.1, fun k p hk => by
  rw [h.2 k p hk]
  congr 1
  rw [Bool.eq_iff_iff]
  simp only [Bool.or_eq_true, decide_eq_true_eq, List.not_mem_nil, or_false]
  constructor
  · rintro (h1 | h1)
    · omega
    · obtain ⟨q, hq, hn⟩ := ord_mem h1
      rw [hk] at hq
      cases hq
      omega
  · intro h1
    by_cases h2 : p.node < i
    · exact .inl h2
    · exact .inr (mem_ord hk (by omega))⟩
end Go.Proofs.Ytpfhkcikjenjiaa.OrdP
