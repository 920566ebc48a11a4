/- Plain: tables that work do so still without a route, or without ports and a partition. No conditions. -/
import Derived.Test.YtpfhkcikjenjiaaSndP
namespace Go.Proofs.Ytpfhkcikjenjiaa.SndP
open TableP

/-- Without the k-th. -/
def less {α : Type} (l : List α) (k : Nat) : List α := l.take k ++ l.drop (k + 1)
theorem less_mem {α : Type} {l : List α} {k : Nat} {x : α} (h : x ∈ less l k) : x ∈ l := by
  rcases List.mem_append.1 h with h | h
  · exact List.mem_of_mem_take h
  · exact List.mem_of_mem_drop h
theorem less_length {α : Type} {l : List α} {k : Nat} (hk : k < l.length) : (less l k).length = l.length - 1 := by
  unfold less
  rw [List.length_append, List.length_take, List.length_drop]
  omega
/-- Where an element of the rest stood, and that those ahead of it stood ahead of it. -/
theorem less_at {α : Type} {l : List α} {k j : Nat} {x : α} (hk : k < l.length) (h : (less l k)[j]? = some x) : ∃ i, l[i]? = some x ∧ ∀ y ∈ (less l k).take j, y ∈ l.take i := by
  unfold less at h ⊢
  by_cases hj : j < k
  · rw [List.getElem?_append_left (by rw [List.length_take]; omega), List.getElem?_take, if_pos hj] at h
    refine ⟨j, h, fun y hy => ?_⟩
    rw [List.take_append_of_le_length (by rw [List.length_take]; omega), List.take_take] at hy
    rwa [Nat.min_eq_left (by omega)] at hy
  · have hlen : (l.take k).length = k := by rw [List.length_take]; omega
    rw [List.getElem?_append_right (by omega), hlen, List.getElem?_drop] at h
    refine ⟨k + 1 + (j - k), h, fun y hy => ?_⟩
    rw [List.take_append, hlen] at hy
    rcases List.mem_append.1 hy with hy | hy
    · have h1 := List.mem_of_mem_take hy
      have e : l.take k = (l.take (k + 1 + (j - k))).take k := by rw [List.take_take, Nat.min_eq_left (by omega)]
      rw [e] at h1
      exact List.mem_of_mem_take h1
    · have e : (l.drop (k + 1)).take (j - k) = (l.take (k + 1 + (j - k))).drop (k + 1) := by
        rw [List.drop_take]
        congr 1
        omega
      rw [e] at hy
      exact List.mem_of_mem_drop hy
theorem any_less {α : Type} {p : α → Bool} {l : List α} {k j i : Nat} (h : ∀ y ∈ (less l k).take j, y ∈ l.take i) (ha : (l.take i).any p = false) : ((less l k).take j).any p = false := by
  rw [List.any_eq_false] at ha ⊢
  intro y hy
  exact ha y (h y hy)
theorem works_route {c : Cfg} (h : Works c) {k : Nat} (hk : k < c.routes.length) : Works { c with routes := less c.routes k } := by
  obtain ⟨ha, h1, h2, h3, h4, h5, h6⟩ := h
  refine ⟨⟨ha.head, ha.parts, ha.ports, ?_, ha.part, ha.port, fun r hr => ha.route r (less_mem hr)⟩, h1, h2, h3, h4, h5, fun j r hr => ?_⟩
  · have := ha.routes; simp only; rw [less_length hk]; omega
  · obtain ⟨i, hi, hall⟩ := less_at hk hr
    have h7 := h6 i r hi
    unfold joinB at h7 ⊢
    simp only at h7 ⊢
    cases ea : c.ports[r.src.toNat]? with
    | none => rw [ea] at h7; simp at h7
    | some a =>
      cases eb : c.ports[r.dst.toNat]? with
      | none => rw [ea, eb] at h7; simp at h7
      | some b =>
        rw [ea, eb] at h7
        simp only [Bool.and_eq_true, Bool.not_eq_true'] at h7 ⊢
        exact ⟨h7.1, any_less hall h7.2⟩
theorem works_bare {c : Cfg} (h : Works c) : Works { c with ports := [], routes := [] } := by
  obtain ⟨ha, h1, h2, h3, h4, h5, h6⟩ := h
  exact ⟨⟨ha.head, ha.parts, by simp, by simp, ha.part, by simp, by simp⟩, h1, h2, h3, h4, h5, by simp⟩
theorem works_part {c : Cfg} (h : Works c) {k : Nat} (hk : k < c.parts.length) : Works { c with parts := less c.parts k, ports := [], routes := [] } := by
  obtain ⟨ha, h1, h2, h3, h4, h5, h6⟩ := h
  refine ⟨⟨ha.head, ?_, by simp, by simp, fun p hp => ha.part p (less_mem hp), by simp, by simp⟩, h1, h2, h3, h4, fun j p hp => ?_, by simp⟩
  · have := ha.parts; simp only; rw [less_length hk]; omega
  · obtain ⟨i, hi, hall⟩ := less_at hk hp
    have h7 := h5 i p hi
    unfold fitB at h7 ⊢
    simp only [Bool.and_eq_true, Bool.not_eq_true'] at h7 ⊢
    exact ⟨h7.1, any_less hall h7.2⟩
end Go.Proofs.Ytpfhkcikjenjiaa.SndP
