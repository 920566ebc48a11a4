/- Plain: a search in depth over marks. No conditions. -/
import Derived.Test.YtfgpfmhjnccccaaSndU
namespace Go.Proofs.Ytfgpfmhjnccccaa.RchP

/-- What a search from a on makes of the marks bl. -/
structure Dfs (E : List (Nat × Nat)) (a : Nat) (bl bl2 : List Bool) : Prop where
  len : bl2.length = bl.length
  mono : ∀ k : Nat, bl[k]? = some true → bl2[k]? = some true
  self : bl2[a]? = some true
  reached : ∀ k : Nat, bl2[k]? = some true → bl[k]? = some true ∨ Rch E a k
  closed : ∀ k : Nat, bl2[k]? = some true → bl[k]? = some true ∨ ∀ c ∈ nbr E k, bl2[c]? = some true
theorem Dfs.stop {E : List (Nat × Nat)} {a : Nat} {bl : List Bool} (h : bl[a]? = some true) : Dfs E a bl bl := ⟨rfl, fun _ h => h, h, fun _ h => .inl h, fun _ h => .inl h⟩
/-- The same within the loop over the edges: T: the marks so far; the edges F have been gone. -/
structure DfsI (E F : List (Nat × Nat)) (a : Nat) (bl T : List Bool) : Prop where
  len : T.length = bl.length
  mono : ∀ k : Nat, (bl.set a true)[k]? = some true → T[k]? = some true
  reached : ∀ k : Nat, T[k]? = some true → bl[k]? = some true ∨ Rch E a k
  closed : ∀ k : Nat, T[k]? = some true → (bl.set a true)[k]? = some true ∨ ∀ c ∈ nbr E k, T[c]? = some true
  gone : ∀ c ∈ nbr F a, T[c]? = some true
theorem DfsI.start {E : List (Nat × Nat)} {a : Nat} {bl : List Bool} (ha : a < bl.length) : DfsI E [] a bl (bl.set a true) :=
  ⟨by simp, fun _ h => h, fun k h => by
    rcases (get_set ha).1 h with rfl | h
    · exact .inr .base
    · exact .inl h, fun _ h => .inl h, fun c hc => by simp [nbr] at hc⟩
theorem DfsI.pass {E F : List (Nat × Nat)} {a f c : Nat} {bl T : List Bool} (h : DfsI E F a bl T) (hf : f ≠ a) : DfsI E (F ++ [(f, c)]) a bl T :=
  ⟨h.len, h.mono, h.reached, h.closed, fun d hd => h.gone d (by rw [nbr_snoc, if_neg hf] at hd; exact hd)⟩
theorem DfsI.go {E F : List (Nat × Nat)} {a c : Nat} {bl T T2 : List Bool} (h : DfsI E F a bl T) (he : (a, c) ∈ E) (hd : Dfs E c T T2) : DfsI E (F ++ [(a, c)]) a bl T2 :=
  ⟨hd.len.trans h.len, fun k hk => hd.mono k (h.mono k hk), fun k hk => by
    rcases hd.reached k hk with h1 | h1
    · exact h.reached k h1
    · exact .inr ((Rch.step .base he).trans h1), fun k hk => by
    rcases hd.closed k hk with h1 | h1
    · rcases h.closed k h1 with h2 | h2
      · exact .inl h2
      · exact .inr fun d hd2 => hd.mono d (h2 d hd2)
    · exact .inr h1, fun d hd2 => by
    rw [nbr_snoc, if_pos rfl] at hd2
    rcases List.mem_append.1 hd2 with h1 | h1
    · exact hd.mono d (h.gone d h1)
    · rw [List.mem_singleton.1 h1]; exact hd.self⟩
theorem DfsI.done {E : List (Nat × Nat)} {a : Nat} {bl T : List Bool} (ha : a < bl.length) (h : DfsI E E a bl T) : Dfs E a bl T :=
  ⟨h.len, fun k hk => h.mono k ((get_set ha).2 (.inr hk)), h.mono a ((get_set ha).2 (.inl rfl)), h.reached, fun k hk => by
    rcases h.closed k hk with h1 | h1
    · rcases (get_set ha).1 h1 with rfl | h1
      · exact .inr h.gone
      · exact .inl h1
    · exact .inr h1⟩
theorem bare_mono : ∀ {bl T : List Bool}, T.length = bl.length → (∀ k : Nat, bl[k]? = some true → T[k]? = some true) → bare T ≤ bare bl
  | [], [], _, _ => Nat.le_refl _
  | [], _ :: _, h, _ => by simp at h
  | _ :: _, [], h, _ => by simp at h
  | b :: r, t :: s, h, hm => by
    have ih := bare_mono (bl := r) (T := s) (by simpa using h) (fun k hk => by have := hm (k + 1) (by simpa using hk); simpa using this)
    have h0 := hm 0
    unfold bare at *
    simp only [List.countP_cons]
    cases b with
    | false => cases t <;> simp <;> omega
    | true =>
      have : t = true := by simpa using h0 rfl
      subst this
      simp; omega
theorem Dfs.says {E : List (Nat × Nat)} {n a : Nat} {bl : List Bool} (h : Dfs E a (List.replicate n false) bl) : Says E n a bl := by
  have hno : ∀ k : Nat, ¬ (List.replicate n false)[k]? = some true := fun k hk => by
    rw [List.getElem?_replicate] at hk
    split at hk <;> simp at hk
  exact says_of (by rw [h.len]; simp) h.self (fun k hk => (h.reached k hk).resolve_left (hno k)) (fun k hk => (h.closed k hk).resolve_left (hno k))
end Go.Proofs.Ytfgpfmhjnccccaa.RchP
