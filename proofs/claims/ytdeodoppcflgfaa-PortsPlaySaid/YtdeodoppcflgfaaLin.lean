/- Lists whose elements hold bytes of the call's own, in slices of the call's own anywhere in their blocks (LIn); many of them side by side (Many). Over whatever program. No conditions beyond those that each states. -/
import Derived.Test.YtdeodoppcflgfaaMem
namespace Go.Proofs.Ytdeodoppcflgfaa
open Go.RowKit

section
variable {α : Type} {e : TypeId} {size : Nat} {vals : α → List Value} {dat : α → Value × List UInt8} {W W' W1 : World} {B : Nat} {v v' : Value} {l : List α}
/-- A list in memory: its elements' cells in a slice of the call's own, each element's bytes in a row of the call's own. -/
structure LIn (e : TypeId) (size : Nat) (vals : α → List Value) (dat : α → Value × List UInt8) (W : World) (B : Nat) (v : Value) (l : List α) : Prop where
  seg : Seg W B e size v l.length (itemsV vals l)
  rows : ∀ x ∈ l, W.ownsRow B 5 1 (dat x).1 (dat x).2.length (bytesV (dat x).2)
theorem LIn.nil (W : World) (B : Nat) : LIn e size vals dat W B (.slice none 0 0) [] := ⟨Seg.nil W B e size, fun x hx => (by cases hx)⟩
theorem LIn.apart {F : Nat → Prop} (h : LIn e size vals dat W B v l) (ha : Apart F W W') (hv : ∀ q, v.ownBlock = some q → ¬ F q) (hr : ∀ x ∈ l, ∀ q, (dat x).1.ownBlock = some q → ¬ F q) : LIn e size vals dat W' B v l :=
  ⟨h.seg.apart ha hv, fun x hx => own_apart (h.rows x hx) ha (hr x hx)⟩
theorem LIn.below (h : LIn e size vals dat W B v l) (hb : Below W.heap.size W W') : LIn e size vals dat W' B v l := h.apart (F := fun _ => False) (Apart.of_below' hb) (fun _ _ h => h) (fun _ _ _ _ h => h)
/-- A row of bytes lies in no block of another type's slice. -/
theorem LIn.bytes_off {x : α} (hx : W.ownsRow B 5 1 (dat x).1 (dat x).2.length (bytesV (dat x).2)) (h : Seg W B e size v' l.length (itemsV vals l)) (hne : 5 ≠ e) {q : Nat} (hq : (dat x).1.ownBlock = some q) : v'.ownBlock ≠ some q := fun hv => by
  obtain ⟨cur, hc⟩ := h.block q hv
  exact own_off hx hc hne q hq rfl
theorem LIn.more (h : LIn e size vals dat W B v l) {x : α} (hx : W.ownsRow B 5 1 (dat x).1 (dat x).2.length (bytesV (dat x).2)) (hne : 5 ≠ e) (hs : Seg W1 B e size v' (l.length + 1) (itemsV vals l ++ vals x)) (ha : Apart (fun q => v.ownBlock = some q) W W1) : LIn e size vals dat W1 B v' (l ++ [x]) := by
  have hall : ∀ y ∈ l ++ [x], W.ownsRow B 5 1 (dat y).1 (dat y).2.length (bytesV (dat y).2) := fun y hy => by
    rcases List.mem_append.1 hy with hy | hy
    · exact h.rows y hy
    · rw [List.mem_singleton.1 hy]; exact hx
  refine ⟨?_, fun y hy => own_apart (hall y hy) ha (fun q hq => LIn.bytes_off (hall y hy) h.seg hne hq)⟩
  rw [List.length_append, itemsV_append, itemsV_one']
  exact hs
/-- Without the first. -/
theorem LIn.tail {g off cap : Nat} (hs : ∀ x, (vals x).length = size) {x : α} (h : LIn e size vals dat W B (.slice (some ⟨g, off, none⟩) (l.length + 1) cap) (x :: l)) : LIn e size vals dat W B (.slice (some (if cap = 1 then ⟨g, off, none⟩ else ⟨g, off + 1 * size, none⟩)) l.length (cap - 1)) l := by
  have h1 := Seg.tail (k := 1) h.seg (by simp)
  refine ⟨?_, fun y hy => h.rows y (List.mem_cons_of_mem _ hy)⟩
  have e1 : (itemsV vals (x :: l)).drop (1 * size) = itemsV vals l := by rw [items_drop hs]; rfl
  rw [e1] at h1
  simpa using h1
theorem LIn.low (h : LIn e size vals dat W B v l) {B' : Nat} (hb : B' ≤ B) : LIn e size vals dat W B' v l := by
  refine ⟨⟨h.seg.1, ?_⟩, fun x hx => ⟨(h.rows x hx).1, ?_⟩⟩
  · rcases h.seg.2 with h1 | ⟨g, off, cap, cur, h1, h2, h3⟩
    · exact .inl h1
    · exact .inr ⟨g, off, cap, cur, h1, Nat.le_trans hb h2, h3⟩
  · rcases (h.rows x hx).2 with h1 | ⟨g, cap, cur, h1, h2, h3⟩
    · exact .inl h1
    · exact .inr ⟨g, cap, cur, h1, Nat.le_trans hb h2, h3⟩

/-- Many lists side by side, no two in one block. -/
structure Many (e : TypeId) (size : Nat) (vals : α → List Value) (dat : α → Value × List UInt8) (W : World) (B : Nat) (vs : List Value) (ls : List (List α)) : Prop where
  len : vs.length = ls.length
  each : ∀ (i : Nat) (v : Value) (l : List α), vs[i]? = some v → ls[i]? = some l → LIn e size vals dat W B v l
  apart : ∀ (i j : Nat) (v v' : Value), i ≠ j → vs[i]? = some v → vs[j]? = some v' → ∀ q, v.ownBlock = some q → v'.ownBlock ≠ some q
variable {vs : List Value} {ls : List (List α)}
theorem Many.start (W : World) (B n : Nat) : Many e size vals dat W B (List.replicate n (.slice none 0 0)) (List.replicate n []) := by
  refine ⟨by simp, fun i v l hv hl => ?_, fun i j v v' _ hv _ q hq => ?_⟩
  · rw [List.eq_of_mem_replicate (List.mem_of_getElem? hv), List.eq_of_mem_replicate (List.mem_of_getElem? hl)]
    exact LIn.nil W B
  · rw [List.eq_of_mem_replicate (List.mem_of_getElem? hv)] at hq
    simp [Value.ownBlock] at hq
theorem Many.below (h : Many e size vals dat W B vs ls) (hb : Below W.heap.size W W') : Many e size vals dat W' B vs ls := ⟨h.len, fun i v l hv hl => (h.each i v l hv hl).below hb, h.apart⟩
theorem Many.offs {F : Nat → Prop} (h : Many e size vals dat W B vs ls) (ha : Apart F W W') (hv : ∀ v ∈ vs, ∀ q, v.ownBlock = some q → ¬ F q) (hr : ∀ l ∈ ls, ∀ x ∈ l, ∀ q, (dat x).1.ownBlock = some q → ¬ F q) : Many e size vals dat W' B vs ls :=
  ⟨h.len, fun i v l h1 h2 => (h.each i v l h1 h2).apart ha (hv v (List.mem_of_getElem? h1)) (hr l (List.mem_of_getElem? h2)), h.apart⟩
/-- A block of another type is none of theirs. -/
theorem Many.block_off (h : Many e size vals dat W B vs ls) {T : Nat} {cs : Array Value} {t : TypeId} (hT : W.heap[T]? = some (.cells cs t (0, 0))) (hne : e ≠ t) (hne8 : 5 ≠ t) : (∀ v ∈ vs, ∀ q, v.ownBlock = some q → q ≠ T) ∧ ∀ l ∈ ls, ∀ x ∈ l, ∀ q, (dat x).1.ownBlock = some q → q ≠ T := by
  refine ⟨fun v hv q hq => ?_, fun l hl x hx q hq => ?_⟩
  · obtain ⟨i, hi⟩ := List.getElem?_of_mem hv
    have hlt := (List.getElem?_eq_some_iff.1 hi).1
    obtain ⟨l, hl⟩ : ∃ l, ls[i]? = some l := ⟨_, List.getElem?_eq_getElem (by rw [← h.len]; exact hlt)⟩
    exact (h.each i v l hi hl).seg.off hT hne q hq
  · obtain ⟨i, hi⟩ := List.getElem?_of_mem hl
    have hlt := (List.getElem?_eq_some_iff.1 hi).1
    obtain ⟨v, hv⟩ : ∃ v, vs[i]? = some v := ⟨_, List.getElem?_eq_getElem (by rw [h.len]; exact hlt)⟩
    exact own_off ((h.each i v l hv hi).rows x hx) hT hne8 q hq
/-- Stores elsewhere: into a block of another type. -/
theorem Many.store (h : Many e size vals dat W B vs ls) {T : Nat} {cs : Array Value} {t : TypeId} (hT : W.heap[T]? = some (.cells cs t (0, 0))) (hne : e ≠ t) (hne8 : 5 ≠ t) (ha : Apart (fun q => q = T) W W') : Many e size vals dat W' B vs ls :=
  h.offs ha (fun v hv q hq => (h.block_off hT hne hne8).1 v hv q hq) (fun l hl x hx q hq => (h.block_off hT hne hne8).2 l hl x hx q hq)
/-- One of them changes. -/
theorem Many.set (h : Many e size vals dat W B vs ls) {i : Nat} (hi : vs[i]? = some v) (hne : 5 ≠ e) {l' : List α} (hn : LIn e size vals dat W1 B v' l') (ha : Apart (fun q => v.ownBlock = some q) W W1) (hb : ∀ q, v'.ownBlock = some q → v.ownBlock = some q ∨ W.heap.size ≤ q) : Many e size vals dat W1 B (vs.set i v') (ls.set i l') := by
  have hil := (List.getElem?_eq_some_iff.1 hi).1
  obtain ⟨l, hl⟩ : ∃ l, ls[i]? = some l := ⟨_, List.getElem?_eq_getElem (by rw [← h.len]; exact hil)⟩
  have hseg := (h.each i v l hi hl).seg
  have hother : ∀ (j : Nat) (u : Value), j ≠ i → vs[j]? = some u → ∀ q, u.ownBlock = some q → v.ownBlock ≠ some q ∧ q < W.heap.size := fun j u hj hu q hq => by
    refine ⟨h.apart j i u v hj hu hi q hq, ?_⟩
    obtain ⟨l2, hl2⟩ : ∃ l2, ls[j]? = some l2 := ⟨_, List.getElem?_eq_getElem (by rw [← h.len]; exact (List.getElem?_eq_some_iff.1 hu).1)⟩
    exact ((h.each j u l2 hu hl2).seg.lt q hq).2
  refine ⟨by rw [List.length_set, List.length_set]; exact h.len, fun j u l2 hu hl2 => ?_, fun j k u u' hjk hu hu' q hq => ?_⟩
  · by_cases hj : j = i
    · subst hj
      rw [List.getElem?_set_self hil] at hu
      rw [List.getElem?_set_self (by rw [← h.len]; exact hil)] at hl2
      obtain rfl := Option.some.inj hu
      obtain rfl := Option.some.inj hl2
      exact hn
    · rw [List.getElem?_set_ne (Ne.symm hj)] at hu hl2
      have hj1 := h.each j u l2 hu hl2
      exact hj1.apart ha (fun q hq => (hother j u hj hu q hq).1) (fun x hx q hq => LIn.bytes_off (hj1.rows x hx) hseg hne hq)
  · have hsep : ∀ (j : Nat) (u : Value), j ≠ i → vs[j]? = some u → ∀ q, u.ownBlock = some q → v'.ownBlock ≠ some q := fun j u hj hu q hq e2 => by
      obtain ⟨h1, h2⟩ := hother j u hj hu q hq
      rcases hb q e2 with h3 | h3
      · exact h1 h3
      · omega
    by_cases hj : j = i
    · subst hj
      rw [List.getElem?_set_self hil] at hu
      obtain rfl := Option.some.inj hu
      rw [List.getElem?_set_ne hjk] at hu'
      exact fun e2 => hsep k u' (Ne.symm hjk) hu' q e2 hq
    · rw [List.getElem?_set_ne (Ne.symm hj)] at hu
      by_cases hk : k = i
      · subst hk
        rw [List.getElem?_set_self hil] at hu'
        obtain rfl := Option.some.inj hu'
        exact hsep j u hj hu q hq
      · rw [List.getElem?_set_ne (Ne.symm hk)] at hu'
        exact h.apart j k u u' hjk hu hu' q hq
end
/-- A text: its slice and its bytes. -/
abbrev Txt := Value × List UInt8
def txtVals (x : Txt) : List Value := [x.1]
theorem txtVals_len (x : Txt) : (txtVals x).length = 1 := rfl
end Go.Proofs.Ytdeodoppcflgfaa
