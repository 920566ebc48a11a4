/- Rows of elements of so many cells each, in memory: where they lie (ItemsIn), their cells (itemsV), rows that a call owns. Over whatever program. No conditions beyond those that each states. -/
import Derived.Test.YthihdbcclocbkaaFrs
namespace Go.Proofs.Ythihdbcclocbkaa
open Go.RowKit

/-- Elements of so many cells each, in memory. -/
def ItemsIn {α : Type} (vals : α → List Value) (size : Nat) (W : World) (A : Option Addr) (l : List α) : Prop :=
  0 < l.length → ∃ b off, A = some ⟨b, off, none⟩ ∧ b < W.heap.size ∧ ∀ i x, l[i]? = some x → ∀ j u, (vals x)[j]? = some u → W.cell? ⟨b, off + i * size + j, none⟩ = some u
theorem ItemsIn.apart {α : Type} {vals : α → List Value} {size : Nat} {W W' : World} {A : Option Addr} {l : List α} {F : Nat → Prop} (h : ItemsIn vals size W A l) (ha : Apart F W W') (hF : 0 < l.length → ∀ k, blockOf A = some k → ¬ F k) : ItemsIn vals size W' A l := fun hl => by
  obtain ⟨b, off, e, hb, hi⟩ := h hl
  have hn := hF hl b (by rw [e]; rfl)
  exact ⟨b, off, e, Nat.lt_of_lt_of_le hb ha.size, fun i x hx j u hu => (ha.cell (p := ⟨b, _, none⟩) hb hn).trans (hi i x hx j u hu)⟩
theorem ItemsIn.below {α : Type} {vals : α → List Value} {size : Nat} {W W' : World} {A : Option Addr} {l : List α} (h : ItemsIn vals size W A l) (hw : Below W.heap.size W W') : ItemsIn vals size W' A l :=
  h.apart (F := fun _ => False) (Apart.of_below' hw) (fun _ _ _ h => h)
theorem ItemsIn.drewN {α : Type} {vals : α → List Value} {size : Nat} {W : World} {A : Option Addr} {l : List α} (h : ItemsIn vals size W A l) (m : Nat) : ItemsIn vals size (W.drewN m) A l := h

/-- A row's cells. -/
def itemsV {α : Type} (vals : α → List Value) (l : List α) : List Value := l.flatMap vals
theorem itemsV_append {α : Type} (vals : α → List Value) (l r : List α) : itemsV vals (l ++ r) = itemsV vals l ++ itemsV vals r := by simp [itemsV]
theorem itemsV_one' {α : Type} (vals : α → List Value) (x : α) : itemsV vals [x] = vals x := by simp [itemsV]
theorem itemsV_length {α : Type} {vals : α → List Value} {size : Nat} (hs : ∀ x, (vals x).length = size) : ∀ (l : List α), (itemsV vals l).length = l.length * size
  | [] => by simp [itemsV]
  | x :: l => by
    have := itemsV_length hs l
    simp only [itemsV, List.flatMap_cons, List.length_append, List.length_cons] at this ⊢
    rw [this, hs, Nat.succ_mul, Nat.add_comm]
theorem itemsV_at {α : Type} {vals : α → List Value} {size : Nat} (hs : ∀ x, (vals x).length = size) : ∀ (l : List α) (i : Nat) (x : α), l[i]? = some x → ∀ j, j < size → (itemsV vals l)[i * size + j]? = (vals x)[j]?
  | [], i, x, h => by simp at h
  | y :: l, 0, x, h => by
    simp at h
    subst h
    intro j hj
    simp only [itemsV, List.flatMap_cons, Nat.zero_mul, Nat.zero_add]
    rw [List.getElem?_append_left (by rw [hs]; exact hj)]
  | y :: l, i + 1, x, h => by
    intro j hj
    have h1 := itemsV_at hs l i x (by simpa using h) j hj
    have e1 : (i + 1) * size + j = size + (i * size + j) := by rw [Nat.succ_mul]; omega
    rw [e1, ← h1]
    simp only [itemsV, List.flatMap_cons]
    rw [List.getElem?_append_right (by rw [hs]; omega), hs, Nat.add_sub_cancel_left]
theorem itemsV_oneCell {α : Type} {vals : α → List Value} (h1 : ∀ x, ∀ u ∈ vals x, u.oneCell' = true) (l : List α) : ∀ u ∈ itemsV vals l, u.oneCell' = true := by
  intro u hu
  simp only [itemsV, List.mem_flatMap] at hu
  obtain ⟨x, _, hx⟩ := hu
  exact h1 x u hx
/-- The cells, out of where they lie: to be appended. -/
theorem ItemsIn.news {α : Type} {vals : α → List Value} {size : Nat} (hs : ∀ x, (vals x).length = size) (hz : 0 < size) {W : World} {A : Option Addr} {l : List α} (h : ItemsIn vals size W A l) (hn : 0 < l.length) : ∃ ad, A = some ad ∧ ∀ j u, (itemsV vals l)[j]? = some u → W.cell? (ad.add j) = some u := by
  obtain ⟨b, off, rfl, _, hi⟩ := h hn
  refine ⟨_, rfl, fun j u hj => ?_⟩
  rw [addr_addB]
  have hlt : j < (itemsV vals l).length := (List.getElem?_eq_some_iff.1 hj).1
  rw [itemsV_length hs] at hlt
  have hd : j / size < l.length := Nat.div_lt_of_lt_mul (by rw [Nat.mul_comm]; exact hlt)
  have hm : j % size < size := Nat.mod_lt _ hz
  have hx : l[j / size]? = some (l[j / size]'hd) := List.getElem?_eq_getElem hd
  have h1 := itemsV_at hs l (j / size) _ hx (j % size) hm
  have ej : j / size * size + j % size = j := by rw [Nat.mul_comm]; exact Nat.div_add_mod j size
  rw [ej] at h1
  have h2 := hi _ _ hx (j % size) u (by rw [← h1]; exact hj)
  rw [Nat.add_assoc, ej] at h2
  exact h2
/-- Out of a row that the call owns. -/
theorem ItemsIn.own {α : Type} {vals : α → List Value} {size : Nat} (hs : ∀ x, (vals x).length = size) {W : World} {B : Nat} {e : TypeId} {v : Value} {l : List α} (h : W.ownsRow B e size v l.length (itemsV vals l)) : ∃ A cap, v = .slice A l.length cap ∧ l.length ≤ cap ∧ ItemsIn vals size W A l := by
  rcases h.2 with ⟨rfl, h0⟩ | ⟨g, cap, cur, rfl, hb, hg, hnc, _⟩
  · rw [h0]
    exact ⟨none, 0, rfl, Nat.le_refl _, fun hn => by omega⟩
  · refine ⟨_, cap, rfl, hnc, fun hn => ⟨g, 0, rfl, (Array.getElem?_eq_some_iff.1 hg).1, fun i x hx j u hu => ?_⟩⟩
    have hi : i < l.length := (List.getElem?_eq_some_iff.1 hx).1
    have hj : j < size := by rw [← hs x]; exact (List.getElem?_eq_some_iff.1 hu).1
    have h1 := itemsV_at hs l i x hx j hj
    have hlt : i * size + j < l.length * size := by
      have : (i + 1) * size ≤ l.length * size := Nat.mul_le_mul_right _ hi
      rw [Nat.succ_mul] at this
      omega
    rw [Nat.zero_add, World.ownsRow.cellAt h _ hlt, h1]
    exact hu
/-- An element's cells, just laid. -/
theorem laid_at (w : World) (t : TypeId) (cs : List Value) (N : Nat) (hN : N = w.heap.size) : ∀ j u, cs[j]? = some u → (w.alloc (.cells cs.toArray t)).cell? ((⟨N, 0, none⟩ : Addr).add j) = some u := by
  subst hN
  intro j u hj
  rw [addr_add0, Nat.zero_add]
  exact cell_at (heap_alloc_new w _) j (by simpa using hj)

end Go.Proofs.Ythihdbcclocbkaa
