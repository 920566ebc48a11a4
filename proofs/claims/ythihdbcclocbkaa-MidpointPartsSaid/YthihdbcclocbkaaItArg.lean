/- What an argument that is a slice of elements of so many cells each is in memory. Over whatever program. Conditions: those of the reading of the argument. -/
import Derived.Test.YthihdbcclocbkaaBytLaw
import Derived.Test.YthihdbcclocbkaaItn
namespace Go.Proofs.Ythihdbcclocbkaa
open Go.ChangeShapes Go.WideShapes Go.RowKit Go.Deep
set_option maxRecDepth 100000

section
variable {P : Program} {H : Type} {enc : TypeId × Value → H} {w : World}
theorem items_list {α : Type} (z : α) (n : Nat) (R : Nat → α → Prop) (h : ∀ i, i < n → ∃ y, R i y) : ∃ l : List α, l.length = n ∧ ∀ i x, l[i]? = some x → R i x := by
  have h2 : ∀ i, ∃ y, i < n → R i y := fun i => by
    by_cases hi : i < n
    · obtain ⟨y, hy⟩ := h i hi
      exact ⟨y, fun _ => hy⟩
    · exact ⟨z, fun h' => absurd h' hi⟩
  obtain ⟨f, hf⟩ := Classical.axiomOfChoice h2
  refine ⟨(List.range n).map f, by simp, fun i x hx => ?_⟩
  rw [List.getElem?_map] at hx
  by_cases hi : i < n
  · rw [List.getElem?_range hi] at hx
    simp at hx
    subst hx
    exact hf i hi
  · rw [List.getElem?_eq_none (by simpa using hi)] at hx
    cases hx
/-- How a slice reads, if its elements read so. -/
theorem items_trod {α : Type} (vals : α → List Value) (size bytes : Nat) (z : α) {t e : TypeId} (ht : P.underlying t = some (.slice e)) (hc : P.cellsOf e = size) (hby : P.bytesOf e = bytes) (hv0 : ∀ y, ∃ u, (vals y)[0]? = some u)
    (hat : ∀ (n : Nat) (a : Addr) (cs : List Value) (x : DataW H × List MemPlace), w.cells? 0 a size = some cs → DataW.trod enc P w 0 (fun _ => true) true n e cs = some x → ∃ y : α, ∀ j u, (vals y)[j]? = some u → w.cell? (a.add j) = some u)
    {fuel : Nat} {c : Value} {x : DataW H × List MemPlace} (h : DataW.trod enc P w 0 (fun _ => true) true fuel t [c] = some x) (hw : ∀ k ∈ x.1.weights P t, k ≤ reachBytes) :
    ∃ A l n cap, c = .slice A n cap ∧ l.length = n ∧ n ≤ cap ∧ n * bytes ≤ 140737488355328 ∧ ItemsIn vals size w A l := by
  rcases open_slice ht h with ⟨hcs, hx⟩ | ⟨a, len, cap, m, n, D, Pl, hcs, hb, hl, hm, hmm, hx, hi⟩
  · injection hcs with hcs
    exact ⟨none, [], 0, 0, hcs, rfl, Nat.le_refl _, by omega, fun h => absurd h (by simp)⟩
  · injection hcs with hcs
    simp only [if_true] at hmm
    obtain rfl : cap = m := hmm.symm
    rw [hc] at hi
    have hd : ∃ r, x.1 = .slice ((List.range len).map D) r := ⟨_, by rw [hx]⟩
    obtain ⟨r, hd⟩ := hd
    have hlen : len * bytes ≤ 140737488355328 := by
      have := hw (((List.range len).map D).length * bytes + r.length * bytes) (by
        rw [hd]
        simp only [DataW.weights, ht, List.mem_cons]
        refine .inl ?_
        rw [hby, Nat.add_mul])
      rw [List.length_map, List.length_range] at this
      simp only [reachBytes] at this
      omega
    have hat2 : ∀ i, i < len → ∃ y : α, ∀ j u, (vals y)[j]? = some u → w.cell? ((a.add (i * size)).add j) = some u := fun i hil => by
      obtain ⟨cs', h1, h2⟩ := hi i (by omega)
      exact hat _ _ _ _ h1 h2
    obtain ⟨l, hll, hl2⟩ := items_list z len _ hat2
    refine ⟨some a, l, len, cap, hcs, hll, hl, hlen, fun hn => ?_⟩
    obtain ⟨b, off, spot⟩ := a
    have hpos : 0 < len := by omega
    obtain ⟨y0, hy0⟩ := hat2 0 hpos
    obtain ⟨u0, hu0⟩ := hv0 y0
    have c0 := hy0 0 _ hu0
    have hspot : spot = none := by simpa [Addr.add] using World.cell?_spot c0
    subst hspot
    refine ⟨b, off, rfl, by simpa [Addr.add] using World.block_lt_of_cell? w _ c0, fun i y hy j u hu => ?_⟩
    have h1 := hl2 i y hy j u hu
    simp only [addr_addB] at h1
    exact h1
/-- The same of an argument. -/
theorem items_open {α : Type} (vals : α → List Value) (size bytes : Nat) (z : α) {t e : TypeId} (ht : P.underlying t = some (.slice e)) (hc : P.cellsOf e = size) (hby : P.bytesOf e = bytes) (hv0 : ∀ y, ∃ u, (vals y)[0]? = some u)
    (hat : ∀ (n : Nat) (a : Addr) (cs : List Value) (x : DataW H × List MemPlace), w.cells? 0 a size = some cs → DataW.trod enc P w 0 (fun _ => true) true n e cs = some x → ∃ y : α, ∀ j u, (vals y)[j]? = some u → w.cell? (a.add j) = some u)
    {v : Value} {d : DataW H} {p : List MemPlace} {r : Reach} {b0 : Nat} (hv : Value.okWide P w r b0 t v) (h : DataW.Trod enc P w 0 (fun _ => true) true t v d p) (hw : ∀ k ∈ d.weights P t, k ≤ reachBytes) :
    ∃ A l n cap, v = .slice A n cap ∧ l.length = n ∧ n ≤ cap ∧ n * bytes ≤ 140737488355328 ∧ ItemsIn vals size w A l := by
  obtain ⟨a0, len, cap, rfl⟩ := okWide_slice ht hv
  obtain ⟨fuel, hf⟩ := h
  have hf' : DataW.trod enc P w 0 (fun _ => true) true fuel t [.slice a0 len cap] = some (d, p) := hf
  exact items_trod vals size bytes z ht hc hby hv0 hat hf' hw
end
end Go.Proofs.Ythihdbcclocbkaa
