/- What an argument of comings is in memory. Conditions: those of the reading of the argument. -/
import Derived.Test.YtodkcenoljpgoaaItArg
import Derived.Test.YtodkcenoljpgoaaGrdA
namespace Go.Proofs.Ytodkcenoljpgoaa
open Go.ChangeShapes Go.WideShapes Go.RowKit Go.Deep
set_option maxRecDepth 100000

theorem cells_call : Try.prog.cellsOf 43 = 2 := by kernel_rfl
theorem bytes_call : Try.prog.bytesOf 43 = 16 := by kernel_rfl
theorem cells_int9 : Try.prog.cellsOf 3 = 1 := by kernel_rfl

/-- A coming: a node, and by how much later than due. -/
structure CallG where
  node : Int
  off : Int
def callVals (a : CallG) : List Value := [.int .i64 a.node, .int .i64 a.off]
/-- Where the k-th coming lies. -/
theorem call_cells {W : World} {A : Option Addr} {l : List CallG} (h : ItemsIn callVals 2 W A l) {k : Nat} {n o : Int} (hk : l[k]? = some ⟨n, o⟩) :
    ∃ b off, A = some ⟨b, off, none⟩ ∧ b < W.heap.size ∧ W.cell? ⟨b, off + k * 2, none⟩ = some (.int .i64 n) ∧ W.cell? ⟨b, off + k * 2 + 1, none⟩ = some (.int .i64 o) := by
  obtain ⟨b, off, e, hb, hi⟩ := h (by have := (List.getElem?_eq_some_iff.1 hk).1; omega)
  have := hi k _ hk
  exact ⟨b, off, e, hb, this 0 _ rfl, this 1 _ rfl⟩

section
variable {H : Type} {enc : TypeId × Value → H} {w : World}
theorem int_of9 {m : Nat} {c : Value} {y : DataW H × List MemPlace} (g : DataW.trod enc Try.prog w 0 (fun _ => true) true m 3 [c] = some y) : ∃ k : Int, c = .int .i64 k := by
  obtain ⟨k, e, _, _⟩ := DataW.trod_int Try.underlying3 g
  simp at e
  exact ⟨k, e⟩
theorem call_at (n : Nat) (a : Addr) (cs : List Value) (x : DataW H × List MemPlace) (hc : w.cells? 0 a 2 = some cs) (ht : DataW.trod enc Try.prog w 0 (fun _ => true) true n 43 cs = some x) :
    ∃ y : CallG, ∀ j u, (callVals y)[j]? = some u → w.cell? (a.add j) = some u := by
  obtain ⟨_, hlen, hcell⟩ := World.cells?_some hc
  obtain ⟨xs, m, _, hx, _, hxl, hf⟩ := DataW.trod_struct Try.underlying43 ht
  match cs, hlen with
  | [c0, c1], _ =>
    match xs, hxl with
    | [y0, y1], _ =>
      have g0 := hf 0 _ rfl
      have g1 := hf 1 _ rfl
      change DataW.trod enc Try.prog w 0 (fun _ => true) true m 3 (([c0, c1].drop 0).take (Try.prog.cellsOf 3)) = _ at g0
      change DataW.trod enc Try.prog w 0 (fun _ => true) true m 3 (([c0, c1].drop 1).take (Try.prog.cellsOf 3)) = _ at g1
      rw [cells_int9] at g0 g1
      obtain ⟨k0, rfl⟩ := int_of9 (c := c0) g0
      obtain ⟨k1, rfl⟩ := int_of9 (c := c1) g1
      refine ⟨⟨k0, k1⟩, fun j u hj => ?_⟩
      have hj2 : j < 2 := (List.getElem?_eq_some_iff.1 hj).1
      rw [hcell j hj2, ← hj]
      rfl
theorem calls_open {v : Value} {d : DataW H} {p : List MemPlace} {r : Reach} {b0 : Nat} (hv : Value.okWide Try.prog w r b0 27 v) (h : DataW.Trod enc Try.prog w 0 (fun _ => true) true 27 v d p) (hw : ∀ k ∈ d.weights Try.prog 27, k ≤ reachBytes) :
    ∃ A l n cap, v = .slice A n cap ∧ l.length = n ∧ n ≤ cap ∧ n * 16 ≤ 140737488355328 ∧ ItemsIn callVals 2 w A l :=
  items_open callVals 2 16 ⟨0, 0⟩ Try.underlying27 cells_call bytes_call (fun _ => ⟨_, rfl⟩) call_at hv h hw
end
end Go.Proofs.Ytodkcenoljpgoaa
