/- The document's table of values by keys in memory (RefC): sixteen cells and a count. Conditions: where it lies. -/
import Derived.Test.YtcibnjcnbocbdaaRepF
namespace Go.Proofs.Ytcibnjcnbocbdaa
open Go.RowKit RepP Go.Maps
set_option maxRecDepth 100000

def u16V (l : List Nat) : List Value := l.map fun v => .int .u16 (v : Nat)
def refCells (vs : List Nat) (hs : List Bool) (n : Nat) : Array Value := ⟨u16V vs ++ (bitV hs ++ [.int .i64 (n : Nat)])⟩
structure RefC (W : World) (b : Nat) (vs : List Nat) (hs : List Bool) (n : Nat) : Prop where
  at_ : W.heap[b]? = some (.cells (refCells vs hs n) 31 (0, 0))
  vlen : vs.length = 8
  hlen : hs.length = 8
section
variable {W W' : World} {b n : Nat} {vs : List Nat} {hs : List Bool}
theorem RefC.lt (h : RefC W b vs hs n) : b < W.heap.size := (Array.getElem?_eq_some_iff.1 h.at_).1
theorem RefC.apart {F : Nat → Prop} (h : RefC W b vs hs n) (ha : Apart F W W') (hF : ¬ F b) : RefC W' b vs hs n := ⟨(ha.block b h.lt hF).trans h.at_, h.vlen, h.hlen⟩
theorem RefC.below (h : RefC W b vs hs n) (hb : Below W.heap.size W W') : RefC W' b vs hs n := h.apart (F := fun _ => False) (Apart.of_below' hb) (fun h => h)
theorem RefC.drewN (h : RefC W b vs hs n) (q : Nat) : RefC (W.drewN q) b vs hs n := h.below (below_drewNc (Below.refl _ _) q)
theorem RefC.val (h : RefC W b vs hs n) {k v : Nat} (hk : vs[k]? = some v) : W.cell? ⟨b, k, none⟩ = some (.int .u16 (v : Nat)) := by
  refine cell_at h.at_ k ?_
  have h2 : k < vs.length := (List.getElem?_eq_some_iff.1 hk).1
  simp only [refCells, List.getElem?_toArray]
  rw [List.getElem?_append_left (by simpa [u16V] using h2)]
  simp [u16V, hk]
theorem RefC.has (h : RefC W b vs hs n) {k : Nat} {p : Bool} (hk : hs[k]? = some p) : W.cell? ⟨b, 8 + k, none⟩ = some (.bool p) := by
  refine cell_at h.at_ _ ?_
  have h2 : k < hs.length := (List.getElem?_eq_some_iff.1 hk).1
  simp only [refCells, List.getElem?_toArray]
  rw [List.getElem?_append_right (by simp [u16V, h.vlen]), List.getElem?_append_left (by simp [u16V, bitV, h.vlen, h2])]
  simp [u16V, bitV, h.vlen, hk]
theorem RefC.cnt (h : RefC W b vs hs n) : W.cell? ⟨b, 16, none⟩ = some (.int .i64 (n : Nat)) := by
  refine cell_at h.at_ _ ?_
  simp only [refCells, List.getElem?_toArray]
  rw [List.getElem?_append_right (by simp [u16V, h.vlen]), List.getElem?_append_right (by simp [u16V, bitV, h.vlen, h.hlen])]
  simp [u16V, bitV, h.vlen, h.hlen]
theorem RefC.free (h : RefC W b vs hs n) (i : Nat) : W.frozen? ⟨b, i, none⟩ = false := free_at h.at_ i
theorem RefC.setVal (h : RefC W b vs hs n) {k : Nat} (hk : k < 8) (v : Nat) : RefC (W.setCell ⟨b, k, none⟩ (.int .u16 (v : Nat))) b (vs.set k v) hs n := by
  refine ⟨?_, by rw [List.length_set]; exact h.vlen, h.hlen⟩
  have h3 := heap_setCell_same W b k _ 31 (.int .u16 (v : Nat)) h.at_
  rw [h3]
  simp only [refCells, List.setIfInBounds_toArray, Option.some.injEq, Obj.cells.injEq, and_true]
  rw [List.set_append_left _ _ (by simp [u16V, h.vlen, hk])]
  simp [u16V, List.map_set]
theorem RefC.setHas (h : RefC W b vs hs n) {k : Nat} (hk : k < 8) (p : Bool) : RefC (W.setCell ⟨b, 8 + k, none⟩ (.bool p)) b vs (hs.set k p) n := by
  refine ⟨?_, h.vlen, by rw [List.length_set]; exact h.hlen⟩
  have h3 := heap_setCell_same W b (8 + k) _ 31 (.bool p) h.at_
  rw [h3]
  simp only [refCells, List.setIfInBounds_toArray, Option.some.injEq, Obj.cells.injEq, and_true]
  rw [List.set_append_right _ _ (by simp [u16V, h.vlen]), List.set_append_left _ _ (by simp [u16V, bitV, h.vlen, h.hlen, hk])]
  simp [u16V, bitV, h.vlen, List.map_set]
theorem RefC.setCnt (h : RefC W b vs hs n) (p : Nat) : RefC (W.setCell ⟨b, 16, none⟩ (.int .i64 (p : Nat))) b vs hs p := by
  refine ⟨?_, h.vlen, h.hlen⟩
  have h3 := heap_setCell_same W b 16 _ 31 (.int .i64 (p : Nat)) h.at_
  rw [h3]
  simp only [refCells, List.setIfInBounds_toArray, Option.some.injEq, Obj.cells.injEq, and_true]
  rw [List.set_append_right _ _ (by simp [u16V, h.vlen]), List.set_append_right _ _ (by simp [u16V, bitV, h.vlen, h.hlen])]
  simp [u16V, bitV, h.vlen, h.hlen]
end
/-- A table's values, and which keys have one. -/
def valsT (t : T) : List Nat := t.map (·.getD 0)
def hasT14 (t : T) : List Bool := t.map (·.isSome)
theorem valsT_at {t : T} {k : Nat} (h : k < t.length) : (valsT t)[k]? = some ((tat t k).getD 0) := by simp [valsT, get_tat h]
theorem hasT_at {t : T} {k : Nat} (h : k < t.length) : (hasT14 t)[k]? = some (tat t k).isSome := by simp [hasT14, get_tat h]
theorem valsT_set (t : T) (k : Nat) (o : Option Nat) : valsT (t.set k o) = (valsT t).set k (o.getD 0) := by simp [valsT, List.map_set]
theorem hasT_set (t : T) (k : Nat) (o : Option Nat) : hasT14 (t.set k o) = (hasT14 t).set k o.isSome := by simp [hasT14, List.map_set]
def RefT (W : World) (b : Nat) (t : T) (n : Nat) : Prop := t.length = 8 ∧ RefC W b (valsT t) (hasT14 t) n
def RefGo (w : World) (b : Nat) (t : T) (n : Nat) (w' : World) : Prop := RefT w' b t n ∧ Apart (fun q => q = b) w w'
theorem RefT.below {W W' : World} {b n : Nat} {t : T} (h : RefT W b t n) (hb : Below W.heap.size W W') : RefT W' b t n := ⟨h.1, h.2.below hb⟩
theorem RefT.apart {W W' : World} {b n : Nat} {t : T} {F : Nat → Prop} (h : RefT W b t n) (ha : Apart F W W') (hF : ¬ F b) : RefT W' b t n := ⟨h.1, h.2.apart ha hF⟩
theorem RefT.new (w : World) : RefT (w.alloc (.cells #[.int .u16 0, .int .u16 0, .int .u16 0, .int .u16 0, .int .u16 0, .int .u16 0, .int .u16 0, .int .u16 0, .bool false, .bool false, .bool false, .bool false, .bool false, .bool false, .bool false, .bool false, .int .i64 0] 31)) w.heap.size new 0 :=
  ⟨new_len, heap_alloc_new w _, rfl, rfl⟩
end Go.Proofs.Ytcibnjcnbocbdaa
