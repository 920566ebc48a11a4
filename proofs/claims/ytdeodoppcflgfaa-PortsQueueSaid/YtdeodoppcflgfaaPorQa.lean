/- The tables of PortsQueue: boxed, their numbers written one after another. No conditions. -/
import Derived.Test.YtdeodoppcflgfaaPorW
import Derived.Test.YtdeodoppcflgfaaPorTxs
namespace Go.Proofs.Ytdeodoppcflgfaa
open Go.RowKit PorP
set_option maxRecDepth 100000

theorem wired_deep : ∀ t : Nat, t < 4 → SndP.chk6 (wired 16 16 4 (1 + (t : Int)) 1) = none := by
  intro t ht
  have h : ∀ t : Fin 4, SndP.chk6 (wired 16 16 4 (1 + (t.val : Int)) 1) = none := by decide +kernel
  exact h ⟨t, ht⟩
/-- The tables boxed. -/
structure BoxIn (W : World) (b N : Nat) (z0 z1 d0 d1 fr : Int) : Prop where
  box : W.heap[b]? = some (.cells (cfgCells (wC N 1 1 2 1 1)) 26 (0, 0))
  wir : WirIn W N z0 z1 d0 d1 fr
section
variable {W W' : World} {b N : Nat} {z0 z1 d0 d1 fr : Int}
theorem BoxIn.below (h : BoxIn W b N z0 z1 d0 d1 fr) (hb : Below W.heap.size W W') : BoxIn W' b N z0 z1 d0 d1 fr := ⟨(hb.block _ (lt_of_block h.box)).trans h.box, h.wir.below hb⟩
theorem BoxIn.boxed (h : WirIn W N z0 z1 d0 d1 fr) : BoxIn (W.alloc (.cells (cfgCells (wC N 1 1 2 1 1)) 26)) W.heap.size N z0 z1 d0 d1 fr := ⟨heap_alloc_new _ _, h.below ((Below.refl _ W).alloc (Nat.le_refl _) _)⟩
theorem BoxIn.off (h : BoxIn W b N z0 z1 d0 d1 fr) : b ≠ N + 1 := fun e => by
  have h1 := h.box
  rw [e, h.wir.ports] at h1
  simp only [Option.some.injEq, Obj.cells.injEq] at h1
  exact absurd h1.2.1 (by decide)
theorem BoxIn.sets (h : BoxIn W b N z0 z1 d0 d1 fr) (j : Nat) (v : Value) {z0' z1' d0' d1' fr' : Int} (hc : (itemsV portVals (wPorts z0 z1 d0 d1 fr)).toArray.setIfInBounds j v = (itemsV portVals (wPorts z0' z1' d0' d1' fr')).toArray) : BoxIn (W.setCell ⟨N + 1, j, none⟩ v) b N z0' z1' d0' d1' fr' :=
  ⟨(heap_set_other j _ h.off).trans h.box, (heap_set_other j _ (by omega)).trans h.wir.parts, by rw [heap_set_at h.wir.ports j v, hc], (heap_set_other j _ (by omega)).trans h.wir.routes⟩
theorem BoxIn.setD0 (h : BoxIn W b N z0 z1 d0 d1 fr) (v : Int) : BoxIn (W.setCell ⟨N + 1, 4, none⟩ (.int .i64 v)) b N z0 z1 v d1 fr := h.sets 4 _ rfl
theorem BoxIn.setD1 (h : BoxIn W b N z0 z1 d0 d1 fr) (v : Int) : BoxIn (W.setCell ⟨N + 1, 10, none⟩ (.int .i64 v)) b N z0 z1 d0 v fr := h.sets 10 _ rfl
theorem BoxIn.setZ0 (h : BoxIn W b N z0 z1 d0 d1 fr) (v : Int) : BoxIn (W.setCell ⟨N + 1, 3, none⟩ (.int .i64 v)) b N v z1 d0 d1 fr := h.sets 3 _ rfl
theorem BoxIn.setZ1 (h : BoxIn W b N z0 z1 d0 d1 fr) (v : Int) : BoxIn (W.setCell ⟨N + 1, 9, none⟩ (.int .i64 v)) b N z0 v d0 d1 fr := h.sets 9 _ rfl
theorem BoxIn.drew (h : BoxIn W b N z0 z1 d0 d1 fr) : BoxIn W.drew b N z0 z1 d0 d1 fr := h.below (Below.refl _ _).drew
end
end Go.Proofs.Ytdeodoppcflgfaa
