/- Awake of stage 6: true. Conditions: none. -/
import Derived.Test.YtodkcenoljpgoaaSndH
namespace Go.Proofs.Ytodkcenoljpgoaa
open Go.RowKit
set_option maxRecDepth 100000

def oneS : CfgC := ⟨1, 0, 1000, 500, 0, 0, 0, 98, none, 0, 0, [], none, 0, 0, [], none, 0, 0, []⟩
def oneT : CfgC := ⟨1, 0, 1000, 500, 0, 0, 0, 97, none, 0, 0, [], none, 0, 0, [], none, 0, 0, []⟩
theorem flat_in (x : CfgC) (h : x.pn = 0 ∧ x.pcap = 0 ∧ x.parts = [] ∧ x.PA = none ∧ x.qn = 0 ∧ x.qcap = 0 ∧ x.ports = [] ∧ x.QA = none ∧ x.rn = 0 ∧ x.rcap = 0 ∧ x.routes = [] ∧ x.RA = none) (W : World) : CfgIn W x := by
  obtain ⟨nodes, faulty, slot, gap, rho, dmin, dmax, margin, PA, pn, pcap, parts, QA, qn, qcap, ports, RA, rn, rcap, routes⟩ := x
  obtain ⟨rfl, rfl, rfl, rfl, rfl, rfl, rfl, rfl, rfl, rfl, rfl, rfl⟩ := h
  exact ⟨ItemsIn.nil _ _ _ _, rfl, Nat.le_refl _, by simp, ItemsIn.nil _ _ _ _, rfl, Nat.le_refl _, by simp, ItemsIn.nil _ _ _ _, rfl, Nat.le_refl _, by simp⟩
theorem oneS_in (W : World) : CfgIn W oneS := flat_in _ ⟨rfl, rfl, rfl, rfl, rfl, rfl, rfl, rfl, rfl, rfl, rfl, rfl⟩ W
theorem oneT_in (W : World) : CfgIn W oneT := flat_in _ ⟨rfl, rfl, rfl, rfl, rfl, rfl, rfl, rfl, rfl, rfl, rfl, rfl⟩ W
theorem oneS_ok : SndP.chk6 oneS.plain = none := by decide
theorem oneT_bad : SndP.chk6 oneT.plain = some (74, -1) := by decide
theorem oneS_head : TableP.headOk oneS.plain := by decide
theorem oneS_round : SndP.roundT oneS.plain = 1500 := by decide
theorem oneS_prec : SndP.precT oneS.plain = 96 := by decide
theorem oneT_text : wrongT (some (74, -1)) = [55, 52, 64, 45, 49] := by kernel_rfl

/-- Two boxes of tables. -/
def boxD (w : World) (x y : CfgC) : World := (boxC w x).alloc (.cells (cfgCells y) 26)
theorem boxD_size (w : World) (x y : CfgC) : (boxD w x y).heap.size = w.heap.size + 1 + 1 := by simp [boxD, boxC]
theorem boxD_below (w : World) (x y : CfgC) : Below w.heap.size w (boxD w x y) := (boxC_below w x).alloc (boxC_below w x).size _
theorem boxD_one {w wr : World} {x y : CfgC} (h : Below (boxD w x y).heap.size (boxD w x y) wr) : Box11 wr w.heap.size x :=
  box11 (t := 26) (((Below.refl (boxC w x).heap.size (boxC w x)).alloc (Nat.le_refl _) _).trans (h.mono (show (boxC w x).heap.size ≤ (boxD w x y).heap.size from by rw [boxD_size, boxC_size]; omega)))
theorem boxD_two {w wr : World} {x y : CfgC} (h : Below (boxD w x y).heap.size (boxD w x y) wr) : Box11 wr (w.heap.size + 1) y := by
  have := box11 (w := boxC w x) (x := y) (t := 26) h
  rwa [boxC_size] at this

end Go.Proofs.Ytodkcenoljpgoaa
