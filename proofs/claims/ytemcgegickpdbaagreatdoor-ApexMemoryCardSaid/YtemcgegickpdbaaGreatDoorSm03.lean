/- From a law's walk to its row: a call that answers true and turns nothing that was there. Conditions: none beyond those that each states. · What an argument of bytes is in memory. Conditions: those of the reading of the argument. · What an argument that is a slice of elements of so many cells each is in memory. Over whatever program. Conditions: those of the reading of the argument. · The program's own knob: none. · The laws' arguments: ops, turns, pairs of numbers. Conditions: those of the reading of the arguments. -/
import Derived.Test.YtemcgegickpdbaaGreatDoorRows
import Derived.Below
import Derived.Carry
import Derived.ChangeSame
import Derived.ChangeVars
import Derived.ChangeOld
import Derived.JoinedOf
import Derived.RowKit
import Derived.RowKitTokens
import Derived.Deep.Slices
import Derived.ChangeSlices
import Derived.OpenShut
import Derived.SizedLaws
import Derived.Test.YtemcgegickpdbaaGreatDoorChecked
import Derived.KernelRfl
import Derived.Test.YtemcgegickpdbaaGreatDoorSl12
import Derived.Test.YtemcgegickpdbaaGreatDoorSl02
import Derived.Test.YtemcgegickpdbaaGreatDoorSl29
import Derived.Test.YtemcgegickpdbaaGreatDoorSm02
namespace Go.Proofs.YtemcgegickpdbaaGreatDoor
open Go.ChangeShapes Go.WideShapes Go.RowKit

end Go.Proofs.YtemcgegickpdbaaGreatDoor
namespace Go.Proofs.YtemcgegickpdbaaGreatDoor
open Go.ChangeShapes Go.WideShapes Go.RowKit Go.Deep
set_option maxRecDepth 100000

end Go.Proofs.YtemcgegickpdbaaGreatDoor
namespace Go.Proofs.YtemcgegickpdbaaGreatDoor
open Go.ChangeShapes Go.WideShapes Go.RowKit Go.Deep
set_option maxRecDepth 100000

section
variable {P : Program} {H : Type} {enc : TypeId × Value → H} {w : World}
/-- How a slice reads, if its elements read so. -/
theorem items_trod {α : Type} (vals : α → List Value) (size bytes : Nat) (z : α) {t e : TypeId} (ht : P.underlying t = some (.slice e)) (hc : P.cellsOf e = size) (hby : P.bytesOf e = bytes) (hv0 : ∀ y, ∃ u, (vals y)[0]? = some u)
    (hat : ∀ (n : Nat) (a : Addr) (cs : List Value) (x : DataW H × List MemPlace), w.cells? 0 a size = some cs → DataW.trod enc P w 0 (fun _ => true) true n e cs = some x → ∃ y : α, ∀ j u, (vals y)[j]? = some u → w.cell? (a.add j) = some u)
    {fuel : Nat} {c : Value} {x : DataW H × List MemPlace} (h : DataW.trod enc P w 0 (fun _ => true) true fuel t [c] = some x) (hw : ∀ k ∈ x.1.weights P t, k ≤ reachBytes) :
    ∃ A l n cap, c = .slice A n cap ∧ l.length = n ∧ n ≤ cap ∧ n * bytes ≤ 140737488355328 ∧ ItemsIn vals size w A l := by
  rcases open_slice ht h with ⟨hcs, hx⟩ | ⟨a, len, cap, m, n, D, Pl, hcs, hb, hl, hm, hmm, hx, hi⟩
  · injection hcs with hcs
    exact ⟨none, [], 0, 0, hcs, rfl, Nat.le_refl _, by omega, fun h => absurd h (by simp)⟩
  · injection hcs with hcs
    simp only [if_true] at hmm
    obtain rfl : cap = m := hmm.symm
    rw [hc] at hi
    have hd : ∃ r, x.1 = .slice ((List.range len).map D) r := ⟨_, by rw [hx]⟩
    obtain ⟨r, hd⟩ := hd
    have hlen : len * bytes ≤ 140737488355328 := by
      have := hw (((List.range len).map D).length * bytes + r.length * bytes) (by
        rw [hd]
        simp only [DataW.weights, ht, List.mem_cons]
        refine .inl ?_
        rw [hby, Nat.add_mul])
      rw [List.length_map, List.length_range] at this
      simp only [reachBytes] at this
      omega
    have hat2 : ∀ i, i < len → ∃ y : α, ∀ j u, (vals y)[j]? = some u → w.cell? ((a.add (i * size)).add j) = some u := fun i hil => by
      obtain ⟨cs', h1, h2⟩ := hi i (by omega)
      exact hat _ _ _ _ h1 h2
    obtain ⟨l, hll, hl2⟩ := items_list z len _ hat2
    refine ⟨some a, l, len, cap, hcs, hll, hl, hlen, fun hn => ?_⟩
    obtain ⟨b, off, spot⟩ := a
    have hpos : 0 < len := by omega
    obtain ⟨y0, hy0⟩ := hat2 0 hpos
    obtain ⟨u0, hu0⟩ := hv0 y0
    have c0 := hy0 0 _ hu0
    have hspot : spot = none := by simpa [Addr.add] using World.cell?_spot c0
    subst hspot
    refine ⟨b, off, rfl, by simpa [Addr.add] using World.block_lt_of_cell? w _ c0, fun i y hy j u hu => ?_⟩
    have h1 := hl2 i y hy j u hu
    simp only [addr_addB] at h1
    exact h1
/-- The same of an argument. -/
theorem items_open {α : Type} (vals : α → List Value) (size bytes : Nat) (z : α) {t e : TypeId} (ht : P.underlying t = some (.slice e)) (hc : P.cellsOf e = size) (hby : P.bytesOf e = bytes) (hv0 : ∀ y, ∃ u, (vals y)[0]? = some u)
    (hat : ∀ (n : Nat) (a : Addr) (cs : List Value) (x : DataW H × List MemPlace), w.cells? 0 a size = some cs → DataW.trod enc P w 0 (fun _ => true) true n e cs = some x → ∃ y : α, ∀ j u, (vals y)[j]? = some u → w.cell? (a.add j) = some u)
    {v : Value} {d : DataW H} {p : List MemPlace} {r : Reach} {b0 : Nat} (hv : Value.okWide P w r b0 t v) (h : DataW.Trod enc P w 0 (fun _ => true) true t v d p) (hw : ∀ k ∈ d.weights P t, k ≤ reachBytes) :
    ∃ A l n cap, v = .slice A n cap ∧ l.length = n ∧ n ≤ cap ∧ n * bytes ≤ 140737488355328 ∧ ItemsIn vals size w A l := by
  obtain ⟨a0, len, cap, rfl⟩ := okWide_slice ht hv
  obtain ⟨fuel, hf⟩ := h
  have hf' : DataW.trod enc P w 0 (fun _ => true) true fuel t [.slice a0 len cap] = some (d, p) := hf
  exact items_trod vals size bytes z ht hc hby hv0 hat hf' hw
end
end Go.Proofs.YtemcgegickpdbaaGreatDoor
namespace Go.Proofs.YtemcgegickpdbaaGreatDoor
end Go.Proofs.YtemcgegickpdbaaGreatDoor
namespace Go.Proofs.YtemcgegickpdbaaGreatDoor
open Go.RowKit
end Go.Proofs.YtemcgegickpdbaaGreatDoor
namespace Go.Proofs.YtemcgegickpdbaaGreatDoor
open Go.ChangeShapes Go.WideShapes Go.RowKit Go.Deep
set_option maxRecDepth 100000
section
variable {H : Type} {enc : TypeId × Value → H} {w : World}
def PairOk (x : PairC) : Prop := (-9223372036854775808 ≤ x.a ∧ x.a ≤ 9223372036854775807) ∧ (-9223372036854775808 ≤ x.b ∧ x.b ≤ 9223372036854775807)
theorem pair_at16 (n : Nat) (a : Addr) (cs : List Value) (x : DataW H × List MemPlace) (hc : w.cells? 0 a 2 = some cs) (ht : DataW.trod enc Tryz.prog w 0 (fun _ => true) true n 98 cs = some x) : ∃ y : {x : PairC // PairOk x}, ∀ j u, ((fun y : {x : PairC // PairOk x} => pairVals y.1) y)[j]? = some u → w.cell? (a.add j) = some u := by
  obtain ⟨_, hlen, hcell⟩ := World.cells?_some hc
  match cs, hlen with
  | [c0, c1], _ =>
    obtain ⟨xs, m, _, _, _, hxl, hf2⟩ := DataW.trod_array Tryz.underlying98 ht
    match xs, hxl with
    | [y0, y1], _ =>
      have g0 := hf2 0 (by decide)
      have g1 := hf2 1 (by decide)
      rw [show Tryz.prog.cellsOf 3 = 1 by kernel_rfl] at g0 g1
      obtain ⟨k0, rfl, l0⟩ := int_c15 (c := c0) (y := y0) g0
      obtain ⟨k1, rfl, l1⟩ := int_c15 (c := c1) (y := y1) g1
      exact ⟨⟨⟨k0, k1⟩, l0, l1⟩, fun j u hu => by rw [hcell j (List.getElem?_eq_some_iff.1 hu).1]; exact hu⟩
theorem pairs_open {v : Value} {d : DataW H} {p : List MemPlace} {r : Reach} {b0 : Nat} (hv : Value.okWide Tryz.prog w r b0 97 v) (h : DataW.Trod enc Tryz.prog w 0 (fun _ => true) true 97 v d p) (hw : ∀ k ∈ d.weights Tryz.prog 97, k ≤ reachBytes) :
    ∃ A l n cap, v = .slice A n cap ∧ l.length = n ∧ n * 16 ≤ 140737488355328 ∧ ItemsIn pairVals 2 w A l ∧ ∀ x ∈ l, PairOk x := by
  obtain ⟨A, l, n, cap, rfl, hl, -, hn, hi⟩ := items_open (fun y : {x : PairC // PairOk x} => pairVals y.1) 2 16 ⟨⟨0, 0⟩, by decide, by decide⟩ Tryz.underlying97 (by kernel_rfl) (by kernel_rfl) (fun _ => ⟨_, rfl⟩) pair_at16 hv h hw
  exact ⟨A, l.map Subtype.val, n, cap, rfl, by rw [List.length_map, hl], hn, items_val pairVals 2 hi⟩
end
end Go.Proofs.YtemcgegickpdbaaGreatDoor
