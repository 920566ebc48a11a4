/- The laws' arguments: links, records, acts, numbers, rows of four bytes. Conditions: those of the reading of the arguments. · The laws' arguments: ops, turns, pairs of numbers. Conditions: those of the reading of the arguments. -/
import Derived.KernelRfl
import Derived.Test.YtemcgegickpdbaaGreatDoorSl12
import Derived.Test.YtemcgegickpdbaaGreatDoorSl28
import Derived.Test.YtemcgegickpdbaaGreatDoorSl02
namespace Go.Proofs.YtemcgegickpdbaaGreatDoor
open Go.ChangeShapes Go.WideShapes Go.RowKit Go.Deep
set_option maxRecDepth 100000
section
variable {H : Type} {enc : TypeId × Value → H} {w : World}
theorem nat_c15 {k : IntKind} {t : TypeId} (hu : Tryz.prog.underlying t = some (.int k)) (hk : k.signed = false) {m : Nat} {c : Value} {y : DataW H × List MemPlace} (g : DataW.trod enc Tryz.prog w 0 (fun _ => true) true m t [c] = some y) : ∃ n : Nat, c = .int k (n : Nat) ∧ (n : Int) ≤ k.max := by
  obtain ⟨z, e, -, hw⟩ := DataW.trod_int hu g
  simp at e
  subst e
  have hb : k.min ≤ z ∧ z ≤ k.max := by simpa [Lit.wf] using hw
  have h0 : 0 ≤ z := by
    have : k.min = 0 := by cases k <;> first | rfl | cases hk
    omega
  exact ⟨z.toNat, by rw [Int.toNat_of_nonneg h0], by rw [Int.toNat_of_nonneg h0]; exact hb.2⟩
theorem u8_c15 {t : TypeId} (hu : Tryz.prog.underlying t = some (.int .u8)) {m : Nat} {c : Value} {y : DataW H × List MemPlace} (g : DataW.trod enc Tryz.prog w 0 (fun _ => true) true m t [c] = some y) : ∃ n : Nat, c = .int .u8 (n : Nat) ∧ n ≤ 255 := by
  obtain ⟨n, e, h⟩ := nat_c15 hu rfl g
  exact ⟨n, e, by have h2 : (n : Int) ≤ 255 := h; omega⟩
theorem int_c15 {m : Nat} {c : Value} {y : DataW H × List MemPlace} (g : DataW.trod enc Tryz.prog w 0 (fun _ => true) true m 3 [c] = some y) : ∃ k : Int, c = .int .i64 k ∧ -9223372036854775808 ≤ k ∧ k ≤ 9223372036854775807 := by
  obtain ⟨z, e, -, hw⟩ := DataW.trod_int Tryz.underlying3 g
  simp at e
  subst e
  exact ⟨z, rfl, bounds_i64 hw⟩
end
end Go.Proofs.YtemcgegickpdbaaGreatDoor
namespace Go.Proofs.YtemcgegickpdbaaGreatDoor
open Go.ChangeShapes Go.WideShapes Go.RowKit Go.Deep
set_option maxRecDepth 100000
section
variable {H : Type} {enc : TypeId × Value → H} {w : World}
/-- How a slice reads, if its elements read so, each with its own reach. -/
theorem items_trodW {α : Type} (vals : α → List Value) (size bytes : Nat) (z : α) {t e : TypeId} (ht : Tryz.prog.underlying t = some (.slice e)) (hc : Tryz.prog.cellsOf e = size) (hby : Tryz.prog.bytesOf e = bytes) (hv0 : ∀ y, ∃ u, (vals y)[0]? = some u)
    (hat : ∀ (n : Nat) (a : Addr) (cs : List Value) (x : DataW H × List MemPlace), w.cells? 0 a size = some cs → DataW.trod enc Tryz.prog w 0 (fun _ => true) true n e cs = some x → (∀ k ∈ x.1.weights Tryz.prog e, k ≤ reachBytes) → ∃ y : α, ∀ j u, (vals y)[j]? = some u → w.cell? (a.add j) = some u)
    {fuel : Nat} {c : Value} {x : DataW H × List MemPlace} (h : DataW.trod enc Tryz.prog w 0 (fun _ => true) true fuel t [c] = some x) (hw : ∀ k ∈ x.1.weights Tryz.prog t, k ≤ reachBytes) :
    ∃ A l n cap, c = .slice A n cap ∧ l.length = n ∧ n ≤ cap ∧ n * bytes ≤ 140737488355328 ∧ ItemsIn vals size w A l := by
  rcases open_slice ht h with ⟨hcs, hx⟩ | ⟨a, len, cap, m, n, D, Pl, hcs, hb, hl, hm, hmm, hx, hi⟩
  · injection hcs with hcs
    exact ⟨none, [], 0, 0, hcs, rfl, Nat.le_refl _, by omega, fun h => absurd h (by simp)⟩
  · injection hcs with hcs
    simp only [if_true] at hmm
    obtain rfl : cap = m := hmm.symm
    rw [hc] at hi
    have hd : ∃ r, x.1 = .slice ((List.range len).map D) r := ⟨_, by rw [hx]⟩
    obtain ⟨r, hd⟩ := hd
    have hlen : len * bytes ≤ 140737488355328 := by
      have := hw (((List.range len).map D).length * bytes + r.length * bytes) (by
        rw [hd]
        simp only [DataW.weights, ht, List.mem_cons]
        refine .inl ?_
        rw [hby, Nat.add_mul])
      rw [List.length_map, List.length_range] at this
      simp only [reachBytes] at this
      omega
    have hat2 : ∀ i, i < len → ∃ y : α, ∀ j u, (vals y)[j]? = some u → w.cell? ((a.add (i * size)).add j) = some u := fun i hil => by
      obtain ⟨cs', h1, h2⟩ := hi i (by omega)
      refine hat _ _ _ _ h1 h2 (fun k hk => hw k ?_)
      rw [hd]
      simp only [DataW.weights, ht, List.mem_cons, List.mem_append]
      exact .inr (.inl (weights_mem_all (List.mem_map.2 ⟨i, List.mem_range.2 hil, rfl⟩) k hk))
    obtain ⟨l, hll, hl2⟩ := items_list z len _ hat2
    refine ⟨some a, l, len, cap, hcs, hll, hl, hlen, fun hn => ?_⟩
    obtain ⟨b, off, spot⟩ := a
    have hpos : 0 < len := by omega
    obtain ⟨y0, hy0⟩ := hat2 0 hpos
    obtain ⟨u0, hu0⟩ := hv0 y0
    have c0 := hy0 0 _ hu0
    have hspot : spot = none := by simpa [Addr.add] using World.cell?_spot c0
    subst hspot
    refine ⟨b, off, rfl, by simpa [Addr.add] using World.block_lt_of_cell? w _ c0, fun i y hy j u hu => ?_⟩
    have h1 := hl2 i y hy j u hu
    simp only [addr_addB] at h1
    exact h1
theorem op_at (n : Nat) (a : Addr) (cs : List Value) (x : DataW H × List MemPlace) (hc : w.cells? 0 a 6 = some cs) (ht : DataW.trod enc Tryz.prog w 0 (fun _ => true) true n 95 cs = some x) (hw : ∀ k ∈ x.1.weights Tryz.prog 95, k ≤ reachBytes) :
    ∃ y : {x : OpC // OpOk w x}, ∀ j u, ((fun y : {x : OpC // OpOk w x} => opVals y.1) y)[j]? = some u → w.cell? (a.add j) = some u := by
  obtain ⟨_, hlen, hcell⟩ := World.cells?_some hc
  obtain ⟨xs, m, _, hx, _, hxl, hf⟩ := DataW.trod_struct Tryz.underlying95 ht
  match cs, hlen with
  | [c0, c1, c2, c3, c4, c5], _ =>
    match xs, hxl with
    | [y0, y1, y2, y3, y4, y5], _ =>
      have g0 := hf 0 _ rfl
      change DataW.trod enc Tryz.prog w 0 (fun _ => true) true m 93 (([c0, c1, c2, c3, c4, c5].drop 0).take (Tryz.prog.cellsOf 93)) = _ at g0
      rw [show Tryz.prog.cellsOf 93 = 1 by kernel_rfl] at g0
      have g1 := hf 1 _ rfl
      change DataW.trod enc Tryz.prog w 0 (fun _ => true) true m 3 (([c0, c1, c2, c3, c4, c5].drop 1).take (Tryz.prog.cellsOf 3)) = _ at g1
      have g2 := hf 2 _ rfl
      change DataW.trod enc Tryz.prog w 0 (fun _ => true) true m 3 (([c0, c1, c2, c3, c4, c5].drop 2).take (Tryz.prog.cellsOf 3)) = _ at g2
      have g3 := hf 3 _ rfl
      change DataW.trod enc Tryz.prog w 0 (fun _ => true) true m 3 (([c0, c1, c2, c3, c4, c5].drop 3).take (Tryz.prog.cellsOf 3)) = _ at g3
      have g4 := hf 4 _ rfl
      change DataW.trod enc Tryz.prog w 0 (fun _ => true) true m 3 (([c0, c1, c2, c3, c4, c5].drop 4).take (Tryz.prog.cellsOf 3)) = _ at g4
      rw [show Tryz.prog.cellsOf 3 = 1 by kernel_rfl] at g1 g2 g3 g4
      have g5 := hf 5 _ rfl
      change DataW.trod enc Tryz.prog w 0 (fun _ => true) true m 89 (([c0, c1, c2, c3, c4, c5].drop 5).take (Tryz.prog.cellsOf 89)) = _ at g5
      rw [show Tryz.prog.cellsOf 89 = 1 by kernel_rfl] at g5
      obtain ⟨k0, rfl, l0⟩ := u8_c15 Tryz.underlying93 (c := c0) (y := y0) g0
      obtain ⟨k1, rfl, l1⟩ := int_c15 (c := c1) g1
      obtain ⟨k2, rfl, l2⟩ := int_c15 (c := c2) g2
      obtain ⟨k3, rfl, l3⟩ := int_c15 (c := c3) g3
      obtain ⟨k4, rfl, l4⟩ := int_c15 (c := c4) g4
      have g5' : DataW.trod enc Tryz.prog w 0 (fun _ => true) true m 89 [c5] = some y5 := g5
      obtain ⟨A, l, q, cap, rfl, h1, h2, h3, h4⟩ := bytes_trod g5' (fun k hk => hw k (by
        rw [hx]
        simp only [DataW.weights, Tryz.underlying95]
        exact DataW.weights_mem_each (j := 5) (t := 89) (d := y5.1) rfl rfl k hk))
      exact ⟨⟨⟨k0, k1, k2, k3, k4, A, q, cap, l⟩, l0, l1, l2, l3, l4, h1, h2, Nat.le_trans h2 h3, h4⟩, fun j u hu => by rw [hcell j (List.getElem?_eq_some_iff.1 hu).1]; exact hu⟩
theorem ops_trod {fuel : Nat} {c : Value} {x : DataW H × List MemPlace} (h : DataW.trod enc Tryz.prog w 0 (fun _ => true) true fuel 68 [c] = some x) (hw : ∀ k ∈ x.1.weights Tryz.prog 68, k ≤ reachBytes) :
    ∃ A l n cap, c = .slice A n cap ∧ l.length = n ∧ n ≤ cap ∧ n * 64 ≤ 140737488355328 ∧ OpsAt w A l := by
  obtain ⟨A, l, n, cap, rfl, hl, hc, hn, hi⟩ := items_trodW (fun y : {x : OpC // OpOk w x} => opVals y.1) 6 64 ⟨zOp, zOp_ok w⟩ Tryz.underlying68 (by kernel_rfl) (by kernel_rfl) (fun _ => ⟨_, rfl⟩) op_at h hw
  obtain ⟨h1, h2⟩ := items_val opVals 6 hi
  exact ⟨A, l.map Subtype.val, n, cap, rfl, by rw [List.length_map, hl], hc, hn, h1, h2⟩
theorem ops_open {v : Value} {d : DataW H} {p : List MemPlace} {r : Reach} {b0 : Nat} (hv : Value.okWide Tryz.prog w r b0 68 v) (h : DataW.Trod enc Tryz.prog w 0 (fun _ => true) true 68 v d p) (hw : ∀ k ∈ d.weights Tryz.prog 68, k ≤ reachBytes) :
    ∃ A l n cap, v = .slice A n cap ∧ l.length = n ∧ n ≤ cap ∧ n * 64 ≤ 140737488355328 ∧ OpsAt w A l := by
  obtain ⟨a0, len, cap, rfl⟩ := okWide_slice Tryz.underlying68 hv
  obtain ⟨fuel, hf⟩ := h
  exact ops_trod (show DataW.trod enc Tryz.prog w 0 (fun _ => true) true fuel 68 [.slice a0 len cap] = some (d, p) from hf) hw
end
end Go.Proofs.YtemcgegickpdbaaGreatDoor
