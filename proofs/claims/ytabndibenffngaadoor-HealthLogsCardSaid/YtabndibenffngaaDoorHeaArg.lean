/- The laws' arguments: links, records, acts, numbers, rows of four bytes. Conditions: those of the reading of the arguments. -/
import Derived.Test.YtabndibenffngaaDoorLawM
import Derived.Test.YtabndibenffngaaDoorHeaV
import Derived.KernelRfl
namespace Go.Proofs.YtabndibenffngaaDoor
open Go.ChangeShapes Go.WideShapes Go.RowKit Go.Deep
set_option maxRecDepth 100000
section
variable {H : Type} {enc : TypeId × Value → H} {w : World}
theorem nat_c15 {k : IntKind} {t : TypeId} (hu : Tryd.prog.underlying t = some (.int k)) (hk : k.signed = false) {m : Nat} {c : Value} {y : DataW H × List MemPlace} (g : DataW.trod enc Tryd.prog w 0 (fun _ => true) true m t [c] = some y) : ∃ n : Nat, c = .int k (n : Nat) ∧ (n : Int) ≤ k.max := by
  obtain ⟨z, e, -, hw⟩ := DataW.trod_int hu g
  simp at e
  subst e
  have hb : k.min ≤ z ∧ z ≤ k.max := by simpa [Lit.wf] using hw
  have h0 : 0 ≤ z := by
    have : k.min = 0 := by cases k <;> first | rfl | cases hk
    omega
  exact ⟨z.toNat, by rw [Int.toNat_of_nonneg h0], by rw [Int.toNat_of_nonneg h0]; exact hb.2⟩
theorem u32_c15 {m : Nat} {c : Value} {y : DataW H × List MemPlace} (g : DataW.trod enc Tryd.prog w 0 (fun _ => true) true m 55 [c] = some y) : ∃ n : Nat, c = .int .u32 (n : Nat) ∧ n < 4294967296 := by
  obtain ⟨n, e, h⟩ := nat_c15 Tryd.underlying55 rfl g
  exact ⟨n, e, by have h2 : (n : Int) ≤ 4294967295 := h; omega⟩
theorem u8_c15 {t : TypeId} (hu : Tryd.prog.underlying t = some (.int .u8)) {m : Nat} {c : Value} {y : DataW H × List MemPlace} (g : DataW.trod enc Tryd.prog w 0 (fun _ => true) true m t [c] = some y) : ∃ n : Nat, c = .int .u8 (n : Nat) ∧ n ≤ 255 := by
  obtain ⟨n, e, h⟩ := nat_c15 hu rfl g
  exact ⟨n, e, by have h2 : (n : Int) ≤ 255 := h; omega⟩
theorem int_c15 {m : Nat} {c : Value} {y : DataW H × List MemPlace} (g : DataW.trod enc Tryd.prog w 0 (fun _ => true) true m 3 [c] = some y) : ∃ k : Int, c = .int .i64 k ∧ -9223372036854775808 ≤ k ∧ k ≤ 9223372036854775807 := by
  obtain ⟨z, e, -, hw⟩ := DataW.trod_int Tryd.underlying3 g
  simp at e
  subst e
  exact ⟨z, rfl, bounds_i64 hw⟩
theorem bool_c15 {m : Nat} {c : Value} {y : DataW H × List MemPlace} (g : DataW.trod enc Tryd.prog w 0 (fun _ => true) true m 4 [c] = some y) : ∃ b : Bool, c = .bool b ∧ True := by
  obtain ⟨b, e, _⟩ := DataW.trod_bool Tryd.underlying4 g
  simp at e
  exact ⟨b, e, trivial⟩
theorem links15_at (n : Nat) (a : Addr) (cs : List Value) (x : DataW H × List MemPlace) (hc : w.cells? 0 a 2 = some cs) (ht : DataW.trod enc Tryd.prog w 0 (fun _ => true) true n 28 cs = some x) : ∃ y : {x : Int × Int // x.2 ≤ 9223372036854775807}, ∀ j u, ((fun y : {x : Int × Int // x.2 ≤ 9223372036854775807} => lnkVals y.1) y)[j]? = some u → w.cell? (a.add j) = some u := by
  obtain ⟨_, hlen, hcell⟩ := World.cells?_some hc
  match cs, hlen with
  | [c0, c1], _ =>
    obtain ⟨xs, m, _, _, _, hxl, hf⟩ := DataW.trod_struct Tryd.underlying28 ht
    match xs, hxl with
    | [y0, y1], _ =>
      have g0 := hf 0 _ rfl
      change DataW.trod enc Tryd.prog w 0 (fun _ => true) true m 3 (([c0, c1].drop 0).take (Tryd.prog.cellsOf 3)) = _ at g0
      rw [show Tryd.prog.cellsOf 3 = 1 by kernel_rfl] at g0
      have g1 := hf 1 _ rfl
      change DataW.trod enc Tryd.prog w 0 (fun _ => true) true m 3 (([c0, c1].drop 1).take (Tryd.prog.cellsOf 3)) = _ at g1
      rw [show Tryd.prog.cellsOf 3 = 1 by kernel_rfl] at g1
      obtain ⟨k0, rfl, l0, m0⟩ := int_c15 (c := c0) g0
      obtain ⟨k1, rfl, l1, m1⟩ := int_c15 (c := c1) g1
      exact ⟨⟨(k0, k1), m1⟩, fun j u hu => by rw [hcell j (List.getElem?_eq_some_iff.1 hu).1]; exact hu⟩
theorem links15_open {v : Value} {d : DataW H} {p : List MemPlace} {r : Reach} {b0 : Nat} (hv : Value.okWide Tryd.prog w r b0 22 v) (h : DataW.Trod enc Tryd.prog w 0 (fun _ => true) true 22 v d p) (hw : ∀ k ∈ d.weights Tryd.prog 22, k ≤ reachBytes) :
    ∃ A l n cap, v = .slice A n cap ∧ l.length = n ∧ n * 16 ≤ 140737488355328 ∧ ItemsIn lnkVals 2 w A l ∧ ∀ x ∈ l, x.2 ≤ 9223372036854775807 := by
  obtain ⟨A, l, n, cap, rfl, hl, -, hn, hi⟩ := items_open (fun y : {x : Int × Int // x.2 ≤ 9223372036854775807} => lnkVals y.1) 2 16 ⟨(0, 0), by decide⟩ Tryd.underlying22 (by kernel_rfl) (by kernel_rfl) (fun _ => ⟨_, rfl⟩) links15_at hv h hw
  exact ⟨A, l.map Subtype.val, n, cap, rfl, by rw [List.length_map, hl], hn, items_val lnkVals 2 hi⟩
theorem recs15_at (n : Nat) (a : Addr) (cs : List Value) (x : DataW H × List MemPlace) (hc : w.cells? 0 a 5 = some cs) (ht : DataW.trod enc Tryd.prog w 0 (fun _ => true) true n 69 cs = some x) : ∃ y : {x : FrameP.Rec // x.round < 4294967296}, ∀ j u, ((fun y : {x : FrameP.Rec // x.round < 4294967296} => recVals y.1) y)[j]? = some u → w.cell? (a.add j) = some u := by
  obtain ⟨_, hlen, hcell⟩ := World.cells?_some hc
  match cs, hlen with
  | [c0, c1, c2, c3, c4], _ =>
    obtain ⟨xs, m, _, _, _, hxl, hf⟩ := DataW.trod_struct Tryd.underlying69 ht
    match xs, hxl with
    | [y0, y1, y2, y3, y4], _ =>
      have g0 := hf 0 _ rfl
      change DataW.trod enc Tryd.prog w 0 (fun _ => true) true m 55 (([c0, c1, c2, c3, c4].drop 0).take (Tryd.prog.cellsOf 55)) = _ at g0
      rw [show Tryd.prog.cellsOf 55 = 1 by kernel_rfl] at g0
      have g1 := hf 1 _ rfl
      change DataW.trod enc Tryd.prog w 0 (fun _ => true) true m 5 (([c0, c1, c2, c3, c4].drop 1).take (Tryd.prog.cellsOf 5)) = _ at g1
      rw [show Tryd.prog.cellsOf 5 = 1 by kernel_rfl] at g1
      have g2 := hf 2 _ rfl
      change DataW.trod enc Tryd.prog w 0 (fun _ => true) true m 5 (([c0, c1, c2, c3, c4].drop 2).take (Tryd.prog.cellsOf 5)) = _ at g2
      rw [show Tryd.prog.cellsOf 5 = 1 by kernel_rfl] at g2
      have g3 := hf 3 _ rfl
      change DataW.trod enc Tryd.prog w 0 (fun _ => true) true m 34 (([c0, c1, c2, c3, c4].drop 3).take (Tryd.prog.cellsOf 34)) = _ at g3
      rw [show Tryd.prog.cellsOf 34 = 1 by kernel_rfl] at g3
      have g4 := hf 4 _ rfl
      change DataW.trod enc Tryd.prog w 0 (fun _ => true) true m 41 (([c0, c1, c2, c3, c4].drop 4).take (Tryd.prog.cellsOf 41)) = _ at g4
      rw [show Tryd.prog.cellsOf 41 = 1 by kernel_rfl] at g4
      obtain ⟨k0, rfl, l0⟩ := u32_c15 (c := c0) g0
      obtain ⟨k1, rfl, l1⟩ := u8_c15 Tryd.underlying5 (c := c1) g1
      obtain ⟨k2, rfl, l2⟩ := u8_c15 Tryd.underlying5 (c := c2) g2
      obtain ⟨k3, rfl, l3⟩ := u8_c15 Tryd.underlying34 (c := c3) g3
      obtain ⟨k4, rfl, l4⟩ := u8_c15 Tryd.underlying41 (c := c4) g4
      exact ⟨⟨⟨k0, k1, k2, k3, k4⟩, l0⟩, fun j u hu => by rw [hcell j (List.getElem?_eq_some_iff.1 hu).1]; exact hu⟩
theorem recs15_open {v : Value} {d : DataW H} {p : List MemPlace} {r : Reach} {b0 : Nat} (hv : Value.okWide Tryd.prog w r b0 59 v) (h : DataW.Trod enc Tryd.prog w 0 (fun _ => true) true 59 v d p) (hw : ∀ k ∈ d.weights Tryd.prog 59, k ≤ reachBytes) :
    ∃ A l n cap, v = .slice A n cap ∧ l.length = n ∧ n ≤ cap ∧ n * 8 ≤ 140737488355328 ∧ RecsIn w A l := by
  obtain ⟨A, l, n, cap, rfl, hl, hc, hn, hi⟩ := items_open (fun y : {x : FrameP.Rec // x.round < 4294967296} => recVals y.1) 5 8 ⟨⟨0, 0, 0, 0, 0⟩, by decide⟩ Tryd.underlying59 (by kernel_rfl) (by kernel_rfl) (fun _ => ⟨_, rfl⟩) recs15_at hv h hw
  exact ⟨A, l.map Subtype.val, n, cap, rfl, by rw [List.length_map, hl], hc, hn, recs_in (items_val recVals 5 hi).1⟩
theorem acts15_at (n : Nat) (a : Addr) (cs : List Value) (x : DataW H × List MemPlace) (hc : w.cells? 0 a 4 = some cs) (ht : DataW.trod enc Tryd.prog w 0 (fun _ => true) true n 57 cs = some x) : ∃ y : {x : Act15 // x.round < 4294967296 ∧ -9223372036854775808 ≤ x.part ∧ x.part ≤ 9223372036854775807}, ∀ j u, ((fun y : {x : Act15 // x.round < 4294967296 ∧ -9223372036854775808 ≤ x.part ∧ x.part ≤ 9223372036854775807} => actVals y.1) y)[j]? = some u → w.cell? (a.add j) = some u := by
  obtain ⟨_, hlen, hcell⟩ := World.cells?_some hc
  match cs, hlen with
  | [c0, c1, c2, c3], _ =>
    obtain ⟨xs, m, _, _, _, hxl, hf⟩ := DataW.trod_struct Tryd.underlying57 ht
    match xs, hxl with
    | [y0, y1, y2, y3], _ =>
      have g0 := hf 0 _ rfl
      change DataW.trod enc Tryd.prog w 0 (fun _ => true) true m 4 (([c0, c1, c2, c3].drop 0).take (Tryd.prog.cellsOf 4)) = _ at g0
      rw [show Tryd.prog.cellsOf 4 = 1 by kernel_rfl] at g0
      have g1 := hf 1 _ rfl
      change DataW.trod enc Tryd.prog w 0 (fun _ => true) true m 55 (([c0, c1, c2, c3].drop 1).take (Tryd.prog.cellsOf 55)) = _ at g1
      rw [show Tryd.prog.cellsOf 55 = 1 by kernel_rfl] at g1
      have g2 := hf 2 _ rfl
      change DataW.trod enc Tryd.prog w 0 (fun _ => true) true m 3 (([c0, c1, c2, c3].drop 2).take (Tryd.prog.cellsOf 3)) = _ at g2
      rw [show Tryd.prog.cellsOf 3 = 1 by kernel_rfl] at g2
      have g3 := hf 3 _ rfl
      change DataW.trod enc Tryd.prog w 0 (fun _ => true) true m 3 (([c0, c1, c2, c3].drop 3).take (Tryd.prog.cellsOf 3)) = _ at g3
      rw [show Tryd.prog.cellsOf 3 = 1 by kernel_rfl] at g3
      obtain ⟨k0, rfl, _⟩ := bool_c15 (c := c0) g0
      obtain ⟨k1, rfl, l1⟩ := u32_c15 (c := c1) g1
      obtain ⟨k2, rfl, l2, m2⟩ := int_c15 (c := c2) g2
      obtain ⟨k3, rfl, l3, m3⟩ := int_c15 (c := c3) g3
      exact ⟨⟨⟨k0, k1, k2, k3⟩, l1, l2, m2⟩, fun j u hu => by rw [hcell j (List.getElem?_eq_some_iff.1 hu).1]; exact hu⟩
theorem acts15_open {v : Value} {d : DataW H} {p : List MemPlace} {r : Reach} {b0 : Nat} (hv : Value.okWide Tryd.prog w r b0 45 v) (h : DataW.Trod enc Tryd.prog w 0 (fun _ => true) true 45 v d p) (hw : ∀ k ∈ d.weights Tryd.prog 45, k ≤ reachBytes) :
    ∃ A l n cap, v = .slice A n cap ∧ l.length = n ∧ n * 24 ≤ 140737488355328 ∧ ItemsIn actVals 4 w A l ∧ ∀ x ∈ l, x.round < 4294967296 ∧ -9223372036854775808 ≤ x.part ∧ x.part ≤ 9223372036854775807 := by
  obtain ⟨A, l, n, cap, rfl, hl, -, hn, hi⟩ := items_open (fun y : {x : Act15 // x.round < 4294967296 ∧ -9223372036854775808 ≤ x.part ∧ x.part ≤ 9223372036854775807} => actVals y.1) 4 24 ⟨⟨false, 0, 0, 0⟩, by decide⟩ Tryd.underlying45 (by kernel_rfl) (by kernel_rfl) (fun _ => ⟨_, rfl⟩) acts15_at hv h hw
  exact ⟨A, l.map Subtype.val, n, cap, rfl, by rw [List.length_map, hl], hn, items_val actVals 4 hi⟩
theorem u32s_at (n : Nat) (a : Addr) (cs : List Value) (x : DataW H × List MemPlace) (hc : w.cells? 0 a 1 = some cs) (ht : DataW.trod enc Tryd.prog w 0 (fun _ => true) true n 55 cs = some x) : ∃ y : {x : Nat // x < 4294967296}, ∀ j u, ((fun y : {x : Nat // x < 4294967296} => u32s y.1) y)[j]? = some u → w.cell? (a.add j) = some u := by
  obtain ⟨_, hlen, hcell⟩ := World.cells?_some hc
  match cs, hlen with
  | [c0], _ =>
    obtain ⟨k, rfl, hk⟩ := u32_c15 ht
    exact ⟨⟨k, hk⟩, fun j u hu => by rw [hcell j (List.getElem?_eq_some_iff.1 hu).1]; exact hu⟩
theorem u32s_open {v : Value} {d : DataW H} {p : List MemPlace} {r : Reach} {b0 : Nat} (hv : Value.okWide Tryd.prog w r b0 77 v) (h : DataW.Trod enc Tryd.prog w 0 (fun _ => true) true 77 v d p) (hw : ∀ k ∈ d.weights Tryd.prog 77, k ≤ reachBytes) :
    ∃ A l n cap, v = .slice A n cap ∧ l.length = n ∧ n * 4 ≤ 140737488355328 ∧ ItemsIn u32s 1 w A l := by
  obtain ⟨A, l, n, cap, rfl, hl, -, hn, hi⟩ := items_open (fun y : {x : Nat // x < 4294967296} => u32s y.1) 1 4 ⟨0, by decide⟩ Tryd.underlying77 (by kernel_rfl) (by kernel_rfl) (fun _ => ⟨_, rfl⟩) u32s_at hv h hw
  exact ⟨A, l.map Subtype.val, n, cap, rfl, by rw [List.length_map, hl], hn, (items_val u32s 1 hi).1⟩
theorem fours_at (n : Nat) (a : Addr) (cs : List Value) (x : DataW H × List MemPlace) (hc : w.cells? 0 a 4 = some cs) (ht : DataW.trod enc Tryd.prog w 0 (fun _ => true) true n 47 cs = some x) : ∃ y : {x : Four // x.a ≤ 255 ∧ x.b ≤ 255 ∧ x.c ≤ 255 ∧ x.d ≤ 255}, ∀ j u, ((fun y : {x : Four // x.a ≤ 255 ∧ x.b ≤ 255 ∧ x.c ≤ 255 ∧ x.d ≤ 255} => fourVals y.1) y)[j]? = some u → w.cell? (a.add j) = some u := by
  obtain ⟨_, hlen, hcell⟩ := World.cells?_some hc
  match cs, hlen with
  | [c0, c1, c2, c3], _ =>
    obtain ⟨xs, m, _, _, _, hxl, hf2⟩ := DataW.trod_array Tryd.underlying47 ht
    match xs, hxl with
    | [y0, y1, y2, y3], _ =>
      have g0 := hf2 0 (by decide)
      have g1 := hf2 1 (by decide)
      have g2 := hf2 2 (by decide)
      have g3 := hf2 3 (by decide)
      rw [show Tryd.prog.cellsOf 5 = 1 by kernel_rfl] at g0 g1 g2 g3
      obtain ⟨k0, rfl, l0⟩ := u8_c15 Tryd.underlying5 (c := c0) (y := y0) g0
      obtain ⟨k1, rfl, l1⟩ := u8_c15 Tryd.underlying5 (c := c1) (y := y1) g1
      obtain ⟨k2, rfl, l2⟩ := u8_c15 Tryd.underlying5 (c := c2) (y := y2) g2
      obtain ⟨k3, rfl, l3⟩ := u8_c15 Tryd.underlying5 (c := c3) (y := y3) g3
      exact ⟨⟨⟨k0, k1, k2, k3⟩, l0, l1, l2, l3⟩, fun j u hu => by rw [hcell j (List.getElem?_eq_some_iff.1 hu).1]; exact hu⟩
theorem fours_open {v : Value} {d : DataW H} {p : List MemPlace} {r : Reach} {b0 : Nat} (hv : Value.okWide Tryd.prog w r b0 44 v) (h : DataW.Trod enc Tryd.prog w 0 (fun _ => true) true 44 v d p) (hw : ∀ k ∈ d.weights Tryd.prog 44, k ≤ reachBytes) :
    ∃ A l n cap, v = .slice A n cap ∧ l.length = n ∧ n * 4 ≤ 140737488355328 ∧ ItemsIn fourVals 4 w A l ∧ ∀ x ∈ l, x.a ≤ 255 ∧ x.b ≤ 255 ∧ x.c ≤ 255 ∧ x.d ≤ 255 := by
  obtain ⟨A, l, n, cap, rfl, hl, -, hn, hi⟩ := items_open (fun y : {x : Four // x.a ≤ 255 ∧ x.b ≤ 255 ∧ x.c ≤ 255 ∧ x.d ≤ 255} => fourVals y.1) 4 4 ⟨⟨0, 0, 0, 0⟩, by decide⟩ Tryd.underlying44 (by kernel_rfl) (by kernel_rfl) (fun _ => ⟨_, rfl⟩) fours_at hv h hw
  exact ⟨A, l.map Subtype.val, n, cap, rfl, by rw [List.length_map, hl], hn, items_val fourVals 4 hi⟩
end
end Go.Proofs.YtabndibenffngaaDoor
