/- What arguments of stage 11 are in memory: a pace's beginning, comings, two ints. Conditions: those of the reading of the argument. -/
import Derived.OpenShut
import Derived.Test.YthhbdnjihhpalaaLawM
import Derived.Test.YthhbdnjihhpalaaMidArg
import Derived.Test.YthhbdnjihhpalaaPacG
namespace Go.Proofs.Ythhbdnjihhpalaa
open Go.ChangeShapes Go.WideShapes Go.RowKit Go.Deep
set_option maxRecDepth 100000

theorem cells_heard : Try.prog.cellsOf 48 = 2 := by kernel_rfl
theorem bytes_heard : Try.prog.bytesOf 48 = 16 := by kernel_rfl
theorem cells_who : Try.prog.cellsOf 28 = 4 := by kernel_rfl
theorem cells_two11 : Try.prog.cellsOf 58 = 2 := by kernel_rfl
theorem cells_int11 : Try.prog.cellsOf 3 = 1 := by kernel_rfl
theorem cells_bool11 : Try.prog.cellsOf 4 = 1 := by kernel_rfl

/-- A coming: a node, and how long behind the beginning. -/
structure HeardG where
  node : Int
  behind : Int
def heardVals (a : HeardG) : List Value := [.int .i64 a.node, .int .i64 a.behind]
/-- Where the k-th coming lies. -/
theorem heard_cells {W : World} {A : Option Addr} {l : List HeardG} (h : ItemsIn heardVals 2 W A l) {k : Nat} {n o : Int} (hk : l[k]? = some ⟨n, o⟩) :
    ∃ b off, A = some ⟨b, off, none⟩ ∧ b < W.heap.size ∧ W.cell? ⟨b, off + k * 2, none⟩ = some (.int .i64 n) ∧ W.cell? ⟨b, off + k * 2 + 1, none⟩ = some (.int .i64 o) := by
  obtain ⟨b, off, e, hb, hi⟩ := h (by have := (List.getElem?_eq_some_iff.1 hk).1; omega)
  have := hi k _ hk
  exact ⟨b, off, e, hb, this 0 _ rfl, this 1 _ rfl⟩

section
variable {H : Type} {enc : TypeId × Value → H} {w : World}
theorem int_of11 {m : Nat} {c : Value} {y : DataW H × List MemPlace} (g : DataW.trod enc Try.prog w 0 (fun _ => true) true m 3 [c] = some y) : ∃ k : Int, c = .int .i64 k := by
  obtain ⟨k, e, _, _⟩ := DataW.trod_int Try.underlying3 g
  simp at e
  exact ⟨k, e⟩
theorem bool_of11 {m : Nat} {c : Value} {y : DataW H × List MemPlace} (g : DataW.trod enc Try.prog w 0 (fun _ => true) true m 4 [c] = some y) : ∃ k : Bool, c = .bool k := by
  obtain ⟨k, e, _⟩ := DataW.trod_bool Try.underlying4 g
  simp at e
  exact ⟨k, e⟩
theorem heard_at (n : Nat) (a : Addr) (cs : List Value) (x : DataW H × List MemPlace) (hc : w.cells? 0 a 2 = some cs) (ht : DataW.trod enc Try.prog w 0 (fun _ => true) true n 48 cs = some x) :
    ∃ y : HeardG, ∀ j u, (heardVals y)[j]? = some u → w.cell? (a.add j) = some u := by
  obtain ⟨_, hlen, hcell⟩ := World.cells?_some hc
  obtain ⟨xs, m, _, hx, _, hxl, hf⟩ := DataW.trod_struct Try.underlying48 ht
  match cs, hlen with
  | [c0, c1], _ =>
    match xs, hxl with
    | [y0, y1], _ =>
      have g0 := hf 0 _ rfl
      have g1 := hf 1 _ rfl
      change DataW.trod enc Try.prog w 0 (fun _ => true) true m 3 (([c0, c1].drop 0).take (Try.prog.cellsOf 3)) = _ at g0
      change DataW.trod enc Try.prog w 0 (fun _ => true) true m 3 (([c0, c1].drop 1).take (Try.prog.cellsOf 3)) = _ at g1
      rw [cells_int11] at g0 g1
      obtain ⟨k0, rfl⟩ := int_of11 (c := c0) g0
      obtain ⟨k1, rfl⟩ := int_of11 (c := c1) g1
      refine ⟨⟨k0, k1⟩, fun j u hj => ?_⟩
      have hj2 : j < 2 := (List.getElem?_eq_some_iff.1 hj).1
      rw [hcell j hj2, ← hj]
      rfl
theorem heard_open {v : Value} {d : DataW H} {p : List MemPlace} {r : Reach} {b0 : Nat} (hv : Value.okWide Try.prog w r b0 29 v) (h : DataW.Trod enc Try.prog w 0 (fun _ => true) true 29 v d p) (hw : ∀ k ∈ d.weights Try.prog 29, k ≤ reachBytes) :
    ∃ A l n cap, v = .slice A n cap ∧ l.length = n ∧ n ≤ cap ∧ n * 16 ≤ 140737488355328 ∧ ItemsIn heardVals 2 w A l :=
  items_open heardVals 2 16 ⟨0, 0⟩ Try.underlying29 cells_heard bytes_heard (fun _ => ⟨_, rfl⟩) heard_at hv h hw
/-- A pace's beginning handed in. -/
theorem who_open {v : Value} {d : DataW H} {p : List MemPlace} {r : Reach} {b0 : Nat} (hv : Value.okWide Try.prog w r b0 28 v) (h : DataW.Trod enc Try.prog w 0 (fun _ => true) true 28 v d p) :
    ∃ (me since rate : Int) (cold : Bool), v = .agg #[.int .i64 me, .int .i64 since, .int .i64 rate, .bool cold] := by
  obtain ⟨cs, rfl, hsz⟩ := okWide_struct Try.underlying28 hv
  obtain ⟨l⟩ := cs
  match l, hsz.trans cells_who with
  | [c0, c1, c2, c3], _ =>
    obtain ⟨fuel, hf⟩ := h
    have hf' : DataW.trod enc Try.prog w 0 (fun _ => true) true fuel 28 [c0, c1, c2, c3] = some (d, p) := hf
    obtain ⟨xs, m, _, hx, _, hxl, hf2⟩ := DataW.trod_struct Try.underlying28 hf'
    match xs, hxl with
    | [y0, y1, y2, y3], _ =>
      have g0 := hf2 0 _ rfl
      have g1 := hf2 1 _ rfl
      have g2 := hf2 2 _ rfl
      have g3 := hf2 3 _ rfl
      change DataW.trod enc Try.prog w 0 (fun _ => true) true m 3 (([c0, c1, c2, c3].drop 0).take (Try.prog.cellsOf 3)) = _ at g0
      change DataW.trod enc Try.prog w 0 (fun _ => true) true m 3 (([c0, c1, c2, c3].drop 1).take (Try.prog.cellsOf 3)) = _ at g1
      change DataW.trod enc Try.prog w 0 (fun _ => true) true m 3 (([c0, c1, c2, c3].drop 2).take (Try.prog.cellsOf 3)) = _ at g2
      change DataW.trod enc Try.prog w 0 (fun _ => true) true m 4 (([c0, c1, c2, c3].drop 3).take (Try.prog.cellsOf 4)) = _ at g3
      rw [cells_int11] at g0 g1 g2
      rw [cells_bool11] at g3
      obtain ⟨k0, rfl⟩ := int_of11 (c := c0) g0
      obtain ⟨k1, rfl⟩ := int_of11 (c := c1) g1
      obtain ⟨k2, rfl⟩ := int_of11 (c := c2) g2
      obtain ⟨k3, rfl⟩ := bool_of11 (c := c3) g3
      exact ⟨k0, k1, k2, k3, rfl⟩
/-- Two ints handed in. -/
theorem two_open11 {v : Value} {d : DataW H} {p : List MemPlace} {r : Reach} {b0 : Nat} (hv : Value.okWide Try.prog w r b0 58 v) (h : DataW.Trod enc Try.prog w 0 (fun _ => true) true 58 v d p) :
    ∃ (a b : Int), v = .agg #[.int .i64 a, .int .i64 b] := by
  simp only [Value.okWide, Try.underlying58] at hv
  obtain ⟨cs, rfl, hsz, _⟩ := hv
  obtain ⟨l⟩ := cs
  match l, hsz.trans cells_two11 with
  | [c0, c1], _ =>
    obtain ⟨fuel, hf⟩ := h
    have hf' : DataW.trod enc Try.prog w 0 (fun _ => true) true fuel 58 [c0, c1] = some (d, p) := hf
    obtain ⟨xs, m, _, hx, _, hxl, hf2⟩ := DataW.trod_array Try.underlying58 hf'
    match xs, hxl with
    | [y0, y1], _ =>
      have g0 := hf2 0 (by decide)
      have g1 := hf2 1 (by decide)
      rw [cells_int11] at g0 g1
      obtain ⟨k0, rfl⟩ := int_of11 (c := c0) (y := y0) g0
      obtain ⟨k1, rfl⟩ := int_of11 (c := c1) (y := y1) g1
      exact ⟨k0, k1, rfl⟩
theorem trodAll_five {P : Program} {base : Nat} {spare : Nat → Bool} {held : Bool} {t0 t1 t2 t3 t4 : TypeId} {args : Array Value} {ds : List (DataW H)} {ps : List MemPlace} (h : DataW.TrodAll enc P w base spare held [t0, t1, t2, t3, t4] args.toList ds ps) :
    ∃ v0 v1 v2 v3 v4 d0 d1 d2 d3 d4 p0 p1 p2 p3 p4, args = #[v0, v1, v2, v3, v4] ∧ ds = [d0, d1, d2, d3, d4] ∧ ps = p0 ++ (p1 ++ (p2 ++ (p3 ++ p4))) ∧ DataW.Trod enc P w base spare held t0 v0 d0 p0 ∧ DataW.Trod enc P w base spare held t1 v1 d1 p1 ∧ DataW.Trod enc P w base spare held t2 v2 d2 p2 ∧ DataW.Trod enc P w base spare held t3 v3 d3 p3 ∧ DataW.Trod enc P w base spare held t4 v4 d4 p4 := by
  obtain ⟨vs, hvs⟩ : ∃ vs, args.toList = vs := ⟨_, rfl⟩
  rw [hvs] at h
  obtain ⟨v0, s0, d0, e0, p0, q0, rfl, rfl, rfl, h0, h⟩ := trodAll_cons h
  obtain ⟨v1, s1, d1, e1, p1, q1, rfl, rfl, rfl, h1, h⟩ := trodAll_cons h
  obtain ⟨v2, s2, d2, e2, p2, q2, rfl, rfl, rfl, h2, h⟩ := trodAll_cons h
  obtain ⟨v3, s3, d3, e3, p3, q3, rfl, rfl, rfl, h3, h⟩ := trodAll_cons h
  obtain ⟨v4, s4, d4, e4, p4, q4, rfl, rfl, rfl, h4, h⟩ := trodAll_cons h
  obtain ⟨rfl, rfl, rfl⟩ := trodAll_nil h
  exact ⟨v0, v1, v2, v3, v4, d0, d1, d2, d3, d4, p0, p1, p2, p3, p4, Array.toList_inj.1 (by rw [hvs]), rfl, by simp, h0, h1, h2, h3, h4⟩
end
end Go.Proofs.Ythhbdnjihhpalaa
