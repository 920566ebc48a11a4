/- What arguments of events and of acts are in memory. Conditions: those of the reading of the argument. -/
import Derived.Test.YtlijcfojokbdpaaItArg
import Derived.Test.YtlijcfojokbdpaaQueI
namespace Go.Proofs.Ytlijcfojokbdpaa
open Go.ChangeShapes Go.WideShapes Go.RowKit Go.Deep
set_option maxRecDepth 100000

theorem cells_ev : Try.prog.cellsOf 28 = 3 := by kernel_rfl
theorem bytes_ev : Try.prog.bytesOf 28 = 24 := by kernel_rfl
theorem cells_act : Try.prog.cellsOf 30 = 4 := by kernel_rfl
theorem bytes_act : Try.prog.bytesOf 30 = 32 := by kernel_rfl
theorem cells_int : Try.prog.cellsOf 3 = 1 := by kernel_rfl
theorem cells_bool : Try.prog.cellsOf 4 = 1 := by kernel_rfl

/-- An act of QueuePlays. -/
structure ActQ where
  take : Bool
  ev : QueP.Ev
def actVals (a : ActQ) : List Value := [.bool a.take, .int .i64 a.ev.at_, .int .i64 a.ev.rank, .int .i64 a.ev.what]

section
variable {H : Type} {enc : TypeId × Value → H} {w : World}
theorem int_of {m : Nat} {c : Value} {y : DataW H × List MemPlace} (g : DataW.trod enc Try.prog w 0 (fun _ => true) true m 3 [c] = some y) : ∃ k : Int, c = .int .i64 k := by
  obtain ⟨k, e, _, _⟩ := DataW.trod_int Try.underlying3 g
  simp at e
  exact ⟨k, e⟩
theorem ev_of {n : Nat} {c0 c1 c2 : Value} {x : DataW H × List MemPlace} (ht : DataW.trod enc Try.prog w 0 (fun _ => true) true n 28 [c0, c1, c2] = some x) : ∃ y : QueP.Ev, [c0, c1, c2] = evVals y := by
  obtain ⟨xs, m, _, hx, _, hxl, hf⟩ := DataW.trod_struct Try.underlying28 ht
  match xs, hxl with
  | [y0, y1, y2], _ =>
    have g0 := hf 0 _ rfl
    have g1 := hf 1 _ rfl
    have g2 := hf 2 _ rfl
    change DataW.trod enc Try.prog w 0 (fun _ => true) true m 3 (([c0, c1, c2].drop 0).take (Try.prog.cellsOf 3)) = _ at g0
    change DataW.trod enc Try.prog w 0 (fun _ => true) true m 3 (([c0, c1, c2].drop 1).take (Try.prog.cellsOf 3)) = _ at g1
    change DataW.trod enc Try.prog w 0 (fun _ => true) true m 3 (([c0, c1, c2].drop 2).take (Try.prog.cellsOf 3)) = _ at g2
    rw [cells_int] at g0 g1 g2
    obtain ⟨k0, rfl⟩ := int_of (c := c0) g0
    obtain ⟨k1, rfl⟩ := int_of (c := c1) g1
    obtain ⟨k2, rfl⟩ := int_of (c := c2) g2
    exact ⟨⟨k0, k1, k2⟩, rfl⟩
theorem ev_at (n : Nat) (a : Addr) (cs : List Value) (x : DataW H × List MemPlace) (hc : w.cells? 0 a 3 = some cs) (ht : DataW.trod enc Try.prog w 0 (fun _ => true) true n 28 cs = some x) :
    ∃ y : QueP.Ev, ∀ j u, (evVals y)[j]? = some u → w.cell? (a.add j) = some u := by
  obtain ⟨_, hlen, hcell⟩ := World.cells?_some hc
  match cs, hlen with
  | [c0, c1, c2], _ =>
    obtain ⟨y, hy⟩ := ev_of ht
    refine ⟨y, fun j u hj => ?_⟩
    have hj3 : j < 3 := (List.getElem?_eq_some_iff.1 hj).1
    rw [hcell j hj3, ← hj, ← hy]
theorem act_at (n : Nat) (a : Addr) (cs : List Value) (x : DataW H × List MemPlace) (hc : w.cells? 0 a 4 = some cs) (ht : DataW.trod enc Try.prog w 0 (fun _ => true) true n 30 cs = some x) :
    ∃ y : ActQ, ∀ j u, (actVals y)[j]? = some u → w.cell? (a.add j) = some u := by
  obtain ⟨_, hlen, hcell⟩ := World.cells?_some hc
  obtain ⟨xs, m, _, hx, _, hxl, hf⟩ := DataW.trod_struct Try.underlying30 ht
  match cs, hlen with
  | [c0, c1, c2, c3], _ =>
    match xs, hxl with
    | [y0, y1], _ =>
      have g0 := hf 0 _ rfl
      have g1 := hf 1 _ rfl
      change DataW.trod enc Try.prog w 0 (fun _ => true) true m 4 (([c0, c1, c2, c3].drop 0).take (Try.prog.cellsOf 4)) = _ at g0
      change DataW.trod enc Try.prog w 0 (fun _ => true) true m 28 (([c0, c1, c2, c3].drop 1).take (Try.prog.cellsOf 28)) = _ at g1
      rw [cells_bool] at g0
      rw [cells_ev] at g1
      obtain ⟨k0, e0, _⟩ := DataW.trod_bool Try.underlying4 g0
      simp at e0
      have g1' : DataW.trod enc Try.prog w 0 (fun _ => true) true m 28 [c1, c2, c3] = some y1 := g1
      obtain ⟨y, hy⟩ := ev_of g1'
      simp only [evVals, List.cons.injEq, and_true] at hy
      obtain ⟨rfl, rfl, rfl⟩ := hy
      subst e0
      refine ⟨⟨k0, y⟩, fun j u hj => ?_⟩
      have hj4 : j < 4 := (List.getElem?_eq_some_iff.1 hj).1
      rw [hcell j hj4, ← hj]
      rfl
theorem evs_open {v : Value} {d : DataW H} {p : List MemPlace} {r : Reach} {b0 : Nat} (hv : Value.okWide Try.prog w r b0 26 v) (h : DataW.Trod enc Try.prog w 0 (fun _ => true) true 26 v d p) (hw : ∀ k ∈ d.weights Try.prog 26, k ≤ reachBytes) :
    ∃ A l n cap, v = .slice A n cap ∧ l.length = n ∧ n ≤ cap ∧ n * 24 ≤ 140737488355328 ∧ ItemsIn evVals 3 w A l :=
  items_open evVals 3 24 ⟨0, 0, 0⟩ Try.underlying26 cells_ev bytes_ev (fun _ => ⟨_, rfl⟩) ev_at hv h hw
theorem acts_open {v : Value} {d : DataW H} {p : List MemPlace} {r : Reach} {b0 : Nat} (hv : Value.okWide Try.prog w r b0 22 v) (h : DataW.Trod enc Try.prog w 0 (fun _ => true) true 22 v d p) (hw : ∀ k ∈ d.weights Try.prog 22, k ≤ reachBytes) :
    ∃ A l n cap, v = .slice A n cap ∧ l.length = n ∧ n ≤ cap ∧ n * 32 ≤ 140737488355328 ∧ ItemsIn actVals 4 w A l :=
  items_open actVals 4 32 ⟨false, ⟨0, 0, 0⟩⟩ Try.underlying22 cells_act bytes_act (fun _ => ⟨_, rfl⟩) act_at hv h hw
/-- An event handed in. -/
theorem ev_open {v : Value} {d : DataW H} {p : List MemPlace} {r : Reach} {b0 : Nat} (hv : Value.okWide Try.prog w r b0 28 v) (h : DataW.Trod enc Try.prog w 0 (fun _ => true) true 28 v d p) : ∃ y : QueP.Ev, v = evV y := by
  obtain ⟨cs, rfl, hsz⟩ := okWide_struct Try.underlying28 hv
  obtain ⟨l⟩ := cs
  match l, hsz.trans cells_ev with
  | [c0, c1, c2], _ =>
    obtain ⟨fuel, hf⟩ := h
    have hf' : DataW.trod enc Try.prog w 0 (fun _ => true) true fuel 28 [c0, c1, c2] = some (d, p) := hf
    obtain ⟨y, hy⟩ := ev_of hf'
    exact ⟨y, by rw [hy]; rfl⟩
end
end Go.Proofs.Ytlijcfojokbdpaa
