/- What arguments of ints are in memory. Conditions: those of the reading of the argument. -/
import Derived.Test.YtabndibenffngaaDoorLawM
import Derived.Test.YtabndibenffngaaDoorMidBa
namespace Go.Proofs.YtabndibenffngaaDoor
open Go.ChangeShapes Go.WideShapes Go.RowKit Go.Deep
set_option maxRecDepth 100000

theorem cells_int10 : Tryd.prog.cellsOf 3 = 1 := by kernel_rfl
theorem bytes_int10 : Tryd.prog.bytesOf 3 = 8 := by kernel_rfl
theorem int_range {n : Int} (h : (Lit.int .i64 n).wf = true) : -9223372036854775808 ≤ n ∧ n ≤ 9223372036854775807 := by
  simp [Lit.wf, IntKind.min, IntKind.max, IntKind.bits, IntKind.signed] at h
  omega
abbrev IntR := { x : Int // -9223372036854775808 ≤ x ∧ x ≤ 9223372036854775807 }
def intRV (y : IntR) : List Value := [.int .i64 y.1]
section
variable {H : Type} {enc : TypeId × Value → H} {w : World}
theorem int_at10 (n : Nat) (a : Addr) (cs : List Value) (x : DataW H × List MemPlace) (hc : w.cells? 0 a 1 = some cs) (ht : DataW.trod enc Tryd.prog w 0 (fun _ => true) true n 3 cs = some x) :
    ∃ y : IntR, ∀ j u, (intRV y)[j]? = some u → w.cell? (a.add j) = some u := by
  obtain ⟨_, hlen, hcell⟩ := World.cells?_some hc
  obtain ⟨k, rfl, -, hw⟩ := DataW.trod_int Tryd.underlying3 ht
  refine ⟨⟨k, int_range hw⟩, fun j u hj => ?_⟩
  have hj1 : j < 1 := (List.getElem?_eq_some_iff.1 hj).1
  rw [hcell j hj1, ← hj]
  rfl
theorem ints_open {v : Value} {d : DataW H} {p : List MemPlace} {r : Reach} {b0 : Nat} (hv : Value.okWide Tryd.prog w r b0 66 v) (h : DataW.Trod enc Tryd.prog w 0 (fun _ => true) true 66 v d p) (hw : ∀ k ∈ d.weights Tryd.prog 66, k ≤ reachBytes) :
    ∃ A l n cap, v = .slice A n cap ∧ l.length = n ∧ n * 8 ≤ 140737488355328 ∧ IntsIn w A l ∧ Ints l := by
  obtain ⟨A, l, n, cap, rfl, hl, -, hn, hi⟩ := items_open intRV 1 8 ⟨0, by omega, by omega⟩ Tryd.underlying66 cells_int10 bytes_int10 (fun _ => ⟨_, rfl⟩) int_at10 hv h hw
  refine ⟨A, l.map Subtype.val, n, cap, rfl, by rw [List.length_map, hl], hn, fun h0 => ?_, fun x hx => ?_⟩
  · obtain ⟨b, off, e, hb, hc⟩ := hi (by rw [List.length_map] at h0; exact h0)
    refine ⟨b, off, e, hb, fun i x hx => ?_⟩
    rw [List.getElem?_map] at hx
    cases hy : l[i]? with
    | none => rw [hy] at hx; cases hx
    | some y =>
      rw [hy] at hx
      cases hx
      have := hc i y hy 0 _ rfl
      simpa using this
  · obtain ⟨y, -, rfl⟩ := List.mem_map.1 hx
    exact y.2
theorem trodAll_six {P : Program} {base : Nat} {spare : Nat → Bool} {held : Bool} {t0 t1 t2 t3 t4 t5 : TypeId} {args : Array Value} {ds : List (DataW H)} {ps : List MemPlace} (h : DataW.TrodAll enc P w base spare held [t0, t1, t2, t3, t4, t5] args.toList ds ps) :
    ∃ v0 v1 v2 v3 v4 v5 d0 d1 d2 d3 d4 d5 p0 p1 p2 p3 p4 p5, args = #[v0, v1, v2, v3, v4, v5] ∧ ds = [d0, d1, d2, d3, d4, d5] ∧ ps = p0 ++ (p1 ++ (p2 ++ (p3 ++ (p4 ++ p5)))) ∧ DataW.Trod enc P w base spare held t0 v0 d0 p0 ∧ DataW.Trod enc P w base spare held t1 v1 d1 p1 ∧ DataW.Trod enc P w base spare held t2 v2 d2 p2 ∧ DataW.Trod enc P w base spare held t3 v3 d3 p3 ∧ DataW.Trod enc P w base spare held t4 v4 d4 p4 ∧ DataW.Trod enc P w base spare held t5 v5 d5 p5 := by
  obtain ⟨vs, hvs⟩ : ∃ vs, args.toList = vs := ⟨_, rfl⟩
  rw [hvs] at h
  obtain ⟨v0, s0, d0, e0, p0, q0, rfl, rfl, rfl, h0, h⟩ := trodAll_cons h
  obtain ⟨v1, s1, d1, e1, p1, q1, rfl, rfl, rfl, h1, h⟩ := trodAll_cons h
  obtain ⟨v2, s2, d2, e2, p2, q2, rfl, rfl, rfl, h2, h⟩ := trodAll_cons h
  obtain ⟨v3, s3, d3, e3, p3, q3, rfl, rfl, rfl, h3, h⟩ := trodAll_cons h
  obtain ⟨v4, s4, d4, e4, p4, q4, rfl, rfl, rfl, h4, h⟩ := trodAll_cons h
  obtain ⟨v5, s5, d5, e5, p5, q5, rfl, rfl, rfl, h5, h⟩ := trodAll_cons h
  obtain ⟨rfl, rfl, rfl⟩ := trodAll_nil h
  exact ⟨v0, v1, v2, v3, v4, v5, d0, d1, d2, d3, d4, d5, p0, p1, p2, p3, p4, p5, Array.toList_inj.1 (by rw [hvs]), rfl, by simp, h0, h1, h2, h3, h4, h5⟩
end
end Go.Proofs.YtabndibenffngaaDoor
