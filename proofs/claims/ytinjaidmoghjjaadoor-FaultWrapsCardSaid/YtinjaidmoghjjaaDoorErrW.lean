/- What the law's links are in memory, and what the condition on errors.errorType gives a walk. Conditions: those of the reading of the argument. -/
import Derived.Test.YtinjaidmoghjjaaDoorLawKit
import Derived.Test.YtinjaidmoghjjaaDoorErrT
import Derived.Test.YtinjaidmoghjjaaDoorErrU
import Derived.LaidLaws
import Derived.OpenShut
import Derived.LaidHandle
import Derived.Stop.Joined
namespace Go.Proofs.YtinjaidmoghjjaaDoor
open Go.ChangeShapes Go.WideShapes Go.RowKit Go.Deep

theorem cells22 : Tryd.prog.cellsOf 52 = 3 := by kernel_rfl
theorem cells3I : Tryd.prog.cellsOf 3 = 1 := by kernel_rfl
theorem cells4B : Tryd.prog.cellsOf 4 = 1 := by kernel_rfl

/-- The argument: nil, or links in memory. -/
def LinksAt (W : World) (v : Value) : Prop :=
  (∃ a cap, v = .slice a 0 cap) ∨ ∃ (b off len cap : Nat) (c at_ : Nat → Int) (bare : Nat → Bool), v = .slice (some ⟨b, off, none⟩) len cap ∧ b < W.heap.size ∧ len ≤ 9223372036854775807 ∧
    (∀ i, i < len → W.cell? ⟨b, off + i * 3, none⟩ = some (.int .i64 (c i)) ∧ W.cell? ⟨b, off + i * 3 + 1, none⟩ = some (.int .i64 (at_ i)) ∧ W.cell? ⟨b, off + i * 3 + 2, none⟩ = some (.bool (bare i))) ∧
    ∀ i, i < len → at_ i ≤ 9223372036854775807

theorem addr_add (b off n : Nat) : (⟨b, off, none⟩ : Addr).add n = ⟨b, off + n, none⟩ := by
  unfold Addr.add
  split <;> simp_all

set_option maxRecDepth 100000 in
theorem link_at {H : Type} {enc : TypeId × Value → H} {w : World} {spare : Nat → Bool} {held : Bool} {n : Nat} {a : Addr} {cs : List Value} {x : DataW H × List MemPlace}
    (hc : w.cells? 0 a 3 = some cs) (ht : DataW.trod enc Tryd.prog w 0 spare held n 52 cs = some x) :
    ∃ (c p : Int) (b : Bool), w.cell? (a.add 0) = some (.int .i64 c) ∧ w.cell? (a.add 1) = some (.int .i64 p) ∧ w.cell? (a.add 2) = some (.bool b) ∧ p ≤ 9223372036854775807 := by
  obtain ⟨_, hlen, hcell⟩ := World.cells?_some hc
  obtain ⟨xs, m, _, _, _, hxl, hf⟩ := DataW.trod_struct Tryd.underlying52 ht
  match cs, hlen with
  | [c0, c1, c2], _ =>
    match xs, hxl with
    | [y0, y1, y2], _ =>
      have g0 := hf 0 _ rfl
      have g1 := hf 1 _ rfl
      have g2 := hf 2 _ rfl
      change DataW.trod enc Tryd.prog w 0 spare held m 3 (([c0, c1, c2].drop 0).take (Tryd.prog.cellsOf 3)) = _ at g0
      change DataW.trod enc Tryd.prog w 0 spare held m 3 (([c0, c1, c2].drop 1).take (Tryd.prog.cellsOf 3)) = _ at g1
      change DataW.trod enc Tryd.prog w 0 spare held m 4 (([c0, c1, c2].drop 2).take (Tryd.prog.cellsOf 4)) = _ at g2
      rw [cells3I] at g0 g1
      rw [cells4B] at g2
      obtain ⟨k0, e0, _, _⟩ := DataW.trod_int Tryd.underlying3 g0
      obtain ⟨k1, e1, _, hw⟩ := DataW.trod_int Tryd.underlying3 g1
      obtain ⟨k2, e2, _⟩ := DataW.trod_bool Tryd.underlying4 g2
      simp at e0 e1 e2
      refine ⟨k0, k1, k2, ?_, ?_, ?_, ?_⟩
      · rw [hcell 0 (by omega), ← e0]; rfl
      · rw [hcell 1 (by omega), ← e1]; rfl
      · rw [hcell 2 (by omega), ← e2]; rfl
      · exact (bounds_i64 hw).2

set_option maxRecDepth 100000 in
theorem links_open {H : Type} {enc : TypeId × Value → H} {w : World} {v : Value} {d : DataW H} {p : List MemPlace} {r : Reach} {b0 : Nat}
    (hv : Value.okWide Tryd.prog w r b0 22 v) (h : DataW.Trod enc Tryd.prog w 0 (fun _ => true) true 22 v d p) : LinksAt w v := by
  obtain ⟨a0, len, cap, rfl⟩ := okWide_slice Tryd.underlying22 hv
  obtain ⟨fuel, hf⟩ := h
  rcases open_slice Tryd.underlying22 hf with ⟨hcs, hx⟩ | ⟨a, len', cap', m, n, D, Pl, hcs, hb, hl, hm, hmm, hx, hi⟩
  · simp [Value.cells] at hcs
    obtain ⟨rfl, rfl, rfl⟩ := hcs
    exact .inl ⟨_, _, rfl⟩
  · simp [Value.cells] at hcs
    obtain ⟨rfl, rfl, rfl⟩ := hcs
    simp only [if_true] at hmm
    subst hmm
    rw [cells22] at hi
    rcases Nat.eq_zero_or_pos len with h0 | hpos
    · subst h0; exact .inl ⟨_, _, rfl⟩
    · obtain ⟨b, off, spot⟩ := a
      have hat : ∀ i, i < len → ∃ (c p : Int) (b' : Bool), w.cell? ((⟨b, off, spot⟩ : Addr).add (i * 3) |>.add 0) = some (.int .i64 c) ∧ w.cell? ((⟨b, off, spot⟩ : Addr).add (i * 3) |>.add 1) = some (.int .i64 p) ∧ w.cell? ((⟨b, off, spot⟩ : Addr).add (i * 3) |>.add 2) = some (.bool b') ∧ p ≤ 9223372036854775807 := fun i h => by
        obtain ⟨cs', h1, h2⟩ := hi i (by omega)
        exact link_at h1 h2
      have hspot : spot = none := by
        obtain ⟨c, _, _, h1, _⟩ := hat 0 hpos
        simpa [Addr.add] using World.cell?_spot h1
      subst hspot
      have hbl : b < w.heap.size := by
        obtain ⟨c, _, _, h1, _⟩ := hat 0 hpos
        simpa [Addr.add] using World.block_lt_of_cell? w _ h1
      have hlen : len ≤ 9223372036854775807 := by
        unfold maxLen at hm
        omega
      have hat2 : ∀ i, ∃ x : Int × Int × Bool, i < len → w.cell? ⟨b, off + i * 3, none⟩ = some (.int .i64 x.1) ∧ w.cell? ⟨b, off + i * 3 + 1, none⟩ = some (.int .i64 x.2.1) ∧ w.cell? ⟨b, off + i * 3 + 2, none⟩ = some (.bool x.2.2) ∧ x.2.1 ≤ 9223372036854775807 := fun i => by
        by_cases h : i < len
        · obtain ⟨c, p, b', h0, h1, h2, h3⟩ := hat i h
          simp only [addr_add, Nat.add_zero] at h0 h1 h2
          exact ⟨(c, p, b'), fun _ => ⟨h0, h1, h2, h3⟩⟩
        · exact ⟨(0, 0, false), fun h' => absurd h' h⟩
      obtain ⟨f, hf⟩ := Classical.axiomOfChoice hat2
      exact .inr ⟨b, off, len, _, fun i => (f i).1, fun i => (f i).2.1, fun i => (f i).2.2, rfl, hbl, hlen, fun i h => ⟨(hf i h).1, (hf i h).2.1, (hf i h).2.2.1⟩, fun i h => (hf i h).2.2.2⟩

/-! ### errors.errorType -/
def laidOf : List (String × DataW Unit) := [("errors.errorType", Rows.laid_errors_errorType)]
theorem own : ownKnob Tryd.prog.godebug = none := by kernel_rfl
theorem etGlobal : Tryd.prog.globalNamed "errors.errorType" = some 0 := by kernel_rfl
theorem etType : (Tryd.prog.cutTypes.find? (·.1 == "internal/reflectlite.rtype")).map (·.2) = some 85 := by kernel_rfl
theorem etSize : Tryd.prog.types.size = 128 := by kernel_rfl
theorem etRow : ((List.range 128).filter fun t => Tryd.prog.rowNamed t [101, 114, 114, 111, 114]) = [25] := by kernel_rfl

theorem hasType_of_laid {W : World} (h : laidMetH Tryd.prog laidOf W) : HasType W := by
  have h' : laidMet Tryd.prog [] W ∧ handlesMet Tryd.prog laidOf W := h
  obtain ⟨name, u, ty, e1, e2, e3, e4, e5⟩ := h'.2 _ (List.mem_singleton.2 rfl)
  have en : name = [101, 114, 114, 111, 114] := (Option.some.inj e1).symm
  subst en
  obtain rfl := Option.some.inj (etType.symm.trans e2)
  have hm : ty ∈ (List.range 128).filter fun t => Tryd.prog.rowNamed t [101, 114, 114, 111, 114] := List.mem_filter.2 ⟨List.mem_range.2 (by rw [← etSize]; exact e3), e4⟩
  rw [etRow] at hm
  obtain rfl := List.mem_singleton.1 hm
  have hh : typeHandle Tryd.prog 25 = .pointer (some ⟨1, 25, none⟩) := by kernel_rfl
  rw [hh] at e5
  simpa [HasType] using World.var?_cell etGlobal e5 0

/-- A world that meets the condition: the settled one, the variable's cell laid. -/
noncomputable def laidWorld (os : Os) : World :=
  let w0 := World.holding Tryd.prog os ⟨#[], #[], []⟩
  { w0 with heap := w0.heap.modify 0 fun
      | .cells _ t frozen => .cells #[.iface 85 (.agg #[.pointer (some ⟨1, 25, none⟩)])] t frozen
      | o => o }
theorem laidWorld_met (os : Os) (args : Array Value) : laidMetH Tryd.prog laidOf ((laidWorld os).forCall (fun _ _ => 0) ⟨#[], args, []⟩).memory :=
  laidMetH_of_parts (laidMet_nil _ _) (by kernel_rfl)

theorem made_of (w : World) (v : Value) (hl : LinksAt w v) : (∃ a len cap, v = .slice a len cap) ∧ ∀ W, Below w.heap.size w W → Calls Tryd.prog 7 #[v] W (MadePost W) := by
  rcases hl with ⟨a, cap, rfl⟩ | ⟨b, off, len, cap, c, at_, bare, rfl, hb, hlen, hc, ha⟩
  · exact ⟨⟨_, _, _, rfl⟩, fun W _ => made_empty a cap W⟩
  · refine ⟨⟨_, _, _, rfl⟩, fun W hW => made_any b off len cap c at_ bare W (Nat.lt_of_lt_of_le hb hW.size) hlen (fun i hi => ?_) ha⟩
    obtain ⟨h0, h1, h2⟩ := hc i hi
    exact ⟨(hW.cell (by exact hb)).trans h0, (hW.cell (by exact hb)).trans h1, (hW.cell (by exact hb)).trans h2⟩

end Go.Proofs.YtinjaidmoghjjaaDoor
