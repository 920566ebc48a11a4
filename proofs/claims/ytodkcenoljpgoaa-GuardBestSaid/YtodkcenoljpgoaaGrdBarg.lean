/- What an argument of puts and takes is in memory. Conditions: those of the reading of the argument. -/
import Derived.Test.YtodkcenoljpgoaaBytLaw
namespace Go.Proofs.Ytodkcenoljpgoaa
open Go.ChangeShapes Go.WideShapes Go.RowKit Go.Deep

theorem cells_best : Try.prog.cellsOf 55 = 3 := by kernel_rfl
theorem cells_i64b : Try.prog.cellsOf 3 = 1 := by kernel_rfl
theorem cells_blb : Try.prog.cellsOf 4 = 1 := by kernel_rfl
theorem cells_bsb : Try.prog.cellsOf 53 = 1 := by kernel_rfl

/-- A put, or a take at a time, as it stands in memory. -/
structure BestC where
  take : Bool
  time : Int
  A : Option Addr
  m : Nat
  cap : Nat
  data : List UInt8
def noBest : BestC := ⟨false, 0, none, 0, 0, []⟩

structure BestOk (W : World) (b o : Nat) (x : BestC) : Prop where
  take : W.cell? ⟨b, o, none⟩ = some (.bool x.take)
  time : W.cell? ⟨b, o + 1, none⟩ = some (.int .i64 x.time)
  text : W.cell? ⟨b, o + 2, none⟩ = some (.slice x.A x.m x.cap)
  len : x.data.length = x.m
  cap_ : x.m ≤ x.cap
  most : x.cap ≤ 140737488351232
  bytes : Bytes W W.heap.size x.A x.data
theorem BestOk.below {W W' : World} {b o : Nat} {x : BestC} (h : BestOk W b o x) (hb : b < W.heap.size) (hw : Below W.heap.size W W') : BestOk W' b o x :=
  ⟨(hw.cell (by exact hb)).trans h.take, (hw.cell (by exact hb)).trans h.time, (hw.cell (by exact hb)).trans h.text, h.len, h.cap_, h.most, (h.bytes.below hw (Nat.le_refl _)).more hw.size⟩

/-- Puts and takes in memory. -/
def BestsIn (W : World) (A : Option Addr) (len : Nat) (f : Nat → BestC) : Prop :=
  0 < len → ∃ b off, A = some ⟨b, off, none⟩ ∧ b < W.heap.size ∧ ∀ i, i < len → BestOk W b (off + i * 3) (f i)
theorem BestsIn.below {W W' : World} {A : Option Addr} {len : Nat} {f : Nat → BestC} (h : BestsIn W A len f) (hw : Below W.heap.size W W') : BestsIn W' A len f := fun hl => by
  obtain ⟨b, off, e, hb, hi⟩ := h hl
  exact ⟨b, off, e, Nat.lt_of_lt_of_le hb hw.size, fun i h => (hi i h).below hb hw⟩
/-- The argument. -/
def BestsAt (W : World) (v : Value) : Prop := ∃ A len cap f, v = .slice A len cap ∧ len ≤ 140737488355328 ∧ BestsIn W A len f

set_option maxRecDepth 100000 in
theorem best_at {H : Type} {enc : TypeId × Value → H} {w : World} {n : Nat} {a : Addr} {cs : List Value} {x : DataW H × List MemPlace}
    (hc : w.cells? 0 a 3 = some cs) (ht : DataW.trod enc Try.prog w 0 (fun _ => true) true n 55 cs = some x) (hw : ∀ k ∈ x.1.weights Try.prog 55, k ≤ reachBytes) :
    ∃ y : BestC, w.cell? (a.add 0) = some (.bool y.take) ∧ w.cell? (a.add 1) = some (.int .i64 y.time) ∧ w.cell? (a.add 2) = some (.slice y.A y.m y.cap) ∧
      y.data.length = y.m ∧ y.m ≤ y.cap ∧ y.cap ≤ 140737488351232 ∧ Bytes w w.heap.size y.A y.data := by
  obtain ⟨_, hlen, hcell⟩ := World.cells?_some hc
  obtain ⟨xs, m, _, hx, _, hxl, hf⟩ := DataW.trod_struct Try.underlying55 ht
  match cs, hlen with
  | [c0, c1, c2], _ =>
    match xs, hxl with
    | [y0, y1, y2], _ =>
      have g0 := hf 0 _ rfl
      have g1 := hf 1 _ rfl
      have g2 := hf 2 _ rfl
      change DataW.trod enc Try.prog w 0 (fun _ => true) true m 4 (([c0, c1, c2].drop 0).take (Try.prog.cellsOf 4)) = _ at g0
      change DataW.trod enc Try.prog w 0 (fun _ => true) true m 3 (([c0, c1, c2].drop 1).take (Try.prog.cellsOf 3)) = _ at g1
      change DataW.trod enc Try.prog w 0 (fun _ => true) true m 53 (([c0, c1, c2].drop 2).take (Try.prog.cellsOf 53)) = _ at g2
      rw [cells_blb] at g0
      rw [cells_i64b] at g1
      rw [cells_bsb] at g2
      obtain ⟨k0, e0, _⟩ := DataW.trod_bool Try.underlying4 g0
      obtain ⟨k1, e1, _, hw1⟩ := DataW.trod_int Try.underlying3 g1
      have g2' : DataW.trod enc Try.prog w 0 (fun _ => true) true m 53 [c2] = some y2 := g2
      obtain ⟨A, l, q, cap, e2, h1, h2, h3, h4⟩ := bytes_trod g2' (fun k hk => hw k (by
        rw [hx]
        simp only [DataW.weights, Try.underlying55]
        exact DataW.weights_mem_each (j := 2) (t := 53) (d := y2.1) rfl rfl k hk))
      simp at e0 e1
      refine ⟨⟨k0, k1, A, q, cap, l⟩, ?_, ?_, ?_, h1, h2, h3, h4⟩
      · rw [hcell 0 (by omega), ← e0]; rfl
      · rw [hcell 1 (by omega), ← e1]; rfl
      · rw [hcell 2 (by omega), ← e2]; rfl

set_option maxRecDepth 100000 in
theorem bests_open {H : Type} {enc : TypeId × Value → H} {w : World} {v : Value} {d : DataW H} {p : List MemPlace} {r : Reach} {b0 : Nat}
    (hv : Value.okWide Try.prog w r b0 48 v) (h : DataW.Trod enc Try.prog w 0 (fun _ => true) true 48 v d p)
    (hw : ∀ k ∈ d.weights Try.prog 48, k ≤ reachBytes) : BestsAt w v := by
  obtain ⟨a0, len, cap, rfl⟩ := okWide_slice Try.underlying48 hv
  obtain ⟨fuel, hf⟩ := h
  rcases open_slice Try.underlying48 hf with ⟨hcs, hx⟩ | ⟨a, len', cap', m, n, D, Pl, hcs, hb, hl, hm, hmm, hx, hi⟩
  · simp [Value.cells] at hcs
    obtain ⟨rfl, rfl, rfl⟩ := hcs
    exact ⟨none, 0, 0, fun _ => noBest, rfl, by omega, fun h => absurd h (by omega)⟩
  · simp [Value.cells] at hcs
    obtain ⟨rfl, rfl, rfl⟩ := hcs
    simp only [if_true] at hmm
    subst hmm
    rw [cells_best] at hi
    have hd : ∃ r, d = .slice ((List.range len).map D) r := ⟨_, (Prod.mk.inj hx).1⟩
    obtain ⟨r, hd⟩ := hd
    have hby : Try.prog.bytesOf 55 = 40 := by kernel_rfl
    have hlen : len ≤ 140737488355328 := by
      have := hw (((List.range len).map D).length * 40 + r.length * 40) (by
        rw [hd]
        simp only [DataW.weights, Try.underlying48, List.mem_cons]
        refine .inl ?_
        rw [hby, Nat.add_mul])
      rw [List.length_map, List.length_range] at this
      simp only [reachBytes] at this
      omega
    rcases Nat.eq_zero_or_pos len with h0 | hpos
    · subst h0; exact ⟨_, 0, _, fun _ => noBest, rfl, by omega, fun h => absurd h (by omega)⟩
    · obtain ⟨b, off, spot⟩ := a
      have hat : ∀ i, i < len → ∃ y : BestC, w.cell? (((⟨b, off, spot⟩ : Addr).add (i * 3)).add 0) = some (.bool y.take) ∧ w.cell? (((⟨b, off, spot⟩ : Addr).add (i * 3)).add 1) = some (.int .i64 y.time) ∧ w.cell? (((⟨b, off, spot⟩ : Addr).add (i * 3)).add 2) = some (.slice y.A y.m y.cap) ∧
          y.data.length = y.m ∧ y.m ≤ y.cap ∧ y.cap ≤ 140737488351232 ∧ Bytes w w.heap.size y.A y.data := fun i h => by
        obtain ⟨cs', h1, h2⟩ := hi i (by omega)
        refine best_at h1 h2 (fun k hk => hw k ?_)
        rw [hd]
        simp only [DataW.weights, Try.underlying48, List.mem_cons, List.mem_append]
        exact .inr (.inl (weights_mem_all (List.mem_map.2 ⟨i, List.mem_range.2 h, rfl⟩) k hk))
      have hspot : spot = none := by
        obtain ⟨_, h1, _⟩ := hat 0 hpos
        simpa [Addr.add] using World.cell?_spot h1
      subst hspot
      have hbl : b < w.heap.size := by
        obtain ⟨_, h1, _⟩ := hat 0 hpos
        simpa [Addr.add] using World.block_lt_of_cell? w _ h1
      have hat2 : ∀ i, ∃ y : BestC, i < len → BestOk w b (off + i * 3) y := fun i => by
        by_cases h : i < len
        · obtain ⟨y, h0, h1, h2, h3, h4, h5, h6⟩ := hat i h
          simp only [addr_addB, Nat.add_zero] at h0 h1 h2
          exact ⟨y, fun _ => ⟨h0, h1, h2, h3, h4, h5, h6⟩⟩
        · exact ⟨noBest, fun h' => absurd h' h⟩
      obtain ⟨f, hf⟩ := Classical.axiomOfChoice hat2
      exact ⟨_, len, _, f, rfl, hlen, fun _ => ⟨b, off, rfl, hbl, hf⟩⟩
end Go.Proofs.Ytodkcenoljpgoaa
