/- What an argument of acts is in memory. Conditions: those of the reading of the argument. -/
import Derived.Test.YtnjkfkfanjkajaaBytLaw
namespace Go.Proofs.Ytnjkfkfanjkajaa
open Go.ChangeShapes Go.WideShapes Go.RowKit Go.Deep

theorem cells_act : Try.prog.cellsOf 29 = 4 := by kernel_rfl
theorem cells_i64 : Try.prog.cellsOf 3 = 1 := by kernel_rfl
theorem cells_u32 : Try.prog.cellsOf 27 = 1 := by kernel_rfl
theorem cells_bs : Try.prog.cellsOf 24 = 1 := by kernel_rfl

/-- An act as it stands in memory. -/
structure ActC where
  kind : Int
  size : Int
  n : Nat
  A : Option Addr
  m : Nat
  cap : Nat
  data : List UInt8

structure ActOk (W : World) (b o : Nat) (x : ActC) : Prop where
  kind : W.cell? ⟨b, o, none⟩ = some (.int .i64 x.kind)
  size : W.cell? ⟨b, o + 1, none⟩ = some (.int .i64 x.size)
  num : W.cell? ⟨b, o + 2, none⟩ = some (.int .u32 (x.n : Nat))
  text : W.cell? ⟨b, o + 3, none⟩ = some (.slice x.A x.m x.cap)
  len : x.data.length = x.m
  cap_ : x.m ≤ x.cap
  most : x.cap ≤ 140737488351232
  bytes : Bytes W W.heap.size x.A x.data
  kinds : -9223372036854775808 ≤ x.kind ∧ x.kind ≤ 9223372036854775807
  sizes : -9223372036854775808 ≤ x.size ∧ x.size ≤ 9223372036854775807
  nums : x.n < 4294967296

theorem ActOk.below {W W' : World} {b o : Nat} {x : ActC} (h : ActOk W b o x) (hb : b < W.heap.size) (hw : Below W.heap.size W W') : ActOk W' b o x :=
  ⟨(hw.cell (by exact hb)).trans h.kind, (hw.cell (by exact hb)).trans h.size, (hw.cell (by exact hb)).trans h.num, (hw.cell (by exact hb)).trans h.text, h.len, h.cap_, h.most, (h.bytes.below hw (Nat.le_refl _)).more hw.size, h.kinds, h.sizes, h.nums⟩

/-- Acts in memory. -/
def ActsIn (W : World) (A : Option Addr) (len : Nat) (f : Nat → ActC) : Prop :=
  0 < len → ∃ b off, A = some ⟨b, off, none⟩ ∧ b < W.heap.size ∧ ∀ i, i < len → ActOk W b (off + i * 4) (f i)

/-- The argument: acts in memory. -/
def ActsAt (W : World) (v : Value) : Prop := ∃ A len cap f, v = .slice A len cap ∧ ActsIn W A len f

set_option maxRecDepth 100000 in
theorem act_at {H : Type} {enc : TypeId × Value → H} {w : World} {n : Nat} {a : Addr} {cs : List Value} {x : DataW H × List MemPlace}
    (hc : w.cells? 0 a 4 = some cs) (ht : DataW.trod enc Try.prog w 0 (fun _ => true) true n 29 cs = some x) (hw : ∀ k ∈ x.1.weights Try.prog 29, k ≤ reachBytes) :
    ∃ y : ActC, w.cell? (a.add 0) = some (.int .i64 y.kind) ∧ w.cell? (a.add 1) = some (.int .i64 y.size) ∧ w.cell? (a.add 2) = some (.int .u32 (y.n : Nat)) ∧ w.cell? (a.add 3) = some (.slice y.A y.m y.cap) ∧
      y.data.length = y.m ∧ y.m ≤ y.cap ∧ y.cap ≤ 140737488351232 ∧ Bytes w w.heap.size y.A y.data ∧ (-9223372036854775808 ≤ y.kind ∧ y.kind ≤ 9223372036854775807) ∧ (-9223372036854775808 ≤ y.size ∧ y.size ≤ 9223372036854775807) ∧ y.n < 4294967296 := by
  obtain ⟨_, hlen, hcell⟩ := World.cells?_some hc
  obtain ⟨xs, m, _, hx, _, hxl, hf⟩ := DataW.trod_struct Try.underlying29 ht
  match cs, hlen with
  | [c0, c1, c2, c3], _ =>
    match xs, hxl with
    | [y0, y1, y2, y3], _ =>
      have g0 := hf 0 _ rfl
      have g1 := hf 1 _ rfl
      have g2 := hf 2 _ rfl
      have g3 := hf 3 _ rfl
      change DataW.trod enc Try.prog w 0 (fun _ => true) true m 3 (([c0, c1, c2, c3].drop 0).take (Try.prog.cellsOf 3)) = _ at g0
      change DataW.trod enc Try.prog w 0 (fun _ => true) true m 3 (([c0, c1, c2, c3].drop 1).take (Try.prog.cellsOf 3)) = _ at g1
      change DataW.trod enc Try.prog w 0 (fun _ => true) true m 27 (([c0, c1, c2, c3].drop 2).take (Try.prog.cellsOf 27)) = _ at g2
      change DataW.trod enc Try.prog w 0 (fun _ => true) true m 24 (([c0, c1, c2, c3].drop 3).take (Try.prog.cellsOf 24)) = _ at g3
      rw [cells_i64] at g0 g1
      rw [cells_u32] at g2
      rw [cells_bs] at g3
      obtain ⟨k0, e0, _, hw0⟩ := DataW.trod_int Try.underlying3 g0
      obtain ⟨k1, e1, _, hw1⟩ := DataW.trod_int Try.underlying3 g1
      obtain ⟨k2, e2, _, hw2⟩ := DataW.trod_int Try.underlying27 g2
      have g3' : DataW.trod enc Try.prog w 0 (fun _ => true) true m 24 [c3] = some y3 := g3
      obtain ⟨A, l, q, cap, e3, h1, h2, h3, h4⟩ := bytes_trod g3' (fun k hk => hw k (by
        rw [hx]
        simp only [DataW.weights, Try.underlying29]
        exact DataW.weights_mem_each (j := 3) (t := 24) (d := y3.1) rfl rfl k hk))
      simp at e0 e1 e2
      have b0 := bounds_i64 hw0
      have b1 := bounds_i64 hw1
      have b2 := bounds_u32 hw2
      obtain ⟨q2, rfl⟩ := Int.eq_ofNat_of_zero_le b2.1
      refine ⟨⟨k0, k1, q2, A, q, cap, l⟩, ?_, ?_, ?_, ?_, h1, h2, h3, h4, b0, b1, by show q2 < 4294967296; omega⟩
      · rw [hcell 0 (by omega), ← e0]; rfl
      · rw [hcell 1 (by omega), ← e1]; rfl
      · rw [hcell 2 (by omega), ← e2]; rfl
      · rw [hcell 3 (by omega), ← e3]; rfl

set_option maxRecDepth 100000 in
theorem acts_open {H : Type} {enc : TypeId × Value → H} {w : World} {v : Value} {d : DataW H} {p : List MemPlace} {r : Reach} {b0 : Nat}
    (hv : Value.okWide Try.prog w r b0 22 v) (h : DataW.Trod enc Try.prog w 0 (fun _ => true) true 22 v d p)
    (hw : ∀ k ∈ d.weights Try.prog 22, k ≤ reachBytes) : ActsAt w v := by
  obtain ⟨a0, len, cap, rfl⟩ := okWide_slice Try.underlying22 hv
  obtain ⟨fuel, hf⟩ := h
  rcases open_slice Try.underlying22 hf with ⟨hcs, hx⟩ | ⟨a, len', cap', m, n, D, Pl, hcs, hb, hl, hm, hmm, hx, hi⟩
  · simp [Value.cells] at hcs
    obtain ⟨rfl, rfl, rfl⟩ := hcs
    exact ⟨none, 0, 0, fun _ => ⟨0, 0, 0, none, 0, 0, []⟩, rfl, fun h => absurd h (by omega)⟩
  · simp [Value.cells] at hcs
    obtain ⟨rfl, rfl, rfl⟩ := hcs
    simp only [if_true] at hmm
    subst hmm
    rw [cells_act] at hi
    rcases Nat.eq_zero_or_pos len with h0 | hpos
    · subst h0; exact ⟨_, 0, _, fun _ => ⟨0, 0, 0, none, 0, 0, []⟩, rfl, fun h => absurd h (by omega)⟩
    · obtain ⟨b, off, spot⟩ := a
      have hd : ∃ r, d = .slice ((List.range len).map D) r := ⟨_, (Prod.mk.inj hx).1⟩
      obtain ⟨r, hd⟩ := hd
      have hat : ∀ i, i < len → ∃ y : ActC, w.cell? (((⟨b, off, spot⟩ : Addr).add (i * 4)).add 0) = some (.int .i64 y.kind) ∧ w.cell? (((⟨b, off, spot⟩ : Addr).add (i * 4)).add 1) = some (.int .i64 y.size) ∧ w.cell? (((⟨b, off, spot⟩ : Addr).add (i * 4)).add 2) = some (.int .u32 (y.n : Nat)) ∧ w.cell? (((⟨b, off, spot⟩ : Addr).add (i * 4)).add 3) = some (.slice y.A y.m y.cap) ∧
          y.data.length = y.m ∧ y.m ≤ y.cap ∧ y.cap ≤ 140737488351232 ∧ Bytes w w.heap.size y.A y.data ∧ (-9223372036854775808 ≤ y.kind ∧ y.kind ≤ 9223372036854775807) ∧ (-9223372036854775808 ≤ y.size ∧ y.size ≤ 9223372036854775807) ∧ y.n < 4294967296 := fun i h => by
        obtain ⟨cs', h1, h2⟩ := hi i (by omega)
        refine act_at h1 h2 (fun k hk => hw k ?_)
        rw [hd]
        simp only [DataW.weights, Try.underlying22, List.mem_cons, List.mem_append]
        exact .inr (.inl (weights_mem_all (List.mem_map.2 ⟨i, List.mem_range.2 h, rfl⟩) k hk))
      have hspot : spot = none := by
        obtain ⟨_, h1, _⟩ := hat 0 hpos
        simpa [Addr.add] using World.cell?_spot h1
      subst hspot
      have hbl : b < w.heap.size := by
        obtain ⟨_, h1, _⟩ := hat 0 hpos
        simpa [Addr.add] using World.block_lt_of_cell? w _ h1
      have hat2 : ∀ i, ∃ y : ActC, i < len → ActOk w b (off + i * 4) y := fun i => by
        by_cases h : i < len
        · obtain ⟨y, h0, h1, h2, h3, h4, h5, h6, h7, h8, h9, h10⟩ := hat i h
          simp only [addr_addB, Nat.add_zero] at h0 h1 h2 h3
          exact ⟨y, fun _ => ⟨h0, h1, h2, h3, h4, h5, h6, h7, h8, h9, h10⟩⟩
        · exact ⟨⟨0, 0, 0, none, 0, 0, []⟩, fun h' => absurd h' h⟩
      obtain ⟨f, hf⟩ := Classical.axiomOfChoice hat2
      exact ⟨_, len, _, f, rfl, fun _ => ⟨b, off, rfl, hbl, hf⟩⟩
end Go.Proofs.Ytnjkfkfanjkajaa
