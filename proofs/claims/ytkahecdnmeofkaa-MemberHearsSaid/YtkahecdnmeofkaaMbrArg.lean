/- Arguments of stage 12: a stamp, stamps, frames over lines. Conditions: those of the reading of the arguments. -/
import Derived.Test.YtkahecdnmeofkaaLawM
import Derived.Test.YtkahecdnmeofkaaFraArg
import Derived.Test.YtkahecdnmeofkaaMbrE
namespace Go.Proofs.Ytkahecdnmeofkaa
open Go.ChangeShapes Go.WideShapes Go.RowKit Go.Deep
set_option maxRecDepth 100000

theorem cells_came : Try.prog.cellsOf 54 = 10 := by kernel_rfl
theorem bytes_came : Try.prog.bytesOf 54 = 80 := by kernel_rfl
theorem bytes_stamp : Try.prog.bytesOf 36 = 8 := by kernel_rfl
/-- A frame over a line. -/
structure CameC where
  line : Int
  f : FrameC
def CamesIn (W : World) (A : Option Addr) (l : List CameC) : Prop :=
  0 < l.length → ∃ b off, A = some ⟨b, off, none⟩ ∧ b < W.heap.size ∧ ∀ i x, l[i]? = some x → W.cell? ⟨b, off + i * 10, none⟩ = some (.int .i64 x.line) ∧ (∀ j u, x.f.cells[j]? = some u → W.cell? ⟨b, off + i * 10 + 1 + j, none⟩ = some u) ∧ FrameIn W x.f
theorem CamesIn.below {W W' : World} {A : Option Addr} {l : List CameC} (h : CamesIn W A l) (hw : Below W.heap.size W W') : CamesIn W' A l := fun hl => by
  obtain ⟨b, off, e, hb, hi⟩ := h hl
  exact ⟨b, off, e, Nat.lt_of_lt_of_le hb hw.size, fun i x hx => ⟨(hw.cell (by exact hb)).trans (hi i x hx).1, fun j u hu => (hw.cell (by exact hb)).trans ((hi i x hx).2.1 j u hu), (hi i x hx).2.2.below hw⟩⟩
abbrev StG := { x : Nat × Nat // x.1 < 4294967296 ∧ x.2 < 256 }
def stVals (x : StG) : List Value := [.int .u32 (x.1.1 : Nat), .int .u8 (x.1.2 : Nat)]
section
variable {H : Type} {enc : TypeId × Value → H} {w : World}
theorem stamp_trod {n : Nat} {cs : List Value} {x : DataW H × List MemPlace} (hlen : cs.length = 2) (ht : DataW.trod enc Try.prog w 0 (fun _ => true) true n 36 cs = some x) :
    ∃ y : StG, cs = stVals y := by
  match cs, hlen with
  | [c0, c1], _ =>
    obtain ⟨xs, m, _, _, _, hxl, hf⟩ := DataW.trod_struct Try.underlying36 ht
    match xs, hxl with
    | [y0, y1], _ =>
      have g0 := hf 0 _ rfl
      have g1 := hf 1 _ rfl
      change DataW.trod enc Try.prog w 0 (fun _ => true) true m 34 (([c0, c1].drop 0).take (Try.prog.cellsOf 34)) = _ at g0
      change DataW.trod enc Try.prog w 0 (fun _ => true) true m 5 (([c0, c1].drop 1).take (Try.prog.cellsOf 5)) = _ at g1
      rw [cells_u32] at g0
      rw [cells_u8] at g1
      obtain ⟨k0, rfl, l0⟩ := u32_nat' Try.underlying34 g0
      obtain ⟨k1, rfl, l1⟩ := u8_nat' Try.underlying5 g1
      exact ⟨⟨(k0, k1), l0, l1⟩, rfl⟩
theorem stamp_open {v : Value} {d : DataW H} {p : List MemPlace} {r : Reach} {b0 : Nat} (hv : Value.okWide Try.prog w r b0 36 v) (h : DataW.Trod enc Try.prog w 0 (fun _ => true) true 36 v d p) :
    ∃ r m : Nat, v = stampV r m ∧ r < 4294967296 ∧ m < 256 := by
  obtain ⟨cs, rfl, hsz⟩ := okWide_struct Try.underlying36 hv
  obtain ⟨l⟩ := cs
  match l, hsz.trans cells_stamp with
  | [c0, c1], _ =>
    obtain ⟨fuel, hf⟩ := h
    have hf' : DataW.trod enc Try.prog w 0 (fun _ => true) true fuel 36 [c0, c1] = some (d, p) := hf
    obtain ⟨y, hy⟩ := stamp_trod rfl hf'
    simp only [stVals, List.cons.injEq, and_true] at hy
    obtain ⟨rfl, rfl⟩ := hy
    exact ⟨y.1.1, y.1.2, rfl, y.2.1, y.2.2⟩
theorem stamps_open {v : Value} {d : DataW H} {p : List MemPlace} {r : Reach} {b0 : Nat} (hv : Value.okWide Try.prog w r b0 64 v) (h : DataW.Trod enc Try.prog w 0 (fun _ => true) true 64 v d p) (hw : ∀ k ∈ d.weights Try.prog 64, k ≤ reachBytes) :
    ∃ A l n cap, v = .slice A n cap ∧ l.length = n ∧ n ≤ cap ∧ n * 8 ≤ 140737488355328 ∧ ItemsIn stVals 2 w A l :=
  items_open stVals 2 8 ⟨(0, 0), by decide, by decide⟩ Try.underlying64 cells_stamp bytes_stamp (fun _ => ⟨_, rfl⟩) (fun n a cs x hc ht => by
    obtain ⟨_, hlen, hcell⟩ := World.cells?_some hc
    obtain ⟨y, rfl⟩ := stamp_trod hlen ht
    exact ⟨y, fun j u hu => by rw [hcell j (List.getElem?_eq_some_iff.1 hu).1]; exact hu⟩) hv h hw
theorem frame_trod {fuel : Nat} {c0 c1 c2 c3 c4 c5 c6 c7 c8 : Value} {d : DataW H} {p : List MemPlace} (ht : DataW.trod enc Try.prog w 0 (fun _ => true) true fuel 51 [c0, c1, c2, c3, c4, c5, c6, c7, c8] = some (d, p)) (hw : ∀ k ∈ d.weights Try.prog 51, k ≤ reachBytes) :
    ∃ x : FrameC, [c0, c1, c2, c3, c4, c5, c6, c7, c8] = x.cells ∧ FrameIn w x := by
  obtain ⟨xs, n, _, hx, _, hlen, hg⟩ := DataW.trod_struct Try.underlying51 ht
  match xs, hlen with
  | [y0, y1, y2, y3, y4], _ =>
    have g0 := hg 0 _ rfl
    have g1 := hg 1 _ rfl
    have g2 := hg 2 _ rfl
    have g3 := hg 3 _ rfl
    have g4 := hg 4 _ rfl
    change DataW.trod enc Try.prog w 0 (fun _ => true) true n 5 (([c0, c1, c2, c3, c4, c5, c6, c7, c8].drop 0).take (Try.prog.cellsOf 5)) = _ at g0
    change DataW.trod enc Try.prog w 0 (fun _ => true) true n 36 (([c0, c1, c2, c3, c4, c5, c6, c7, c8].drop 1).take (Try.prog.cellsOf 36)) = _ at g1
    change DataW.trod enc Try.prog w 0 (fun _ => true) true n 44 (([c0, c1, c2, c3, c4, c5, c6, c7, c8].drop 3).take (Try.prog.cellsOf 44)) = _ at g2
    change DataW.trod enc Try.prog w 0 (fun _ => true) true n 48 (([c0, c1, c2, c3, c4, c5, c6, c7, c8].drop 4).take (Try.prog.cellsOf 48)) = _ at g3
    change DataW.trod enc Try.prog w 0 (fun _ => true) true n 49 (([c0, c1, c2, c3, c4, c5, c6, c7, c8].drop 8).take (Try.prog.cellsOf 49)) = _ at g4
    rw [cells_u8] at g0
    rw [cells_stamp] at g1
    rw [cells_ms] at g2
    rw [cells_cmd] at g3
    rw [cells_rs] at g4
    obtain ⟨k0, rfl, l0⟩ := u8_nat' Try.underlying5 g0
    obtain ⟨zs, m1, _, _, _, hz1, hf1⟩ := DataW.trod_struct Try.underlying36 g1
    obtain ⟨us, m3, _, _, _, hz3, hf3⟩ := DataW.trod_struct Try.underlying48 g3
    match zs, hz1 with
    | [z0, z1], _ =>
      match us, hz3 with
      | [u0, u1, u2, u3], _ =>
        have s0 := hf1 0 _ rfl
        have s1 := hf1 1 _ rfl
        have t0 := hf3 0 _ rfl
        have t1 := hf3 1 _ rfl
        have t2 := hf3 2 _ rfl
        have t3 := hf3 3 _ rfl
        change DataW.trod enc Try.prog w 0 (fun _ => true) true m1 34 (([c1, c2].drop 0).take (Try.prog.cellsOf 34)) = _ at s0
        change DataW.trod enc Try.prog w 0 (fun _ => true) true m1 5 (([c1, c2].drop 1).take (Try.prog.cellsOf 5)) = _ at s1
        change DataW.trod enc Try.prog w 0 (fun _ => true) true m3 45 (([c4, c5, c6, c7].drop 0).take (Try.prog.cellsOf 45)) = _ at t0
        change DataW.trod enc Try.prog w 0 (fun _ => true) true m3 5 (([c4, c5, c6, c7].drop 1).take (Try.prog.cellsOf 5)) = _ at t1
        change DataW.trod enc Try.prog w 0 (fun _ => true) true m3 46 (([c4, c5, c6, c7].drop 2).take (Try.prog.cellsOf 46)) = _ at t2
        change DataW.trod enc Try.prog w 0 (fun _ => true) true m3 46 (([c4, c5, c6, c7].drop 3).take (Try.prog.cellsOf 46)) = _ at t3
        rw [cells_u32] at s0
        rw [cells_u8] at s1 t1
        rw [cells_ck] at t0
        rw [cells_u16] at t2 t3
        obtain ⟨k1, rfl, l1⟩ := u32_nat' Try.underlying34 s0
        obtain ⟨k2, rfl, l2⟩ := u8_nat' Try.underlying5 s1
        obtain ⟨k4, rfl, l4⟩ := u8_nat' Try.underlying45 t0
        obtain ⟨k5, rfl, l5⟩ := u8_nat' Try.underlying5 t1
        obtain ⟨k6, rfl, l6⟩ := u16_nat' Try.underlying46 t2
        obtain ⟨k7, rfl, l7⟩ := u16_nat' Try.underlying46 t3
        obtain ⟨MA, ms, mn, mcap, rfl, hm1, hm2, hm3, hm4⟩ := msgs_trod (c := c3) g2 (fun k hk => hw k (by
          have hx1 := congrArg Prod.fst hx
          simp only at hx1
          rw [hx1]
          simp only [DataW.weights, Try.underlying51]
          exact DataW.weights_mem_each (j := 2) (t := 44) (d := y2.1) rfl rfl k hk))
        obtain ⟨RA, rs, rn, rcap, rfl, hr1, hr2, hr3, hr4, hr5⟩ := recs_trod (c := c8) g4 (fun k hk => hw k (by
          have hx1 := congrArg Prod.fst hx
          simp only at hx1
          rw [hx1]
          simp only [DataW.weights, Try.underlying51]
          exact DataW.weights_mem_each (j := 4) (t := 49) (d := y4.1) rfl rfl k hk))
        exact ⟨⟨k0, k1, k2, MA, mn, mcap, ms, k4, k5, k6, k7, RA, rn, rcap, rs⟩, rfl, ⟨hm4, hm1, hm2, hm3, hr4, hr1, hr2, hr3, ⟨l0, l1, l2, l4, l5, l6, l7, hr5⟩⟩⟩
theorem came_at {n : Nat} {a : Addr} {cs : List Value} {x : DataW H × List MemPlace} (hc : w.cells? 0 a 10 = some cs) (ht : DataW.trod enc Try.prog w 0 (fun _ => true) true n 54 cs = some x) (hw : ∀ k ∈ x.1.weights Try.prog 54, k ≤ reachBytes) :
    ∃ y : CameC, w.cell? (a.add 0) = some (.int .i64 y.line) ∧ (∀ j u, y.f.cells[j]? = some u → w.cell? (a.add (1 + j)) = some u) ∧ FrameIn w y.f := by
  obtain ⟨_, hlen, hcell⟩ := World.cells?_some hc
  obtain ⟨xs, m, _, hx, _, hxl, hf⟩ := DataW.trod_struct Try.underlying54 ht
  match cs, hlen with
  | [c, c0, c1, c2, c3, c4, c5, c6, c7, c8], _ =>
    match xs, hxl with
    | [y0, y1], _ =>
      have g0 := hf 0 _ rfl
      have g1 := hf 1 _ rfl
      change DataW.trod enc Try.prog w 0 (fun _ => true) true m 3 (([c, c0, c1, c2, c3, c4, c5, c6, c7, c8].drop 0).take (Try.prog.cellsOf 3)) = _ at g0
      change DataW.trod enc Try.prog w 0 (fun _ => true) true m 51 (([c, c0, c1, c2, c3, c4, c5, c6, c7, c8].drop 1).take (Try.prog.cellsOf 51)) = _ at g1
      rw [cells_i64] at g0
      rw [cells_frame] at g1
      obtain ⟨k0, e0, _, _⟩ := DataW.trod_int Try.underlying3 g0
      simp at e0
      have g1' : DataW.trod enc Try.prog w 0 (fun _ => true) true m 51 [c0, c1, c2, c3, c4, c5, c6, c7, c8] = some (y1.1, y1.2) := g1
      obtain ⟨f, e1, hf1⟩ := frame_trod g1' (fun k hk => hw k (by
        rw [hx]
        simp only [DataW.weights, Try.underlying54]
        exact DataW.weights_mem_each (j := 1) (t := 51) (d := y1.1) rfl rfl k hk))
      refine ⟨⟨k0, f⟩, ?_, fun j u hu => ?_, hf1⟩
      · rw [hcell 0 (by omega), ← e0]; rfl
      · have hj : j < 9 := by have := (List.getElem?_eq_some_iff.1 hu).1; rwa [FrameC.cells_length] at this
        rw [hcell (1 + j) (by omega), ← hu]
        simp only
        rw [← e1, Nat.add_comm 1 j]
        rfl
theorem cames_open {v : Value} {d : DataW H} {p : List MemPlace} {r : Reach} {b0 : Nat} (hv : Value.okWide Try.prog w r b0 37 v) (h0 : DataW.Trod enc Try.prog w 0 (fun _ => true) true 37 v d p) (hw : ∀ k ∈ d.weights Try.prog 37, k ≤ reachBytes) :
    ∃ A l n cap, v = .slice A n cap ∧ l.length = n ∧ n ≤ 140737488355328 ∧ CamesIn w A l := by
  obtain ⟨a0, len0, cap0, rfl⟩ := okWide_slice Try.underlying37 hv
  obtain ⟨fuel, hf⟩ := h0
  have h : DataW.trod enc Try.prog w 0 (fun _ => true) true fuel 37 [.slice a0 len0 cap0] = some (d, p) := hf
  rcases open_slice Try.underlying37 h with ⟨hcs, hx⟩ | ⟨a, len, cap, m, n, D, Pl, hcs, hb, hl, hm, hmm, hx, hi⟩
  · injection hcs with hcs
    exact ⟨none, [], 0, 0, hcs, rfl, by omega, fun h => absurd h (by simp)⟩
  · injection hcs with hcs
    simp only [if_true] at hmm
    obtain rfl : cap = m := hmm.symm
    rw [cells_came] at hi
    have hd : ∃ r, d = .slice ((List.range len).map D) r := ⟨_, by have := congrArg Prod.fst hx; exact this⟩
    obtain ⟨r, hd⟩ := hd
    have hlen : len ≤ 140737488355328 := by
      have := hw (((List.range len).map D).length * 80 + r.length * 80) (by
        rw [hd]
        simp only [DataW.weights, Try.underlying37, List.mem_cons]
        refine .inl ?_
        rw [bytes_came]
        first | rfl | (simp; done) | (simp; omega))
      simp [reachBytes] at this
      omega
    have hat : ∀ i, i < len → ∃ y : CameC, w.cell? ((a.add (i * 10)).add 0) = some (.int .i64 y.line) ∧ (∀ j u, y.f.cells[j]? = some u → w.cell? ((a.add (i * 10)).add (1 + j)) = some u) ∧ FrameIn w y.f := fun i hil => by
      obtain ⟨cs', h1, h2⟩ := hi i (by omega)
      refine came_at h1 h2 (fun k hk => hw k ?_)
      rw [hd]
      simp only [DataW.weights, Try.underlying37, List.mem_cons, List.mem_append]
      exact .inr (.inl (weights_mem_all (List.mem_map.2 ⟨i, List.mem_range.2 hil, rfl⟩) k hk))
    obtain ⟨l, hll, hl2⟩ := list_of (⟨0, zeroC⟩ : CameC) len _ hat
    refine ⟨some a, l, len, cap, hcs, hll, hlen, fun hn => ?_⟩
    obtain ⟨b, off, spot⟩ := a
    have hpos : 0 < len := by omega
    obtain ⟨y0, c0, _⟩ := hat 0 hpos
    have hspot : spot = none := by simpa [Addr.add] using World.cell?_spot c0
    subst hspot
    refine ⟨b, off, rfl, by simpa [Addr.add] using World.block_lt_of_cell? w _ c0, fun i y hy => ?_⟩
    obtain ⟨h1, h2, h3⟩ := hl2 i y hy
    simp only [addr_addB, Nat.add_zero] at h1 h2
    exact ⟨h1, fun j u hu => by rw [Nat.add_assoc]; exact (by simpa [Nat.add_assoc] using h2 j u hu), h3⟩
end
end Go.Proofs.Ytkahecdnmeofkaa
