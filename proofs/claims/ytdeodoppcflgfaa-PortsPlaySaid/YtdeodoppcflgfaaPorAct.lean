/- An argument of chapter 13's acts opened. Conditions: as each states. -/
import Derived.Test.YtdeodoppcflgfaaPorArg
namespace Go.Proofs.Ytdeodoppcflgfaa
open Go.ChangeShapes Go.WideShapes Go.RowKit Go.Deep
set_option maxRecDepth 100000

theorem cells_act13 : Try.prog.cellsOf 46 = 6 := by kernel_rfl
theorem bytes_act13 : Try.prog.bytesOf 46 = 80 := by kernel_rfl
theorem cells_msgs13 : Try.prog.cellsOf 39 = 1 := by kernel_rfl
/-- An act as it stands in memory. -/
structure ActP where
  kind : Int
  part : Int
  port : Int
  src_ : Int
  A : Option Addr
  m : Nat
  cap : Nat
  data : List UInt8
  L : Option Addr
  ln : Nat
  lcap : Nat
  ms : List MsgC
structure ActPOk (W : World) (x : ActP) : Prop where
  len : x.data.length = x.m
  most : x.m ≤ 140737488355328
  bytes : Bytes W W.heap.size x.A x.data
  mlen : x.ms.length = x.ln
  mcap : x.ln ≤ x.lcap
  mmost : x.ln ≤ 4398046511104
  msgs : MsgsIn W x.L x.ms
  port : x.port ≤ 9223372036854775807
structure ActPAt (W : World) (b o : Nat) (x : ActP) : Prop where
  c0 : W.cell? ⟨b, o, none⟩ = some (.int .i64 x.kind)
  c1 : W.cell? ⟨b, o + 1, none⟩ = some (.int .i64 x.part)
  c2 : W.cell? ⟨b, o + 2, none⟩ = some (.int .i64 x.port)
  c3 : W.cell? ⟨b, o + 3, none⟩ = some (.int .i64 x.src_)
  c4 : W.cell? ⟨b, o + 4, none⟩ = some (.slice x.A x.m x.cap)
  c5 : W.cell? ⟨b, o + 5, none⟩ = some (.slice x.L x.ln x.lcap)
  ok : ActPOk W x
theorem ActPOk.below {W W' : World} {x : ActP} (h : ActPOk W x) (hw : Below W.heap.size W W') : ActPOk W' x :=
  ⟨h.len, h.most, (h.bytes.below hw (Nat.le_refl _)).more hw.size, h.mlen, h.mcap, h.mmost, h.msgs.below hw, h.port⟩
theorem ActPAt.below {W W' : World} {b o : Nat} {x : ActP} (h : ActPAt W b o x) (hb : b < W.heap.size) (hw : Below W.heap.size W W') : ActPAt W' b o x :=
  ⟨(hw.cell (by exact hb)).trans h.c0, (hw.cell (by exact hb)).trans h.c1, (hw.cell (by exact hb)).trans h.c2, (hw.cell (by exact hb)).trans h.c3, (hw.cell (by exact hb)).trans h.c4, (hw.cell (by exact hb)).trans h.c5, h.ok.below hw⟩
def ActsP (W : World) (A : Option Addr) (l : List ActP) : Prop :=
  0 < l.length → ∃ b off, A = some ⟨b, off, none⟩ ∧ b < W.heap.size ∧ ∀ i x, l[i]? = some x → ActPAt W b (off + i * 6) x
theorem ActsP.below {W W' : World} {A : Option Addr} {l : List ActP} (h : ActsP W A l) (hw : Below W.heap.size W W') : ActsP W' A l := fun hl => by
  obtain ⟨b, off, e, hb, hi⟩ := h hl
  exact ⟨b, off, e, Nat.lt_of_lt_of_le hb hw.size, fun i x hx => (hi i x hx).below hb hw⟩
section
variable {H : Type} {enc : TypeId × Value → H} {w : World}
theorem actp_at {n : Nat} {a : Addr} {cs : List Value} {x : DataW H × List MemPlace}
    (hc : w.cells? 0 a 6 = some cs) (ht : DataW.trod enc Try.prog w 0 (fun _ => true) true n 46 cs = some x) (hw : ∀ k ∈ x.1.weights Try.prog 46, k ≤ reachBytes) :
    ∃ y : ActP, w.cell? (a.add 0) = some (.int .i64 y.kind) ∧ w.cell? (a.add 1) = some (.int .i64 y.part) ∧ w.cell? (a.add 2) = some (.int .i64 y.port) ∧ w.cell? (a.add 3) = some (.int .i64 y.src_) ∧ w.cell? (a.add 4) = some (.slice y.A y.m y.cap) ∧ w.cell? (a.add 5) = some (.slice y.L y.ln y.lcap) ∧ ActPOk w y := by
  obtain ⟨_, hlen, hcell⟩ := World.cells?_some hc
  obtain ⟨xs, m, _, hx, _, hxl, hf⟩ := DataW.trod_struct Try.underlying46 ht
  match cs, hlen with
  | [c0, c1, c2, c3, c4, c5], _ =>
    match xs, hxl with
    | [y0, y1, y2, y3, y4, y5], _ =>
      have g0 := hf 0 _ rfl
      have g1 := hf 1 _ rfl
      have g2 := hf 2 _ rfl
      have g3 := hf 3 _ rfl
      have g4 := hf 4 _ rfl
      have g5 := hf 5 _ rfl
      change DataW.trod enc Try.prog w 0 (fun _ => true) true m 3 (([c0, c1, c2, c3, c4, c5].drop 0).take (Try.prog.cellsOf 3)) = _ at g0
      change DataW.trod enc Try.prog w 0 (fun _ => true) true m 3 (([c0, c1, c2, c3, c4, c5].drop 1).take (Try.prog.cellsOf 3)) = _ at g1
      change DataW.trod enc Try.prog w 0 (fun _ => true) true m 3 (([c0, c1, c2, c3, c4, c5].drop 2).take (Try.prog.cellsOf 3)) = _ at g2
      change DataW.trod enc Try.prog w 0 (fun _ => true) true m 3 (([c0, c1, c2, c3, c4, c5].drop 3).take (Try.prog.cellsOf 3)) = _ at g3
      change DataW.trod enc Try.prog w 0 (fun _ => true) true m 44 (([c0, c1, c2, c3, c4, c5].drop 4).take (Try.prog.cellsOf 44)) = _ at g4
      change DataW.trod enc Try.prog w 0 (fun _ => true) true m 39 (([c0, c1, c2, c3, c4, c5].drop 5).take (Try.prog.cellsOf 39)) = _ at g5
      rw [cells_i644] at g0 g1 g2 g3
      rw [cells_bs] at g4
      rw [cells_msgs13] at g5
      obtain ⟨k0, e0, _, _⟩ := DataW.trod_int Try.underlying3 g0
      obtain ⟨k1, e1, _, _⟩ := DataW.trod_int Try.underlying3 g1
      obtain ⟨k2, e2, _, hw2⟩ := DataW.trod_int Try.underlying3 g2
      obtain ⟨k3, e3, _, _⟩ := DataW.trod_int Try.underlying3 g3
      have g4' : DataW.trod enc Try.prog w 0 (fun _ => true) true m 44 [c4] = some y4 := g4
      have g5' : DataW.trod enc Try.prog w 0 (fun _ => true) true m 39 [c5] = some y5 := g5
      obtain ⟨A, l, q, cap, e4, h1, h2, h3, h4⟩ := bytes_trod g4' (fun k hk => hw k (by
        rw [hx]
        simp only [DataW.weights, Try.underlying46]
        exact DataW.weights_mem_each (j := 4) (t := 44) (d := y4.1) rfl rfl k hk))
      obtain ⟨MA, ms, mn, mcap, e5, hm1, hm2, hm3, hm4⟩ := msgs_trod g5' (fun k hk => hw k (by
        rw [hx]
        simp only [DataW.weights, Try.underlying46]
        exact DataW.weights_mem_each (j := 5) (t := 39) (d := y5.1) rfl rfl k hk))
      simp at e0 e1 e2 e3
      have b2 := bounds_i64 hw2
      refine ⟨⟨k0, k1, k2, k3, A, q, cap, l, MA, mn, mcap, ms⟩, ?_, ?_, ?_, ?_, ?_, ?_, ⟨h1, by simp only; omega, h4, hm1, hm2, hm3, hm4, b2.2⟩⟩
      · rw [hcell 0 (by omega), ← e0]; rfl
      · rw [hcell 1 (by omega), ← e1]; rfl
      · rw [hcell 2 (by omega), ← e2]; rfl
      · rw [hcell 3 (by omega), ← e3]; rfl
      · rw [hcell 4 (by omega), ← e4]; rfl
      · rw [hcell 5 (by omega), ← e5]; rfl
theorem acts13_open {v : Value} {d : DataW H} {p : List MemPlace} {r : Reach} {b0 : Nat}
    (hv : Value.okWide Try.prog w r b0 27 v) (h0 : DataW.Trod enc Try.prog w 0 (fun _ => true) true 27 v d p) (hw : ∀ k ∈ d.weights Try.prog 27, k ≤ reachBytes) :
    ∃ A l n cap, v = .slice A n cap ∧ l.length = n ∧ n ≤ 140737488355328 ∧ ActsP w A l := by
  obtain ⟨a0, len0, cap0, rfl⟩ := okWide_slice Try.underlying27 hv
  obtain ⟨fuel, hf⟩ := h0
  have h : DataW.trod enc Try.prog w 0 (fun _ => true) true fuel 27 [.slice a0 len0 cap0] = some (d, p) := hf
  rcases open_slice Try.underlying27 h with ⟨hcs, hx⟩ | ⟨a, len, cap, m, n, D, Pl, hcs, hb, hl, hm, hmm, hx, hi⟩
  · injection hcs with hcs
    exact ⟨none, [], 0, 0, hcs, rfl, by omega, fun h => absurd h (by simp)⟩
  · injection hcs with hcs
    simp only [if_true] at hmm
    obtain rfl : cap = m := hmm.symm
    rw [cells_act13] at hi
    have hd : ∃ r, d = .slice ((List.range len).map D) r := ⟨_, by have := congrArg Prod.fst hx; exact this⟩
    obtain ⟨r, hd⟩ := hd
    have hlen : len ≤ 140737488355328 := by
      have := hw (((List.range len).map D).length * 80 + r.length * 80) (by
        rw [hd]
        simp only [DataW.weights, Try.underlying27, List.mem_cons]
        refine .inl ?_
        rw [bytes_act13]
        first | rfl | (simp; done) | (simp; omega))
      simp [reachBytes] at this
      omega
    have hat : ∀ i, i < len → ∃ y : ActP, w.cell? ((a.add (i * 6)).add 0) = some (.int .i64 y.kind) ∧ w.cell? ((a.add (i * 6)).add 1) = some (.int .i64 y.part) ∧ w.cell? ((a.add (i * 6)).add 2) = some (.int .i64 y.port) ∧ w.cell? ((a.add (i * 6)).add 3) = some (.int .i64 y.src_) ∧ w.cell? ((a.add (i * 6)).add 4) = some (.slice y.A y.m y.cap) ∧ w.cell? ((a.add (i * 6)).add 5) = some (.slice y.L y.ln y.lcap) ∧ ActPOk w y := fun i hil => by
      obtain ⟨cs', h1, h2⟩ := hi i (by omega)
      refine actp_at h1 h2 (fun k hk => hw k ?_)
      rw [hd]
      simp only [DataW.weights, Try.underlying27, List.mem_cons, List.mem_append]
      exact .inr (.inl (weights_mem_all (List.mem_map.2 ⟨i, List.mem_range.2 hil, rfl⟩) k hk))
    obtain ⟨l, hll, hl2⟩ := list_of4 (⟨0, 0, 0, 0, none, 0, 0, [], none, 0, 0, []⟩ : ActP) len _ hat
    refine ⟨some a, l, len, cap, hcs, hll, hlen, fun hn => ?_⟩
    obtain ⟨b, off, spot⟩ := a
    have hpos : 0 < len := by omega
    obtain ⟨y0, c0, _⟩ := hat 0 hpos
    have hspot : spot = none := by simpa [Addr.add] using World.cell?_spot c0
    subst hspot
    refine ⟨b, off, rfl, by simpa [Addr.add] using World.block_lt_of_cell? w _ c0, fun i y hy => ?_⟩
    obtain ⟨h1, h2, h3, h4, h5, h6, h7⟩ := hl2 i y hy
    simp only [addr_addB, Nat.add_zero] at h1 h2 h3 h4 h5 h6
    exact ⟨h1, h2, h3, h4, h5, h6, h7⟩
end
end Go.Proofs.Ytdeodoppcflgfaa
