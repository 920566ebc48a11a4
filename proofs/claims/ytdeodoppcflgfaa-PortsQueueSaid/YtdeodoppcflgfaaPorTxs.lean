/- An argument [][]byte opened. Conditions: what each states. -/
import Derived.Test.YtdeodoppcflgfaaPorArg
namespace Go.Proofs.Ytdeodoppcflgfaa
open Go.ChangeShapes Go.WideShapes Go.RowKit Go.Deep
set_option maxRecDepth 100000

structure TxC where
  A : Option Addr
  m : Nat
  cap : Nat
  data : List UInt8
/-- Texts in memory. -/
def TxsIn (W : World) (A : Option Addr) (l : List TxC) : Prop :=
  0 < l.length → ∃ b off, A = some ⟨b, off, none⟩ ∧ b < W.heap.size ∧ ∀ i x, l[i]? = some x → W.cell? ⟨b, off + i, none⟩ = some (.slice x.A x.m x.cap) ∧ x.data.length = x.m ∧ x.m ≤ 140737488355328 ∧ Bytes W W.heap.size x.A x.data
theorem TxsIn.below {W W' : World} {A : Option Addr} {l : List TxC} (h : TxsIn W A l) (hw : Below W.heap.size W W') : TxsIn W' A l := fun hl => by
  obtain ⟨b, off, e, hb, hi⟩ := h hl
  refine ⟨b, off, e, Nat.lt_of_lt_of_le hb hw.size, fun i x hx => ?_⟩
  obtain ⟨h1, h2, h4, h3⟩ := hi i x hx
  exact ⟨(hw.cell (p := ⟨b, off + i, none⟩) hb).trans h1, h2, h4, (h3.below hw (Nat.le_refl _)).more hw.size⟩
theorem bytes_bs : Try.prog.bytesOf 44 = 24 := by kernel_rfl
section
variable {H : Type} {enc : TypeId × Value → H} {w : World}
theorem texts_trod {fuel : Nat} {c : Value} {x : DataW H × List MemPlace} (h : DataW.trod enc Try.prog w 0 (fun _ => true) true fuel 59 [c] = some x) (hw : ∀ k ∈ x.1.weights Try.prog 59, k ≤ reachBytes) :
    ∃ A l n cap, c = .slice A n cap ∧ l.length = n ∧ n ≤ cap ∧ n ≤ 17592186044416 ∧ TxsIn w A l := by
  rcases open_slice Try.underlying59 h with ⟨hcs, hx⟩ | ⟨a, len, cap, m, n, D, Pl, hcs, hb, hl, hm, hmm, hx, hi⟩
  · injection hcs with hcs
    exact ⟨none, [], 0, 0, hcs, rfl, Nat.le_refl _, by omega, fun h => absurd h (by simp)⟩
  · injection hcs with hcs
    simp only [if_true] at hmm
    obtain rfl : cap = m := hmm.symm
    rw [cells_bs] at hi
    have hd : ∃ r, x.1 = .slice ((List.range len).map D) r := ⟨_, by rw [hx]⟩
    obtain ⟨r, hd⟩ := hd
    have hlen : len ≤ 17592186044416 := by
      have := hw (((List.range len).map D).length * 24 + r.length * 24) (by
        rw [hd]
        simp only [DataW.weights, Try.underlying59, List.mem_cons]
        refine .inl ?_
        rw [bytes_bs]
        first | rfl | (simp; done) | (simp; omega))
      simp [reachBytes] at this
      omega
    have hat : ∀ i, i < len → ∃ y : TxC, w.cell? ((a.add (i * 1)).add 0) = some (.slice y.A y.m y.cap) ∧ y.data.length = y.m ∧ y.m ≤ 140737488355328 ∧ Bytes w w.heap.size y.A y.data := fun i hil => by
      obtain ⟨cs', h1, h2⟩ := hi i (by omega)
      obtain ⟨c0, rfl, hcell⟩ : ∃ c0, cs' = [c0] ∧ w.cell? ((a.add (i * 1)).add 0) = some c0 := by
        obtain ⟨_, hlen1, hcell⟩ := World.cells?_some h1
        match cs', hlen1 with
        | [c0], _ => exact ⟨c0, rfl, by rw [hcell 0 (by omega)]; rfl⟩
      obtain ⟨A', l', n', cap', rfl, e1, e4, e3, e2⟩ := bytes_trod h2 (fun k hk => hw k (by
        rw [hd]
        simp only [DataW.weights, Try.underlying59, List.mem_cons, List.mem_append]
        exact .inr (.inl (weights_mem_all (List.mem_map.2 ⟨i, List.mem_range.2 hil, rfl⟩) k hk))))
      exact ⟨⟨A', n', cap', l'⟩, hcell, e1, (by omega : n' ≤ 140737488355328), e2⟩
    obtain ⟨l, hll, hl2⟩ := list_of4 (⟨none, 0, 0, []⟩ : TxC) len _ hat
    refine ⟨some a, l, len, cap, hcs, hll, hl, hlen, fun hn => ?_⟩
    obtain ⟨b, off, spot⟩ := a
    have hpos : 0 < len := by omega
    obtain ⟨y0, c0, _⟩ := hat 0 hpos
    have hspot : spot = none := by simpa [Addr.add] using World.cell?_spot c0
    subst hspot
    refine ⟨b, off, rfl, by simpa [Addr.add] using World.block_lt_of_cell? w _ c0, fun i y hy => ?_⟩
    obtain ⟨h1, h2, h4, h3⟩ := hl2 i y hy
    simp only [addr_addB, Nat.add_zero, Nat.mul_one] at h1
    exact ⟨h1, h2, h4, h3⟩
theorem texts_open {v : Value} {d : DataW H} {p : List MemPlace} {r : Reach} {b0 : Nat}
    (hv : Value.okWide Try.prog w r b0 59 v) (h0 : DataW.Trod enc Try.prog w 0 (fun _ => true) true 59 v d p) (hw : ∀ k ∈ d.weights Try.prog 59, k ≤ reachBytes) :
    ∃ A l n cap, v = .slice A n cap ∧ l.length = n ∧ n ≤ cap ∧ n ≤ 17592186044416 ∧ TxsIn w A l := by
  obtain ⟨a0, len0, cap0, rfl⟩ := okWide_slice Try.underlying59 hv
  obtain ⟨fuel, hf⟩ := h0
  exact texts_trod (x := (d, p)) hf hw
end
end Go.Proofs.Ytdeodoppcflgfaa
