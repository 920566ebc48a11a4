/- What an argument of bytes is in memory. Conditions: those of the reading of the argument. -/
import Derived.Test.YthihdbcclocbkaaLawKit
import Derived.Test.YthihdbcclocbkaaByt
import Derived.ChangeSlices
import Derived.OpenShut
import Derived.SizedLaws
namespace Go.Proofs.Ythihdbcclocbkaa
open Go.ChangeShapes Go.WideShapes Go.RowKit Go.Deep
set_option maxRecDepth 100000

theorem cells_u8 : Try.prog.cellsOf 5 = 1 := by kernel_rfl

/-- An argument of bytes: how it reads. -/
def BytesArg (W : World) (v : Value) : Prop := ∃ A l n cap, v = .slice A n cap ∧ l.length = n ∧ n ≤ cap ∧ cap ≤ 9223372036854775807 ∧ Bytes W W.heap.size A l

theorem BytesArg.below {W W' : World} {v : Value} (h : BytesArg W v) (hb : Below W.heap.size W W') : BytesArg W' v := by
  obtain ⟨A, l, n, cap, h1, h2, h3, h4, h5⟩ := h
  exact ⟨A, l, n, cap, h1, h2, h3, h4, (h5.below hb (Nat.le_refl _)).more hb.size⟩

theorem bytes_open {H : Type} {enc : TypeId × Value → H} {w : World} {v : Value} {d : DataW H} {p : List MemPlace} {r : Reach} {b0 : Nat}
    (hv : Value.okWide Try.prog w r b0 68 v) (h : DataW.Trod enc Try.prog w 0 (fun _ => true) true 68 v d p) : BytesArg w v := by
  obtain ⟨a0, len, cap, rfl⟩ := okWide_slice Try.underlying68 hv
  obtain ⟨fuel, hf⟩ := h
  rcases open_ints Try.underlying68 Try.underlying5 cells_u8 hf with ⟨hcs, hx⟩ | ⟨a, len', cap', zs, hcs, hb, hl, hm, hz, hx, hc, hw⟩
  · simp [Value.cells] at hcs
    obtain ⟨rfl, rfl, rfl⟩ := hcs
    exact ⟨none, [], 0, 0, rfl, rfl, by omega, by omega, Bytes.none_⟩
  · simp [Value.cells] at hcs
    obtain ⟨rfl, rfl, rfl⟩ := hcs
    simp only [if_true] at hz
    refine ⟨some a, (zs.take len).map (fun z => UInt8.ofNat z.toNat), len, cap, rfl, by simp; omega, hl, by unfold maxLen at hm; omega, fun hn => ?_⟩
    have hn' : 0 < len := by simpa [hz, Nat.min_eq_left hl] using hn
    obtain ⟨b, off, spot⟩ := a
    have h0 := hc 0 (by omega)
    have hspot : spot = none := by simpa [Addr.add] using World.cell?_spot h0
    subst hspot
    refine ⟨b, off, rfl, by simpa [Addr.add] using World.block_lt_of_cell? w _ h0, fun i c hi => ?_⟩
    have hil : i < len := by
      have := (List.getElem?_eq_some_iff.1 hi).1
      simp at this
      omega
    have hci := hc i (by omega)
    rw [addr_addB] at hci
    rw [hci]
    rw [List.getElem?_map, List.getElem?_take_of_lt hil, List.getElem?_eq_getElem (by omega)] at hi
    simp at hi
    have hzi : zs.getD i 0 = zs[i] := by simp [List.getD, List.getElem?_eq_getElem (show i < zs.length by omega)]
    have hwf := hw zs[i] (List.getElem_mem _)
    have hr : 0 ≤ zs[i] ∧ zs[i] < 256 := by
      have := hwf
      simp [Lit.wf, IntKind.min, IntKind.max, IntKind.signed, IntKind.bits] at this
      omega
    rw [hzi, ← hi]
    congr 2
    simp
    omega

theorem bytes_u8 : Try.prog.bytesOf 5 = 1 := by kernel_rfl

/-- A slice of bytes anywhere in what is read: how it reads, and the form's own reach. -/
theorem bytes_trod {H : Type} {enc : TypeId × Value → H} {w : World} {fuel : Nat} {v : Value} {x : DataW H × List MemPlace}
    (h : DataW.trod enc Try.prog w 0 (fun _ => true) true fuel 68 [v] = some x) (hw : ∀ k ∈ x.1.weights Try.prog 68, k ≤ reachBytes) :
    ∃ A l n cap, v = .slice A n cap ∧ l.length = n ∧ n ≤ cap ∧ cap ≤ 140737488351232 ∧ Bytes w w.heap.size A l := by
  rcases open_ints Try.underlying68 Try.underlying5 cells_u8 h with ⟨hcs, hx⟩ | ⟨a, len, cap, zs, hcs, hb, hl, hm, hz, hx, hc, hwf⟩
  · injection hcs with hcs
    exact ⟨none, [], 0, 0, hcs, rfl, by omega, by omega, Bytes.none_⟩
  · injection hcs with hcs
    simp only [if_true] at hz
    have hcap : cap ≤ 140737488351232 := by
      have := hw ((zs.take len).length * 1 + (zs.drop len).length * 1) (by
        rw [hx]
        simp only [DataW.weights, Try.underlying68, List.mem_cons]
        refine .inl ?_
        rw [bytes_u8]
        simp [lits])
      simp [reachBytes] at this
      omega
    refine ⟨some a, (zs.take len).map (fun z => UInt8.ofNat z.toNat), len, cap, hcs, by simp; omega, hl, hcap, fun hn => ?_⟩
    have hn' : 0 < len := by simpa [hz, Nat.min_eq_left hl] using hn
    obtain ⟨b, off, spot⟩ := a
    have h0 := hc 0 (by omega)
    have hspot : spot = none := by simpa [Addr.add] using World.cell?_spot h0
    subst hspot
    refine ⟨b, off, rfl, by simpa [Addr.add] using World.block_lt_of_cell? w _ h0, fun i c hi => ?_⟩
    have hil : i < len := by
      have := (List.getElem?_eq_some_iff.1 hi).1
      simp at this
      omega
    have hci := hc i (by omega)
    rw [addr_addB] at hci
    rw [hci]
    rw [List.getElem?_map, List.getElem?_take_of_lt hil, List.getElem?_eq_getElem (by omega)] at hi
    simp at hi
    have hzi : zs.getD i 0 = zs[i] := by simp [List.getD, List.getElem?_eq_getElem (show i < zs.length by omega)]
    have hwf := hwf zs[i] (List.getElem_mem _)
    have hr : 0 ≤ zs[i] ∧ zs[i] < 256 := by
      have := hwf
      simp [Lit.wf, IntKind.min, IntKind.max, IntKind.signed, IntKind.bits] at this
      omega
    rw [hzi, ← hi]
    congr 2
    simp
    omega

theorem weights_mem_all {H : Type} {P : Program} {e : TypeId} : ∀ {ds : List (DataW H)} {d : DataW H}, d ∈ ds → ∀ n ∈ d.weights P e, n ∈ DataW.weightsAll P e ds
  | x :: ds, d, h, n, hn => by
    simp only [DataW.weightsAll, List.mem_append]
    rcases List.mem_cons.1 h with rfl | h
    · exact .inl hn
    · exact .inr (weights_mem_all h n hn)
  | [], _, h, _, _ => absurd h (by simp)
end Go.Proofs.Ythihdbcclocbkaa
