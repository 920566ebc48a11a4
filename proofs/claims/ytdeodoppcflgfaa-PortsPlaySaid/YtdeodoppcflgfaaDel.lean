/- Contract of slices.Delete of the first element of a slice of slices of bytes. Conditions: where it lies. -/
import Derived.Test.YtdeodoppcflgfaaMem
import Derived.Test.YtdeodoppcflgfaaWirM
import Derived.Lib.SliceRun
import Derived.Deep.RegionLaw
namespace Go.Proofs.Ytdeodoppcflgfaa
open Go.RowKit
set_option maxRecDepth 100000

theorem infoBs9 : (Try.prog.info? 44).map (fun i => (i.zero, i.size, i.bytes)) = some (some (.slice none 0 0), 1, 24) := by kernel_rfl
/-- The first is gone, the others moved down. -/
def DelP (B g m cap : Nat) (es : List Value) (w : World) (e : Ending) (w' : World) : Prop :=
  e = .returned (.slice (some ⟨g, 0, none⟩) m cap) ∧ w'.ownsRow B 44 1 (.slice (some ⟨g, 0, none⟩) m cap) m (es.drop 1) ∧ Apart (fun k => k = g) w w'

set_option maxHeartbeats 1000000 in
theorem del_any (w : World) (B g m cap : Nat) (es : List Value) (ho : w.ownsRow B 44 1 (.slice (some ⟨g, 0, none⟩) (m + 1) cap) (m + 1) es) (h1 : ∀ u ∈ es, u.oneCell' = true) :
    Calls Try.prog 60 #[.slice (some ⟨g, 0, none⟩) ((m + 1 : Nat)) cap, .int .i64 0, .int .i64 1] w (DelP B g m cap es w) := by
  obtain ⟨hlen, hrow⟩ := ho
  rw [Nat.mul_one] at hlen
  rcases hrow with ⟨h, -⟩ | ⟨g', cap', cur, h, hB, hg, hnc, hmax, hcap, htk⟩
  · cases h
  cases h
  rw [Nat.mul_one] at hcap htk
  have hcur : ∀ j, j < m + 1 → cur[j]? = es[j]? := fun j hj => by
    rw [← htk, List.getElem?_take, if_pos hj]; simp
  have hg0 : w.drew.heap[g]? = some (.cells cur 44 (0, 0)) := hg
  obtain ⟨cur1, e1, e2, e3, e4⟩ := setCells_row (es.drop 1) 0 w.drew cur hg0 (by rw [List.length_drop]; omega)
  obtain ⟨W1, hW1⟩ : ∃ W1, W1 = w.drew.setCells g 0 (es.drop 1) := ⟨_, rfl⟩
  rw [← hW1] at e1
  obtain ⟨cur2, k1, k2, k3, k4⟩ := setCells_row [.slice none 0 0] m W1 cur1 e1 (by simp; omega)
  have hcl : ∀ ty, (Builtin.clear_ #[59] ty #[.slice (some ⟨g, m, none⟩) 1 (cap - m)]).run Try.prog W1 = .ok (.tuple #[]) (W1.setCells g m [.slice none 0 0]) := fun ty =>
    Lib.run_clear_slice W1 59 44 ty (.slice none 0 0) Try.underlying59 (fun w => by kernel_rfl) rfl rfl g m 1 (cap - m) (by omega)
      (fun j hj => by rw [cell_of_row W1 g _ cur1 _ (0, 0) e1, Array.getElem?_eq_getElem (by omega)]; rfl) (fun j hj => frozen_of_row W1 g _ cur1 _ e1)
  have HF : Hid (DelP B g m cap es w (.returned (.slice (some ⟨g, 0, none⟩) m cap)) (W1.setCells g m [.slice none 0 0])) := Lib.hid (by
    refine ⟨rfl, ⟨by rw [List.length_drop, hlen]; omega, .inr ⟨g, cap, cur2, rfl, hB, k1, by omega, hmax, by omega, ?_⟩⟩, ?_⟩
    · apply List.ext_getElem?
      intro j
      rw [Nat.mul_one, List.getElem?_take]
      by_cases hj : j < m
      · rw [if_pos hj]
        have hjd : j < (es.drop 1).length := by rw [List.length_drop]; omega
        have q1 := k4 j (.inl hj)
        have q2 := e3 j _ (List.getElem?_eq_getElem hjd)
        rw [Nat.zero_add] at q2
        rw [List.getElem?_eq_getElem hjd, ← q2, ← q1]
        simp
      · rw [if_neg hj, List.getElem?_eq_none (by rw [List.length_drop]; omega)]
    · have a0 : Apart (fun k => k = g) w w.drew := (Apart.refl _ w).drew
      have a1 := setCells_apart g (es.drop 1) 0 w.drew
      rw [← hW1] at a1
      exact (a0.trans a1 (fun _ h => .inl h)).trans (setCells_apart g _ m W1) (fun _ h => .inl h))
  obtain ⟨i0, hi0, hi1⟩ : ∃ i, Try.prog.info? 44 = some i ∧ i.size = 1 := by
    obtain ⟨i, h1, -, h2, -⟩ := info_parts infoBs9
    exact ⟨i, h1, h2⟩
  have hA : ∃ ad : Addr, (if cap = 1 then (⟨g, 0, none⟩ : Addr) else ⟨g, 1, none⟩) = ad ∧ Hid (∀ j u, (es.drop 1)[j]? = some u → w.drew.cell? (ad.add j) = some u) := by
    by_cases hc1 : cap = 1
    · refine ⟨_, if_pos hc1, Lib.hid fun j u hj => ?_⟩
      have := (List.getElem?_eq_some_iff.1 hj).1
      rw [List.length_drop] at this
      omega
    · refine ⟨_, if_neg hc1, Lib.hid fun j u hj => ?_⟩
      have hj2 := (List.getElem?_eq_some_iff.1 hj).1
      rw [List.length_drop] at hj2
      rw [List.getElem?_drop] at hj
      rw [addr_addB]
      exact cell_at hg0 _ (by rw [hcur (1 + j) (by omega)]; exact hj)
  obtain ⟨ad, had, hcells⟩ := hA
  have hfr := fun W => run_slice_front (P := Try.prog) W 59 44 1 Try.underlying59 (fun w => by kernel_rfl) (some ⟨g, 0, none⟩) (m + 1) cap 0 0 rfl (Nat.zero_le _)
  have hto := fun W => run_slice_froms (P := Try.prog) W 59 44 1 Try.underlying59 (fun w => by kernel_rfl) g 0 (m + 1) cap 1 1 rfl (by omega)
  have hnews : Hid ((es.drop 1).length = m * 1) := Lib.hid (by rw [List.length_drop, hlen]; omega)
  have hone : Hid (∀ u ∈ es.drop 1, u.oneCell' = true) := Lib.hid fun u hu => h1 u (List.mem_of_mem_drop hu)
  have hsp : Hid (∀ j, j < (es.drop 1).length → (w.drew.cell? ⟨g, 0 + 0 * 1 + j, none⟩).isSome = true ∧ w.drew.frozen? ⟨g, 0 + 0 * 1 + j, none⟩ = false) := Lib.hid fun j hj => by
    rw [List.length_drop] at hj
    refine ⟨?_, frozen_of_row w.drew g _ cur _ hg0⟩
    rw [cell_of_row w.drew g _ cur _ (0, 0) hg0, Array.getElem?_eq_getElem (by omega)]; rfl
  have HW := Lib.hid hW1
  clear hW1 k1 k2 k3 k4 e1 e2 e3 e4 hcur hg0 hg htk hcap hlen h1 hB
  go_enter Try.func60, Try.ntmps60
  go_wp2_with fail
  refine wp_region_held_drew (S := fun _ => True) (by kernel_rfl) trivial (fun _ => ?_)
  refine tkH 0 (by simp only [tkA]; rfl) (by kernel_rfl) (by exact fun _ _ _ h => h) (by rfl) (by intro W hW; go_simp <;> with_reducible rfl) trivial ?_
  try simp only [Act.put, tkT, tk0, tkS]
  refine tkH 1 (by simp only [tkA, tkG]; rfl) (by kernel_rfl) (by exact fun _ _ _ h => h) (by rfl) (by intro W hW; go_simp <;> with_reducible rfl) trivial ?_
  try simp only [Act.put, tkT, tk0, tkS]
  refine tkH 2 (by simp only [tkA, tkG]; rfl) (by kernel_rfl) (by exact fun _ _ _ h => h) (by rfl) (by intro W hW; go_simp <;> with_reducible rfl) trivial ?_
  try simp only [Act.put, tkT, tk0, tkS]
  refine tkH 3 (by simp only [tkA, tkG]; rfl) (by kernel_rfl) (by exact fun _ _ _ h => h) (by rfl) (by intro W hW; go_simp <;> with_reducible rfl) trivial ?_
  try simp only [Act.put, tkT, tk0, tkS]
  refine tkH 4 (by simp only [tkA, tkG]; rfl) (by kernel_rfl) (by exact fun _ _ _ h => h) (by rfl) (by intro W hW; go_simp <;> with_reducible rfl) trivial ?_
  try simp only [Act.put, tkT, tk0, tkS]
  refine tkH 5 (by simp only [tkA, tkG]; rfl) (by kernel_rfl) (by exact fun _ _ _ h => h) (by rfl) (by intro W hW; go_simp <;> with_reducible rfl) trivial ?_
  try simp only [Act.put, tkT, tk0, tkS]
  refine clH 6 (by kernel_rfl) (by simp only [tkA, tkG]; rfl) (fun K hK => ?_)
  refine step_append_room rfl (.tmp 22) (.tmp 25) 59 rfl 44 i0 1 Try.underlying59 hi0 hi1 g 0 0 cap (by simp [Act.eval]) ad m (cap - 1) (es.drop 1) (by simp [Act.eval]) hnews.out hcells.out hone.out (by omega) hsp.out ?_
  rw [Nat.zero_add, Nat.zero_mul, ← HW.out]
  go_wp2_with fail
  refine hK.out _ _ trivial (fun _ => ?_)
  clear hK K
  refine clH 7 (by kernel_rfl) (by simp only [tkA, tkG]; rfl) (fun K hK => ?_)
  go_simp
  go_wp2_with fail
  refine hK.out _ _ trivial (fun _ => ?_)
  clear hK K
  refine wpAnyH_done (by kernel_rfl) ?_ _
  have hmid := fun W => run_slice_mid (P := Try.prog) W 59 44 Try.underlying59 (fun w => by kernel_rfl) g 0 m cap (m : Int) ((m : Int) + 1) m 1 rfl (by omega) (by omega) (by omega)
  simp only [Nat.zero_add] at hmid
  go_wp2_with fail
  go_ret
  exact HF.out
end Go.Proofs.Ytdeodoppcflgfaa
