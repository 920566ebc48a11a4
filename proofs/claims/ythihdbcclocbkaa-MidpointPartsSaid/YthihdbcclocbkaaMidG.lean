/- Awake of stage 10: true; the reading of its errors. Conditions: none. -/
import Derived.Test.YthihdbcclocbkaaMidE
import Derived.Test.YthihdbcclocbkaaMidF
namespace Go.Proofs.Ythihdbcclocbkaa
open Go.RowKit
set_option maxRecDepth 100000

/-- A call that answers true and turns nothing that was there. -/
def MTrue (w : World) (e : Ending) (w' : World) : Prop := e = .returned (.bool true) ∧ Below w.heap.size w w'
/-- Ints that the call has just laid. -/
theorem lits_in (w : World) (l : List Int) : IntsIn (w.alloc (.cells (intV l).toArray 3)) (some ⟨w.heap.size, 0, none⟩) l := fun _ =>
  ⟨w.heap.size, 0, rfl, by simp, fun i x hx => by rw [Nat.zero_add]; exact cell_at (heap_alloc_new w _) i (by simpa using intV_get hx)⟩
theorem srt_is {l s : List Int} (h1 : MidP.Rising s) (h2 : s.Perm l) : MidP.srt l = s := (MidP.srt_unique h1 h2).symm
theorem awk_a : MidP.midT [5, 1, 9, 3] 1 = 4 := by
  have e : MidP.srt [5, 1, 9, 3] = [1, 3, 5, 9] := srt_is (by unfold MidP.Rising; decide) (by decide)
  unfold MidP.midT MidP.firstT MidP.lastT
  rw [e]; rfl
theorem awk_b : MidP.midT [-3, 0] 0 = -2 := by
  have e : MidP.srt [-3, 0] = [-3, 0] := srt_is (by unfold MidP.Rising; decide) (by decide)
  unfold MidP.midT MidP.firstT MidP.lastT
  rw [e]; rfl
theorem awk_m : MidP.mostT [1, 2, 1] = (1, true) := MidP.mostT_yes (by unfold MidP.Most MidP.cnt; decide)

set_option maxHeartbeats 1000000 in
theorem awake10_any (w : World) : Calls Try.prog 9 #[] w (MTrue w) := by
  have H1 : Hid (∀ W : World, Calls Try.prog 12 #[.slice (some ⟨W.heap.size, 0, none⟩) 4 4, .int .i64 1] (W.alloc (.cells #[.int .i64 5, .int .i64 1, .int .i64 9, .int .i64 3] 3)) (MidGood 4 (W.alloc (.cells #[.int .i64 5, .int .i64 1, .int .i64 9, .int .i64 3] 3)))) := Lib.hid fun W => by
    have h := mid_good (some ⟨W.heap.size, 0, none⟩) 4 4 [5, 1, 9, 3] rfl (by omega) 1 (by omega) _ (lits_in W [5, 1, 9, 3]) (by unfold Ints MidP.In; decide)
    rw [awk_a] at h
    exact h
  have H2 : Hid (∀ W : World, Calls Try.prog 12 #[.slice (some ⟨W.heap.size, 0, none⟩) 2 2, .int .i64 0] (W.alloc (.cells #[.int .i64 (-3), .int .i64 0] 3)) (MidGood (-2) (W.alloc (.cells #[.int .i64 (-3), .int .i64 0] 3)))) := Lib.hid fun W => by
    have h := mid_good (some ⟨W.heap.size, 0, none⟩) 2 2 [-3, 0] rfl (by omega) 0 (by omega) _ (lits_in W [-3, 0]) (by unfold Ints MidP.In; decide)
    rw [awk_b] at h
    exact h
  have H3 : Hid (∀ W : World, Calls Try.prog 14 #[.slice (some ⟨W.heap.size, 0, none⟩) 3 3] (W.alloc (.cells #[.int .i64 1, .int .i64 2, .int .i64 1] 3)) (Quiet (.tuple #[.int .i64 1, .bool true]) (W.alloc (.cells #[.int .i64 1, .int .i64 2, .int .i64 1] 3)))) := Lib.hid fun W => by
    have h := most_any (some ⟨W.heap.size, 0, none⟩) 3 3 [1, 2, 1] rfl (by omega) _ (lits_in W [1, 2, 1])
    unfold MostP at h
    rw [awk_m] at h
    exact h
  go_enter Try.func9, Try.ntmps9
  go_wp2_with fail
  refine (H1.out _).mono ?_
  rintro e w1 ⟨rfl, hb1⟩
  have hb1' := ((Below.refl w.heap.size w).alloc (Nat.le_refl _) (.cells #[.int .i64 5, .int .i64 1, .int .i64 9, .int .i64 3] 3)).trans (hb1.mono (by simp))
  have Hb1 := Lib.hid hb1'
  clear hb1 hb1' H1
  go_wp2_with fail
  refine (H2.out _).mono ?_
  rintro e w2 ⟨rfl, hb2⟩
  have hb2' := (Hb1.out.alloc Hb1.out.size (.cells #[.int .i64 (-3), .int .i64 0] 3)).trans (hb2.mono (by have := Hb1.out.size; simp; omega))
  have Hb2 := Lib.hid hb2'
  clear hb2 hb2' H2 Hb1
  go_wp2_with fail
  refine (H3.out _).mono ?_
  rintro e w3 ⟨rfl, m, rfl⟩
  have Hb3 := Lib.hid (below_drewNc (Hb2.out.alloc Hb2.out.size (.cells #[.int .i64 1, .int .i64 2, .int .i64 1] 3)) m)
  clear H3 Hb2
  go_wp2_with fail
  go_ret
  exact ⟨rfl, Hb3.out⟩

theorem read_nil10 (W : World) : Calls Try.prog 17 #[.nilIface] W fun e w' => e = .returned (.string ⟨#[]⟩) ∧ Below W.heap.size W w' :=
  read_any 0 [] none W (by simp) (Nat.zero_le _) trivial ⟨by simp, by simp⟩
theorem read_two10 (W : World) : Calls Try.prog 17 #[.iface 44 (.int .i64 2)] W fun e w' => e = .returned (.string ⟨#[50]⟩) ∧ Below W.heap.size W w' :=
  read_any 0 [] (some 2) W (by simp) (Nat.zero_le _) trivial ⟨by simp, by simp⟩

/-- append(append([]int{}, l...), x): the first half. -/
theorem copy_below {w w1 : World} {v : Value} {n : Nat} {xs : List Value} (ha : Apart (fun k => (Value.slice (some ⟨w.heap.size, 0, none⟩) 0 0).ownBlock = some k) (w.alloc (.cells #[] 3)) w1) (_ : w1.ownsRow w.heap.size 3 1 v n xs) : Below w.heap.size w w1 :=
  ((Below.refl w.heap.size w).alloc (Nat.le_refl _) (.cells #[] 3)).trans (ha.below (by simp) (fun k e => by have e : some w.heap.size = some k := e; cases e; exact Nat.le_refl _))
end Go.Proofs.Ythihdbcclocbkaa
