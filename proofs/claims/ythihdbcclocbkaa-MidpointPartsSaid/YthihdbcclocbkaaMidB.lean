/- Contracts of slices.Sort of ints and of the program's Cut. Conditions: where the ints lie. -/
import Derived.Test.YthihdbcclocbkaaMidA
namespace Go.Proofs.Ythihdbcclocbkaa
open Go.RowKit Go.Sort
set_option maxRecDepth 100000

theorem apart_grow {F : Nat → Prop} {a w : World} (h : Apart F a w) (os : Array Obj) : Apart F a (grow w os) :=
  ⟨h.os, h.tape, h.output, by have := h.size; simp; omega, fun k hk hF => by rw [heap_grow_old w os (Nat.lt_of_lt_of_le hk h.size)]; exact h.block k hk hF⟩
theorem apart_putRow {enc : Int → Value} (w : World) (g m : Nat) (d : Array Int) : Apart (fun k => k = g) w (putRow enc (Sort.ahead w m) g 0 d) :=
  ⟨rfl, rfl, rfl, by simp [putRow, mapBlock, Sort.ahead], fun k _ hk => by simp [putRow, mapBlock, Sort.ahead, Array.getElem?_modify, show g ≠ k from fun e => hk e.symm]⟩

def SortedP (B g cap : Nat) (l : List Int) (w : World) (e : Ending) (w' : World) : Prop :=
  e = .returned (.tuple #[]) ∧ w'.ownsRow B 3 1 (.slice (some ⟨g, 0, none⟩) l.length cap) l.length (intV (MidP.srt l)) ∧ Apart (fun k => k = g) w w'
theorem sort_any (B g cap : Nat) (l : List Int) (hl : l.length ≤ 1000000) (w : World) (h : w.ownsRow B 3 1 (.slice (some ⟨g, 0, none⟩) l.length cap) l.length (intV l)) :
    Calls Try.prog 19 #[.slice (some ⟨g, 0, none⟩) l.length cap] w (SortedP B g cap l w) := by
  obtain ⟨g', cap', e1, hbg, hlt, -, -, -, hH⟩ := Lib.holds_of_ownsRow (enc := Value.int .i64) h (by simp)
  cases e1
  refine (slices_Sort_int g 0 cap l w hH hlt (by omega)).mono ?_
  rintro e w' ⟨rfl, n, os, rfl⟩
  have ha := apart_grow (apart_putRow (enc := Value.int .i64) w g n (MidP.srt l).toArray) os
  refine ⟨rfl, ?_, ha⟩
  have h1 := Lib.ownsRow_putRow (q := n) (k := l.length) (ys := MidP.srt l) h (MidP.srt_length l) (Nat.le_refl _)
  rw [List.take_of_length_le (by rw [MidP.srt_length]; exact Nat.le_refl _)] at h1
  exact own_apart (F := fun _ => False) h1 (apart_grow (Apart.refl _ _) os) (fun _ _ h => h)

/-- s[lo:hi] of ints. -/
theorem run_slice_ints (W : World) (b o len cap : Nat) (lo hi : Int) (k n : Nat) (hlo : lo = k) (hhi : hi = (k + n : Nat)) (hn : 0 < n) (h2 : k + n ≤ cap) :
    (Instr.slice 22 (.slice (some ⟨b, o, none⟩) len cap) (some (.int .i64 lo)) (some (.int .i64 hi)) none).run Try.prog W = .ok (.slice (some ⟨b, o + k, none⟩) n (cap - k)) W := by
  subst hlo hhi
  have ht' : Try.prog.underlying 22 = some (.slice (Try.prog.elem 22)) := by simp [Program.elem, Try.underlying22]
  have he : Try.prog.elem 22 = 3 := by simp [Program.elem, Try.underlying22]
  rw [run_slice_lh W 22 _ _ _ ht' .i64 .i64 _ _ (by omega) (by omega) (by omega), he, Try.sizeOf3]
  have ha : (⟨b, o, none⟩ : Addr).add (k * 1) = ⟨b, o + k, none⟩ := by rw [Nat.mul_one]; exact addr_addB b o k
  simp only [Result.andThen, sliced, Int.toNat_natCast]
  rw [if_neg (by omega)]
  simp only [Option.map_some, ha]
  congr 2
  omega
/-- A part of a row of one's own. -/
theorem Seg.mid {w : World} {B : Nat} {e : TypeId} {g off n cap : Nat} {l : List Int} (h : Seg w B e 1 (.slice (some ⟨g, off, none⟩) n cap) n (intV l)) {k m : Nat} (hk : k + m ≤ n) : Seg w B e 1 (.slice (some ⟨g, off + k, none⟩) m (cap - k)) m (intV ((l.take (k + m)).drop k)) := by
  have hln : l.length = n := by have := h.1; rw [intV_length] at this; omega
  refine ⟨by rw [intV_length, List.length_drop, List.length_take]; omega, ?_⟩
  rcases h.2 with ⟨h1, -⟩ | ⟨g', off', cap', cur, h1, h2, h3, h4, h5, h6, h7⟩
  · cases h1
  · cases h1
    refine .inr ⟨g, off + k, cap - k, cur, rfl, h2, h3, by omega, by omega, by omega, fun j u hj => ?_⟩
    rw [intV_at, List.getElem?_drop, List.getElem?_take] at hj
    split at hj
    · have := h7 (k + j) u (by rw [intV_at]; exact hj)
      rwa [← Nat.add_assoc] at this
    · cases hj

/-- What Cut answers where it is an error. -/
def CutBad (w : World) (e : Ending) (w' : World) : Prop := e = .returned (.tuple #[.slice none 0 0, .iface 44 (.int .i64 2)]) ∧ w = w'
/-- .. and where it is none. -/
def CutGood (l : List Int) (f : Nat) (w : World) (e : Ending) (w' : World) : Prop :=
  ∃ g off cap, e = .returned (.tuple #[.slice (some ⟨g, off, none⟩) (l.length - 2 * f) cap, .nilIface]) ∧ Seg w' w.heap.size 3 1 (.slice (some ⟨g, off, none⟩) (l.length - 2 * f) cap) (l.length - 2 * f) (intV (MidP.cutT l f)) ∧ Below w.heap.size w w'
/-- May so many be cut off? -/
def Cuts (n : Nat) (f : Int) : Prop := 0 ≤ f ∧ 2 * f + 1 ≤ n

set_option maxHeartbeats 1000000 in
theorem cut_bad (A : Option Addr) (n cap : Nat) (hn : n ≤ 1000000) (f : Int) (hf : ¬ Cuts n f) (w : World) : Calls Try.prog 10 #[.slice A n cap, .int .i64 f] w (CutBad w) := by
  unfold Cuts at hf
  by_cases h0 : f < 0
  · have q0 : decide (f < 0) = true := decide_eq_true h0
    clear h0 hf
    go_enter Try.func10, Try.ntmps10
    go_wp2_with fail
    go_ret2
    exact ⟨rfl, rfl⟩
  · have q0 : decide (f < 0) = false := decide_eq_false h0
    have et : ((n : Int) + 1).tdiv 2 = ((n : Int) + 1) / 2 := Int.tdiv_eq_ediv_of_nonneg (by omega)
    have e1 : IntKind.i64.wrap ((n : Int) + 1) = (n : Int) + 1 := IntWalk.i64_in _ (by omega)
    have e2 : IntKind.i64.wrap (((n : Int) + 1).tdiv 2) = ((n : Int) + 1).tdiv 2 := IntWalk.i64_in _ (by omega)
    have q1 : decide (((n : Int) + 1).tdiv 2 ≤ f) = true := decide_eq_true (by omega)
    clear h0 hf et
    go_enter Try.func10, Try.ntmps10
    go_wp2_with fail
    go_ret2
    exact ⟨rfl, rfl⟩

set_option maxHeartbeats 1000000 in
theorem cut_good (A : Option Addr) (n cap : Nat) (l : List Int) (hl : l.length = n) (hn : n ≤ 1000000) (f : Nat) (hf : 2 * f + 1 ≤ n) (w : World) (h : IntsIn w A l) : Calls Try.prog 10 #[.slice A n cap, .int .i64 (f : Nat)] w (CutGood l f w) := by
  obtain ⟨b, o, rfl, -, -⟩ := h (by omega)
  have q0 : decide (((f : Nat) : Int) < 0) = false := decide_eq_false (by omega)
  have et : ((n : Int) + 1).tdiv 2 = ((n : Int) + 1) / 2 := Int.tdiv_eq_ediv_of_nonneg (by omega)
  have e1 : IntKind.i64.wrap ((n : Int) + 1) = (n : Int) + 1 := IntWalk.i64_in _ (by omega)
  have e2 : IntKind.i64.wrap (((n : Int) + 1).tdiv 2) = ((n : Int) + 1).tdiv 2 := IntWalk.i64_in _ (by omega)
  have q1 : decide (((n : Int) + 1).tdiv 2 ≤ (f : Int)) = false := decide_eq_false (by omega)
  have e3 : IntKind.i64.wrap ((n : Int) - (f : Int)) = (n : Int) - (f : Int) := IntWalk.i64_in _ (by omega)
  have HC := Lib.hid (iclone_any b o n cap l hl (by omega) w h)
  have Hl := Lib.hid hl
  clear h hl et
  go_enter Try.func10, Try.ntmps10
  go_wp2_with fail
  refine HC.out.mono ?_
  rintro e w1 ⟨v, rfl, ho, hb⟩
  rw [Hl.out] at ho
  obtain ⟨g, c, rfl, hnc⟩ : ∃ g c, v = .slice (some ⟨g, 0, none⟩) n c ∧ n ≤ c := by
    rcases ho.2 with ⟨-, h0⟩ | ⟨g, c, cur, rfl, -, -, h1, -⟩
    · omega
    · exact ⟨g, c, rfl, h1⟩
  have HS : Hid (Calls Try.prog 19 #[.slice (some ⟨g, 0, none⟩) n c] w1 (SortedP w.heap.size g c l w1)) := Lib.hid (by
    have := sort_any w.heap.size g c l (by rw [Hl.out]; exact hn) w1 (by rw [Hl.out]; exact ho)
    rwa [Hl.out] at this)
  have hgB : w.heap.size ≤ g := (ho.lt g rfl).1
  have Hb := Lib.hid hb
  have hrs := fun W => run_slice_ints W g 0 n c (f : Int) ((n : Int) - (f : Int)) f (n - 2 * f) rfl (by omega) (by omega) (by omega)
  simp only [Nat.zero_add] at hrs
  clear ho hb HC
  go_wp2_with fail
  refine HS.out.mono ?_
  rintro e w2 ⟨rfl, ho2, ha2⟩
  have HF : Hid (CutGood l f w (.returned (.tuple #[.slice (some ⟨g, f, none⟩) (n - 2 * f) (c - f), .nilIface])) w2) := Lib.hid (by
    rw [Hl.out] at ho2
    have h1 := (Seg.of_own ho2).mid (k := f) (m := n - 2 * f) (by omega)
    rw [Nat.zero_add] at h1
    refine ⟨g, f, c - f, by rw [Hl.out], ?_, Hb.out.trans (ha2.below Hb.out.size (fun k e => by rw [e]; exact hgB))⟩
    unfold MidP.cutT
    rw [Hl.out, show n - f = f + (n - 2 * f) by omega]
    exact h1)
  clear ho2 ha2 HS Hb
  go_wp2_with fail
  go_ret2
  exact HF.out
end Go.Proofs.Ythihdbcclocbkaa
