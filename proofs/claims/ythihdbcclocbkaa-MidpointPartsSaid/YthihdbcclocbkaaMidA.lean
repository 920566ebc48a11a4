/- Ints in memory; contracts of slices.Clone and slices.Sort of ints, and of Cut. Conditions: where the ints lie. -/
import Derived.Test.YthihdbcclocbkaaSeg
import Derived.Test.YthihdbcclocbkaaMidS
import Derived.Test.YthihdbcclocbkaaMidQ
import Derived.Test.YthihdbcclocbkaaHeldL
import Derived.Lib.OwnBridge
import Derived.Lib.SliceRun
import Derived.BigQuiet
namespace Go.Proofs.Ythihdbcclocbkaa
open Go.RowKit Go.Sort
set_option maxRecDepth 100000

theorem infoInt : (Try.prog.info? 3).map (fun i => (i.zero, i.size, i.bytes)) = some (some (.int .i64 0), 1, 8) := by kernel_rfl
/-- Cells of ints. -/
def intV (l : List Int) : List Value := l.map (Value.int .i64)
theorem intV_length (l : List Int) : (intV l).length = l.length := List.length_map _
theorem intV_at (l : List Int) (j : Nat) : (intV l)[j]? = (l[j]?).map (Value.int .i64) := List.getElem?_map
theorem intV_get {l : List Int} {j : Nat} {x : Int} (h : l[j]? = some x) : (intV l)[j]? = some (.int .i64 x) := by rw [intV_at, h]; rfl
theorem intV_one (l : List Int) : ∀ u ∈ intV l, u.oneCell' = true := by
  intro u hu
  obtain ⟨x, _, rfl⟩ := List.mem_map.1 hu
  rfl
theorem intV_append (l m : List Int) : intV (l ++ m) = intV l ++ intV m := List.map_append
theorem intV_take (l : List Int) (k : Nat) : (intV l).take k = intV (l.take k) := by unfold intV; rw [List.map_take]
theorem intV_drop (l : List Int) (k : Nat) : (intV l).drop k = intV (l.drop k) := by unfold intV; rw [List.map_drop]
theorem intV_set (l : List Int) (k : Nat) (x : Int) : intV (l.set k x) = (intV l).set k (.int .i64 x) := by unfold intV; rw [List.map_set]

/-- A slice's ints in memory. -/
def IntsIn (W : World) (A : Option Addr) (l : List Int) : Prop := 0 < l.length → ∃ b off, A = some ⟨b, off, none⟩ ∧ b < W.heap.size ∧ ∀ (i : Nat) (x : Int), l[i]? = some x → W.cell? ⟨b, off + i, none⟩ = some (.int .i64 x)
section
variable {W W' : World} {A : Option Addr} {l : List Int}
theorem IntsIn.apart {F : Nat → Prop} (h : IntsIn W A l) (ha : Apart F W W') (hF : 0 < l.length → ∀ k, blockOf A = some k → ¬ F k) : IntsIn W' A l := fun hl => by
  obtain ⟨b, off, e, hb, hi⟩ := h hl
  exact ⟨b, off, e, Nat.lt_of_lt_of_le hb ha.size, fun i x hx => (ha.cell (p := ⟨b, _, none⟩) hb (hF hl b (by rw [e]; rfl))).trans (hi i x hx)⟩
theorem IntsIn.below (h : IntsIn W A l) (hb : Below W.heap.size W W') : IntsIn W' A l := h.apart (F := fun _ => False) (Apart.of_below' hb) (fun _ _ _ h => h)
/-- .. that lie below B, where only what lies from B on is written. -/
theorem IntsIn.under {B : Nat} (h : IntsIn W A l) (hB : 0 < l.length → ∀ k, blockOf A = some k → k < B) (hb : Below B W W') : IntsIn W' A l := fun hl => by
  obtain ⟨b, off, e, hb1, hi⟩ := h hl
  have hlt := hB hl b (by rw [e]; rfl)
  exact ⟨b, off, e, Nat.lt_of_lt_of_le hb1 hb.size, fun i x hx => (World.cell?_of_block (w := W) (hb.block b hlt)).trans (hi i x hx)⟩
theorem IntsIn.news (h : IntsIn W A l) (hn : 0 < l.length) : ∃ ad, A = some ad ∧ ∀ j u, (intV l)[j]? = some u → W.cell? (ad.add j) = some u := by
  obtain ⟨b, off, rfl, _, hi⟩ := h hn
  refine ⟨_, rfl, fun j u hj => ?_⟩
  rw [addr_addB]
  rw [intV_at] at hj
  cases hx : l[j]? with
  | none => rw [hx] at hj; cases hj
  | some x =>
    rw [hx] at hj
    cases hj
    exact hi j x hx
theorem IntsIn.at_ (h : IntsIn W A l) {i : Nat} {x : Int} (hx : l[i]? = some x) : ∃ b off, A = some ⟨b, off, none⟩ ∧ b < W.heap.size ∧ W.cell? ⟨b, off + i, none⟩ = some (.int .i64 x) := by
  obtain ⟨b, off, e, hb, hi⟩ := h (by have := (List.getElem?_eq_some_iff.1 hx).1; omega)
  exact ⟨b, off, e, hb, hi i x hx⟩
theorem IntsIn.take (h : IntsIn W A l) (k : Nat) : IntsIn W A (l.take k) := fun hl => by
  have hl2 : 0 < l.length := by rw [List.length_take] at hl; omega
  obtain ⟨b, off, e, hb, hi⟩ := h hl2
  refine ⟨b, off, e, hb, fun i x hx => hi i x ?_⟩
  rw [List.getElem?_take] at hx
  split at hx
  · exact hx
  · cases hx
theorem Seg.ints {B e n : Nat} {v : Value} (h : Seg W B e 1 v n (intV l)) : ∃ A cap, v = .slice A n cap ∧ n ≤ cap ∧ l.length = n ∧ IntsIn W A l := by
  have hln : l.length = n := by have := h.1; rw [intV_length] at this; omega
  rcases h.2 with ⟨rfl, rfl⟩ | ⟨g, off, cap, cur, rfl, -, h3, h4, -⟩
  · exact ⟨none, 0, rfl, Nat.le_refl _, hln, fun hl => by omega⟩
  · exact ⟨_, cap, rfl, h4, hln, fun _ => ⟨g, off, rfl, (Array.getElem?_eq_some_iff.1 h3).1, fun i x hx => h.cell (intV_get hx)⟩⟩
theorem own_ints {B e n : Nat} {v : Value} (h : W.ownsRow B e 1 v n (intV l)) : ∃ A cap, v = .slice A n cap ∧ n ≤ cap ∧ l.length = n ∧ IntsIn W A l := Seg.ints (Seg.of_own h)
theorem IntsIn.of_items (h : ItemsIn (fun x : Int => [Value.int .i64 x]) 1 W A l) : IntsIn W A l := fun hl => by
  obtain ⟨b, off, e, hb, hi⟩ := h hl
  exact ⟨b, off, e, hb, fun i x hx => by simpa using hi i x hx 0 _ rfl⟩
end

/-- A copy of ints, in memory of its own. -/
def ClonedP (l : List Int) (w : World) (e : Ending) (w' : World) : Prop := ∃ v, e = .returned v ∧ w'.ownsRow w.heap.size 3 1 v l.length (intV l) ∧ Below w.heap.size w w'
set_option maxHeartbeats 1000000 in
theorem iclone_any (g o n cap : Nat) (l : List Int) (hl : l.length = n) (hn : n * 8 ≤ 140737488355328) (w : World) (h : IntsIn w (some ⟨g, o, none⟩) l) :
    Calls Try.prog 18 #[.slice (some ⟨g, o, none⟩) n cap] w (ClonedP l w) := by
  have Hb := Lib.hid h
  have Hl := Lib.hid hl
  have HO := Lib.hid (World.ownsRow_lit (base := w.heap.size) (e := 3) (size := 1) w #[] 0 (Nat.le_refl _) (by unfold maxLen; omega) rfl)
  have HB1 := Lib.hid (fun o => (Below.refl w.heap.size w).alloc (Nat.le_refl _) o)
  have kn := fun W => Lib.run_eql_slice_nil (P := Try.prog) W 22 3 (some ⟨g, o, none⟩) n cap 0 0 Try.underlying22
  simp only [Option.isNone_some] at kn
  clear h hl
  go_enter Try.func18, Try.ntmps18
  go_wp2_with (at_builtin
               refine wpList_append_s rfl (.tmp 5) (.tmp 6) _ rfl w.heap.size 3 (.int .i64 0) 1 8 Try.underlying22 infoInt rfl (by decide) _ 0 [] rfl HO.out (some ⟨g, o, none⟩) n cap (intV l) rfl (by rw [intV_length, Hl.out, Nat.mul_one]) (fun h0 => (Hb.out.below (HB1.out _)).news (by rw [Hl.out]; exact h0)) (intV_one l) (by unfold maxLen; omega) (by omega) (by simp) ?_
               intro v1 w1 h1 h2 h3
               have HF : Hid (ClonedP l w (.returned v1) w1) := Lib.hid ⟨v1, rfl, by rw [Hl.out]; simpa using h1, (HB1.out _).trans (h2.below (by simp) (fun k e => by have e : some w.heap.size = some k := e; cases e; exact Nat.le_refl _))⟩
               clear h1 h2 h3)
  go_ret
  exact HF.out
end Go.Proofs.Ythihdbcclocbkaa
