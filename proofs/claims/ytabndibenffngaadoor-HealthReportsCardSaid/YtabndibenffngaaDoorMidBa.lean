/- The library's contract of the sort of ints, laid at this program. Conditions: those that it states: where the slice's elements lie. · Ints in memory; contracts of slices.Clone and slices.Sort of ints, and of Cut. Conditions: where the ints lie. · Contracts of slices.Sort of ints and of the program's Cut. Conditions: where the ints lie. · Contracts of halfway, of the program's Middle and of the document's down (at 2), E. Conditions: where the ints lie, that they are ints. · Contract of the document's Sorted. Conditions: where the ints lie. · Contracts of the document's Cut and Middle. Conditions: where the ints lie, that they are ints. -/
import Derived.Shelf.Sort.Plain
import Derived.Test.YtabndibenffngaaDoorProg
import Derived.Test.YtabndibenffngaaDoorMem
import Derived.Test.YtabndibenffngaaDoorPlB
import Derived.Lib.OwnBridge
import Derived.Lib.SliceRun
import Derived.BigQuiet
import Derived.Deep.CutBlock
import Derived.Deep.DeepCutAuto
import Derived.Test.YtabndibenffngaaDoorErrM
import Derived.Laws.OwnMore
namespace Go.Proofs.YtabndibenffngaaDoor
open Go.Shelf
end Go.Proofs.YtabndibenffngaaDoor
namespace Go.Proofs.YtabndibenffngaaDoor
open Go.RowKit Go.Sort
set_option maxRecDepth 100000

theorem infoInt : (Tryd.prog.info? 3).map (fun i => (i.zero, i.size, i.bytes)) = some (some (.int .i64 0), 1, 8) := by kernel_rfl
/-- Cells of ints. -/
def intV (l : List Int) : List Value := l.map (Value.int .i64)
theorem intV_length (l : List Int) : (intV l).length = l.length := List.length_map _
theorem intV_at (l : List Int) (j : Nat) : (intV l)[j]? = (l[j]?).map (Value.int .i64) := List.getElem?_map
theorem intV_get {l : List Int} {j : Nat} {x : Int} (h : l[j]? = some x) : (intV l)[j]? = some (.int .i64 x) := by rw [intV_at, h]; rfl
theorem intV_one (l : List Int) : ∀ u ∈ intV l, u.oneCell' = true := by
  intro u hu
  obtain ⟨x, _, rfl⟩ := List.mem_map.1 hu
  rfl
theorem intV_append (l m : List Int) : intV (l ++ m) = intV l ++ intV m := List.map_append
theorem intV_take (l : List Int) (k : Nat) : (intV l).take k = intV (l.take k) := by unfold intV; rw [List.map_take]
theorem intV_drop (l : List Int) (k : Nat) : (intV l).drop k = intV (l.drop k) := by unfold intV; rw [List.map_drop]
theorem intV_set (l : List Int) (k : Nat) (x : Int) : intV (l.set k x) = (intV l).set k (.int .i64 x) := by unfold intV; rw [List.map_set]

/-- A slice's ints in memory. -/
def IntsIn (W : World) (A : Option Addr) (l : List Int) : Prop := 0 < l.length → ∃ b off, A = some ⟨b, off, none⟩ ∧ b < W.heap.size ∧ ∀ (i : Nat) (x : Int), l[i]? = some x → W.cell? ⟨b, off + i, none⟩ = some (.int .i64 x)
section
variable {W W' : World} {A : Option Addr} {l : List Int}
theorem IntsIn.apart {F : Nat → Prop} (h : IntsIn W A l) (ha : Apart F W W') (hF : 0 < l.length → ∀ k, blockOf A = some k → ¬ F k) : IntsIn W' A l := fun hl => by
  obtain ⟨b, off, e, hb, hi⟩ := h hl
  exact ⟨b, off, e, Nat.lt_of_lt_of_le hb ha.size, fun i x hx => (ha.cell (p := ⟨b, _, none⟩) hb (hF hl b (by rw [e]; rfl))).trans (hi i x hx)⟩
theorem IntsIn.below (h : IntsIn W A l) (hb : Below W.heap.size W W') : IntsIn W' A l := h.apart (F := fun _ => False) (Apart.of_below' hb) (fun _ _ _ h => h)
/-- .. that lie below B, where only what lies from B on is written. -/
theorem IntsIn.under {B : Nat} (h : IntsIn W A l) (hB : 0 < l.length → ∀ k, blockOf A = some k → k < B) (hb : Below B W W') : IntsIn W' A l := fun hl => by
  obtain ⟨b, off, e, hb1, hi⟩ := h hl
  have hlt := hB hl b (by rw [e]; rfl)
  exact ⟨b, off, e, Nat.lt_of_lt_of_le hb1 hb.size, fun i x hx => (World.cell?_of_block (w := W) (hb.block b hlt)).trans (hi i x hx)⟩
theorem IntsIn.news (h : IntsIn W A l) (hn : 0 < l.length) : ∃ ad, A = some ad ∧ ∀ j u, (intV l)[j]? = some u → W.cell? (ad.add j) = some u := by
  obtain ⟨b, off, rfl, _, hi⟩ := h hn
  refine ⟨_, rfl, fun j u hj => ?_⟩
  rw [addr_addB]
  rw [intV_at] at hj
  cases hx : l[j]? with
  | none => rw [hx] at hj; cases hj
  | some x =>
    rw [hx] at hj
    cases hj
    exact hi j x hx
theorem IntsIn.at_ (h : IntsIn W A l) {i : Nat} {x : Int} (hx : l[i]? = some x) : ∃ b off, A = some ⟨b, off, none⟩ ∧ b < W.heap.size ∧ W.cell? ⟨b, off + i, none⟩ = some (.int .i64 x) := by
  obtain ⟨b, off, e, hb, hi⟩ := h (by have := (List.getElem?_eq_some_iff.1 hx).1; omega)
  exact ⟨b, off, e, hb, hi i x hx⟩
theorem IntsIn.take (h : IntsIn W A l) (k : Nat) : IntsIn W A (l.take k) := fun hl => by
  have hl2 : 0 < l.length := by rw [List.length_take] at hl; omega
  obtain ⟨b, off, e, hb, hi⟩ := h hl2
  refine ⟨b, off, e, hb, fun i x hx => hi i x ?_⟩
  rw [List.getElem?_take] at hx
  split at hx
  · exact hx
  · cases hx
theorem Seg.ints {B e n : Nat} {v : Value} (h : Seg W B e 1 v n (intV l)) : ∃ A cap, v = .slice A n cap ∧ n ≤ cap ∧ l.length = n ∧ IntsIn W A l := by
  have hln : l.length = n := by have := h.1; rw [intV_length] at this; omega
  rcases h.2 with ⟨rfl, rfl⟩ | ⟨g, off, cap, cur, rfl, -, h3, h4, -⟩
  · exact ⟨none, 0, rfl, Nat.le_refl _, hln, fun hl => by omega⟩
  · exact ⟨_, cap, rfl, h4, hln, fun _ => ⟨g, off, rfl, (Array.getElem?_eq_some_iff.1 h3).1, fun i x hx => h.cell (intV_get hx)⟩⟩
theorem own_ints {B e n : Nat} {v : Value} (h : W.ownsRow B e 1 v n (intV l)) : ∃ A cap, v = .slice A n cap ∧ n ≤ cap ∧ l.length = n ∧ IntsIn W A l := Seg.ints (Seg.of_own h)
theorem IntsIn.of_items (h : ItemsIn (fun x : Int => [Value.int .i64 x]) 1 W A l) : IntsIn W A l := fun hl => by
  obtain ⟨b, off, e, hb, hi⟩ := h hl
  exact ⟨b, off, e, hb, fun i x hx => by simpa using hi i x hx 0 _ rfl⟩
end

/-- A copy of ints, in memory of its own. -/
def ClonedP (l : List Int) (w : World) (e : Ending) (w' : World) : Prop := ∃ v, e = .returned v ∧ w'.ownsRow w.heap.size 3 1 v l.length (intV l) ∧ Below w.heap.size w w'
end Go.Proofs.YtabndibenffngaaDoor
namespace Go.Proofs.YtabndibenffngaaDoor
open Go.RowKit Go.Sort
set_option maxRecDepth 100000

theorem apart_grow {F : Nat → Prop} {a w : World} (h : Apart F a w) (os : Array Obj) : Apart F a (grow w os) :=
  ⟨h.os, h.tape, h.output, by have := h.size; simp; omega, fun k hk hF => by rw [heap_grow_old w os (Nat.lt_of_lt_of_le hk h.size)]; exact h.block k hk hF⟩
theorem apart_putRow {enc : Int → Value} (w : World) (g m : Nat) (d : Array Int) : Apart (fun k => k = g) w (putRow enc (Sort.ahead w m) g 0 d) :=
  ⟨rfl, rfl, rfl, by simp [putRow, mapBlock, Sort.ahead], fun k _ hk => by simp [putRow, mapBlock, Sort.ahead, Array.getElem?_modify, show g ≠ k from fun e => hk e.symm]⟩

def SortedP (B g cap : Nat) (l : List Int) (w : World) (e : Ending) (w' : World) : Prop :=
  e = .returned (.tuple #[]) ∧ w'.ownsRow B 3 1 (.slice (some ⟨g, 0, none⟩) l.length cap) l.length (intV (MidP.srt l)) ∧ Apart (fun k => k = g) w w'
/-- s[lo:hi] of ints. -/
theorem run_slice_ints (W : World) (b o len cap : Nat) (lo hi : Int) (k n : Nat) (hlo : lo = k) (hhi : hi = (k + n : Nat)) (hn : 0 < n) (h2 : k + n ≤ cap) :
    (Instr.slice 66 (.slice (some ⟨b, o, none⟩) len cap) (some (.int .i64 lo)) (some (.int .i64 hi)) none).run Tryd.prog W = .ok (.slice (some ⟨b, o + k, none⟩) n (cap - k)) W := by
  subst hlo hhi
  have ht' : Tryd.prog.underlying 66 = some (.slice (Tryd.prog.elem 66)) := by simp [Program.elem, Tryd.underlying66]
  have he : Tryd.prog.elem 66 = 3 := by simp [Program.elem, Tryd.underlying66]
  rw [run_slice_lh W 66 _ _ _ ht' .i64 .i64 _ _ (by omega) (by omega) (by omega), he, Tryd.sizeOf3]
  have ha : (⟨b, o, none⟩ : Addr).add (k * 1) = ⟨b, o + k, none⟩ := by rw [Nat.mul_one]; exact addr_addB b o k
  simp only [Result.andThen, sliced, Int.toNat_natCast]
  rw [if_neg (by omega)]
  simp only [Option.map_some, ha]
  congr 2
  omega
/-- A part of a row of one's own. -/
theorem Seg.mid {w : World} {B : Nat} {e : TypeId} {g off n cap : Nat} {l : List Int} (h : Seg w B e 1 (.slice (some ⟨g, off, none⟩) n cap) n (intV l)) {k m : Nat} (hk : k + m ≤ n) : Seg w B e 1 (.slice (some ⟨g, off + k, none⟩) m (cap - k)) m (intV ((l.take (k + m)).drop k)) := by
  have hln : l.length = n := by have := h.1; rw [intV_length] at this; omega
  refine ⟨by rw [intV_length, List.length_drop, List.length_take]; omega, ?_⟩
  rcases h.2 with ⟨h1, -⟩ | ⟨g', off', cap', cur, h1, h2, h3, h4, h5, h6, h7⟩
  · cases h1
  · cases h1
    refine .inr ⟨g, off + k, cap - k, cur, rfl, h2, h3, by omega, by omega, by omega, fun j u hj => ?_⟩
    rw [intV_at, List.getElem?_drop, List.getElem?_take] at hj
    split at hj
    · have := h7 (k + j) u (by rw [intV_at]; exact hj)
      rwa [← Nat.add_assoc] at this
    · cases hj

/-- What Cut answers where it is an error. -/
def CutBad (w : World) (e : Ending) (w' : World) : Prop := e = .returned (.tuple #[.slice none 0 0, .iface 30 (.int .i64 2)]) ∧ w = w'
/-- .. and where it is none. -/
def CutGood (l : List Int) (f : Nat) (w : World) (e : Ending) (w' : World) : Prop :=
  ∃ g off cap, e = .returned (.tuple #[.slice (some ⟨g, off, none⟩) (l.length - 2 * f) cap, .nilIface]) ∧ Seg w' w.heap.size 3 1 (.slice (some ⟨g, off, none⟩) (l.length - 2 * f) cap) (l.length - 2 * f) (intV (MidP.cutT l f)) ∧ Below w.heap.size w w'
/-- May so many be cut off? -/
def Cuts (n : Nat) (f : Int) : Prop := 0 ≤ f ∧ 2 * f + 1 ≤ n

end Go.Proofs.YtabndibenffngaaDoor
namespace Go.Proofs.YtabndibenffngaaDoor
open Go.RowKit Go.Sort
set_option maxRecDepth 100000

/-- What Middle answers where it is an error. -/
def MidBad (w : World) (e : Ending) (w' : World) : Prop := e = .returned (.tuple #[.int .i64 0, .iface 30 (.int .i64 2)]) ∧ Below w.heap.size w w'
/-- .. and where it is none. -/
def MidGood (m : Int) (w : World) (e : Ending) (w' : World) : Prop := e = .returned (.tuple #[.int .i64 m, .nilIface]) ∧ Below w.heap.size w w'
/-- Ints of the kind int. -/
def Ints (l : List Int) : Prop := MidP.In (-9223372036854775808) 9223372036854775807 l

end Go.Proofs.YtabndibenffngaaDoor
namespace Go.Proofs.YtabndibenffngaaDoor
open Go.RowKit
set_option maxRecDepth 100000

theorem ikeep {w w' : World} {B e size n : Nat} {v : Value} {xs : List Value} (h : w.ownsRow B e size v n xs) (hb : Below w.heap.size w w') : w'.ownsRow B e size v n xs :=
  own_apart (F := fun _ => False) h (Apart.of_below' hb) (fun _ _ h => h)
theorem ilow {w : World} {B B' e size n : Nat} {v : Value} {xs : List Value} (h : w.ownsRow B e size v n xs) (hb : B' ≤ B) : w.ownsRow B' e size v n xs :=
  ⟨h.1, h.2.imp id fun ⟨g, cap, cur, h1, h2, h3⟩ => ⟨g, cap, cur, h1, Nat.le_trans hb h2, h3⟩⟩
theorem iempty (w : World) : (w.alloc (.cells #[] 3)).ownsRow w.heap.size 3 1 (.slice (some ⟨w.heap.size, 0, none⟩) 0 0) 0 (intV []) :=
  World.ownsRow_lit (e := 3) (size := 1) w #[] 0 (Nat.le_refl _) (by unfold maxLen; omega) rfl
theorem ibelow {W w0 w1 : World} {B n : Nat} {v : Value} {xs : List Value} (hd : Below W.heap.size W w0) (ho : w0.ownsRow B 3 1 v n xs) (hB : W.heap.size ≤ B) (ha : Apart (fun q => v.ownBlock = some q) w0 w1) : Below W.heap.size W w1 :=
  hd.trans (ha.below hd.size (fun q hq => Nat.le_trans hB (ho.lt q hq).1))
theorem run_slice_nil0 {P : Program} (W : World) (t e : TypeId) (ht : P.underlying t = some (.slice e)) (hz : ∀ w, (Go.sizeOf e).run P w = .ok 1 w) :
    (Instr.slice t (.slice none 0 0) (some (.int .i64 0)) none none).run P W = .ok (.slice none 0 0) W := by
  have ht' : P.underlying t = some (.slice (P.elem t)) := by simp [Program.elem, ht]
  have he : P.elem t = e := by simp [Program.elem, ht]
  rw [run_slice_l W t _ _ _ ht' .i64 _ (by omega) (by omega), he, hz]
  simp [Result.andThen, sliced]
/-- out[m:], of ints. -/
theorem icut_from {w : World} {B : Nat} {v : Value} {L : List Int} {n : Nat} (hLn : L.length = n) (h : w.ownsRow B 3 1 v n (intV L)) (m : Nat) (hm : m ≤ n) : ∃ A2 c2, (∀ W, (Instr.slice 66 v (some (.int .i64 (m : Nat))) none none).run Tryd.prog W = .ok (.slice A2 (n - m) c2) W) ∧
    (∀ (W : World) (B' : Nat), W.ownsRow B' 3 1 v n (intV L) → 0 < n - m → ∃ ad : Addr, A2 = some ad ∧ ∀ (j : Nat) u, (intV (L.drop m))[j]? = some u → W.cell? (ad.add j) = some u) := by
  subst hLn
  rcases h.2 with ⟨rfl, h0⟩ | ⟨g, cap, cur, rfl, -, -, hn, -⟩
  · obtain rfl : m = 0 := by omega
    refine ⟨none, 0, fun W => ?_, fun W B' _ hlt => by omega⟩
    rw [h0]
    exact run_slice_nil0 (P := Tryd.prog) W 66 3 Tryd.underlying66 (fun w => by kernel_rfl)
  · refine ⟨_, _, fun W => run_slice_froms (P := Tryd.prog) W 66 3 1 Tryd.underlying66 (fun w => by kernel_rfl) g 0 L.length cap (m : Int) m rfl hm, fun W B' hW hlt => ?_⟩
    rw [if_neg (by omega)]
    refine ⟨_, rfl, fun j u hj => ?_⟩
    rw [← intV_drop, List.getElem?_drop] at hj
    rw [addr_addB, show 0 + m * 1 + j = m + j by omega, hW.cellAt (m + j) (by have := (List.getElem?_eq_some_iff.1 hj).1; rw [intV_length] at this; omega)]
    exact hj
/-- out[:m]. -/
theorem icut_to {w : World} {B : Nat} {v : Value} {L : List Int} {n : Nat} (hLn : L.length = n) (h : w.ownsRow B 3 1 v n (intV L)) (m : Nat) (hm : m ≤ n) : ∃ A2 c2, (∀ W, (Instr.slice 66 v none (some (.int .i64 (m : Nat))) none).run Tryd.prog W = .ok (.slice A2 m c2) W) ∧
    (∀ (W : World) (B' : Nat), W.ownsRow B' 3 1 v n (intV L) → 0 < m → ∃ ad : Addr, A2 = some ad ∧ ∀ (j : Nat) u, (intV (L.take m))[j]? = some u → W.cell? (ad.add j) = some u) := by
  subst hLn
  obtain ⟨A, c, hv, hc⟩ := own_slice h
  have hrun := fun W => run_slice_front (P := Tryd.prog) W 66 3 1 Tryd.underlying66 (fun w => by kernel_rfl) A L.length c (m : Int) m rfl (by omega)
  subst hv
  refine ⟨A, c, hrun, fun W B' hW hlt => ?_⟩
  rcases hW.2 with ⟨h1, h0⟩ | ⟨g, cap, cur, h1, -⟩
  · omega
  · cases h1
    refine ⟨_, rfl, fun j u hj => ?_⟩
    have hjm : j < m := by have := (List.getElem?_eq_some_iff.1 hj).1; rw [intV_length, List.length_take] at this; omega
    rw [← intV_take, List.getElem?_take, if_pos hjm] at hj
    rw [addr_addB, show 0 + j = j by omega, hW.cellAt j (by omega)]
    exact hj
/-- The cell of a row of one's own. -/
theorem icell {W : World} {B n : Nat} {A : Option Addr} {cap : Nat} {L : List Int} (h : W.ownsRow B 3 1 (.slice A n cap) n (intV L)) {j : Nat} {x : Int} (hj : L[j]? = some x) (hjn : j < n) :
    ∃ b, A = some ⟨b, 0, none⟩ ∧ W.cell? ⟨b, j, none⟩ = some (.int .i64 x) := by
  rcases h.2 with ⟨h1, h0⟩ | ⟨g, cap', cur, h1, -⟩
  · omega
  · cases h1
    exact ⟨g, rfl, by rw [h.cellAt j (by omega)]; exact intV_get hj⟩

/-- What the document's Sorted answers. -/
def SortedR (l : List Int) (w : World) (e : Ending) (w' : World) : Prop := ∃ v, e = .returned v ∧ w'.ownsRow w.heap.size 3 1 v l.length (intV (MidP.srt l)) ∧ Below w.heap.size w w'
def SoR (w : World) (l : List Int) (v i : Value) (W : World) : Prop := ∃ k, k ≤ l.length ∧ i = .int .i64 (k : Nat) ∧ W.ownsRow w.heap.size 3 1 v k (intV (MidP.srt (l.take k))) ∧ Below w.heap.size w W
def SoI (wk : World) (s : List Int) (x : Int) (k : Nat) (a : Value) (W : World) : Prop := ∃ j, j ≤ k ∧ a = .int .i64 (j : Nat) ∧ (∀ i y, j ≤ i → s[i]? = some y → x < y) ∧ Below wk.heap.size wk W

theorem so_fin {w : World} {l s : List Int} {x : Int} {j k n : Nat} {v3 : Value} {W wc w3 : World} (hs : s = MidP.srt (l.take k)) (hx : l[k]? = some x) (hj : j ≤ k) (h1 : ∀ i y, j ≤ i → s[i]? = some y → x < y) (h0 : 0 < j → ∀ y, s[j - 1]? = some y → y ≤ x)
    (hb : Below w.heap.size w W) (hc : Below W.heap.size W wc) (hd : Below wc.heap.size wc w3) (hn : n = k + 1) (ho : w3.ownsRow wc.heap.size 3 1 v3 n (intV (s.take j) ++ [.int .i64 x] ++ intV (s.drop j))) : SoR w l v3 (.int .i64 ((k : Int) + 1)) w3 := by
  subst hn
  have hkl : k < l.length := (List.getElem?_eq_some_iff.1 hx).1
  have hbc := hb.trans (hc.mono hb.size)
  refine ⟨k + 1, hkl, by go_num, ?_, hbc.trans (hd.mono hbc.size)⟩
  have hsl : s.length = k := by rw [hs, MidP.srt_length, List.length_take]; omega
  have e1 : MidP.srt (l.take (k + 1)) = MidP.insAt x s j := by
    symm
    refine MidP.srt_unique (MidP.insAt_rising (by rw [hs]; exact MidP.srt_rising _) (by omega) (fun y h2 hy => h0 h2 y hy) h1) ?_
    rw [List.take_add_one, hx]
    refine (MidP.insAt_perm x s j).trans ?_
    rw [hs]
    exact (MidP.srt_perm _).append_right _
  rw [e1]
  have e2 : intV (MidP.insAt x s j) = intV (s.take j) ++ [.int .i64 x] ++ intV (s.drop j) := by unfold MidP.insAt intV; simp
  rw [e2]
  exact ilow ho hbc.size

end Go.Proofs.YtabndibenffngaaDoor
namespace Go.Proofs.YtabndibenffngaaDoor
open Go.RowKit
set_option maxRecDepth 100000

theorem and_one (a : Int) : bits BinOp.and IntKind.i64 a 1 = a % 2 := by
  have h : bits BinOp.and IntKind.i64 a 1 = IntKind.i64.wrap ((BitVec.ofInt 64 a &&& BitVec.ofInt 64 1).toNat : Int) := rfl
  rw [h, BitVec.toNat_and]
  have e1 : (BitVec.ofInt 64 1).toNat = 1 := by decide
  rw [e1, Nat.and_one_is_mod, BitVec.toNat_ofInt]
  have e2 : (((a % ((2 ^ 64 : Nat) : Int)).toNat % 2 : Nat) : Int) = a % 2 := by
    rw [Int.natCast_emod, Int.toNat_of_nonneg (Int.emod_nonneg _ (by decide))]
    simp only [Nat.reducePow]
    omega
  rw [e2]
  exact IntWalk.i64_in _ ⟨by omega, by omega⟩

/-- What the document's Cut answers where it is an error. -/
def RefCutBad (w : World) (e : Ending) (w' : World) : Prop := e = .returned (.tuple #[.slice none 0 0, strV (numN 2)]) ∧ Below w.heap.size w w'
/-- .. and where it is none. -/
def RefCutGood (l : List Int) (f : Nat) (w : World) (e : Ending) (w' : World) : Prop :=
  ∃ g off cap, e = .returned (.tuple #[.slice (some ⟨g, off, none⟩) (l.length - 2 * f) cap, strV []]) ∧ Seg w' w.heap.size 3 1 (.slice (some ⟨g, off, none⟩) (l.length - 2 * f) cap) (l.length - 2 * f) (intV (MidP.cutT l f)) ∧ Below w.heap.size w w'

/-- What the document's Middle answers where it is an error. -/
def RefMidBad (w : World) (e : Ending) (w' : World) : Prop := e = .returned (.tuple #[.int .i64 0, strV (numN 2)]) ∧ Below w.heap.size w w'
/-- .. and where it is none. -/
def RefMidGood (m : Int) (w : World) (e : Ending) (w' : World) : Prop := e = .returned (.tuple #[.int .i64 m, strV []]) ∧ Below w.heap.size w w'

theorem numN2 : numN 2 = [50] := by kernel_rfl
theorem mod_of (a M : Int) (h0 : 0 < M) (h1 : M ≤ 1000000) : ∃ t : Nat, (t : Int) < M ∧ wrap64 ((IntKind.u64.wrap a).tmod M) = (t : Int) := by
  have e : IntKind.u64.wrap a = a % 18446744073709551616 := by simp [IntKind.wrap, IntKind.bits, IntKind.signed]
  rw [e, Int.tmod_eq_emod_of_nonneg (Int.emod_nonneg _ (by decide))]
  have h2 : 0 ≤ a % 18446744073709551616 % M := Int.emod_nonneg _ (by omega)
  have h3 : a % 18446744073709551616 % M < M := Int.emod_lt_of_pos _ (by omega)
  generalize a % 18446744073709551616 % M = d at *
  exact ⟨d.toNat, by omega, by rw [IntWalk.wrap64_in d ⟨by omega, by omega⟩]; omega⟩
theorem u64_in (x : Int) (h0 : 0 ≤ x) (h1 : x ≤ 18446744073709551615) : IntKind.u64.wrap x = x := by
  have e : IntKind.u64.wrap x = x % 18446744073709551616 := by simp [IntKind.wrap, IntKind.bits, IntKind.signed]
  rw [e]; omega

theorem istored {W : World} {B n g c : Nat} {L : List Int} (h : W.ownsRow B 3 1 (.slice (some ⟨g, 0, none⟩) n c) n (intV L)) (k : Nat) (x : Int) : (W.setCell ⟨g, k, none⟩ (.int .i64 x)).ownsRow B 3 1 (.slice (some ⟨g, 0, none⟩) n c) n (intV (L.set k x)) := by
  rw [intV_set]
  exact (h.stored k (.int .i64 x)).1
theorem ints_set {L : List Int} {k : Nat} {x : Int} (h : Ints L) (hx : -9223372036854775808 ≤ x ∧ x ≤ 9223372036854775807) : Ints (L.set k x) := fun y hy => by
  rcases List.mem_or_eq_of_mem_set hy with h1 | h1
  · exact h y h1
  · subst h1; exact hx
end Go.Proofs.YtabndibenffngaaDoor
