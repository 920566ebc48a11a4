/- The library's contract of the sort of ints, laid at this program. Conditions: those that it states: where the slice's elements lie. · Ints in memory; contracts of slices.Clone and slices.Sort of ints, and of Cut. Conditions: where the ints lie. · Contracts of slices.Sort of ints and of the program's Cut. Conditions: where the ints lie. · Contracts of halfway, of the program's Middle and of the document's down (at 2), E. Conditions: where the ints lie, that they are ints. · Contract of the document's Sorted. Conditions: where the ints lie. · Contracts of the document's Cut and Middle. Conditions: where the ints lie, that they are ints. -/
import Derived.Shelf.Sort.Plain
import Derived.Test.YthhbdnjihhpalaaProg
import Derived.Test.YthhbdnjihhpalaaMem
import Derived.Test.YthhbdnjihhpalaaPlB
import Derived.Lib.OwnBridge
import Derived.Lib.SliceRun
import Derived.BigQuiet
import Derived.Deep.CutBlock
import Derived.Deep.DeepCutAuto
import Derived.Test.YthhbdnjihhpalaaErrM
import Derived.Laws.OwnMore
namespace Go.Proofs.Ythhbdnjihhpalaa
open Go.Shelf
def lays189_ren : Go.Shelf.Ren := ⟨fun | 189 => 70 | 125 => 77 | 257 => 76 | 128 => 87 | 129 => 88 | 294 => 78 | 295 => 79 | 296 => 80 | 297 => 81 | 298 => 82 | 299 => 83 | 216 => 84 | 300 => 85 | 301 => 86 | 328 => 89 | 329 => 90 | 330 => 91 | 331 => 92 | 332 => 93 | 215 => 94 | 343 => 95 | n => n, fun | 28 => 53 | 3 => 3 | 46 => 54 | 0 => 0 | 51 => 125 | 53 => 127 | 4 => 4 | 183 => 118 | 182 => 117 | 131 => 122 | 5 => 5 | 9 => 9 | 218 => 128 | 222 => 132 | 228 => 135 | 229 => 136 | n => n, fun | n => n⟩
theorem lays189 : Go.Proofs.Lays.n189 Try.prog lays189_ren := {
  mixed := by kernel_rfl
  f125 := Try.func77.trans (congrArg some (by kernel_rfl))
  f128 := Try.func87.trans (congrArg some (by kernel_rfl))
  f129 := Try.func88.trans (congrArg some (by kernel_rfl))
  f189 := Try.func70.trans (congrArg some (by kernel_rfl))
  f215 := Try.func94.trans (congrArg some (by kernel_rfl))
  f216 := Try.func84.trans (congrArg some (by kernel_rfl))
  f257 := Try.func76.trans (congrArg some (by kernel_rfl))
  f294 := Try.func78.trans (congrArg some (by kernel_rfl))
  f295 := Try.func79.trans (congrArg some (by kernel_rfl))
  f296 := Try.func80.trans (congrArg some (by kernel_rfl))
  f297 := Try.func81.trans (congrArg some (by kernel_rfl))
  f298 := Try.func82.trans (congrArg some (by kernel_rfl))
  f299 := Try.func83.trans (congrArg some (by kernel_rfl))
  f300 := Try.func85.trans (congrArg some (by kernel_rfl))
  f301 := Try.func86.trans (congrArg some (by kernel_rfl))
  f328 := Try.func89.trans (congrArg some (by kernel_rfl))
  f329 := Try.func90.trans (congrArg some (by kernel_rfl))
  f330 := Try.func91.trans (congrArg some (by kernel_rfl))
  f331 := Try.func92.trans (congrArg some (by kernel_rfl))
  f332 := Try.func93.trans (congrArg some (by kernel_rfl))
  f343 := Try.func95.trans (congrArg some (by kernel_rfl))
  t0 := Try.underlying0
  a0 := Try.isAgg0
  z0 := Try.sizeOf0
  v0 := Try.zeroValue0
  t3 := Try.underlying3
  a3 := Try.isAgg3
  z3 := Try.sizeOf3
  v3 := Try.zeroValue3
  t4 := Try.underlying4
  a4 := Try.isAgg4
  z4 := Try.sizeOf4
  v4 := Try.zeroValue4
  t5 := Try.underlying5
  a5 := Try.isAgg5
  z5 := Try.sizeOf5
  v5 := Try.zeroValue5
  t9 := Try.underlying9
  a9 := Try.isAgg9
  z9 := Try.sizeOf9
  v9 := Try.zeroValue9
  t28 := Try.underlying53
  a28 := Try.isAgg53
  z28 := Try.sizeOf53
  v28 := Try.zeroValue53
  t46 := Try.underlying54
  a46 := Try.isAgg54
  z46 := Try.sizeOf54
  v46 := Try.zeroValue54
  t51 := Try.underlying125
  a51 := Try.isAgg125
  z51 := Try.sizeOf125
  v51 := Try.zeroValue125
  t53 := Try.underlying127
  a53 := Try.isAgg127
  z53 := Try.sizeOf127
  v53 := Try.zeroValue127
  t131 := Try.underlying122
  a131 := Try.isAgg122
  z131 := Try.sizeOf122
  v131 := Try.zeroValue122
  t182 := Try.underlying117
  a182 := Try.isAgg117
  z182 := Try.sizeOf117
  v182 := Try.zeroValue117
  t183 := Try.underlying118
  a183 := Try.isAgg118
  z183 := Try.sizeOf118
  v183 := Try.zeroValue118
  t218 := Try.underlying128
  a218 := Try.isAgg128
  z218 := Try.sizeOf128
  v218 := Try.zeroValue128
  t222 := Try.underlying132
  a222 := Try.isAgg132
  z222 := Try.sizeOf132
  v222 := Try.zeroValue132
  t228 := Try.underlying135
  a228 := Try.isAgg135
  z228 := Try.sizeOf135
  v228 := Try.zeroValue135
  t229 := Try.underlying136
  a229 := Try.isAgg136
  z229 := Try.sizeOf136
  v229 := Try.zeroValue136 }
open Go.Sort Go.RowKit in
theorem slices_Sort_int (blk off cap : Nat) (zs : List Int) (w : World) (hH : Holds (Value.int .i64) w blk off zs.toArray) (hblk : blk < w.heap.size) (hsz : zs.length < 4611686018427387904) :
    Calls Try.prog 70 #[.slice (some ⟨blk, off, none⟩) zs.length cap] w fun e w' =>
      e = .returned (.tuple #[]) ∧ ∃ n os, w' = grow (putRow (Value.int .i64) (Sort.ahead w n) blk off (zs.mergeSort fun x y => decide (x ≤ y)).toArray) os := Any.slices_Sort_int lays189 blk off cap zs w hH hblk hsz
end Go.Proofs.Ythhbdnjihhpalaa
namespace Go.Proofs.Ythhbdnjihhpalaa
open Go.RowKit Go.Sort
set_option maxRecDepth 100000

theorem infoInt : (Try.prog.info? 3).map (fun i => (i.zero, i.size, i.bytes)) = some (some (.int .i64 0), 1, 8) := by kernel_rfl
/-- Cells of ints. -/
def intV (l : List Int) : List Value := l.map (Value.int .i64)
theorem intV_length (l : List Int) : (intV l).length = l.length := List.length_map _
theorem intV_at (l : List Int) (j : Nat) : (intV l)[j]? = (l[j]?).map (Value.int .i64) := List.getElem?_map
theorem intV_get {l : List Int} {j : Nat} {x : Int} (h : l[j]? = some x) : (intV l)[j]? = some (.int .i64 x) := by rw [intV_at, h]; rfl
theorem intV_one (l : List Int) : ∀ u ∈ intV l, u.oneCell' = true := by
  intro u hu
  obtain ⟨x, _, rfl⟩ := List.mem_map.1 hu
  rfl
theorem intV_append (l m : List Int) : intV (l ++ m) = intV l ++ intV m := List.map_append
theorem intV_take (l : List Int) (k : Nat) : (intV l).take k = intV (l.take k) := by unfold intV; rw [List.map_take]
theorem intV_drop (l : List Int) (k : Nat) : (intV l).drop k = intV (l.drop k) := by unfold intV; rw [List.map_drop]
theorem intV_set (l : List Int) (k : Nat) (x : Int) : intV (l.set k x) = (intV l).set k (.int .i64 x) := by unfold intV; rw [List.map_set]

/-- A slice's ints in memory. -/
def IntsIn (W : World) (A : Option Addr) (l : List Int) : Prop := 0 < l.length → ∃ b off, A = some ⟨b, off, none⟩ ∧ b < W.heap.size ∧ ∀ (i : Nat) (x : Int), l[i]? = some x → W.cell? ⟨b, off + i, none⟩ = some (.int .i64 x)
section
variable {W W' : World} {A : Option Addr} {l : List Int}
theorem IntsIn.apart {F : Nat → Prop} (h : IntsIn W A l) (ha : Apart F W W') (hF : 0 < l.length → ∀ k, blockOf A = some k → ¬ F k) : IntsIn W' A l := fun hl => by
  obtain ⟨b, off, e, hb, hi⟩ := h hl
  exact ⟨b, off, e, Nat.lt_of_lt_of_le hb ha.size, fun i x hx => (ha.cell (p := ⟨b, _, none⟩) hb (hF hl b (by rw [e]; rfl))).trans (hi i x hx)⟩
theorem IntsIn.below (h : IntsIn W A l) (hb : Below W.heap.size W W') : IntsIn W' A l := h.apart (F := fun _ => False) (Apart.of_below' hb) (fun _ _ _ h => h)
/-- .. that lie below B, where only what lies from B on is written. -/
theorem IntsIn.under {B : Nat} (h : IntsIn W A l) (hB : 0 < l.length → ∀ k, blockOf A = some k → k < B) (hb : Below B W W') : IntsIn W' A l := fun hl => by
  obtain ⟨b, off, e, hb1, hi⟩ := h hl
  have hlt := hB hl b (by rw [e]; rfl)
  exact ⟨b, off, e, Nat.lt_of_lt_of_le hb1 hb.size, fun i x hx => (World.cell?_of_block (w := W) (hb.block b hlt)).trans (hi i x hx)⟩
theorem IntsIn.news (h : IntsIn W A l) (hn : 0 < l.length) : ∃ ad, A = some ad ∧ ∀ j u, (intV l)[j]? = some u → W.cell? (ad.add j) = some u := by
  obtain ⟨b, off, rfl, _, hi⟩ := h hn
  refine ⟨_, rfl, fun j u hj => ?_⟩
  rw [addr_addB]
  rw [intV_at] at hj
  cases hx : l[j]? with
  | none => rw [hx] at hj; cases hj
  | some x =>
    rw [hx] at hj
    cases hj
    exact hi j x hx
theorem IntsIn.at_ (h : IntsIn W A l) {i : Nat} {x : Int} (hx : l[i]? = some x) : ∃ b off, A = some ⟨b, off, none⟩ ∧ b < W.heap.size ∧ W.cell? ⟨b, off + i, none⟩ = some (.int .i64 x) := by
  obtain ⟨b, off, e, hb, hi⟩ := h (by have := (List.getElem?_eq_some_iff.1 hx).1; omega)
  exact ⟨b, off, e, hb, hi i x hx⟩
theorem IntsIn.take (h : IntsIn W A l) (k : Nat) : IntsIn W A (l.take k) := fun hl => by
  have hl2 : 0 < l.length := by rw [List.length_take] at hl; omega
  obtain ⟨b, off, e, hb, hi⟩ := h hl2
  refine ⟨b, off, e, hb, fun i x hx => hi i x ?_⟩
  rw [List.getElem?_take] at hx
  split at hx
  · exact hx
  · cases hx
theorem Seg.ints {B e n : Nat} {v : Value} (h : Seg W B e 1 v n (intV l)) : ∃ A cap, v = .slice A n cap ∧ n ≤ cap ∧ l.length = n ∧ IntsIn W A l := by
  have hln : l.length = n := by have := h.1; rw [intV_length] at this; omega
  rcases h.2 with ⟨rfl, rfl⟩ | ⟨g, off, cap, cur, rfl, -, h3, h4, -⟩
  · exact ⟨none, 0, rfl, Nat.le_refl _, hln, fun hl => by omega⟩
  · exact ⟨_, cap, rfl, h4, hln, fun _ => ⟨g, off, rfl, (Array.getElem?_eq_some_iff.1 h3).1, fun i x hx => h.cell (intV_get hx)⟩⟩
theorem own_ints {B e n : Nat} {v : Value} (h : W.ownsRow B e 1 v n (intV l)) : ∃ A cap, v = .slice A n cap ∧ n ≤ cap ∧ l.length = n ∧ IntsIn W A l := Seg.ints (Seg.of_own h)
theorem IntsIn.of_items (h : ItemsIn (fun x : Int => [Value.int .i64 x]) 1 W A l) : IntsIn W A l := fun hl => by
  obtain ⟨b, off, e, hb, hi⟩ := h hl
  exact ⟨b, off, e, hb, fun i x hx => by simpa using hi i x hx 0 _ rfl⟩
end

/-- A copy of ints, in memory of its own. -/
def ClonedP (l : List Int) (w : World) (e : Ending) (w' : World) : Prop := ∃ v, e = .returned v ∧ w'.ownsRow w.heap.size 3 1 v l.length (intV l) ∧ Below w.heap.size w w'
set_option maxHeartbeats 1000000 in
theorem iclone_any (g o n cap : Nat) (l : List Int) (hl : l.length = n) (hn : n * 8 ≤ 140737488355328) (w : World) (h : IntsIn w (some ⟨g, o, none⟩) l) :
    Calls Try.prog 69 #[.slice (some ⟨g, o, none⟩) n cap] w (ClonedP l w) := by
  have Hb := Lib.hid h
  have Hl := Lib.hid hl
  have HO := Lib.hid (World.ownsRow_lit (base := w.heap.size) (e := 3) (size := 1) w #[] 0 (Nat.le_refl _) (by unfold maxLen; omega) rfl)
  have HB1 := Lib.hid (fun o => (Below.refl w.heap.size w).alloc (Nat.le_refl _) o)
  have kn := fun W => Lib.run_eql_slice_nil (P := Try.prog) W 53 3 (some ⟨g, o, none⟩) n cap 0 0 Try.underlying53
  simp only [Option.isNone_some] at kn
  clear h hl
  go_enter Try.func69, Try.ntmps69
  go_wp2_with (at_builtin
               refine wpList_append_s rfl (.tmp 5) (.tmp 6) _ rfl w.heap.size 3 (.int .i64 0) 1 8 Try.underlying53 infoInt rfl (by decide) _ 0 [] rfl HO.out (some ⟨g, o, none⟩) n cap (intV l) rfl (by rw [intV_length, Hl.out, Nat.mul_one]) (fun h0 => (Hb.out.below (HB1.out _)).news (by rw [Hl.out]; exact h0)) (intV_one l) (by unfold maxLen; omega) (by omega) (by simp) ?_
               intro v1 w1 h1 h2 h3
               have HF : Hid (ClonedP l w (.returned v1) w1) := Lib.hid ⟨v1, rfl, by rw [Hl.out]; simpa using h1, (HB1.out _).trans (h2.below (by simp) (fun k e => by have e : some w.heap.size = some k := e; cases e; exact Nat.le_refl _))⟩
               clear h1 h2 h3)
  go_ret
  exact HF.out
end Go.Proofs.Ythhbdnjihhpalaa
namespace Go.Proofs.Ythhbdnjihhpalaa
open Go.RowKit Go.Sort
set_option maxRecDepth 100000

theorem apart_grow {F : Nat → Prop} {a w : World} (h : Apart F a w) (os : Array Obj) : Apart F a (grow w os) :=
  ⟨h.os, h.tape, h.output, by have := h.size; simp; omega, fun k hk hF => by rw [heap_grow_old w os (Nat.lt_of_lt_of_le hk h.size)]; exact h.block k hk hF⟩
theorem apart_putRow {enc : Int → Value} (w : World) (g m : Nat) (d : Array Int) : Apart (fun k => k = g) w (putRow enc (Sort.ahead w m) g 0 d) :=
  ⟨rfl, rfl, rfl, by simp [putRow, mapBlock, Sort.ahead], fun k _ hk => by simp [putRow, mapBlock, Sort.ahead, Array.getElem?_modify, show g ≠ k from fun e => hk e.symm]⟩

def SortedP (B g cap : Nat) (l : List Int) (w : World) (e : Ending) (w' : World) : Prop :=
  e = .returned (.tuple #[]) ∧ w'.ownsRow B 3 1 (.slice (some ⟨g, 0, none⟩) l.length cap) l.length (intV (MidP.srt l)) ∧ Apart (fun k => k = g) w w'
theorem sort_any (B g cap : Nat) (l : List Int) (hl : l.length ≤ 1000000) (w : World) (h : w.ownsRow B 3 1 (.slice (some ⟨g, 0, none⟩) l.length cap) l.length (intV l)) :
    Calls Try.prog 70 #[.slice (some ⟨g, 0, none⟩) l.length cap] w (SortedP B g cap l w) := by
  obtain ⟨g', cap', e1, hbg, hlt, -, -, -, hH⟩ := Lib.holds_of_ownsRow (enc := Value.int .i64) h (by simp)
  cases e1
  refine (slices_Sort_int g 0 cap l w hH hlt (by omega)).mono ?_
  rintro e w' ⟨rfl, n, os, rfl⟩
  have ha := apart_grow (apart_putRow (enc := Value.int .i64) w g n (MidP.srt l).toArray) os
  refine ⟨rfl, ?_, ha⟩
  have h1 := Lib.ownsRow_putRow (q := n) (k := l.length) (ys := MidP.srt l) h (MidP.srt_length l) (Nat.le_refl _)
  rw [List.take_of_length_le (by rw [MidP.srt_length]; exact Nat.le_refl _)] at h1
  exact own_apart (F := fun _ => False) h1 (apart_grow (Apart.refl _ _) os) (fun _ _ h => h)

/-- s[lo:hi] of ints. -/
theorem run_slice_ints (W : World) (b o len cap : Nat) (lo hi : Int) (k n : Nat) (hlo : lo = k) (hhi : hi = (k + n : Nat)) (hn : 0 < n) (h2 : k + n ≤ cap) :
    (Instr.slice 53 (.slice (some ⟨b, o, none⟩) len cap) (some (.int .i64 lo)) (some (.int .i64 hi)) none).run Try.prog W = .ok (.slice (some ⟨b, o + k, none⟩) n (cap - k)) W := by
  subst hlo hhi
  have ht' : Try.prog.underlying 53 = some (.slice (Try.prog.elem 53)) := by simp [Program.elem, Try.underlying53]
  have he : Try.prog.elem 53 = 3 := by simp [Program.elem, Try.underlying53]
  rw [run_slice_lh W 53 _ _ _ ht' .i64 .i64 _ _ (by omega) (by omega) (by omega), he, Try.sizeOf3]
  have ha : (⟨b, o, none⟩ : Addr).add (k * 1) = ⟨b, o + k, none⟩ := by rw [Nat.mul_one]; exact addr_addB b o k
  simp only [Result.andThen, sliced, Int.toNat_natCast]
  rw [if_neg (by omega)]
  simp only [Option.map_some, ha]
  congr 2
  omega
/-- A part of a row of one's own. -/
theorem Seg.mid {w : World} {B : Nat} {e : TypeId} {g off n cap : Nat} {l : List Int} (h : Seg w B e 1 (.slice (some ⟨g, off, none⟩) n cap) n (intV l)) {k m : Nat} (hk : k + m ≤ n) : Seg w B e 1 (.slice (some ⟨g, off + k, none⟩) m (cap - k)) m (intV ((l.take (k + m)).drop k)) := by
  have hln : l.length = n := by have := h.1; rw [intV_length] at this; omega
  refine ⟨by rw [intV_length, List.length_drop, List.length_take]; omega, ?_⟩
  rcases h.2 with ⟨h1, -⟩ | ⟨g', off', cap', cur, h1, h2, h3, h4, h5, h6, h7⟩
  · cases h1
  · cases h1
    refine .inr ⟨g, off + k, cap - k, cur, rfl, h2, h3, by omega, by omega, by omega, fun j u hj => ?_⟩
    rw [intV_at, List.getElem?_drop, List.getElem?_take] at hj
    split at hj
    · have := h7 (k + j) u (by rw [intV_at]; exact hj)
      rwa [← Nat.add_assoc] at this
    · cases hj

/-- What Cut answers where it is an error. -/
def CutBad (w : World) (e : Ending) (w' : World) : Prop := e = .returned (.tuple #[.slice none 0 0, .iface 63 (.int .i64 2)]) ∧ w = w'
/-- .. and where it is none. -/
def CutGood (l : List Int) (f : Nat) (w : World) (e : Ending) (w' : World) : Prop :=
  ∃ g off cap, e = .returned (.tuple #[.slice (some ⟨g, off, none⟩) (l.length - 2 * f) cap, .nilIface]) ∧ Seg w' w.heap.size 3 1 (.slice (some ⟨g, off, none⟩) (l.length - 2 * f) cap) (l.length - 2 * f) (intV (MidP.cutT l f)) ∧ Below w.heap.size w w'
/-- May so many be cut off? -/
def Cuts (n : Nat) (f : Int) : Prop := 0 ≤ f ∧ 2 * f + 1 ≤ n

set_option maxHeartbeats 1000000 in
theorem cut_bad (A : Option Addr) (n cap : Nat) (hn : n ≤ 1000000) (f : Int) (hf : ¬ Cuts n f) (w : World) : Calls Try.prog 54 #[.slice A n cap, .int .i64 f] w (CutBad w) := by
  unfold Cuts at hf
  by_cases h0 : f < 0
  · have q0 : decide (f < 0) = true := decide_eq_true h0
    clear h0 hf
    go_enter Try.func54, Try.ntmps54
    go_wp2_with fail
    go_ret2
    exact ⟨rfl, rfl⟩
  · have q0 : decide (f < 0) = false := decide_eq_false h0
    have et : ((n : Int) + 1).tdiv 2 = ((n : Int) + 1) / 2 := Int.tdiv_eq_ediv_of_nonneg (by omega)
    have e1 : IntKind.i64.wrap ((n : Int) + 1) = (n : Int) + 1 := IntWalk.i64_in _ (by omega)
    have e2 : IntKind.i64.wrap (((n : Int) + 1).tdiv 2) = ((n : Int) + 1).tdiv 2 := IntWalk.i64_in _ (by omega)
    have q1 : decide (((n : Int) + 1).tdiv 2 ≤ f) = true := decide_eq_true (by omega)
    clear h0 hf et
    go_enter Try.func54, Try.ntmps54
    go_wp2_with fail
    go_ret2
    exact ⟨rfl, rfl⟩

set_option maxHeartbeats 1000000 in
theorem cut_good (A : Option Addr) (n cap : Nat) (l : List Int) (hl : l.length = n) (hn : n ≤ 1000000) (f : Nat) (hf : 2 * f + 1 ≤ n) (w : World) (h : IntsIn w A l) : Calls Try.prog 54 #[.slice A n cap, .int .i64 (f : Nat)] w (CutGood l f w) := by
  obtain ⟨b, o, rfl, -, -⟩ := h (by omega)
  have q0 : decide (((f : Nat) : Int) < 0) = false := decide_eq_false (by omega)
  have et : ((n : Int) + 1).tdiv 2 = ((n : Int) + 1) / 2 := Int.tdiv_eq_ediv_of_nonneg (by omega)
  have e1 : IntKind.i64.wrap ((n : Int) + 1) = (n : Int) + 1 := IntWalk.i64_in _ (by omega)
  have e2 : IntKind.i64.wrap (((n : Int) + 1).tdiv 2) = ((n : Int) + 1).tdiv 2 := IntWalk.i64_in _ (by omega)
  have q1 : decide (((n : Int) + 1).tdiv 2 ≤ (f : Int)) = false := decide_eq_false (by omega)
  have e3 : IntKind.i64.wrap ((n : Int) - (f : Int)) = (n : Int) - (f : Int) := IntWalk.i64_in _ (by omega)
  have HC := Lib.hid (iclone_any b o n cap l hl (by omega) w h)
  have Hl := Lib.hid hl
  clear h hl et
  go_enter Try.func54, Try.ntmps54
  go_wp2_with fail
  refine HC.out.mono ?_
  rintro e w1 ⟨v, rfl, ho, hb⟩
  rw [Hl.out] at ho
  obtain ⟨g, c, rfl, hnc⟩ : ∃ g c, v = .slice (some ⟨g, 0, none⟩) n c ∧ n ≤ c := by
    rcases ho.2 with ⟨-, h0⟩ | ⟨g, c, cur, rfl, -, -, h1, -⟩
    · omega
    · exact ⟨g, c, rfl, h1⟩
  have HS : Hid (Calls Try.prog 70 #[.slice (some ⟨g, 0, none⟩) n c] w1 (SortedP w.heap.size g c l w1)) := Lib.hid (by
    have := sort_any w.heap.size g c l (by rw [Hl.out]; exact hn) w1 (by rw [Hl.out]; exact ho)
    rwa [Hl.out] at this)
  have hgB : w.heap.size ≤ g := (ho.lt g rfl).1
  have Hb := Lib.hid hb
  have hrs := fun W => run_slice_ints W g 0 n c (f : Int) ((n : Int) - (f : Int)) f (n - 2 * f) rfl (by omega) (by omega) (by omega)
  simp only [Nat.zero_add] at hrs
  clear ho hb HC
  go_wp2_with fail
  refine HS.out.mono ?_
  rintro e w2 ⟨rfl, ho2, ha2⟩
  have HF : Hid (CutGood l f w (.returned (.tuple #[.slice (some ⟨g, f, none⟩) (n - 2 * f) (c - f), .nilIface])) w2) := Lib.hid (by
    rw [Hl.out] at ho2
    have h1 := (Seg.of_own ho2).mid (k := f) (m := n - 2 * f) (by omega)
    rw [Nat.zero_add] at h1
    refine ⟨g, f, c - f, by rw [Hl.out], ?_, Hb.out.trans (ha2.below Hb.out.size (fun k e => by rw [e]; exact hgB))⟩
    unfold MidP.cutT
    rw [Hl.out, show n - f = f + (n - 2 * f) by omega]
    exact h1)
  clear ho2 ha2 HS Hb
  go_wp2_with fail
  go_ret2
  exact HF.out
end Go.Proofs.Ythhbdnjihhpalaa
namespace Go.Proofs.Ythhbdnjihhpalaa
open Go.RowKit Go.Sort
set_option maxRecDepth 100000

set_option maxHeartbeats 1000000 in
theorem halfway_any (a b : Int) (h1 : -9223372036854775808 ≤ a) (h2 : a ≤ b) (h3 : b ≤ 9223372036854775807) (w : World) :
    Calls Try.prog 55 #[.int .i64 a, .int .i64 b] w (Quiet (.int .i64 ((a + b) / 2)) w) := by
  have HF : Hid (wrap64 (a + wrap64 (IntKind.u64.wrap ((IntKind.u64.wrap (IntKind.u64.wrap b - IntKind.u64.wrap a)).tdiv 2))) = (a + b) / 2) := Lib.hid (by
    have e : ∀ x : Int, IntKind.u64.wrap x = x % 18446744073709551616 := fun x => by simp [IntKind.wrap, IntKind.bits, IntKind.signed]
    simp only [e]
    have e2 : (b % 18446744073709551616 - a % 18446744073709551616) % 18446744073709551616 = b - a := by omega
    rw [e2, Int.tdiv_eq_ediv_of_nonneg (by omega)]
    have e3 : (b - a) / 2 % 18446744073709551616 = (b - a) / 2 := by omega
    rw [e3, IntWalk.wrap64_in ((b - a) / 2) ⟨by omega, by omega⟩, MidP.halfway_is]
    exact IntWalk.wrap64_in _ ⟨by omega, by omega⟩)
  clear h1 h2 h3
  go_enter Try.func55, Try.ntmps55
  go_wp2_with fail
  go_ret
  exact ⟨congrArg (fun z => Ending.returned (.int .i64 z)) HF.out, 0, rfl⟩

set_option maxHeartbeats 1000000 in
theorem refhalf_any (a : Int) (h1 : -9223372036854775808 ≤ a) (h3 : a ≤ 9223372036854775807) (w : World) :
    Calls Try.prog 42 #[.int .i64 a, .int .i64 2] w (Quiet (.int .i64 (a / 2)) w) := by
  have hp := Int.mul_tdiv_add_tmod a 2
  have hp2 : -2 < a.tmod 2 ∧ a.tmod 2 < 2 := by
    by_cases h : 0 ≤ a
    · rw [Int.tmod_eq_emod_of_nonneg h]; omega
    · have := Int.neg_tmod (a := -a) (b := 2)
      rw [Int.neg_neg] at this
      rw [this, Int.tmod_eq_emod_of_nonneg (by omega)]
      omega
  have e0 : IntKind.i64.wrap (a.tmod 2) = a.tmod 2 := IntWalk.i64_in _ (by omega)
  by_cases h : a.tmod 2 < 0
  · have q1 : decide (a.tmod 2 < 0) = true := decide_eq_true h
    have e1 : IntKind.i64.wrap (a.tmod 2 + 2) = a.tmod 2 + 2 := IntWalk.i64_in _ (by omega)
    have e2 : IntKind.i64.wrap (a - (a.tmod 2 + 2)) = a - (a.tmod 2 + 2) := IntWalk.i64_in _ (by omega)
    have e3 : (a - (a.tmod 2 + 2)).tdiv 2 = a / 2 := by
      have h4 : a - (a.tmod 2 + 2) = 2 * (a.tdiv 2 - 1) := by omega
      rw [h4, Int.mul_tdiv_cancel_left _ (by decide)]
      omega
    have e4 : IntKind.i64.wrap (a / 2) = a / 2 := IntWalk.i64_in _ (by omega)
    clear h1 h3 hp hp2 h
    go_enter Try.func42, Try.ntmps42
    go_wp2_with fail
    go_ret
    exact ⟨rfl, 0, rfl⟩
  · have q1 : decide (a.tmod 2 < 0) = false := decide_eq_false h
    have e2 : IntKind.i64.wrap (a - a.tmod 2) = a - a.tmod 2 := IntWalk.i64_in _ (by omega)
    have e3 : (a - a.tmod 2).tdiv 2 = a / 2 := by
      have h4 : a - a.tmod 2 = 2 * a.tdiv 2 := by omega
      rw [h4, Int.mul_tdiv_cancel_left _ (by decide)]
      omega
    have e4 : IntKind.i64.wrap (a / 2) = a / 2 := IntWalk.i64_in _ (by omega)
    clear h1 h3 hp hp2 h
    go_enter Try.func42, Try.ntmps42
    go_wp2_with fail
    go_ret
    exact ⟨rfl, 0, rfl⟩

/-- What Middle answers where it is an error. -/
def MidBad (w : World) (e : Ending) (w' : World) : Prop := e = .returned (.tuple #[.int .i64 0, .iface 63 (.int .i64 2)]) ∧ Below w.heap.size w w'
/-- .. and where it is none. -/
def MidGood (m : Int) (w : World) (e : Ending) (w' : World) : Prop := e = .returned (.tuple #[.int .i64 m, .nilIface]) ∧ Below w.heap.size w w'
/-- Ints of the kind int. -/
def Ints (l : List Int) : Prop := MidP.In (-9223372036854775808) 9223372036854775807 l

set_option maxHeartbeats 1000000 in
theorem mid_bad (A : Option Addr) (n cap : Nat) (hn : n ≤ 1000000) (f : Int) (hf : ¬ Cuts n f) (w : World) : Calls Try.prog 36 #[.slice A n cap, .int .i64 f] w (MidBad w) := by
  have HC := Lib.hid (cut_bad A n cap hn f hf w)
  clear hf
  go_enter Try.func36, Try.ntmps36
  go_wp2_with fail
  refine HC.out.mono ?_
  rintro e w1 ⟨rfl, rfl⟩
  go_wp2_with fail
  go_ret2
  exact ⟨rfl, Below.refl _ _⟩

set_option maxHeartbeats 1000000 in
theorem mid_good (A : Option Addr) (n cap : Nat) (l : List Int) (hl : l.length = n) (hn : n ≤ 1000000) (f : Nat) (hf : 2 * f + 1 ≤ n) (w : World) (h : IntsIn w A l) (hi : Ints l) : Calls Try.prog 36 #[.slice A n cap, .int .i64 (f : Nat)] w (MidGood (MidP.midT l f) w) := by
  have HC := Lib.hid (cut_good A n cap l hl hn f hf w h)
  obtain ⟨k, hk⟩ : ∃ k, l.length - 2 * f = k + 1 := ⟨l.length - 2 * f - 1, by omega⟩
  have H1 := Lib.hid (MidP.first_at (l := l) (f := f) (by omega))
  have H2 : Hid ((MidP.cutT l f)[k]? = some (MidP.lastT l f)) := Lib.hid (by
    have := MidP.last_at (l := l) (f := f) (by omega)
    rwa [hk, Nat.add_sub_cancel] at this)
  obtain ⟨⟨i1, i2⟩, i3, i4⟩ := MidP.ends_in hi (f := f) (by omega)
  have i5 := MidP.first_le_last (l := l) (f := f) (by omega)
  have HH := Lib.hid (fun W => halfway_any (MidP.firstT l f) (MidP.lastT l f) i1 i5 i4 W)
  have HM : Hid ((MidP.firstT l f + MidP.lastT l f) / 2 = MidP.midT l f) := Lib.hid rfl
  unfold CutGood at HC
  rw [hk] at HC
  have eK : IntKind.i64.wrap (k : Int) = (k : Int) := IntWalk.i64_in _ (by omega)
  generalize MidP.firstT l f = a at *
  generalize MidP.lastT l f = b at *
  generalize MidP.midT l f = m at *
  generalize MidP.cutT l f = c at *
  clear h hi hl i1 i2 i3 i4 i5 hk hf
  go_enter Try.func36, Try.ntmps36
  go_wp2_with fail
  refine HC.out.mono ?_
  rintro e w1 ⟨g, off, cp, rfl, hs, hb⟩
  have k0 : w1.cell? ⟨g, off, none⟩ = some (.int .i64 a) := hs.cell (intV_get H1.out)
  have k1 : w1.cell? ⟨g, off + k, none⟩ = some (.int .i64 b) := hs.cell (intV_get H2.out)
  have Hb := Lib.hid hb
  clear hs hb HC H1 H2
  go_wp2_with fail
  go_quiet ((go_at_call 55; exact quiet_quiet (HH.out _)))
  go_wp2_with fail
  go_ret2
  exact ⟨congrArg (fun z => Ending.returned (.tuple #[.int .i64 z, .nilIface])) HM.out, below_drewNc Hb.out _⟩
end Go.Proofs.Ythhbdnjihhpalaa
namespace Go.Proofs.Ythhbdnjihhpalaa
open Go.RowKit
set_option maxRecDepth 100000

theorem ikeep {w w' : World} {B e size n : Nat} {v : Value} {xs : List Value} (h : w.ownsRow B e size v n xs) (hb : Below w.heap.size w w') : w'.ownsRow B e size v n xs :=
  own_apart (F := fun _ => False) h (Apart.of_below' hb) (fun _ _ h => h)
theorem ilow {w : World} {B B' e size n : Nat} {v : Value} {xs : List Value} (h : w.ownsRow B e size v n xs) (hb : B' ≤ B) : w.ownsRow B' e size v n xs :=
  ⟨h.1, h.2.imp id fun ⟨g, cap, cur, h1, h2, h3⟩ => ⟨g, cap, cur, h1, Nat.le_trans hb h2, h3⟩⟩
theorem iempty (w : World) : (w.alloc (.cells #[] 3)).ownsRow w.heap.size 3 1 (.slice (some ⟨w.heap.size, 0, none⟩) 0 0) 0 (intV []) :=
  World.ownsRow_lit (e := 3) (size := 1) w #[] 0 (Nat.le_refl _) (by unfold maxLen; omega) rfl
theorem ibelow {W w0 w1 : World} {B n : Nat} {v : Value} {xs : List Value} (hd : Below W.heap.size W w0) (ho : w0.ownsRow B 3 1 v n xs) (hB : W.heap.size ≤ B) (ha : Apart (fun q => v.ownBlock = some q) w0 w1) : Below W.heap.size W w1 :=
  hd.trans (ha.below hd.size (fun q hq => Nat.le_trans hB (ho.lt q hq).1))
theorem run_slice_nil0 {P : Program} (W : World) (t e : TypeId) (ht : P.underlying t = some (.slice e)) (hz : ∀ w, (Go.sizeOf e).run P w = .ok 1 w) :
    (Instr.slice t (.slice none 0 0) (some (.int .i64 0)) none none).run P W = .ok (.slice none 0 0) W := by
  have ht' : P.underlying t = some (.slice (P.elem t)) := by simp [Program.elem, ht]
  have he : P.elem t = e := by simp [Program.elem, ht]
  rw [run_slice_l W t _ _ _ ht' .i64 _ (by omega) (by omega), he, hz]
  simp [Result.andThen, sliced]
/-- out[m:], of ints. -/
theorem icut_from {w : World} {B : Nat} {v : Value} {L : List Int} {n : Nat} (hLn : L.length = n) (h : w.ownsRow B 3 1 v n (intV L)) (m : Nat) (hm : m ≤ n) : ∃ A2 c2, (∀ W, (Instr.slice 53 v (some (.int .i64 (m : Nat))) none none).run Try.prog W = .ok (.slice A2 (n - m) c2) W) ∧
    (∀ (W : World) (B' : Nat), W.ownsRow B' 3 1 v n (intV L) → 0 < n - m → ∃ ad : Addr, A2 = some ad ∧ ∀ (j : Nat) u, (intV (L.drop m))[j]? = some u → W.cell? (ad.add j) = some u) := by
  subst hLn
  rcases h.2 with ⟨rfl, h0⟩ | ⟨g, cap, cur, rfl, -, -, hn, -⟩
  · obtain rfl : m = 0 := by omega
    refine ⟨none, 0, fun W => ?_, fun W B' _ hlt => by omega⟩
    rw [h0]
    exact run_slice_nil0 (P := Try.prog) W 53 3 Try.underlying53 (fun w => by kernel_rfl)
  · refine ⟨_, _, fun W => run_slice_froms (P := Try.prog) W 53 3 1 Try.underlying53 (fun w => by kernel_rfl) g 0 L.length cap (m : Int) m rfl hm, fun W B' hW hlt => ?_⟩
    rw [if_neg (by omega)]
    refine ⟨_, rfl, fun j u hj => ?_⟩
    rw [← intV_drop, List.getElem?_drop] at hj
    rw [addr_addB, show 0 + m * 1 + j = m + j by omega, hW.cellAt (m + j) (by have := (List.getElem?_eq_some_iff.1 hj).1; rw [intV_length] at this; omega)]
    exact hj
/-- out[:m]. -/
theorem icut_to {w : World} {B : Nat} {v : Value} {L : List Int} {n : Nat} (hLn : L.length = n) (h : w.ownsRow B 3 1 v n (intV L)) (m : Nat) (hm : m ≤ n) : ∃ A2 c2, (∀ W, (Instr.slice 53 v none (some (.int .i64 (m : Nat))) none).run Try.prog W = .ok (.slice A2 m c2) W) ∧
    (∀ (W : World) (B' : Nat), W.ownsRow B' 3 1 v n (intV L) → 0 < m → ∃ ad : Addr, A2 = some ad ∧ ∀ (j : Nat) u, (intV (L.take m))[j]? = some u → W.cell? (ad.add j) = some u) := by
  subst hLn
  obtain ⟨A, c, hv, hc⟩ := own_slice h
  have hrun := fun W => run_slice_front (P := Try.prog) W 53 3 1 Try.underlying53 (fun w => by kernel_rfl) A L.length c (m : Int) m rfl (by omega)
  subst hv
  refine ⟨A, c, hrun, fun W B' hW hlt => ?_⟩
  rcases hW.2 with ⟨h1, h0⟩ | ⟨g, cap, cur, h1, -⟩
  · omega
  · cases h1
    refine ⟨_, rfl, fun j u hj => ?_⟩
    have hjm : j < m := by have := (List.getElem?_eq_some_iff.1 hj).1; rw [intV_length, List.length_take] at this; omega
    rw [← intV_take, List.getElem?_take, if_pos hjm] at hj
    rw [addr_addB, show 0 + j = j by omega, hW.cellAt j (by omega)]
    exact hj
/-- The cell of a row of one's own. -/
theorem icell {W : World} {B n : Nat} {A : Option Addr} {cap : Nat} {L : List Int} (h : W.ownsRow B 3 1 (.slice A n cap) n (intV L)) {j : Nat} {x : Int} (hj : L[j]? = some x) (hjn : j < n) :
    ∃ b, A = some ⟨b, 0, none⟩ ∧ W.cell? ⟨b, j, none⟩ = some (.int .i64 x) := by
  rcases h.2 with ⟨h1, h0⟩ | ⟨g, cap', cur, h1, -⟩
  · omega
  · cases h1
    exact ⟨g, rfl, by rw [h.cellAt j (by omega)]; exact intV_get hj⟩

/-- What the document's Sorted answers. -/
def SortedR (l : List Int) (w : World) (e : Ending) (w' : World) : Prop := ∃ v, e = .returned v ∧ w'.ownsRow w.heap.size 3 1 v l.length (intV (MidP.srt l)) ∧ Below w.heap.size w w'
def SoR (w : World) (l : List Int) (v i : Value) (W : World) : Prop := ∃ k, k ≤ l.length ∧ i = .int .i64 (k : Nat) ∧ W.ownsRow w.heap.size 3 1 v k (intV (MidP.srt (l.take k))) ∧ Below w.heap.size w W
def SoI (wk : World) (s : List Int) (x : Int) (k : Nat) (a : Value) (W : World) : Prop := ∃ j, j ≤ k ∧ a = .int .i64 (j : Nat) ∧ (∀ i y, j ≤ i → s[i]? = some y → x < y) ∧ Below wk.heap.size wk W

theorem so_fin {w : World} {l s : List Int} {x : Int} {j k n : Nat} {v3 : Value} {W wc w3 : World} (hs : s = MidP.srt (l.take k)) (hx : l[k]? = some x) (hj : j ≤ k) (h1 : ∀ i y, j ≤ i → s[i]? = some y → x < y) (h0 : 0 < j → ∀ y, s[j - 1]? = some y → y ≤ x)
    (hb : Below w.heap.size w W) (hc : Below W.heap.size W wc) (hd : Below wc.heap.size wc w3) (hn : n = k + 1) (ho : w3.ownsRow wc.heap.size 3 1 v3 n (intV (s.take j) ++ [.int .i64 x] ++ intV (s.drop j))) : SoR w l v3 (.int .i64 ((k : Int) + 1)) w3 := by
  subst hn
  have hkl : k < l.length := (List.getElem?_eq_some_iff.1 hx).1
  have hbc := hb.trans (hc.mono hb.size)
  refine ⟨k + 1, hkl, by go_num, ?_, hbc.trans (hd.mono hbc.size)⟩
  have hsl : s.length = k := by rw [hs, MidP.srt_length, List.length_take]; omega
  have e1 : MidP.srt (l.take (k + 1)) = MidP.insAt x s j := by
    symm
    refine MidP.srt_unique (MidP.insAt_rising (by rw [hs]; exact MidP.srt_rising _) (by omega) (fun y h2 hy => h0 h2 y hy) h1) ?_
    rw [List.take_add_one, hx]
    refine (MidP.insAt_perm x s j).trans ?_
    rw [hs]
    exact (MidP.srt_perm _).append_right _
  rw [e1]
  have e2 : intV (MidP.insAt x s j) = intV (s.take j) ++ [.int .i64 x] ++ intV (s.drop j) := by unfold MidP.insAt intV; simp
  rw [e2]
  exact ilow ho hbc.size

set_option maxHeartbeats 4000000 in
theorem refsorted_any (A : Option Addr) (n cap : Nat) (l : List Int) (hl : l.length = n) (hn : n ≤ 1000000) (w : World) (h : IntsIn w A l) : Calls Try.prog 71 #[.slice A n cap] w (SortedR l w) := by
  have HI := Lib.hid h
  have Hl := Lib.hid hl
  have HS0 : Hid (SoR w l (.slice none 0 0) (.int .i64 0) w) := Lib.hid ⟨0, Nat.zero_le _, rfl, by
    have e : MidP.srt (l.take 0) = [] := by simp [MidP.srt]
    rw [e]
    exact World.ownsRow_nil _ _ _ _, Below.refl _ _⟩
  clear h hl
  go_enter Try.func71, Try.ntmps71
  go_wp2_with fail
  go_loopw [3, 4] (SoR w l) (fun _ i _ => (n + 1 - intOf i).toNat)
  case atStart => exact HS0.out
  case round =>
    clear HS0
    obtain ⟨k, hk, rfl, ho, hb⟩ := hrel
    obtain ⟨wo, ewo⟩ : ∃ wo, wo = wr := ⟨_, rfl⟩
    subst ewo
    by_cases hkn : k < n
    case neg =>
      obtain rfl : k = n := by have := Hl.out; omega
      obtain ⟨Av, cv, rfl, -⟩ := own_slice ho
      have HF : Hid (SortedR l w (.returned (.slice Av k cv)) wo) := Lib.hid ⟨_, rfl, by rw [← Hl.out, List.take_length] at ho; rw [Hl.out] at ho ⊢; exact ho, hb⟩
      have q1 : decide ((k : Int) < (k : Int)) = false := decide_eq_false (by omega)
      clear ho hb hk hkn
      go_wp2_with fail
      go_ret
      exact HF.out
    obtain ⟨x, hx⟩ : ∃ x, l[k]? = some x := ⟨_, List.getElem?_eq_getElem (by rw [Hl.out]; exact hkn)⟩
    obtain ⟨ba, oa, rfl, -, -⟩ := HI.out.at_ hx
    have HX : Hid (∀ W, Below w.heap.size w W → W.cell? ⟨ba, oa + k, none⟩ = some (.int .i64 x)) := Lib.hid fun W hW => by
      obtain ⟨b', o', e', -, h2⟩ := (HI.out.below hW).at_ hx
      cases e'
      exact h2
    have hbw := Lib.hid hb
    obtain ⟨s, hs⟩ : ∃ s, s = MidP.srt (l.take k) := ⟨_, rfl⟩
    rw [← hs] at ho
    have hsk : s.length = k := by rw [hs, MidP.srt_length, List.length_take]; omega
    have HRs := Lib.hid (fun (j : Nat) (hj : j ≤ k) h1 h0 wc (hc : Below wo.heap.size wo wc) v3 w3 n' hd hn' ho' => so_fin (w := w) (l := l) (s := s) (x := x) (j := j) (k := k) (n := n') (v3 := v3) (W := wo) (wc := wc) (w3 := w3) hs hx hj h1 h0 hb hc hd hn' ho')
    obtain ⟨Av, cv, rfl, -⟩ := own_slice ho
    have HO := Lib.hid ho
    have Hsk := Lib.hid hsk
    have HI0 : Hid (SoI wo s x k (.int .i64 (k : Nat)) wo) := Lib.hid ⟨k, Nat.le_refl _, rfl, fun i y h1 h2 => by have := (List.getElem?_eq_some_iff.1 h2).1; omega, Below.refl _ _⟩
    have q1 : decide ((k : Int) < (n : Int)) = true := decide_eq_true (by omega)
    have q1n : decide (k < n) = true := decide_eq_true hkn
    clear hx hs hsk ho hb HI
    go_wp2_with fail
    go_loopw [5] (SoI wo s x k) (fun a _ => (intOf a).toNat)
    case atStart => exact HI0.out
    case round =>
      clear HI0
      obtain ⟨j, hj, rfl, hgt, hbi⟩ := hrel
      have HGt := Lib.hid hgt
      have Hbi := Lib.hid hbi
      have hcx : ∀ W, Below wr.heap.size wr W → W.cell? ⟨ba, oa + k, none⟩ = some (.int .i64 x) := fun W hW => HX.out W (hbw.out.trans ((Hbi.out.trans (hW.mono Hbi.out.size)).mono hbw.out.size))
      obtain ⟨tst, ht1, ht0⟩ : ∃ tst : Bool, (tst = true → 0 < j ∧ ∃ y, s[j - 1]? = some y ∧ x < y) ∧ (tst = false → 0 < j → ∀ y, s[j - 1]? = some y → y ≤ x) := by
        by_cases hh : 0 < j ∧ ∃ y, s[j - 1]? = some y ∧ x < y
        · exact ⟨true, (fun _ => hh), (fun e => by cases e)⟩
        · exact ⟨false, (fun e => by cases e), fun _ h1 y hy => Int.not_lt.1 fun h2 => hh ⟨h1, y, hy, h2⟩⟩
      have Ht1 := Lib.hid ht1
      have Ht0 := Lib.hid ht0
      clear hgt hbi ht1 ht0
      go_upto_region 6 with (fail)
      go_cut [27] (fun v wx => v = .bool tst ∧ Below wr.heap.size wr wx)
      case first =>
        have hd0 : Below wr.heap.size wr wr.drew := (Below.refl _ _).drew
        by_cases hj0 : j = 0
        · subst hj0
          obtain rfl : tst = false := by
            cases tst with
            | false => rfl
            | true => have := (Ht1.out rfl).1; omega
          clear HX HRs HO HGt Hbi Ht1 Ht0 hcx
          go_wp2_with fail
          refine wp_region_held_drew (S := fun W => Below wr.heap.size wr W) (by kernel_rfl) hd0 (fun _ => ?_)
          refine wpAnyH_take (i := 0) (oi := ?oo1) (v := ?vv1) ?ii1 (by kernel_rfl) ?ff1 (by kernel_rfl) ?qq1 (Or.inl ⟨?ww1, ?yy1⟩) hd0 ?rr1
          case ii1 => simp only [List.getElem?_toArray, List.getElem?_cons_zero]; rfl
          case ff1 => kernel_rfl
          case qq1 => exact fun _ _ _ h => h
          case ww1 => rfl
          case yy1 => intro W hW; go_simp <;> with_reducible rfl
          try simp only [Act.put, List.setIfInBounds_toArray, List.set_cons_zero, List.set_cons_succ]
          refine wpAnyH_take (i := 1) (oi := ?oo2) (v := ?vv2) ?ii2 (by kernel_rfl) ?ff2 (by kernel_rfl) ?qq2 (Or.inl ⟨?ww2, ?yy2⟩) hd0 ?rr2
          case ii2 => simp only [List.getElem?_toArray, List.getElem?_cons_succ, List.getElem?_cons_zero]; rfl
          case ff2 => kernel_rfl
          case qq2 => exact fun _ _ _ h => h
          case ww2 => rfl
          case yy2 => intro W hW; go_simp <;> with_reducible rfl
          try simp only [Act.put, List.setIfInBounds_toArray, List.set_cons_zero, List.set_cons_succ]
          refine wpAnyH_take (i := 2) (oi := ?oo3) (v := ?vv3) ?ii3 (by kernel_rfl) ?ff3 (by kernel_rfl) ?qq3 (Or.inl ⟨?ww3, ?yy3⟩) hd0 ?rr3
          case ii3 => simp only [List.getElem?_toArray, List.getElem?_cons_succ, List.getElem?_cons_zero]; rfl
          case ff3 => kernel_rfl
          case qq3 => exact fun _ _ _ h => h
          case ww3 => rfl
          case yy3 => intro W hW; go_simp <;> with_reducible rfl
          try simp only [Act.put, List.setIfInBounds_toArray, List.set_cons_zero, List.set_cons_succ]
          refine wpAnyH_take (i := 3) (oi := ?oo4) (v := undef) ?ii4 (by kernel_rfl) ?ff4 (by kernel_rfl) ?qq4 (Or.inr ⟨?ww4, rfl⟩) hd0 ?rr4
          case ii4 => simp only [List.getElem?_toArray, List.getElem?_cons_succ, List.getElem?_cons_zero]; rfl
          case ff4 => kernel_rfl
          case qq4 => exact fun _ _ _ h => h
          case ww4 => rfl
          try simp only [Act.put, List.setIfInBounds_toArray, List.set_cons_zero, List.set_cons_succ]
          refine wpAnyH_take (i := 4) (oi := ?oo5) (v := undef) ?ii5 (by kernel_rfl) ?ff5 (by kernel_rfl) ?qq5 (Or.inr ⟨?ww5, rfl⟩) hd0 ?rr5
          case ii5 => simp only [List.getElem?_toArray, List.getElem?_cons_succ, List.getElem?_cons_zero]; rfl
          case ff5 => kernel_rfl
          case qq5 => exact fun _ _ _ h => h
          case ww5 => rfl
          try simp only [Act.put, List.setIfInBounds_toArray, List.set_cons_zero, List.set_cons_succ]
          refine wpAnyH_take (i := 5) (oi := ?oo6) (v := undef) ?ii6 (by kernel_rfl) ?ff6 (by kernel_rfl) ?qq6 (Or.inr ⟨?ww6, rfl⟩) hd0 ?rr6
          case ii6 => simp only [List.getElem?_toArray, List.getElem?_cons_succ, List.getElem?_cons_zero]; rfl
          case ff6 => kernel_rfl
          case qq6 => exact fun _ _ _ h => h
          case ww6 => rfl
          try simp only [Act.put, List.setIfInBounds_toArray, List.set_cons_zero, List.set_cons_succ]
          refine wpAnyH_take (i := 6) (oi := ?oo7) (v := undef) ?ii7 (by kernel_rfl) ?ff7 (by kernel_rfl) ?qq7 (Or.inr ⟨?ww7, rfl⟩) hd0 ?rr7
          case ii7 => simp only [List.getElem?_toArray, List.getElem?_cons_succ, List.getElem?_cons_zero]; rfl
          case ff7 => kernel_rfl
          case qq7 => exact fun _ _ _ h => h
          case ww7 => rfl
          try simp only [Act.put, List.setIfInBounds_toArray, List.set_cons_zero, List.set_cons_succ]
          refine wpAnyH_take (i := 7) (oi := ?oo8) (v := undef) ?ii8 (by kernel_rfl) ?ff8 (by kernel_rfl) ?qq8 (Or.inr ⟨?ww8, rfl⟩) hd0 ?rr8
          case ii8 => simp only [List.getElem?_toArray, List.getElem?_cons_succ, List.getElem?_cons_zero]; rfl
          case ff8 => kernel_rfl
          case qq8 => exact fun _ _ _ h => h
          case ww8 => rfl
          try simp only [Act.put, List.setIfInBounds_toArray, List.set_cons_zero, List.set_cons_succ]
          refine wpAnyH_take (i := 8) (oi := ?oo9) (v := undef) ?ii9 (by kernel_rfl) ?ff9 (by kernel_rfl) ?qq9 (Or.inr ⟨?ww9, rfl⟩) hd0 ?rr9
          case ii9 => simp only [List.getElem?_toArray, List.getElem?_cons_succ, List.getElem?_cons_zero]; rfl
          case ff9 => kernel_rfl
          case qq9 => exact fun _ _ _ h => h
          case ww9 => rfl
          try simp only [Act.put, List.setIfInBounds_toArray, List.set_cons_zero, List.set_cons_succ]
          refine wpAnyH_take (i := 9) (oi := ?oo10) (v := undef) ?ii10 (by kernel_rfl) ?ff10 (by kernel_rfl) ?qq10 (Or.inr ⟨?ww10, rfl⟩) hd0 ?rr10
          case ii10 => simp only [List.getElem?_toArray, List.getElem?_cons_succ, List.getElem?_cons_zero]; rfl
          case ff10 => kernel_rfl
          case qq10 => exact fun _ _ _ h => h
          case ww10 => rfl
          try simp only [Act.put, List.setIfInBounds_toArray, List.set_cons_zero, List.set_cons_succ]
          refine wpAnyH_take (i := 10) (oi := ?oo11) (v := undef) ?ii11 (by kernel_rfl) ?ff11 (by kernel_rfl) ?qq11 (Or.inr ⟨?ww11, rfl⟩) hd0 ?rr11
          case ii11 => simp only [List.getElem?_toArray, List.getElem?_cons_succ, List.getElem?_cons_zero]; rfl
          case ff11 => kernel_rfl
          case qq11 => exact fun _ _ _ h => h
          case ww11 => rfl
          try simp only [Act.put, List.setIfInBounds_toArray, List.set_cons_zero, List.set_cons_succ]
          refine wpAnyH_take (i := 11) (oi := ?oo12) (v := undef) ?ii12 (by kernel_rfl) ?ff12 (by kernel_rfl) ?qq12 (Or.inr ⟨?ww12, rfl⟩) hd0 ?rr12
          case ii12 => simp only [List.getElem?_toArray, List.getElem?_cons_succ, List.getElem?_cons_zero]; rfl
          case ff12 => kernel_rfl
          case qq12 => exact fun _ _ _ h => h
          case ww12 => rfl
          try simp only [Act.put, List.setIfInBounds_toArray, List.set_cons_zero, List.set_cons_succ]
          refine wpAnyH_take (i := 12) (oi := ?oo13) (v := undef) ?ii13 (by kernel_rfl) ?ff13 (by kernel_rfl) ?qq13 (Or.inr ⟨?ww13, rfl⟩) hd0 ?rr13
          case ii13 => simp only [List.getElem?_toArray, List.getElem?_cons_succ, List.getElem?_cons_zero]; rfl
          case ff13 => kernel_rfl
          case qq13 => exact fun _ _ _ h => h
          case ww13 => rfl
          try simp only [Act.put, List.setIfInBounds_toArray, List.set_cons_zero, List.set_cons_succ]
          refine wpAnyH_take (i := 13) (oi := ?oo14) (v := ?vv14) ?ii14 (by kernel_rfl) ?ff14 (by kernel_rfl) ?qq14 (Or.inl ⟨?ww14, ?yy14⟩) hd0 ?rr14
          case ii14 => simp only [List.getElem?_toArray, List.getElem?_cons_succ, List.getElem?_cons_zero]; rfl
          case ff14 => kernel_rfl
          case qq14 => exact fun _ _ _ h => h
          case ww14 => rfl
          case yy14 => intro W hW; go_simp <;> with_reducible rfl
          try simp only [Act.put, List.setIfInBounds_toArray, List.set_cons_zero, List.set_cons_succ]
          refine wpAnyH_done (by kernel_rfl) ?_ _
          go_wp2_with fail
          go_meet
          exact ⟨rfl, hd0⟩
        · obtain ⟨q, rfl⟩ : ∃ q, j = q + 1 := ⟨j - 1, by omega⟩
          have hqk : q < k := by omega
          obtain ⟨y, hy⟩ : ∃ y, s[q]? = some y := ⟨_, List.getElem?_eq_getElem (by rw [Hsk.out]; exact hqk)⟩
          obtain ⟨b, rfl, -⟩ := icell (HO.out) hy hqk
          have hcy : ∀ W, Below wr.heap.size wr W → W.cell? ⟨b, q, none⟩ = some (.int .i64 y) := fun W hW => by
            obtain ⟨b', e, c⟩ := icell (ikeep HO.out (Hbi.out.trans (hW.mono Hbi.out.size))) hy hqk
            cases e; exact c
          have etst : decide (x < y) = tst := by
            cases tst with
            | true =>
              obtain ⟨-, y', hy', hlt⟩ := Ht1.out rfl
              rw [Nat.add_sub_cancel, hy] at hy'
              cases hy'
              exact decide_eq_true hlt
            | false => exact decide_eq_false (by have := Ht0.out rfl (by omega) y (by rw [Nat.add_sub_cancel]; exact hy); omega)
          have q2 : decide ((0 : Int) < (q : Int) + 1) = true := decide_eq_true (by omega)
          have eq : IntKind.i64.wrap ((q : Int) + 1 - 1) = (q : Int) := by rw [Int.add_sub_cancel]; exact IntWalk.i64_in _ (by omega)
          have eq2 : IntKind.i64.wrap (q : Int) = (q : Int) := IntWalk.i64_in _ (by omega)
          have hqz : (q : Int) < (k : Int) := by omega
          clear HX HRs HO HGt Hbi Ht1 Ht0 hy
          go_wp2_with fail
          refine wp_region_held_drew (S := fun W => Below wr.heap.size wr W) (by kernel_rfl) hd0 (fun _ => ?_)
          refine wpAnyH_take (i := 0) (oi := ?oo15) (v := ?vv15) ?ii15 (by kernel_rfl) ?ff15 (by kernel_rfl) ?qq15 (Or.inl ⟨?ww15, ?yy15⟩) hd0 ?rr15
          case ii15 => simp only [List.getElem?_toArray, List.getElem?_cons_zero]; rfl
          case ff15 => kernel_rfl
          case qq15 => exact fun _ _ _ h => h
          case ww15 => rfl
          case yy15 => intro W hW; go_simp <;> with_reducible rfl
          try simp only [Act.put, List.setIfInBounds_toArray, List.set_cons_zero, List.set_cons_succ]
          refine wpAnyH_take (i := 1) (oi := ?oo16) (v := ?vv16) ?ii16 (by kernel_rfl) ?ff16 (by kernel_rfl) ?qq16 (Or.inl ⟨?ww16, ?yy16⟩) hd0 ?rr16
          case ii16 => simp only [List.getElem?_toArray, List.getElem?_cons_succ, List.getElem?_cons_zero]; rfl
          case ff16 => kernel_rfl
          case qq16 => exact fun _ _ _ h => h
          case ww16 => rfl
          case yy16 => intro W hW; go_simp <;> with_reducible rfl
          try simp only [Act.put, List.setIfInBounds_toArray, List.set_cons_zero, List.set_cons_succ]
          refine wpAnyH_take (i := 2) (oi := ?oo17) (v := ?vv17) ?ii17 (by kernel_rfl) ?ff17 (by kernel_rfl) ?qq17 (Or.inl ⟨?ww17, ?yy17⟩) hd0 ?rr17
          case ii17 => simp only [List.getElem?_toArray, List.getElem?_cons_succ, List.getElem?_cons_zero]; rfl
          case ff17 => kernel_rfl
          case qq17 => exact fun _ _ _ h => h
          case ww17 => rfl
          case yy17 => intro W hW; go_simp <;> with_reducible rfl
          try simp only [Act.put, List.setIfInBounds_toArray, List.set_cons_zero, List.set_cons_succ]
          refine wpAnyH_take (i := 3) (oi := ?oo18) (v := ?vv18) ?ii18 (by kernel_rfl) ?ff18 (by kernel_rfl) ?qq18 (Or.inl ⟨?ww18, ?yy18⟩) hd0 ?rr18
          case ii18 => simp only [List.getElem?_toArray, List.getElem?_cons_succ, List.getElem?_cons_zero]; rfl
          case ff18 => kernel_rfl
          case qq18 => exact fun _ _ _ h => h
          case ww18 => rfl
          case yy18 => intro W hW; go_simp <;> with_reducible rfl
          try simp only [Act.put, List.setIfInBounds_toArray, List.set_cons_zero, List.set_cons_succ]
          refine wpAnyH_take (i := 4) (oi := ?oo19) (v := ?vv19) ?ii19 (by kernel_rfl) ?ff19 (by kernel_rfl) ?qq19 (Or.inl ⟨?ww19, ?yy19⟩) hd0 ?rr19
          case ii19 => simp only [List.getElem?_toArray, List.getElem?_cons_succ, List.getElem?_cons_zero]; rfl
          case ff19 => kernel_rfl
          case qq19 => exact fun _ _ _ h => h
          case ww19 => rfl
          case yy19 => intro W hW; go_simp <;> with_reducible rfl
          try simp only [Act.put, List.setIfInBounds_toArray, List.set_cons_zero, List.set_cons_succ]
          refine wpAnyH_take (i := 5) (oi := ?oo20) (v := ?vv20) ?ii20 (by kernel_rfl) ?ff20 (by kernel_rfl) ?qq20 (Or.inl ⟨?ww20, ?yy20⟩) hd0 ?rr20
          case ii20 => simp only [List.getElem?_toArray, List.getElem?_cons_succ, List.getElem?_cons_zero]; rfl
          case ff20 => kernel_rfl
          case qq20 => exact fun _ _ _ h => h
          case ww20 => rfl
          case yy20 => intro W hW; go_simp <;> with_reducible rfl
          try simp only [Act.put, List.setIfInBounds_toArray, List.set_cons_zero, List.set_cons_succ]
          refine wpAnyH_take (i := 6) (oi := ?oo21) (v := ?vv21) ?ii21 (by kernel_rfl) ?ff21 (by kernel_rfl) ?qq21 (Or.inl ⟨?ww21, ?yy21⟩) hd0 ?rr21
          case ii21 => simp only [List.getElem?_toArray, List.getElem?_cons_succ, List.getElem?_cons_zero]; rfl
          case ff21 => kernel_rfl
          case qq21 => exact fun _ _ _ h => h
          case ww21 => rfl
          case yy21 => intro W hW; go_simp <;> with_reducible rfl
          try simp only [Act.put, List.setIfInBounds_toArray, List.set_cons_zero, List.set_cons_succ]
          refine wpAnyH_take (i := 7) (oi := ?oo22) (v := ?vv22) ?ii22 (by kernel_rfl) ?ff22 (by kernel_rfl) ?qq22 (Or.inl ⟨?ww22, ?yy22⟩) hd0 ?rr22
          case ii22 => simp only [List.getElem?_toArray, List.getElem?_cons_succ, List.getElem?_cons_zero]; rfl
          case ff22 => kernel_rfl
          case qq22 => exact fun _ _ _ h => h
          case ww22 => rfl
          case yy22 => intro W hW; go_simp <;> with_reducible rfl
          try simp only [Act.put, List.setIfInBounds_toArray, List.set_cons_zero, List.set_cons_succ]
          refine wpAnyH_take (i := 8) (oi := ?oo23) (v := ?vv23) ?ii23 (by kernel_rfl) ?ff23 (by kernel_rfl) ?qq23 (Or.inl ⟨?ww23, ?yy23⟩) hd0 ?rr23
          case ii23 => simp only [List.getElem?_toArray, List.getElem?_cons_succ, List.getElem?_cons_zero]; rfl
          case ff23 => kernel_rfl
          case qq23 => exact fun _ _ _ h => h
          case ww23 => rfl
          case yy23 => intro W hW; go_simp <;> with_reducible rfl
          try simp only [Act.put, List.setIfInBounds_toArray, List.set_cons_zero, List.set_cons_succ]
          refine wpAnyH_take (i := 9) (oi := ?oo24) (v := ?vv24) ?ii24 (by kernel_rfl) ?ff24 (by kernel_rfl) ?qq24 (Or.inl ⟨?ww24, ?yy24⟩) hd0 ?rr24
          case ii24 => simp only [List.getElem?_toArray, List.getElem?_cons_succ, List.getElem?_cons_zero]; rfl
          case ff24 => kernel_rfl
          case qq24 => exact fun _ _ _ h => h
          case ww24 => rfl
          case yy24 => intro W hW; go_simp <;> with_reducible rfl
          try simp only [Act.put, List.setIfInBounds_toArray, List.set_cons_zero, List.set_cons_succ]
          refine wpAnyH_take (i := 10) (oi := ?oo25) (v := ?vv25) ?ii25 (by kernel_rfl) ?ff25 (by kernel_rfl) ?qq25 (Or.inl ⟨?ww25, ?yy25⟩) hd0 ?rr25
          case ii25 => simp only [List.getElem?_toArray, List.getElem?_cons_succ, List.getElem?_cons_zero]; rfl
          case ff25 => kernel_rfl
          case qq25 => exact fun _ _ _ h => h
          case ww25 => rfl
          case yy25 => intro W hW; go_simp <;> with_reducible rfl
          try simp only [Act.put, List.setIfInBounds_toArray, List.set_cons_zero, List.set_cons_succ]
          refine wpAnyH_take (i := 11) (oi := ?oo26) (v := ?vv26) ?ii26 (by kernel_rfl) ?ff26 (by kernel_rfl) ?qq26 (Or.inl ⟨?ww26, ?yy26⟩) hd0 ?rr26
          case ii26 => simp only [List.getElem?_toArray, List.getElem?_cons_succ, List.getElem?_cons_zero]; rfl
          case ff26 => kernel_rfl
          case qq26 => exact fun _ _ _ h => h
          case ww26 => rfl
          case yy26 => intro W hW; go_simp <;> with_reducible rfl
          try simp only [Act.put, List.setIfInBounds_toArray, List.set_cons_zero, List.set_cons_succ]
          refine wpAnyH_take (i := 12) (oi := ?oo27) (v := ?vv27) ?ii27 (by kernel_rfl) ?ff27 (by kernel_rfl) ?qq27 (Or.inl ⟨?ww27, ?yy27⟩) hd0 ?rr27
          case ii27 => simp only [List.getElem?_toArray, List.getElem?_cons_succ, List.getElem?_cons_zero]; rfl
          case ff27 => kernel_rfl
          case qq27 => exact fun _ _ _ h => h
          case ww27 => rfl
          case yy27 => intro W hW; go_simp <;> with_reducible rfl
          try simp only [Act.put, List.setIfInBounds_toArray, List.set_cons_zero, List.set_cons_succ]
          refine wpAnyH_take (i := 13) (oi := ?oo28) (v := ?vv28) ?ii28 (by kernel_rfl) ?ff28 (by kernel_rfl) ?qq28 (Or.inl ⟨?ww28, ?yy28⟩) hd0 ?rr28
          case ii28 => simp only [List.getElem?_toArray, List.getElem?_cons_succ, List.getElem?_cons_zero]; rfl
          case ff28 => kernel_rfl
          case qq28 => exact fun _ _ _ h => h
          case ww28 => rfl
          case yy28 => intro W hW; go_simp <;> with_reducible rfl
          try simp only [Act.put, List.setIfInBounds_toArray, List.set_cons_zero, List.set_cons_succ]
          refine wpAnyH_done (by kernel_rfl) ?_ _
          go_wp2_with fail
          go_meet
          exact ⟨rfl, hd0⟩
      case rest =>
      obtain ⟨rfl, hS2⟩ := hcut
      have HS2 := Lib.hid hS2
      clear hS2 hcx
      cases htv : tst with
      | true =>
        obtain ⟨hj0, y, hy, hxy⟩ := Ht1.out htv
        obtain ⟨q, rfl⟩ : ∃ q, j = q + 1 := ⟨j - 1, by omega⟩
        rw [Nat.add_sub_cancel] at hy
        have eq : IntKind.i64.wrap ((q : Int) + 1 - 1) = (q : Int) := by rw [Int.add_sub_cancel]; exact IntWalk.i64_in _ (by omega)
        have eq2 : IntKind.i64.wrap (q : Int) = (q : Int) := IntWalk.i64_in _ (by omega)
        have HR2 : Hid (SoI wo s x k (.int .i64 (q : Nat)) wc) := Lib.hid ⟨q, by omega, rfl, fun i z h1 h2 => by
          rcases Nat.lt_or_eq_of_le h1 with h3 | h3
          · exact HGt.out i z h3 h2
          · subst h3
            rw [hy] at h2
            cases h2
            exact hxy, Hbi.out.trans (HS2.out.mono Hbi.out.size)⟩
        clear HX HRs HO HGt Hbi Ht1 Ht0 hy htv HS2 hxy
        go_wp2_with fail
        go_roundw
        case rel => exact HR2.out
        case measure => simp [intOf]
      | false =>
      have hcw : Below wo.heap.size wo wc := Hbi.out.trans (HS2.out.mono Hbi.out.size)
      have HRr := Lib.hid (fun v3 w3 n' (hd : Below wc.heap.size wc w3) hn' ho' => HRs.out j hj HGt.out (Ht0.out htv) wc hcw v3 w3 n' hd hn' ho')
      have hOw := ikeep HO.out hcw
      obtain ⟨A1, c1, hrun1, hc1⟩ := icut_to Hsk.out hOw j hj
      obtain ⟨A2, c2, hrun2, hc2⟩ := icut_from Hsk.out hOw j hj
      have Hc1 := Lib.hid (fun W (hW : Below wc.heap.size wc W) => hc1 W _ (ikeep hOw hW))
      have Hc2 := Lib.hid (fun W (hW : Below wc.heap.size wc W) => hc2 W _ (ikeep hOw hW))
      have hcx : ∀ W, Below wc.heap.size wc W → W.cell? ⟨ba, oa + k, none⟩ = some (.int .i64 x) := fun W hW => HX.out W (hbw.out.trans ((hcw.trans (hW.mono hcw.size)).mono hbw.out.size))
      have hd0 : Below wc.heap.size wc wc.drew := (Below.refl _ _).drew
      have elt : (intV (s.take j)).length = j * 1 := by rw [intV_length, List.length_take, Hsk.out]; omega
      have eld : (intV (s.drop j)).length = (k - j) * 1 := by rw [intV_length, List.length_drop, Hsk.out]; omega
      clear HX HRs HO HGt Hbi Ht1 Ht0 htv HS2 hcw hOw hc1 hc2
      have HsO : (wc.drew.alloc (.cells #[.int .i64 x] 3)).heap.size = wc.heap.size + 1 := Array.size_push _
      have HsN : (wc.drew.alloc (.cells #[] 3)).heap.size = wc.heap.size + 1 := Array.size_push _
      have HsO2 : ((wc.drew.alloc (.cells #[.int .i64 x] 3)).alloc (.cells #[] 3)).heap.size = wc.heap.size + 1 + 1 := by rw [← HsO]; exact Array.size_push _
      have HsN2 : ((wc.drew.alloc (.cells #[] 3)).alloc (.cells #[.int .i64 x] 3)).heap.size = wc.heap.size + 1 + 1 := by rw [← HsN]; exact Array.size_push _
      have HoA2 : Hid (((wc.drew.alloc (.cells #[] 3)).alloc (.cells #[.int .i64 x] 3)).ownsRow wc.heap.size 3 1 (.slice (some ⟨wc.heap.size, 0, none⟩) 0 0) 0 (intV [])) := Lib.hid (ikeep (iempty wc.drew) ((Below.refl (wc.drew.alloc (.cells #[] 3)).heap.size (wc.drew.alloc (.cells #[] 3))).alloc (Nat.le_refl _) (.cells #[.int .i64 x] 3)))
      have HoB2 : Hid (((wc.drew.alloc (.cells #[.int .i64 x] 3)).alloc (.cells #[] 3)).ownsRow wc.heap.size 3 1 (.slice (some ⟨wc.heap.size + 1, 0, none⟩) 0 0) 0 (intV [])) := Lib.hid (by
        have h9 := iempty (wc.drew.alloc (.cells #[.int .i64 x] 3))
        rw [HsO] at h9
        exact ilow h9 (by omega))
      have HcA2 : Hid (∀ w1, Apart (fun q => (Value.slice (some ⟨wc.heap.size, 0, none⟩) 0 0).ownBlock = some q) ((wc.drew.alloc (.cells #[] 3)).alloc (.cells #[.int .i64 x] 3)) w1 → w1.cell? ⟨wc.heap.size + 1, 0, none⟩ = some (.int .i64 x)) := Lib.hid fun w1 ha => by
        have h9 := heap_alloc_new (wc.drew.alloc (.cells #[] 3)) (.cells #[.int .i64 x] 3 (0, 0))
        rw [HsN] at h9
        refine (ha.cell (p := ⟨wc.heap.size + 1, 0, none⟩) (by rw [HsN2]; simp only; omega) (fun e => ?_)).trans (cell_at h9 0 rfl)
        simp only [Value.ownBlock, Option.some.injEq] at e
        omega
      have HcB2 : Hid (∀ w1, Apart (fun q => (Value.slice (some ⟨wc.heap.size + 1, 0, none⟩) 0 0).ownBlock = some q) ((wc.drew.alloc (.cells #[.int .i64 x] 3)).alloc (.cells #[] 3)) w1 → w1.cell? ⟨wc.heap.size, 0, none⟩ = some (.int .i64 x)) := Lib.hid fun w1 ha => by
        have h9 : ((wc.drew.alloc (.cells #[.int .i64 x] 3)).alloc (.cells #[] 3)).heap[wc.heap.size]? = some (.cells #[.int .i64 x] 3 (0, 0)) := (Below.heap_alloc _ _ _ (by rw [HsO]; omega)).trans (heap_alloc_new wc.drew _)
        refine (ha.cell (p := ⟨wc.heap.size, 0, none⟩) (by rw [HsO2]; simp only; omega) (fun e => ?_)).trans (cell_at h9 0 rfl)
        simp only [Value.ownBlock, Option.some.injEq] at e
        omega
      go_wp2_with fail
      refine wp_region_held_drew (S := fun W => Below wc.heap.size wc W) (by kernel_rfl) hd0 (fun _ => ?_)
      refine wpAnyH_take (i := 1) (oi := ?oo29) (v := ?vv29) ?ii29 (by kernel_rfl) ?ff29 (by kernel_rfl) ?qq29 (Or.inl ⟨?ww29, ?yy29⟩) hd0 ?rr29
      case ii29 => simp only [List.getElem?_toArray, List.getElem?_cons_succ, List.getElem?_cons_zero]; rfl
      case ff29 => kernel_rfl
      case qq29 => exact fun _ _ _ h => h
      case ww29 => rfl
      case yy29 => intro W hW; go_simp <;> with_reducible rfl
      try simp only [Act.put, List.setIfInBounds_toArray, List.set_cons_zero, List.set_cons_succ]
      refine wpAnyH_take (i := 2) (oi := ?oo30) (v := ?vv30) ?ii30 (by kernel_rfl) ?ff30 (by kernel_rfl) ?qq30 (Or.inl ⟨?ww30, ?yy30⟩) hd0 ?rr30
      case ii30 => simp only [List.getElem?_toArray, List.getElem?_cons_succ, List.getElem?_cons_zero]; rfl
      case ff30 => kernel_rfl
      case qq30 => exact fun _ _ _ h => h
      case ww30 => rfl
      case yy30 => intro W hW; go_simp <;> with_reducible rfl
      try simp only [Act.put, List.setIfInBounds_toArray, List.set_cons_zero, List.set_cons_succ]
      refine wpAnyH_take (i := 3) (oi := ?oo31) (v := ?vv31) ?ii31 (by kernel_rfl) ?ff31 (by kernel_rfl) ?qq31 (Or.inl ⟨?ww31, ?yy31⟩) hd0 ?rr31
      case ii31 => simp only [List.getElem?_toArray, List.getElem?_cons_succ, List.getElem?_cons_zero]; rfl
      case ff31 => kernel_rfl
      case qq31 => exact fun _ _ _ h => h
      case ww31 => rfl
      case yy31 => intro W hW; go_simp <;> with_reducible rfl
      try simp only [Act.put, List.setIfInBounds_toArray, List.set_cons_zero, List.set_cons_succ]
      refine wpAnyH_take (i := 5) (oi := ?oo32) (v := ?vv32) ?ii32 (by kernel_rfl) ?ff32 (by kernel_rfl) ?qq32 (Or.inl ⟨?ww32, ?yy32⟩) hd0 ?rr32
      case ii32 => simp only [List.getElem?_toArray, List.getElem?_cons_succ, List.getElem?_cons_zero]; rfl
      case ff32 => kernel_rfl
      case qq32 => exact fun _ _ _ h => h
      case ww32 => rfl
      case yy32 => intro W hW; go_simp <;> with_reducible rfl
      try simp only [Act.put, List.setIfInBounds_toArray, List.set_cons_zero, List.set_cons_succ]
      refine wpAnyH_take (i := 6) (oi := ?oo33) (v := ?vv33) ?ii33 (by kernel_rfl) ?ff33 (by kernel_rfl) ?qq33 (Or.inl ⟨?ww33, ?yy33⟩) hd0 ?rr33
      case ii33 => simp only [List.getElem?_toArray, List.getElem?_cons_succ, List.getElem?_cons_zero]; rfl
      case ff33 => kernel_rfl
      case qq33 => exact fun _ _ _ h => h
      case ww33 => rfl
      case yy33 => intro W hW; go_simp <;> with_reducible rfl
      try simp only [Act.put, List.setIfInBounds_toArray, List.set_cons_zero, List.set_cons_succ]
      refine wpAnyH_take (i := 7) (oi := ?oo34) (v := ?vv34) ?ii34 (by kernel_rfl) ?ff34 (by kernel_rfl) ?qq34 (Or.inl ⟨?ww34, ?yy34⟩) hd0 ?rr34
      case ii34 => simp only [List.getElem?_toArray, List.getElem?_cons_succ, List.getElem?_cons_zero]; rfl
      case ff34 => kernel_rfl
      case qq34 => exact fun _ _ _ h => h
      case ww34 => rfl
      case yy34 => intro W hW; go_simp <;> with_reducible rfl
      try simp only [Act.put, List.setIfInBounds_toArray, List.set_cons_zero, List.set_cons_succ]
      refine wpAnyH_take (i := 8) (oi := ?oo35) (v := ?vv35) ?ii35 (by kernel_rfl) ?ff35 (by kernel_rfl) ?qq35 (Or.inl ⟨?ww35, ?yy35⟩) hd0 ?rr35
      case ii35 => simp only [List.getElem?_toArray, List.getElem?_cons_succ, List.getElem?_cons_zero]; rfl
      case ff35 => kernel_rfl
      case qq35 => exact fun _ _ _ h => h
      case ww35 => rfl
      case yy35 => intro W hW; go_simp <;> with_reducible rfl
      try simp only [Act.put, List.setIfInBounds_toArray, List.set_cons_zero, List.set_cons_succ]
      refine wpAnyH_take (i := 11) (oi := ?oo36) (v := ?vv36) ?ii36 (by kernel_rfl) ?ff36 (by kernel_rfl) ?qq36 (Or.inl ⟨?ww36, ?yy36⟩) hd0 ?rr36
      case ii36 => simp only [List.getElem?_toArray, List.getElem?_cons_succ, List.getElem?_cons_zero]; rfl
      case ff36 => kernel_rfl
      case qq36 => exact fun _ _ _ h => h
      case ww36 => rfl
      case yy36 => intro W hW; go_simp <;> with_reducible rfl
      try simp only [Act.put, List.setIfInBounds_toArray, List.set_cons_zero, List.set_cons_succ]
      refine wpAnyH_take (i := 12) (oi := ?oo37) (v := ?vv37) ?ii37 (by kernel_rfl) ?ff37 (by kernel_rfl) ?qq37 (Or.inl ⟨?ww37, ?yy37⟩) hd0 ?rr37
      case ii37 => simp only [List.getElem?_toArray, List.getElem?_cons_succ, List.getElem?_cons_zero]; rfl
      case ff37 => kernel_rfl
      case qq37 => exact fun _ _ _ h => h
      case ww37 => rfl
      case yy37 => intro W hW; go_simp <;> with_reducible rfl
      try simp only [Act.put, List.setIfInBounds_toArray, List.set_cons_zero, List.set_cons_succ]
      refine wpAnyH_take (i := 13) (oi := ?oo38) (v := ?vv38) ?ii38 (by kernel_rfl) ?ff38 (by kernel_rfl) ?qq38 (Or.inl ⟨?ww38, ?yy38⟩) hd0 ?rr38
      case ii38 => simp only [List.getElem?_toArray, List.getElem?_cons_succ, List.getElem?_cons_zero]; rfl
      case ff38 => kernel_rfl
      case qq38 => exact fun _ _ _ h => h
      case ww38 => rfl
      case yy38 => intro W hW; go_simp <;> with_reducible rfl
      try simp only [Act.put, List.setIfInBounds_toArray, List.set_cons_zero, List.set_cons_succ]
      refine wpAnyH_ready (rs := [0, 9]) (by kernel_rfl) (by simp) ?_
      refine AllReadyH.cons (o := ?oa1) ?ia1 (fun K hK => ?_) (AllReadyH.cons (o := ?ob1) ?ib1 (fun K hK => ?_) AllReadyH.nil)
      case ia1 => simp only [List.getElem?_toArray, List.getElem?_cons_zero]; rfl
      case ib1 => simp only [List.getElem?_toArray, List.getElem?_cons_succ, List.getElem?_cons_zero]; rfl
      · go_simp
        refine hK.out _ _ ?h2 (fun _ => ?_)
        case h2 => exact hd0.alloc hd0.size (.cells #[] 3)
        clear hK K
        refine wpAnyH_ready (rs := [4, 9]) (by kernel_rfl) (by simp) ?_
        refine AllReadyH.cons (o := ?oa3) ?ia3 (fun K hK => ?_) (AllReadyH.cons (o := ?ob3) ?ib3 (fun K hK => ?_) AllReadyH.nil)
        case ia3 => simp only [List.getElem?_toArray, List.getElem?_cons_succ, List.getElem?_cons_zero]; rfl
        case ib3 => simp only [List.getElem?_toArray, List.getElem?_cons_succ, List.getElem?_cons_zero]; rfl
        · refine step_append_m rfl (.tmp 30) (.tmp 33) _ rfl wc.heap.size 3 _ 1 8 Try.underlying53 infoInt rfl (by omega) _ 0 _ rfl (iempty wc.drew) A1 j c1 (intV (s.take j)) rfl elt (Hc1.out _ (hd0.alloc hd0.size (.cells #[] 3))) (intV_one _) (by unfold maxLen; omega) (by omega) ((hd0.alloc hd0.size (.cells #[] 3)).size) ?_
          intro v1 w1 ho1 ha1 _
          rw [Nat.zero_add] at ho1
          have hd1 := ibelow (hd0.alloc hd0.size (.cells #[] 3)) (iempty wc.drew) (Nat.le_refl _) ha1
          have Ho1 := Lib.hid ho1
          clear ho1 ha1
          go_wp2_with fail
          refine hK.out _ _ hd1 (fun _ => ?_)
          clear hK K
          refine wpAnyH_ready (rs := [9]) (by kernel_rfl) (by simp) ?_
          refine AllReadyH.cons (o := ?o4) ?i4 (fun K hK => ?_) AllReadyH.nil
          case i4 => simp only [List.getElem?_toArray, List.getElem?_cons_succ, List.getElem?_cons_zero]; rfl
          go_simp
          refine hK.out _ _ ?h5 (fun _ => ?_)
          case h5 => exact hd1.alloc hd1.size _
          clear hK K
          have hdk := hd1.alloc hd1.size (.cells #[.int .i64 x] 3)
          have ck := cell_at (heap_alloc_new w1 (.cells #[.int .i64 x] 3 (0, 0))) 0 rfl
          have Ho1k := Lib.hid (ikeep Ho1.out ((Below.refl w1.heap.size w1).alloc (Nat.le_refl _) (.cells #[.int .i64 x] 3)))
          refine wpAnyH_ready (rs := [10]) (by kernel_rfl) (by simp) ?_
          refine AllReadyH.cons (o := ?oo39) ?ii39 (fun K hK => ?_) AllReadyH.nil
          case ii39 => simp only [List.getElem?_toArray, List.getElem?_cons_succ, List.getElem?_cons_zero]; rfl
          refine step_append_m rfl (.tmp 34) (.tmp 39) _ rfl wc.heap.size 3 _ 1 8 Try.underlying53 infoInt rfl (by omega) _ _ _ rfl (Ho1k.out) _ 1 1 [.int .i64 x] rfl rfl (fun _ => ⟨_, rfl, fun j u hj => by
              match j, hj with
              | 0, hj =>
                cases hj
                exact ck⟩) (fun u hu => by rw [List.mem_singleton.1 hu]; rfl) (by unfold maxLen; omega) (by omega) ((hdk).size) ?_
          intro v2 w2 ho2 ha2 _
          have hd2 := ibelow hdk (Ho1k.out) (Nat.le_refl _) ha2
          have Ho2 := Lib.hid ho2
          clear ho2 ha2
          go_wp2_with fail
          refine hK.out _ _ hd2 (fun _ => ?_)
          clear hK K
          refine wpAnyH_ready (rs := [14]) (by kernel_rfl) (by simp) ?_
          refine AllReadyH.cons (o := ?oo40) ?ii40 (fun K hK => ?_) AllReadyH.nil
          case ii40 => simp only [List.getElem?_toArray, List.getElem?_cons_succ, List.getElem?_cons_zero]; rfl
          refine step_append_m rfl (.tmp 40) (.tmp 43) _ rfl wc.heap.size 3 _ 1 8 Try.underlying53 infoInt rfl (by omega) _ _ _ rfl (Ho2.out) A2 (k - j) c2 (intV (s.drop j)) rfl eld (Hc2.out _ hd2) (intV_one _) (by unfold maxLen; omega) (by omega) ((hd2).size) ?_
          intro v3 w3 ho3 ha3 _
          have hd3 := ibelow hd2 Ho2.out (Nat.le_refl _) ha3
          have HR3 := Lib.hid (HRr.out v3 w3 _ hd3 (by omega) ho3)
          obtain ⟨A3, c3, hv3, -⟩ := own_slice ho3
          subst hv3
          clear ho3 ha3
          go_wp2_with fail
          refine hK.out _ _ hd3 (fun _ => ?_)
          clear hK K
          refine wpAnyH_take (i := 15) (oi := ?oo41) (v := ?vv41) ?ii41 (by kernel_rfl) ?ff41 (by kernel_rfl) ?qq41 (Or.inl ⟨?ww41, ?yy41⟩) hd3 ?rr41
          case ii41 => simp only [List.getElem?_toArray, List.getElem?_cons_succ, List.getElem?_cons_zero]; rfl
          case ff41 => kernel_rfl
          case qq41 => exact fun _ _ _ h => h
          case ww41 => rfl
          case yy41 => intro W hW; go_simp <;> with_reducible rfl
          try simp only [Act.put, List.setIfInBounds_toArray, List.set_cons_zero, List.set_cons_succ]
          refine wpAnyH_done (by kernel_rfl) ?_ _
          go_wp2_with fail
          go_roundw
          case rel => exact HR3.out
          case measure => simp [intOf]; omega
        · go_simp
          refine hK.out _ _ ?h6 (fun _ => ?_)
          case h6 => exact (hd0.alloc hd0.size (.cells #[] 3)).alloc (hd0.alloc hd0.size (.cells #[] 3)).size (.cells #[.int .i64 x] 3)
          clear hK K
          refine wpAnyH_ready (rs := [4]) (by kernel_rfl) (by simp) ?_
          refine AllReadyH.cons (o := ?oo42) ?ii42 (fun K hK => ?_) AllReadyH.nil
          case ii42 => simp only [List.getElem?_toArray, List.getElem?_cons_succ, List.getElem?_cons_zero]; rfl
          refine step_append_m rfl (.tmp 30) (.tmp 33) _ rfl wc.heap.size 3 _ 1 8 Try.underlying53 infoInt rfl (by omega) _ 0 _ rfl (HoA2.out) A1 j c1 (intV (s.take j)) rfl elt (Hc1.out _ ((hd0.alloc hd0.size (.cells #[] 3)).alloc (hd0.alloc hd0.size (.cells #[] 3)).size (.cells #[.int .i64 x] 3))) (intV_one _) (by unfold maxLen; omega) (by omega) (((hd0.alloc hd0.size (.cells #[] 3)).alloc (hd0.alloc hd0.size (.cells #[] 3)).size (.cells #[.int .i64 x] 3)).size) ?_
          intro v1 w1 ho1 ha1 _
          rw [Nat.zero_add] at ho1
          have hd1 := ibelow ((hd0.alloc hd0.size (.cells #[] 3)).alloc (hd0.alloc hd0.size (.cells #[] 3)).size (.cells #[.int .i64 x] 3)) (HoA2.out) (Nat.le_refl _) ha1
          have ck := HcA2.out w1 ha1
          have Ho1 := Lib.hid ho1
          clear ho1 ha1
          go_wp2_with fail
          refine hK.out _ _ hd1 (fun _ => ?_)
          clear hK K
          refine wpAnyH_ready (rs := [10]) (by kernel_rfl) (by simp) ?_
          refine AllReadyH.cons (o := ?oo43) ?ii43 (fun K hK => ?_) AllReadyH.nil
          case ii43 => simp only [List.getElem?_toArray, List.getElem?_cons_succ, List.getElem?_cons_zero]; rfl
          refine step_append_m rfl (.tmp 34) (.tmp 39) _ rfl wc.heap.size 3 _ 1 8 Try.underlying53 infoInt rfl (by omega) _ _ _ rfl (Ho1.out) _ 1 1 [.int .i64 x] rfl rfl (fun _ => ⟨_, rfl, fun j u hj => by
              match j, hj with
              | 0, hj =>
                cases hj
                exact ck⟩) (fun u hu => by rw [List.mem_singleton.1 hu]; rfl) (by unfold maxLen; omega) (by omega) ((hd1).size) ?_
          intro v2 w2 ho2 ha2 _
          have hd2 := ibelow hd1 (Ho1.out) (Nat.le_refl _) ha2
          have Ho2 := Lib.hid ho2
          clear ho2 ha2
          go_wp2_with fail
          refine hK.out _ _ hd2 (fun _ => ?_)
          clear hK K
          refine wpAnyH_ready (rs := [14]) (by kernel_rfl) (by simp) ?_
          refine AllReadyH.cons (o := ?oo44) ?ii44 (fun K hK => ?_) AllReadyH.nil
          case ii44 => simp only [List.getElem?_toArray, List.getElem?_cons_succ, List.getElem?_cons_zero]; rfl
          refine step_append_m rfl (.tmp 40) (.tmp 43) _ rfl wc.heap.size 3 _ 1 8 Try.underlying53 infoInt rfl (by omega) _ _ _ rfl (Ho2.out) A2 (k - j) c2 (intV (s.drop j)) rfl eld (Hc2.out _ hd2) (intV_one _) (by unfold maxLen; omega) (by omega) ((hd2).size) ?_
          intro v3 w3 ho3 ha3 _
          have hd3 := ibelow hd2 Ho2.out (Nat.le_refl _) ha3
          have HR3 := Lib.hid (HRr.out v3 w3 _ hd3 (by omega) ho3)
          obtain ⟨A3, c3, hv3, -⟩ := own_slice ho3
          subst hv3
          clear ho3 ha3
          go_wp2_with fail
          refine hK.out _ _ hd3 (fun _ => ?_)
          clear hK K
          refine wpAnyH_take (i := 15) (oi := ?oo45) (v := ?vv45) ?ii45 (by kernel_rfl) ?ff45 (by kernel_rfl) ?qq45 (Or.inl ⟨?ww45, ?yy45⟩) hd3 ?rr45
          case ii45 => simp only [List.getElem?_toArray, List.getElem?_cons_succ, List.getElem?_cons_zero]; rfl
          case ff45 => kernel_rfl
          case qq45 => exact fun _ _ _ h => h
          case ww45 => rfl
          case yy45 => intro W hW; go_simp <;> with_reducible rfl
          try simp only [Act.put, List.setIfInBounds_toArray, List.set_cons_zero, List.set_cons_succ]
          refine wpAnyH_done (by kernel_rfl) ?_ _
          go_wp2_with fail
          go_roundw
          case rel => exact HR3.out
          case measure => simp [intOf]; omega
      · go_simp
        refine hK.out _ _ ?h7 (fun _ => ?_)
        case h7 => exact hd0.alloc hd0.size (.cells #[.int .i64 x] 3)
        clear hK K
        refine wpAnyH_ready (rs := [0]) (by kernel_rfl) (by simp) ?_
        refine AllReadyH.cons (o := ?o8) ?i8 (fun K hK => ?_) AllReadyH.nil
        case i8 => simp only [List.getElem?_toArray, List.getElem?_cons_zero]; rfl
        go_simp
        refine hK.out _ _ ?h9 (fun _ => ?_)
        case h9 => exact (hd0.alloc hd0.size (.cells #[.int .i64 x] 3)).alloc (hd0.alloc hd0.size (.cells #[.int .i64 x] 3)).size (.cells #[] 3)
        clear hK K
        refine wpAnyH_ready (rs := [4]) (by kernel_rfl) (by simp) ?_
        refine AllReadyH.cons (o := ?oo46) ?ii46 (fun K hK => ?_) AllReadyH.nil
        case ii46 => simp only [List.getElem?_toArray, List.getElem?_cons_succ, List.getElem?_cons_zero]; rfl
        refine step_append_m rfl (.tmp 30) (.tmp 33) _ rfl wc.heap.size 3 _ 1 8 Try.underlying53 infoInt rfl (by omega) _ 0 _ rfl (HoB2.out) A1 j c1 (intV (s.take j)) rfl elt (Hc1.out _ ((hd0.alloc hd0.size (.cells #[.int .i64 x] 3)).alloc (hd0.alloc hd0.size (.cells #[.int .i64 x] 3)).size (.cells #[] 3))) (intV_one _) (by unfold maxLen; omega) (by omega) (((hd0.alloc hd0.size (.cells #[.int .i64 x] 3)).alloc (hd0.alloc hd0.size (.cells #[.int .i64 x] 3)).size (.cells #[] 3)).size) ?_
        intro v1 w1 ho1 ha1 _
        rw [Nat.zero_add] at ho1
        have hd1 := ibelow ((hd0.alloc hd0.size (.cells #[.int .i64 x] 3)).alloc (hd0.alloc hd0.size (.cells #[.int .i64 x] 3)).size (.cells #[] 3)) (HoB2.out) (Nat.le_refl _) ha1
        have ck := HcB2.out w1 ha1
        have Ho1 := Lib.hid ho1
        clear ho1 ha1
        go_wp2_with fail
        refine hK.out _ _ hd1 (fun _ => ?_)
        clear hK K
        refine wpAnyH_ready (rs := [10]) (by kernel_rfl) (by simp) ?_
        refine AllReadyH.cons (o := ?oo47) ?ii47 (fun K hK => ?_) AllReadyH.nil
        case ii47 => simp only [List.getElem?_toArray, List.getElem?_cons_succ, List.getElem?_cons_zero]; rfl
        refine step_append_m rfl (.tmp 34) (.tmp 39) _ rfl wc.heap.size 3 _ 1 8 Try.underlying53 infoInt rfl (by omega) _ _ _ rfl (Ho1.out) _ 1 1 [.int .i64 x] rfl rfl (fun _ => ⟨_, rfl, fun j u hj => by
            match j, hj with
            | 0, hj =>
              cases hj
              exact ck⟩) (fun u hu => by rw [List.mem_singleton.1 hu]; rfl) (by unfold maxLen; omega) (by omega) ((hd1).size) ?_
        intro v2 w2 ho2 ha2 _
        have hd2 := ibelow hd1 (Ho1.out) (Nat.le_refl _) ha2
        have Ho2 := Lib.hid ho2
        clear ho2 ha2
        go_wp2_with fail
        refine hK.out _ _ hd2 (fun _ => ?_)
        clear hK K
        refine wpAnyH_ready (rs := [14]) (by kernel_rfl) (by simp) ?_
        refine AllReadyH.cons (o := ?oo48) ?ii48 (fun K hK => ?_) AllReadyH.nil
        case ii48 => simp only [List.getElem?_toArray, List.getElem?_cons_succ, List.getElem?_cons_zero]; rfl
        refine step_append_m rfl (.tmp 40) (.tmp 43) _ rfl wc.heap.size 3 _ 1 8 Try.underlying53 infoInt rfl (by omega) _ _ _ rfl (Ho2.out) A2 (k - j) c2 (intV (s.drop j)) rfl eld (Hc2.out _ hd2) (intV_one _) (by unfold maxLen; omega) (by omega) ((hd2).size) ?_
        intro v3 w3 ho3 ha3 _
        have hd3 := ibelow hd2 Ho2.out (Nat.le_refl _) ha3
        have HR3 := Lib.hid (HRr.out v3 w3 _ hd3 (by omega) ho3)
        obtain ⟨A3, c3, hv3, -⟩ := own_slice ho3
        subst hv3
        clear ho3 ha3
        go_wp2_with fail
        refine hK.out _ _ hd3 (fun _ => ?_)
        clear hK K
        refine wpAnyH_take (i := 15) (oi := ?oo49) (v := ?vv49) ?ii49 (by kernel_rfl) ?ff49 (by kernel_rfl) ?qq49 (Or.inl ⟨?ww49, ?yy49⟩) hd3 ?rr49
        case ii49 => simp only [List.getElem?_toArray, List.getElem?_cons_succ, List.getElem?_cons_zero]; rfl
        case ff49 => kernel_rfl
        case qq49 => exact fun _ _ _ h => h
        case ww49 => rfl
        case yy49 => intro W hW; go_simp <;> with_reducible rfl
        try simp only [Act.put, List.setIfInBounds_toArray, List.set_cons_zero, List.set_cons_succ]
        refine wpAnyH_done (by kernel_rfl) ?_ _
        go_wp2_with fail
        go_roundw
        case rel => exact HR3.out
        case measure => simp [intOf]; omega
end Go.Proofs.Ythhbdnjihhpalaa
namespace Go.Proofs.Ythhbdnjihhpalaa
open Go.RowKit
set_option maxRecDepth 100000

theorem and_one (a : Int) : bits BinOp.and IntKind.i64 a 1 = a % 2 := by
  have h : bits BinOp.and IntKind.i64 a 1 = IntKind.i64.wrap ((BitVec.ofInt 64 a &&& BitVec.ofInt 64 1).toNat : Int) := rfl
  rw [h, BitVec.toNat_and]
  have e1 : (BitVec.ofInt 64 1).toNat = 1 := by decide
  rw [e1, Nat.and_one_is_mod, BitVec.toNat_ofInt]
  have e2 : (((a % ((2 ^ 64 : Nat) : Int)).toNat % 2 : Nat) : Int) = a % 2 := by
    rw [Int.natCast_emod, Int.toNat_of_nonneg (Int.emod_nonneg _ (by decide))]
    simp only [Nat.reducePow]
    omega
  rw [e2]
  exact IntWalk.i64_in _ ⟨by omega, by omega⟩

/-- What the document's Cut answers where it is an error. -/
def RefCutBad (w : World) (e : Ending) (w' : World) : Prop := e = .returned (.tuple #[.slice none 0 0, strV (numN 2)]) ∧ Below w.heap.size w w'
/-- .. and where it is none. -/
def RefCutGood (l : List Int) (f : Nat) (w : World) (e : Ending) (w' : World) : Prop :=
  ∃ g off cap, e = .returned (.tuple #[.slice (some ⟨g, off, none⟩) (l.length - 2 * f) cap, strV []]) ∧ Seg w' w.heap.size 3 1 (.slice (some ⟨g, off, none⟩) (l.length - 2 * f) cap) (l.length - 2 * f) (intV (MidP.cutT l f)) ∧ Below w.heap.size w w'

set_option maxHeartbeats 1000000 in
theorem refcut_bad (A : Option Addr) (n cap : Nat) (hn : n ≤ 1000000) (f : Int) (hf : ¬ Cuts n f) (w : World) : Calls Try.prog 58 #[.slice A n cap, .int .i64 f] w (RefCutBad w) := by
  unfold Cuts at hf
  have HE : Hid (∀ W, Calls Try.prog 11 #[.int .i64 2] W fun e w' => e = .returned (strV (numN 2)) ∧ Below W.heap.size W w') := Lib.hid (fun W => e_any 2 W (by omega))
  unfold RefCutBad
  generalize numN 2 = y at *
  unfold strV at *
  by_cases h0 : f < 0
  · have q0 : decide (f < 0) = true := decide_eq_true h0
    clear h0 hf
    go_enter Try.func58, Try.ntmps58
    go_wp2_with fail
    refine (HE.out _).mono ?_
    rintro e w1 ⟨rfl, hb⟩
    go_wp2_with fail
    go_ret2
    exact ⟨rfl, hb⟩
  have q0 : decide (f < 0) = false := decide_eq_false h0
  rcases Nat.eq_zero_or_pos n with rfl | hn0
  · clear h0 hf
    go_enter Try.func58, Try.ntmps58
    go_wp2_with fail
    refine (HE.out _).mono ?_
    rintro e w1 ⟨rfl, hb⟩
    go_wp2_with fail
    go_ret2
    exact ⟨rfl, hb⟩
  · obtain ⟨p, rfl⟩ : ∃ p, n = p + 1 := ⟨n - 1, by omega⟩
    have et : ((p : Int)).tdiv 2 = (p : Int) / 2 := Int.tdiv_eq_ediv_of_nonneg (by omega)
    have e0 : IntKind.i64.wrap (p : Int) = (p : Int) := IntWalk.i64_in _ (by omega)
    have e2 : IntKind.i64.wrap ((p : Int).tdiv 2) = (p : Int).tdiv 2 := IntWalk.i64_in _ (by omega)
    have q1 : decide ((p : Int).tdiv 2 < f) = true := decide_eq_true (by omega)
    have q1' : decide ((p : Int) / 2 < f) = true := decide_eq_true (by omega)
    have q2 : ((p : Int) + 1 == 0) = false := by rw [beq_eq_false_iff_ne]; omega
    clear h0 hf et hn0
    go_enter Try.func58, Try.ntmps58
    go_wp2_with fail
    refine (HE.out _).mono ?_
    rintro e w1 ⟨rfl, hb⟩
    go_wp2_with fail
    go_ret2
    exact ⟨rfl, hb⟩

set_option maxHeartbeats 1000000 in
theorem refcut_good (A : Option Addr) (n cap : Nat) (l : List Int) (hl : l.length = n) (hn : n ≤ 1000000) (f : Nat) (hf : 2 * f + 1 ≤ n) (w : World) (h : IntsIn w A l) : Calls Try.prog 58 #[.slice A n cap, .int .i64 (f : Nat)] w (RefCutGood l f w) := by
  have HC := Lib.hid (refsorted_any A n cap l hl hn w h)
  have Hl := Lib.hid hl
  obtain ⟨p, rfl⟩ : ∃ p, n = p + 1 := ⟨n - 1, by omega⟩
  have q0 : decide (((f : Nat) : Int) < 0) = false := decide_eq_false (by omega)
  have et : ((p : Int)).tdiv 2 = (p : Int) / 2 := Int.tdiv_eq_ediv_of_nonneg (by omega)
  have e0 : IntKind.i64.wrap (p : Int) = (p : Int) := IntWalk.i64_in _ (by omega)
  have e2 : IntKind.i64.wrap ((p : Int).tdiv 2) = (p : Int).tdiv 2 := IntWalk.i64_in _ (by omega)
  have q1 : decide ((p : Int).tdiv 2 < (f : Int)) = false := decide_eq_false (by omega)
  have q1' : decide ((p : Int) / 2 < (f : Int)) = false := decide_eq_false (by omega)
  have q2 : ((p : Int) + 1 == 0) = false := by rw [beq_eq_false_iff_ne]; omega
  have e3 : IntKind.i64.wrap ((p : Int) + 1 - (f : Int)) = (p : Int) + 1 - (f : Int) := IntWalk.i64_in _ (by omega)
  clear h hl et
  unfold RefCutGood
  unfold strV at *
  go_enter Try.func58, Try.ntmps58
  go_wp2_with fail
  refine HC.out.mono ?_
  rintro e w1 ⟨v, rfl, ho, hb⟩
  rw [Hl.out] at ho
  obtain ⟨g, c, rfl, hnc⟩ : ∃ g c, v = .slice (some ⟨g, 0, none⟩) (p + 1) c ∧ p + 1 ≤ c := by
    rcases ho.2 with ⟨-, h0⟩ | ⟨g, c, cur, rfl, -, -, h1, -⟩
    · omega
    · exact ⟨g, c, rfl, h1⟩
  have hrs := fun W => run_slice_ints W g 0 (p + 1) c (f : Int) ((p : Int) + 1 - (f : Int)) f (p + 1 - 2 * f) rfl (by omega) (by omega) (by omega)
  simp only [Nat.zero_add] at hrs
  have h1 := (Seg.of_own ho).mid (k := f) (m := p + 1 - 2 * f) (by omega)
  rw [Nat.zero_add] at h1
  have HF : Hid (RefCutGood l f w (.returned (.tuple #[.slice (some ⟨g, f, none⟩) (p + 1 - 2 * f) (c - f), .string ⟨#[]⟩])) w1) := Lib.hid (by
    refine ⟨g, f, c - f, by rw [Hl.out]; rfl, ?_, hb⟩
    unfold MidP.cutT
    rw [Hl.out, show p + 1 - f = f + (p + 1 - 2 * f) by omega]
    exact h1)
  clear ho hb HC h1
  go_wp2_with fail
  go_ret2
  exact HF.out

/-- What the document's Middle answers where it is an error. -/
def RefMidBad (w : World) (e : Ending) (w' : World) : Prop := e = .returned (.tuple #[.int .i64 0, strV (numN 2)]) ∧ Below w.heap.size w w'
/-- .. and where it is none. -/
def RefMidGood (m : Int) (w : World) (e : Ending) (w' : World) : Prop := e = .returned (.tuple #[.int .i64 m, strV []]) ∧ Below w.heap.size w w'

theorem numN2 : numN 2 = [50] := by kernel_rfl
set_option maxHeartbeats 1000000 in
theorem refmid_bad (A : Option Addr) (n cap : Nat) (hn : n ≤ 1000000) (f : Int) (hf : ¬ Cuts n f) (w : World) : Calls Try.prog 43 #[.slice A n cap, .int .i64 f] w (RefMidBad w) := by
  have HC := Lib.hid (refcut_bad A n cap hn f hf w)
  clear hf
  unfold RefMidBad RefCutBad at *
  rw [numN2] at *
  unfold strV at *
  go_enter Try.func43, Try.ntmps43
  go_wp2_with fail
  refine HC.out.mono ?_
  rintro e w1 ⟨rfl, hb⟩
  go_wp2_with fail
  go_ret2
  exact ⟨rfl, hb⟩

set_option maxHeartbeats 1000000 in
theorem refmid_good (A : Option Addr) (n cap : Nat) (l : List Int) (hl : l.length = n) (hn : n ≤ 1000000) (f : Nat) (hf : 2 * f + 1 ≤ n) (w : World) (h : IntsIn w A l) (hi : Ints l) : Calls Try.prog 43 #[.slice A n cap, .int .i64 (f : Nat)] w (RefMidGood (MidP.midT l f) w) := by
  have HC := Lib.hid (refcut_good A n cap l hl hn f hf w h)
  obtain ⟨k, hk⟩ : ∃ k, l.length - 2 * f = k + 1 := ⟨l.length - 2 * f - 1, by omega⟩
  have H1 := Lib.hid (MidP.first_at (l := l) (f := f) (by omega))
  have H2 : Hid ((MidP.cutT l f)[k]? = some (MidP.lastT l f)) := Lib.hid (by
    have := MidP.last_at (l := l) (f := f) (by omega)
    rwa [hk, Nat.add_sub_cancel] at this)
  obtain ⟨⟨i1, i2⟩, i3, i4⟩ := MidP.ends_in hi (f := f) (by omega)
  have HA := Lib.hid (fun W => refhalf_any (MidP.firstT l f) i1 i2 W)
  have HB := Lib.hid (fun W => refhalf_any (MidP.lastT l f) i3 i4 W)
  have HM : Hid (∀ z, z = (MidP.firstT l f + MidP.lastT l f) / 2 → z = MidP.midT l f) := Lib.hid (fun z h => h)
  unfold RefCutGood at HC
  unfold RefMidGood
  unfold strV at *
  rw [hk] at HC
  have eK : IntKind.i64.wrap (k : Int) = (k : Int) := IntWalk.i64_in _ (by omega)
  generalize MidP.firstT l f = a at *
  generalize MidP.lastT l f = b at *
  generalize MidP.midT l f = m at *
  generalize MidP.cutT l f = c at *
  clear h hi hl hk hf
  have ea := and_one a
  have eb := and_one b
  have hh := MidP.halves (a := a) (b := b)
  go_enter Try.func43, Try.ntmps43
  go_wp2_with fail
  refine HC.out.mono ?_
  rintro e w1 ⟨g, off, cp, rfl, hs, hb⟩
  have k0 : w1.cell? ⟨g, off, none⟩ = some (.int .i64 a) := hs.cell (intV_get H1.out)
  have k1 : w1.cell? ⟨g, off + k, none⟩ = some (.int .i64 b) := hs.cell (intV_get H2.out)
  have Hb := Lib.hid hb
  clear hs hb HC H1 H2
  go_wp2_with fail
  go_quiet (fail)
  by_cases ha : a % 2 = 1
  case neg =>
    have qa : (a % 2 == 1) = false := by rw [beq_eq_false_iff_ne]; exact ha
    rw [if_neg (fun h => ha h.1), Int.add_zero] at hh
    have ew2 : wrap64 (a / 2 + b / 2) = a / 2 + b / 2 := IntWalk.wrap64_in _ ⟨by omega, by omega⟩
    have HZ : Hid (a / 2 + b / 2 = m) := Lib.hid (HM.out _ hh)
    clear ha
    clear i1 i2 i3 i4 hh
    go_wp2_with fail
    refine (HA.out _).mono ?_
    rintro e w2 ⟨rfl, m1, rfl⟩
    go_wp2_with fail
    refine (HB.out _).mono ?_
    rintro e w3 ⟨rfl, m2, rfl⟩
    go_wp2_with fail
    go_ret2
    exact ⟨congrArg (fun z => Ending.returned (.tuple #[.int .i64 z, .string ⟨#[]⟩])) (ew2.trans HZ.out), below_drewNc Hb.out _⟩
  by_cases hb2 : b % 2 = 1
  case neg =>
    have qa : (a % 2 == 1) = true := by rw [beq_iff_eq]; exact ha
    have qb : (b % 2 == 1) = false := by rw [beq_eq_false_iff_ne]; exact hb2
    rw [if_neg (fun h => hb2 h.2), Int.add_zero] at hh
    have ew2 : wrap64 (a / 2 + b / 2) = a / 2 + b / 2 := IntWalk.wrap64_in _ ⟨by omega, by omega⟩
    have HZ : Hid (a / 2 + b / 2 = m) := Lib.hid (HM.out _ hh)
    clear ha hb2
    clear i1 i2 i3 i4 hh
    go_wp2_with fail
    refine (HA.out _).mono ?_
    rintro e w2 ⟨rfl, m1, rfl⟩
    go_wp2_with fail
    refine (HB.out _).mono ?_
    rintro e w3 ⟨rfl, m2, rfl⟩
    go_wp2_with fail
    go_ret2
    exact ⟨congrArg (fun z => Ending.returned (.tuple #[.int .i64 z, .string ⟨#[]⟩])) (ew2.trans HZ.out), below_drewNc Hb.out _⟩
  case pos =>
    have qa : (a % 2 == 1) = true := by rw [beq_iff_eq]; exact ha
    have qb : (b % 2 == 1) = true := by rw [beq_iff_eq]; exact hb2
    rw [if_pos ⟨ha, hb2⟩] at hh
    have ew2 : wrap64 (a / 2 + b / 2) = a / 2 + b / 2 := IntWalk.wrap64_in _ ⟨by omega, by omega⟩
    have ew3 : wrap64 (a / 2 + b / 2 + 1) = a / 2 + b / 2 + 1 := IntWalk.wrap64_in _ ⟨by omega, by omega⟩
    have HZ : Hid (a / 2 + b / 2 + 1 = m) := Lib.hid (HM.out _ hh)
    clear ha hb2
    clear i1 i2 i3 i4 hh
    go_wp2_with fail
    refine (HA.out _).mono ?_
    rintro e w2 ⟨rfl, m1, rfl⟩
    go_wp2_with fail
    refine (HB.out _).mono ?_
    rintro e w3 ⟨rfl, m2, rfl⟩
    go_wp2_with fail
    go_ret2
    exact ⟨congrArg (fun z => Ending.returned (.tuple #[.int .i64 z, .string ⟨#[]⟩])) (ew3.trans HZ.out), below_drewNc Hb.out _⟩
theorem mod_of (a M : Int) (h0 : 0 < M) (h1 : M ≤ 1000000) : ∃ t : Nat, (t : Int) < M ∧ wrap64 ((IntKind.u64.wrap a).tmod M) = (t : Int) := by
  have e : IntKind.u64.wrap a = a % 18446744073709551616 := by simp [IntKind.wrap, IntKind.bits, IntKind.signed]
  rw [e, Int.tmod_eq_emod_of_nonneg (Int.emod_nonneg _ (by decide))]
  have h2 : 0 ≤ a % 18446744073709551616 % M := Int.emod_nonneg _ (by omega)
  have h3 : a % 18446744073709551616 % M < M := Int.emod_lt_of_pos _ (by omega)
  generalize a % 18446744073709551616 % M = d at *
  exact ⟨d.toNat, by omega, by rw [IntWalk.wrap64_in d ⟨by omega, by omega⟩]; omega⟩
theorem u64_in (x : Int) (h0 : 0 ≤ x) (h1 : x ≤ 18446744073709551615) : IntKind.u64.wrap x = x := by
  have e : IntKind.u64.wrap x = x % 18446744073709551616 := by simp [IntKind.wrap, IntKind.bits, IntKind.signed]
  rw [e]; omega

theorem istored {W : World} {B n g c : Nat} {L : List Int} (h : W.ownsRow B 3 1 (.slice (some ⟨g, 0, none⟩) n c) n (intV L)) (k : Nat) (x : Int) : (W.setCell ⟨g, k, none⟩ (.int .i64 x)).ownsRow B 3 1 (.slice (some ⟨g, 0, none⟩) n c) n (intV (L.set k x)) := by
  rw [intV_set]
  exact (h.stored k (.int .i64 x)).1
theorem ints_set {L : List Int} {k : Nat} {x : Int} (h : Ints L) (hx : -9223372036854775808 ≤ x ∧ x ≤ 9223372036854775807) : Ints (L.set k x) := fun y hy => by
  rcases List.mem_or_eq_of_mem_set hy with h1 | h1
  · exact h y h1
  · subst h1; exact hx
end Go.Proofs.Ythhbdnjihhpalaa
