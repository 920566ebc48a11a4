/- PaceMeets: the plain side; the law's closure; what the law holds in memory. Conditions: those that each states. -/
import Derived.Test.YthhbdnjihhpalaaPacG
import Derived.Test.YthhbdnjihhpalaaMidArg
namespace Go.Proofs.Ythhbdnjihhpalaa
open Go.RowKit
set_option maxRecDepth 100000

namespace PacQ
open ClkP MidP
/-- A number out of a list, from 0 to n - 1. -/
def atT (l : List Int) (i : Nat) (n : Int) : Int := match l[i]? with
  | some y => y % 18446744073709551616 % n
  | none => 0
theorem atT_some {l : List Int} {i : Nat} {n y : Int} (h : l[i]? = some y) : atT l i n = y % 18446744073709551616 % n := by unfold atT; rw [h]
theorem atT_none {l : List Int} {i : Nat} {n : Int} (h : l.length ≤ i) : atT l i n = 0 := by unfold atT; rw [List.getElem?_eq_none h]
theorem atT_in (l : List Int) (i : Nat) {n : Int} (hn : 0 < n) : 0 ≤ atT l i n ∧ atT l i n < n := by
  unfold atT
  split
  · exact ⟨Int.emod_nonneg _ (by omega), Int.emod_lt_of_pos _ hn⟩
  · omega
section
variable (c : TableP.Cfg) (skews delays : List Int) (lie : Int)
def sinceT (i : Nat) : Int := 2 * SndP.roundT c + atT skews i (SndP.precT c / 2 + 1)
/-- When a node's frame comes to the k-th. -/
def plainT (k i : Nat) : Int := sinceT c skews i + SndP.sendT c i + c.dmin + atT delays (2 * i + k) (c.dmax - c.dmin + 1)
def off11 (k i : Nat) : Int := if 0 < c.faulty ∧ (i : Int) = c.nodes - 1 then ((k : Int) * 2 - 1) * lie.tmod 1048576 else 0
def whenT (k i : Nat) : Int := plainT c skews delays k i + off11 c lie k i
/-- What the k-th reads of the i-th. -/
def devM (rt : Int) (k i : Nat) : Int := if i = k then 0 else devT c (sinceT c skews k) rt i (whenT c skews delays lie k i)
def devL (rt : Int) (N k : Nat) : List Int := (List.range N).map (devM c skews delays lie rt k)
end
theorem devL_len (c : TableP.Cfg) (skews delays : List Int) (lie rt : Int) (N k : Nat) : (devL c skews delays lie rt N k).length = N := by simp [devL]
theorem devL_get (c : TableP.Cfg) (skews delays : List Int) (lie rt : Int) {N k i : Nat} (h : i < N) : (devL c skews delays lie rt N k)[i]? = some (devM c skews delays lie rt k i) := by
  unfold devL
  rw [List.getElem?_map, List.getElem?_range h]; rfl
theorem since_in {c : TableP.Cfg} (h : SndP.Nums c) (skews : List Int) (i : Nat) : 2 * SndP.roundT c ≤ sinceT c skews i ∧ sinceT c skews i ≤ 2 * SndP.roundT c + SndP.precT c / 2 := by
  have hp := SndP.prec_in h
  have := atT_in skews i (n := SndP.precT c / 2 + 1) (by omega)
  unfold sinceT
  omega
theorem round_in {c : TableP.Cfg} (h : SndP.Nums c) : 0 ≤ SndP.roundT c ∧ SndP.roundT c ≤ 134217728 := by
  have h1 := h.slots
  have h2 := h.gap
  unfold SndP.roundT
  omega
theorem delay_in {c : TableP.Cfg} (h : SndP.Nums c) (delays : List Int) (j : Nat) : 0 ≤ atT delays j (c.dmax - c.dmin + 1) ∧ atT delays j (c.dmax - c.dmin + 1) ≤ c.dmax - c.dmin := by
  have h1 := h.dmin
  have := atT_in delays j (n := c.dmax - c.dmin + 1) (by omega)
  omega
/-- All frames come soon. -/
theorem when_soon {c : TableP.Cfg} (h : SndP.Nums c) (skews delays : List Int) (lie : Int) {k i : Nat} (hk : k < 2) (hi : i < 8) :
    (-200000000 ≤ plainT c skews delays k i ∧ plainT c skews delays k i ≤ 700000000) ∧ (-1048576 < lie.tmod 1048576 ∧ lie.tmod 1048576 < 1048576) ∧
    (-1048576 ≤ off11 c lie k i ∧ off11 c lie k i ≤ 1048576) ∧ Soon (whenT c skews delays lie k i - sinceT c skews k) := by
  have h1 := since_in h skews i
  have h2 := since_in h skews k
  have h3 := round_in h
  have h4 := SndP.prec_in h
  have h5 := delay_in h delays (2 * i + k)
  have h6 := h.dmin
  have h7 := h.dmax
  have h8 := SndP.mul_in (a := (i : Int)) (b := c.slot) (m := 8) ⟨by omega, by omega⟩ ⟨by have := h.slot; omega, h.slot.2⟩
  have h9 := h.margin
  have l1 := Int.lt_tmod_of_pos lie (show (0 : Int) < 1048576 by decide)
  have l2 := Int.tmod_lt_of_pos lie (show (0 : Int) < 1048576 by decide)
  have ho : -1048576 ≤ off11 c lie k i ∧ off11 c lie k i ≤ 1048576 := by
    unfold off11
    split
    · have hk2 : k = 0 ∨ k = 1 := by omega
      rcases hk2 with rfl | rfl
      · simp; omega
      · simp; omega
    · omega
  refine ⟨?_, ⟨l1, l2⟩, ho, ?_⟩
  · unfold plainT SndP.sendT
    omega
  · unfold Soon whenT plainT SndP.sendT
    omega

theorem num_of {c : TableP.Cfg} (hW : SndP.Works c) : PacP.Num c.rho (SndP.roundT c) (SndP.driftT c) (SndP.precT c) c.slot c.nodes c.margin c.dmin c.dmax := by
  have h := SndP.nums_in hW.allowed.head
  have hd := SndP.drift_in h
  exact ⟨rfl, rfl, h.rho.1, h.rho.2, h.dmin.1, h.dmin.2, hd.1, hW.margin, hW.slot, by unfold SndP.roundT; have := h.gap; omega, h.nodes.1⟩
/-- The k-th's next round. -/
def nextM (c : TableP.Cfg) (skews delays : List Int) (lie rt : Int) (N F k : Nat) : Int := nextT c (sinceT c skews k) rt (midT (devL c skews delays lie rt N k) F)

theorem meets_all {c : TableP.Cfg} (hW : SndP.Works c) (skews delays : List Int) (lie : Int) {N F : Nat} (hN : c.nodes = (N : Int)) (hF : c.faulty = (F : Int)) (h2 : 2 ≤ N) {r0 r1 : Int} (hr0 : -c.rho ≤ r0 ∧ r0 ≤ c.rho) (hr1 : -c.rho ≤ r1 ∧ r1 ≤ c.rho) :
    nextM c skews delays lie r0 N F 0 - nextM c skews delays lie r1 N F 1 ≤ SndP.precT c / 2 ∧ nextM c skews delays lie r1 N F 1 - nextM c skews delays lie r0 N F 0 ≤ SndP.precT c / 2 := by
  have hn := SndP.nums_in hW.allowed.head
  have H := num_of hW
  have h3 : 3 * F < N := by have := hW.nodes; omega
  obtain ⟨A, hA⟩ : ∃ A, A = devL c skews delays lie r0 N 0 := ⟨_, rfl⟩
  obtain ⟨B, hB⟩ : ∃ B, B = devL c skews delays lie r1 N 1 := ⟨_, rfl⟩
  have lA : A.length = N := by rw [hA, devL_len]
  have lB : B.length = N := by rw [hB, devL_len]
  have sA := srt_length A
  have sB := srt_length B
  have hD := H.D0
  have key : ∀ (k i : Nat) (rt : Int) (hr : -c.rho ≤ rt ∧ rt ≤ c.rho) (hi : i < N) (hb : ¬ (0 < F ∧ i = N - 1)), ∃ p, -((c.dmax - c.dmin) / 2) ≤ p ∧ p ≤ c.dmax - c.dmin - (c.dmax - c.dmin) / 2 ∧
      -SndP.driftT c ≤ 2 * ((devL c skews delays lie rt N k).getD i 0 + sinceT c skews k - sinceT c skews i - p) ∧ 2 * ((devL c skews delays lie rt N k).getD i 0 + sinceT c skews k - sinceT c skews i - p) ≤ SndP.driftT c - 2 := fun k i rt hr hi hb => by
    have hx := hn.dmin
    rw [getD_at (devL_get c skews delays lie rt (k := k) hi)]
    unfold devM
    by_cases hik : i = k
    · subst hik
      rw [if_pos rfl]
      exact ⟨0, by omega, by omega, by omega, by omega⟩
    · rw [if_neg hik]
      have ho : off11 c lie k i = 0 := by
        unfold off11
        rw [if_neg]
        rintro ⟨g1, g2⟩
        exact hb ⟨by omega, by omega⟩
      have hd := delay_in hn delays (2 * i + k)
      have h9 := PacP.dev_lies H (base := 2 * SndP.roundT c) (s := sinceT c skews k) (si := sinceT c skews i) (i := (i : Int)) (delay := atT delays (2 * i + k) (c.dmax - c.dmin + 1)) (rate := rt) hr ⟨by omega, by omega⟩ (since_in hn skews k) (since_in hn skews i) hd
      refine ⟨atT delays (2 * i + k) (c.dmax - c.dmin + 1) - (c.dmax - c.dmin) / 2, by omega, by omega, ?_, ?_⟩
      · unfold devT whenT plainT
        rw [ho, Int.add_zero]
        unfold SndP.sendT SndP.meanT
        exact h9.1
      · unfold devT whenT plainT
        rw [ho, Int.add_zero]
        unfold SndP.sendT SndP.meanT
        exact h9.2
  have hbad : (List.range A.length).countP (fun i => decide (0 < F ∧ i = N - 1)) ≤ F := by
    rw [lA]
    by_cases hF0 : 0 < F
    · have e : List.range N = List.range (N - 1) ++ [N - 1] := by rw [← List.range_succ]; congr 1; omega
      rw [e, List.countP_append]
      have z : (List.range (N - 1)).countP (fun i => decide (0 < F ∧ i = N - 1)) = 0 := by
        rw [List.countP_eq_zero]
        intro i hi
        have := List.mem_range.1 hi
        simp; omega
      rw [z]
      have := List.countP_le_length (p := fun i => decide (0 < F ∧ i = N - 1)) (l := [N - 1])
      simp only [List.length_cons, List.length_nil] at this
      omega
    · have z : (List.range N).countP (fun i => decide (0 < F ∧ i = N - 1)) = 0 := by
        rw [List.countP_eq_zero]
        intro i _
        simp; omega
      omega
  have m := PacP.meet_again H (base := 2 * SndP.roundT c) (s := sinceT c skews 0) (t := sinceT c skews 1) (rs := r0) (rt := r1) hr0 hr1 (since_in hn skews 0) (since_in hn skews 1) (srt_rising A) (srt_rising B) (srt_perm A) (srt_perm B) (by omega) (f := F) (by omega)
    (fun i => decide (0 < F ∧ i = N - 1)) hbad (fun i hi hb => by
      have hb : ¬ (0 < F ∧ i = N - 1) := by simpa using hb
      rw [lA] at hi
      obtain ⟨p, p1, p2, p3, p4⟩ := key 0 i r0 hr0 hi hb
      obtain ⟨q, q1, q2, q3, q4⟩ := key 1 i r1 hr1 hi hb
      rw [← hA] at p3 p4
      rw [← hB] at q3 q4
      exact ⟨sinceT c skews i, (since_in hn skews i).1, (since_in hn skews i).2, p, q, p1, p2, q1, q2, p3, p4, q3, q4⟩) (by omega) (by omega) (by omega) (by omega)
  have e1 : (srt A)[(srt A).length - 1 - F]'(by omega) = lastT A F := by rw [lastT_get (by omega)]; congr 1; omega
  have e2 : (srt B)[(srt B).length - 1 - F]'(by omega) = lastT B F := by rw [lastT_get (by omega)]; congr 1; omega
  rw [e1, e2, ← firstT_get, ← firstT_get] at m
  unfold nextM nextT
  rw [← hA, ← hB]
  exact m
end PacQ

theorem at_mod {y n : Int} (h0 : 0 < n) (h1 : n ≤ 1000000000) : IntKind.u64.wrap n = n ∧ wrap64 ((IntKind.u64.wrap y).tmod n) = y % 18446744073709551616 % n := by
  refine ⟨u64_in n (by omega) (by omega), ?_⟩
  have e : IntKind.u64.wrap y = y % 18446744073709551616 := by simp [IntKind.wrap, IntKind.bits, IntKind.signed]
  rw [e, Int.tmod_eq_emod_of_nonneg (Int.emod_nonneg _ (by decide))]
  have h2 : 0 ≤ y % 18446744073709551616 % n := Int.emod_nonneg _ (by omega)
  have h3 : y % 18446744073709551616 % n < n := Int.emod_lt_of_pos _ (by omega)
  exact IntWalk.wrap64_in _ ⟨by omega, by omega⟩
/-- The law's closure. -/
theorem lat_any (A : Option Addr) (m cap : Nat) (l : List Int) (hl : l.length = m) (i : Nat) (n : Int) (h0 : 0 < n) (h1 : n ≤ 1000000000) (W : World) (h : IntsIn W A l) :
    Calls Try.prog 27 #[.slice A m cap, .int .i64 (i : Nat), .int .i64 n] W (Quiet (.int .i64 (PacQ.atT l i n)) W) := by
  by_cases him : i < m
  · have q1 : decide ((i : Int) < (m : Int)) = true := decide_eq_true (by omega)
    have q1n : decide (i < m) = true := decide_eq_true him
    obtain ⟨y, hy⟩ : ∃ y, l[i]? = some y := ⟨_, List.getElem?_eq_getElem (by omega)⟩
    obtain ⟨b, o, rfl, -, c0⟩ := h.at_ hy
    obtain ⟨e1, e2⟩ := at_mod (y := y) h0 h1
    have hz : ¬ n = 0 := by omega
    have HF := Lib.hid (PacQ.atT_some (n := n) hy)
    rw [← e2] at HF
    generalize PacQ.atT l i n = v at *
    have HF2 := Lib.hid HF.out.symm
    clear h h0 h1 hy hl e2 HF
    go_enter Try.func27, Try.ntmps27
    go_wp2_with fail
    go_ret
    exact ⟨congrArg (fun z => Ending.returned (.int .i64 z)) HF2.out, 0, rfl⟩
  · have q1 : decide ((i : Int) < (m : Int)) = false := decide_eq_false (by omega)
    have q1n : decide (i < m) = false := decide_eq_false him
    rw [PacQ.atT_none (by omega)]
    clear h hl h0 h1 him
    go_enter Try.func27, Try.ntmps27
    go_wp2_with fail
    go_ret
    exact ⟨rfl, 0, rfl⟩

/-- Boxed tables and two boxed rates. -/
def boxM (w : World) (x : CfgC) (ra rb : Int) : World := (boxC w x).alloc (.cells #[.int .i64 ra, .int .i64 rb] 58)
theorem boxM_size (w : World) (x : CfgC) (ra rb : Int) : (boxM w x ra rb).heap.size = w.heap.size + 1 + 1 := by simp [boxM, boxC]
theorem boxM_below (w : World) (x : CfgC) (ra rb : Int) : Below w.heap.size w (boxM w x ra rb) := (boxC_below w x).alloc (boxC_below w x).size _
def BoxMS (w : World) (x : CfgC) (ra rb : Int) (W : World) : Prop := Below (boxM w x ra rb).heap.size (boxM w x ra rb) W
section
variable {w : World} {x : CfgC} {ra rb : Int} {W W' : World}
theorem BoxMS.start (w : World) (x : CfgC) (ra rb : Int) : BoxMS w x ra rb (boxM w x ra rb) := Below.refl _ _
theorem BoxMS.step (h : BoxMS w x ra rb W) (hb : Below W.heap.size W W') : BoxMS w x ra rb W' := h.trans (hb.mono h.size)
theorem BoxMS.below (h : BoxMS w x ra rb W) : Below w.heap.size w W := (boxM_below w x ra rb).trans (h.mono (by rw [boxM_size]; omega))
theorem BoxMS.box (h : BoxMS w x ra rb W) : BoxS w x W := ((Below.refl (boxC w x).heap.size (boxC w x)).alloc (Nat.le_refl _) _).trans (h.mono (by rw [boxM_size, boxC_size]; omega))
theorem BoxMS.cells (h : BoxMS w x ra rb W) : Box11 W w.heap.size x := h.box.cells
theorem BoxMS.two (h : BoxMS w x ra rb W) : W.heap[w.heap.size + 1]? = some (.cells #[.int .i64 ra, .int .i64 rb] 58 (0, 0)) := by
  rw [h.block (w.heap.size + 1) (by rw [boxM_size]; omega)]
  have := heap_alloc_new (boxC w x) (.cells #[.int .i64 ra, .int .i64 rb] 58)
  rwa [boxC_size] at this
theorem BoxMS.m0 (h : BoxMS w x ra rb W) : W.cell? ⟨w.heap.size + 1, 0, none⟩ = some (.int .i64 ra) := cell_at h.two 0 rfl
theorem BoxMS.m1 (h : BoxMS w x ra rb W) : W.cell? ⟨w.heap.size + 1, 1, none⟩ = some (.int .i64 rb) := cell_at h.two 1 rfl
end
/-- What the law holds: boxes, a row of beginnings, a box of two next beginnings. -/
structure MK (w : World) (x : CfgC) (ra rb : Int) (gs gx N : Nat) (cur : List Int) (a0 a1 : Int) (W : World) : Prop where
  box : BoxMS w x ra rb W
  row : W.ownsRow (boxM w x ra rb).heap.size 3 1 (.slice (some ⟨gs, 0, none⟩) N N) N (intV cur)
  next : W.heap[gx]? = some (.cells #[.int .i64 a0, .int .i64 a1] 58 (0, 0))
  lo : (boxM w x ra rb).heap.size ≤ gx
section
variable {w : World} {x : CfgC} {ra rb : Int} {gs gx N : Nat} {cur : List Int} {a0 a1 : Int} {W W' : World}
theorem MK.lt (h : MK w x ra rb gs gx N cur a0 a1 W) : gx < W.heap.size := (Array.getElem?_eq_some_iff.1 h.next).1
theorem MK.step (h : MK w x ra rb gs gx N cur a0 a1 W) (hb : Below W.heap.size W W') : MK w x ra rb gs gx N cur a0 a1 W' :=
  ⟨h.box.step hb, own_apart (F := fun _ => False) h.row (Apart.of_below' hb) (fun _ _ h => h), (hb.block gx h.lt).trans h.next, h.lo⟩
theorem MK.cell (h : MK w x ra rb gs gx N cur a0 a1 W) (hc : cur.length = N) {j : Nat} {v : Int} (hj : cur[j]? = some v) : W.cell? ⟨gs, j, none⟩ = some (.int .i64 v) := by
  rw [h.row.cellAt j (by have := (List.getElem?_eq_some_iff.1 hj).1; omega)]; exact intV_get hj
theorem MK.x0 (h : MK w x ra rb gs gx N cur a0 a1 W) : W.cell? ⟨gx, 0, none⟩ = some (.int .i64 a0) := cell_at h.next 0 rfl
theorem MK.x1 (h : MK w x ra rb gs gx N cur a0 a1 W) : W.cell? ⟨gx, 1, none⟩ = some (.int .i64 a1) := cell_at h.next 1 rfl
theorem MK.xfree (h : MK w x ra rb gs gx N cur a0 a1 W) (j : Nat) : W.frozen? ⟨gx, j, none⟩ = false := free_at h.next j
theorem MK.stored (h : MK w x ra rb gs gx N cur a0 a1 W) (k : Nat) (v b0 b1 : Int) (e : (#[Value.int .i64 a0, .int .i64 a1] : Array Value).setIfInBounds k (.int .i64 v) = #[.int .i64 b0, .int .i64 b1]) : MK w x ra rb gs gx N cur b0 b1 (W.setCell ⟨gx, k, none⟩ (.int .i64 v)) := by
  have ha := (Apart.refl (fun q => q = gx) W).setCell (p := ⟨gx, k, none⟩) (.inl rfl) (.int .i64 v)
  refine ⟨h.box.trans (ha.below h.box.size (fun q hq => by subst hq; exact h.lo)), own_apart h.row ha (fun q hq => own_off h.row h.next (by decide) q hq), ?_, h.lo⟩
  have h3 := heap_setCell_same W gx k _ 58 (.int .i64 v) h.next
  rw [e] at h3
  exact h3
end
/-- .. and a pace. -/
structure MP (w : World) (x : CfgC) (ra rb : Int) (gs gx N : Nat) (cur : List Int) (a0 a1 : Int) (k : Nat) (since rate : Int) (b bk : Nat) (hs : List Bool) (ds : List Int) (W : World) : Prop where
  mk_ : MK w x ra rb gs gx N cur a0 a1 W
  pace : PaceIn W b x k false bk since rate hs ds
  lo : (boxM w x ra rb).heap.size ≤ b
section
variable {w : World} {x : CfgC} {ra rb : Int} {gs gx N : Nat} {cur : List Int} {a0 a1 : Int} {k : Nat} {since rate : Int} {b bk : Nat} {hs hs' : List Bool} {ds ds' : List Int} {W W' : World}
theorem MP.step (h : MP w x ra rb gs gx N cur a0 a1 k since rate b bk hs ds W) (hb : Below W.heap.size W W') : MP w x ra rb gs gx N cur a0 a1 k since rate b bk hs ds W' := ⟨h.mk_.step hb, h.pace.below hb, h.lo⟩
theorem MP.hear (h : MP w x ra rb gs gx N cur a0 a1 k since rate b bk hs ds W) (hp : PaceIn W' b x k false bk since rate hs' ds') (ha : Apart (fun q => q = b) W W') : MP w x ra rb gs gx N cur a0 a1 k since rate b bk hs' ds' W' :=
  ⟨⟨h.mk_.box.trans (ha.below h.mk_.box.size (fun q hq => by subst hq; exact h.lo)), own_apart h.mk_.row ha (fun q hq => own_off h.mk_.row h.pace.at_ (by decide) q hq), (ha.block gx h.mk_.lt (fun e => by
    have h1 := h.mk_.next
    rw [e, h.pace.at_, Option.some.injEq, Obj.cells.injEq] at h1
    exact absurd h1.2.1 (by decide))).trans h.mk_.next, h.mk_.lo⟩, hp, h.lo⟩
end
end Go.Proofs.Ythhbdnjihhpalaa
