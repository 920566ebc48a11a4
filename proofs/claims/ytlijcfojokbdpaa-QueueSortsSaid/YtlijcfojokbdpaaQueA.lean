/- Contracts of queue's above, below, ahead, and of cmp.Compare and cmp.Or. Conditions: places are small. -/
import Derived.Test.YtlijcfojokbdpaaQueR
import Derived.Test.YtlijcfojokbdpaaItm
import Derived.Test.YtlijcfojokbdpaaHeldL
import Derived.Test.YtlijcfojokbdpaaErrR
namespace Go.Proofs.Ytlijcfojokbdpaa
open Go.RowKit
set_option maxRecDepth 100000

def QInt (n : Int) (w : World) (e : Ending) (w' : World) : Prop := e = .returned (.int .i64 n) ∧ Below w.heap.size w w'
def QBool (b : Bool) (w : World) (e : Ending) (w' : World) : Prop := e = .returned (.bool b) ∧ Below w.heap.size w w'
def QPair (m n : Int) (w : World) (e : Ending) (w' : World) : Prop := e = .returned (.agg #[.int .i64 m, .int .i64 n]) ∧ Below w.heap.size w w'

theorem above_any (p : Nat) (w : World) (h0 : 0 < p) (h : p ≤ 4096) : Calls Try.prog 20 #[.int .i64 (p : Nat)] w (QInt (((p - 1) / 2 : Nat) : Int) w) := by
  have HE := Lib.hid (show ((p : Int) - 1) / 2 = (((p - 1) / 2 : Nat) : Int) by omega)
  go_enter Try.func20, Try.ntmps20
  go_wp2_with fail
  go_ret
  exact ⟨by rw [← HE.out]; rfl, Below.refl _ _⟩
theorem below_any (p : Nat) (w : World) (h : p ≤ 4096) : Calls Try.prog 24 #[.int .i64 (p : Nat)] w (QPair (2 * (p : Int) + 1) (2 * (p : Int) + 2) w) := by
  go_enter Try.func24, Try.ntmps24
  go_wp2_with fail
  refine bodyPost_ret (v := .agg #[.int .i64 (2 * (p : Int) + 1), .int .i64 (2 * (p : Int) + 2)]) (by simp [results, Try.results24, go_sem]) rfl ?_
  exact ⟨rfl, (Below.refl _ _).alloc (Nat.le_refl _) _⟩
theorem qisnan_any (a : Int) (w : World) : Calls Try.prog 25 #[.int .i64 a] w (QBool false w) := by
  have e : ((a : Int) != a) = false := by simp
  go_enter Try.func25, Try.ntmps25
  go_wp2_with fail
  go_ret
  exact ⟨by simp, Below.refl _ _⟩
set_option maxHeartbeats 1000000 in
theorem qcompare_any (a b : Int) (w : World) : Calls Try.prog 23 #[.int .i64 a, .int .i64 b] w (QInt (QueP.cmpI a b) w) := by
  have HN := Lib.hid (fun a W => qisnan_any a W)
  go_enter Try.func23, Try.ntmps23
  go_wp2_with fail
  refine (HN.out a _).mono ?_
  rintro e w1 ⟨rfl, hb1⟩
  have Hb1 := Lib.hid hb1
  clear hb1
  go_wp2_with fail
  refine (HN.out b _).mono ?_
  rintro e w2 ⟨rfl, hb2⟩
  have Hb2 := Lib.hid (Hb1.out.trans (hb2.mono Hb1.out.size))
  clear hb2
  by_cases h1 : a < b
  · have q1 : decide (a < b) = true := decide_eq_true h1
    have e1 : QueP.cmpI a b = -1 := by simp [QueP.cmpI, h1]
    go_wp2_with fail
    go_ret
    exact ⟨by rw [e1]; rfl, Hb2.out⟩
  have q1 : decide (a < b) = false := decide_eq_false h1
  by_cases h2 : b < a
  · have q2 : decide (b < a) = true := decide_eq_true h2
    have e1 : QueP.cmpI a b = 1 := by simp [QueP.cmpI, h1, h2]
    go_wp2_with fail
    go_ret
    exact ⟨by rw [e1]; rfl, Hb2.out⟩
  have q2 : decide (b < a) = false := decide_eq_false h2
  have e1 : QueP.cmpI a b = 0 := by simp [QueP.cmpI, h1, h2]
  go_wp2_with fail
  go_ret
  exact ⟨by rw [e1]; rfl, Hb2.out⟩
def OrRel (a b c : Int) (i : Value) : Prop := ∃ k : Nat, k ≤ 3 ∧ i = .int .i64 (k : Nat) ∧ (0 < k → a = 0) ∧ (1 < k → b = 0) ∧ (2 < k → c = 0)
set_option maxHeartbeats 1000000 in
/-- The first of three that isn't 0. -/
theorem or_any (g : Nat) (a b c : Int) (w : World) (h : w.heap[g]? = some (.cells #[.int .i64 a, .int .i64 b, .int .i64 c] 3 (0, 0))) :
    Calls Try.prog 22 #[.slice (some ⟨g, 0, none⟩) 3 3] w (QInt (QueP.or3 a b c) w) := by
  have k0 := cell_at h 0 rfl
  have k1 := cell_at h 1 rfl
  have k2 := cell_at h 2 rfl
  have HF := Lib.hid (Below.refl w.heap.size w)
  have HS : Hid (OrRel a b c (.int .i64 0)) := Lib.hid ⟨0, by omega, rfl, by omega, by omega, by omega⟩
  clear h
  go_enter Try.func22, Try.ntmps22
  go_wp2_with fail
  go_loop [8] (OrRel a b c) (fun i => (3 - intOf i).toNat)
  case atStart => exact HS.out
  case round =>
    clear HS
    obtain ⟨k, hk, rfl, h0, h1, h2⟩ := hrel
    have H0 := Lib.hid h0
    have H1 := Lib.hid h1
    have H2 := Lib.hid h2
    clear h0 h1 h2
    rcases (by omega : k = 0 ∨ k = 1 ∨ k = 2 ∨ k = 3) with rfl | rfl | rfl | rfl
    · by_cases ha : a = 0
      · have HR : Hid (OrRel a b c (.int .i64 1)) := Lib.hid ⟨1, by omega, rfl, fun _ => ha, by omega, by omega⟩
        have q : (a != 0) = false := by simpa using ha
        clear ha H0 H1 H2
        go_wp2_with fail
        go_round
        case rel => exact HR.out
        case measure => simp [intOf]
      · have HR : Hid (QueP.or3 a b c = a) := Lib.hid (by simp [QueP.or3, ha])
        have q : (a != 0) = true := by simpa using ha
        clear ha H0 H1 H2
        go_wp2_with fail
        go_ret
        exact ⟨by rw [HR.out]; rfl, HF.out⟩
    · by_cases hb : b = 0
      · have HR : Hid (OrRel a b c (.int .i64 2)) := Lib.hid ⟨2, by omega, rfl, fun _ => H0.out (by omega), fun _ => hb, by omega⟩
        have q : (b != 0) = false := by simpa using hb
        clear hb H0 H1 H2
        go_wp2_with fail
        go_round
        case rel => exact HR.out
        case measure => simp [intOf]
      · have HR : Hid (QueP.or3 a b c = b) := Lib.hid (by simp [QueP.or3, H0.out (by omega), hb])
        have q : (b != 0) = true := by simpa using hb
        clear hb H0 H1 H2
        go_wp2_with fail
        go_ret
        exact ⟨by rw [HR.out]; rfl, HF.out⟩
    · by_cases hc : c = 0
      · have HR : Hid (OrRel a b c (.int .i64 3)) := Lib.hid ⟨3, by omega, rfl, fun _ => H0.out (by omega), fun _ => H1.out (by omega), fun _ => hc⟩
        have q : (c != 0) = false := by simpa using hc
        clear hc H0 H1 H2
        go_wp2_with fail
        go_round
        case rel => exact HR.out
        case measure => simp [intOf]
      · have HR : Hid (QueP.or3 a b c = c) := Lib.hid (by simp [QueP.or3, H0.out (by omega), H1.out (by omega)])
        have q : (c != 0) = true := by simpa using hc
        clear hc H0 H1 H2
        go_wp2_with fail
        go_ret
        exact ⟨by rw [HR.out]; rfl, HF.out⟩
    · have HR : Hid (QueP.or3 a b c = 0) := Lib.hid (by simp [QueP.or3, H0.out (by omega), H1.out (by omega), H2.out (by omega)])
      clear H0 H1 H2
      go_wp2_with fail
      go_ret
      exact ⟨by rw [HR.out]; rfl, HF.out⟩

def entV (e : QueP.Ent) : Value := .agg #[.int .i64 e.ev.at_, .int .i64 e.ev.rank, .int .i64 e.ev.what, .int .i64 e.n]
def entVals (e : QueP.Ent) : List Value := [.int .i64 e.ev.at_, .int .i64 e.ev.rank, .int .i64 e.ev.what, .int .i64 e.n]
theorem entVals_len (e : QueP.Ent) : (entVals e).length = 4 := rfl
theorem entVals_one (e : QueP.Ent) : ∀ u ∈ entVals e, u.oneCell' = true := by
  intro u hu
  simp only [entVals, List.mem_cons, List.not_mem_nil, or_false] at hu
  rcases hu with rfl | rfl | rfl | rfl <;> rfl

/-- Two entries in boxes, and whatever is new behind them. -/
def TwoE (w : World) (a b : QueP.Ent) (W : World) : Prop :=
  W.heap[w.heap.size]? = some (.cells (entVals a).toArray 49 (0, 0)) ∧ W.heap[w.heap.size + 1]? = some (.cells (entVals b).toArray 49 (0, 0)) ∧ Below w.heap.size w W ∧ w.heap.size + 2 ≤ W.heap.size
theorem TwoE.start (w : World) (a b : QueP.Ent) : TwoE w a b ((w.alloc (.cells (entVals a).toArray 49)).alloc (.cells (entVals b).toArray 49)) := by
  have h1 := heap_alloc_new w (.cells (entVals a).toArray 49 (0, 0))
  have h2 := heap_alloc_new (w.alloc (.cells (entVals a).toArray 49)) (.cells (entVals b).toArray 49 (0, 0))
  rw [World.size_alloc] at h2
  refine ⟨(Below.heap_alloc _ _ _ (by rw [World.size_alloc]; omega)).trans h1, h2, ((Below.refl _ _).alloc (Nat.le_refl _) _).alloc (by rw [World.size_alloc]; omega) _, by rw [World.size_alloc, World.size_alloc]; omega⟩
theorem TwoE.drew {w W : World} {a b : QueP.Ent} (h : TwoE w a b W) : TwoE w a b W.drew := ⟨h.1, h.2.1, h.2.2.1.drew, h.2.2.2⟩
theorem TwoE.step {w W W' : World} {a b : QueP.Ent} (h : TwoE w a b W) (hb : Below W.heap.size W W') : TwoE w a b W' := by
  obtain ⟨h1, h2, h3, h4⟩ := h
  exact ⟨(hb.block _ (by omega)).trans h1, (hb.block _ (by omega)).trans h2, h3.trans (hb.mono h3.size), Nat.le_trans h4 hb.size⟩

set_option maxHeartbeats 4000000 in
theorem ahead_any (a b : QueP.Ent) (w : World) : Calls Try.prog 19 #[entV a, entV b] w (QBool (QueP.aheadB a b) w) := by
  have HC := Lib.hid (fun x y W => qcompare_any x y W)
  have HO := Lib.hid (fun g x y z W h => or_any g x y z W h)
  have hd0 := (TwoE.start w a b).drew
  have HF : Hid (∀ W, TwoE w a b W → QBool (QueP.aheadB a b) w (.returned (.bool (decide (QueP.or3 (QueP.cmpI a.ev.at_ b.ev.at_) (QueP.cmpI a.ev.rank b.ev.rank) (QueP.cmpI a.n b.n) < 0)))) W) := Lib.hid fun W hW => ⟨rfl, hW.2.2.1⟩
  generalize QueP.aheadB a b = bb at *
  obtain ⟨⟨a0, a1, a2⟩, a3⟩ := a
  obtain ⟨⟨b0, b1, b2⟩, b3⟩ := b
  have ka0 : ∀ W, TwoE w ⟨⟨a0, a1, a2⟩, a3⟩ ⟨⟨b0, b1, b2⟩, b3⟩ W → W.cell? ⟨w.heap.size, 0, none⟩ = some (.int .i64 a0) := fun W hW => cell_at hW.1 0 rfl
  have ka1 : ∀ W, TwoE w ⟨⟨a0, a1, a2⟩, a3⟩ ⟨⟨b0, b1, b2⟩, b3⟩ W → W.cell? ⟨w.heap.size, 1, none⟩ = some (.int .i64 a1) := fun W hW => cell_at hW.1 1 rfl
  have ka3 : ∀ W, TwoE w ⟨⟨a0, a1, a2⟩, a3⟩ ⟨⟨b0, b1, b2⟩, b3⟩ W → W.cell? ⟨w.heap.size, 3, none⟩ = some (.int .i64 a3) := fun W hW => cell_at hW.1 3 rfl
  have kb0 : ∀ W, TwoE w ⟨⟨a0, a1, a2⟩, a3⟩ ⟨⟨b0, b1, b2⟩, b3⟩ W → W.cell? ⟨w.heap.size + 1, 0, none⟩ = some (.int .i64 b0) := fun W hW => cell_at hW.2.1 0 rfl
  have kb1 : ∀ W, TwoE w ⟨⟨a0, a1, a2⟩, a3⟩ ⟨⟨b0, b1, b2⟩, b3⟩ W → W.cell? ⟨w.heap.size + 1, 1, none⟩ = some (.int .i64 b1) := fun W hW => cell_at hW.2.1 1 rfl
  have kb3 : ∀ W, TwoE w ⟨⟨a0, a1, a2⟩, a3⟩ ⟨⟨b0, b1, b2⟩, b3⟩ W → W.cell? ⟨w.heap.size + 1, 3, none⟩ = some (.int .i64 b3) := fun W hW => cell_at hW.2.1 3 rfl
  have HSt : Hid (∀ W W', TwoE w ⟨⟨a0, a1, a2⟩, a3⟩ ⟨⟨b0, b1, b2⟩, b3⟩ W → Below W.heap.size W W' → TwoE w ⟨⟨a0, a1, a2⟩, a3⟩ ⟨⟨b0, b1, b2⟩, b3⟩ W') := Lib.hid fun W W' h hb => h.step hb
  simp only at HF
  simp only [entVals] at hd0
  simp only [entV]
  have C1 := Lib.hid (HC.out a0 b0)
  have C2 := Lib.hid (HC.out a1 b1)
  have C3 := Lib.hid (HC.out a3 b3)
  generalize QueP.cmpI a0 b0 = x at *
  generalize QueP.cmpI a1 b1 = y at *
  generalize QueP.cmpI a3 b3 = z at *
  clear HC
  go_enter Try.func19, Try.ntmps19
  go_wp2_with fail
  refine wp_region_held_drew (S := fun W => TwoE w ⟨⟨a0, a1, a2⟩, a3⟩ ⟨⟨b0, b1, b2⟩, b3⟩ W) (by kernel_rfl) hd0 (fun _ => ?_)
  refine wpAnyH_take (i := 0) (oi := ?oo1) (v := ?vv1) ?ii1 (by kernel_rfl) ?ff1 (by kernel_rfl) ?qq1 (Or.inl ⟨?ww1, ?yy1⟩) hd0 ?rr1
  case ii1 => simp only [List.getElem?_toArray, List.getElem?_cons_zero]; rfl
  case ff1 => kernel_rfl
  case qq1 => exact fun _ _ _ h => h
  case ww1 => rfl
  case yy1 => intro W hW; go_simp <;> with_reducible rfl
  try simp only [Act.put, List.setIfInBounds_toArray, List.set_cons_zero, List.set_cons_succ]
  refine wpAnyH_take (i := 1) (oi := ?oo2) (v := ?vv2) ?ii2 (by kernel_rfl) ?ff2 (by kernel_rfl) ?qq2 (Or.inl ⟨?ww2, ?yy2⟩) hd0 ?rr2
  case ii2 => simp only [List.getElem?_toArray, List.getElem?_cons_succ, List.getElem?_cons_zero]; rfl
  case ff2 => kernel_rfl
  case qq2 => exact fun _ _ _ h => h
  case ww2 => rfl
  case yy2 => intro W hW; go_simp <;> with_reducible rfl
  try simp only [Act.put, List.setIfInBounds_toArray, List.set_cons_zero, List.set_cons_succ]
  refine wpAnyH_take (i := 2) (oi := ?oo3) (v := ?vv3) ?ii3 (by kernel_rfl) ?ff3 (by kernel_rfl) ?qq3 (Or.inl ⟨?ww3, ?yy3⟩) hd0 ?rr3
  case ii3 => simp only [List.getElem?_toArray, List.getElem?_cons_succ, List.getElem?_cons_zero]; rfl
  case ff3 => kernel_rfl
  case qq3 => exact fun _ _ _ h => h
  case ww3 => rfl
  case yy3 => intro W hW; go_simp <;> with_reducible rfl
  try simp only [Act.put, List.setIfInBounds_toArray, List.set_cons_zero, List.set_cons_succ]
  refine wpAnyH_take (i := 3) (oi := ?oo4) (v := ?vv4) ?ii4 (by kernel_rfl) ?ff4 (by kernel_rfl) ?qq4 (Or.inl ⟨?ww4, ?yy4⟩) hd0 ?rr4
  case ii4 => simp only [List.getElem?_toArray, List.getElem?_cons_succ, List.getElem?_cons_zero]; rfl
  case ff4 => kernel_rfl
  case qq4 => exact fun _ _ _ h => h
  case ww4 => rfl
  case yy4 => intro W hW; go_simp <;> with_reducible rfl
  try simp only [Act.put, List.setIfInBounds_toArray, List.set_cons_zero, List.set_cons_succ]
  refine wpAnyH_take (i := 4) (oi := ?oo5) (v := ?vv5) ?ii5 (by kernel_rfl) ?ff5 (by kernel_rfl) ?qq5 (Or.inl ⟨?ww5, ?yy5⟩) hd0 ?rr5
  case ii5 => simp only [List.getElem?_toArray, List.getElem?_cons_succ, List.getElem?_cons_zero]; rfl
  case ff5 => kernel_rfl
  case qq5 => exact fun _ _ _ h => h
  case ww5 => rfl
  case yy5 => intro W hW; go_simp <;> with_reducible rfl
  try simp only [Act.put, List.setIfInBounds_toArray, List.set_cons_zero, List.set_cons_succ]
  refine wpAnyH_take (i := 5) (oi := ?oo6) (v := ?vv6) ?ii6 (by kernel_rfl) ?ff6 (by kernel_rfl) ?qq6 (Or.inl ⟨?ww6, ?yy6⟩) hd0 ?rr6
  case ii6 => simp only [List.getElem?_toArray, List.getElem?_cons_succ, List.getElem?_cons_zero]; rfl
  case ff6 => kernel_rfl
  case qq6 => exact fun _ _ _ h => h
  case ww6 => rfl
  case yy6 => intro W hW; go_simp <;> with_reducible rfl
  try simp only [Act.put, List.setIfInBounds_toArray, List.set_cons_zero, List.set_cons_succ]
  refine wpAnyH_take (i := 7) (oi := ?oo7) (v := ?vv7) ?ii7 (by kernel_rfl) ?ff7 (by kernel_rfl) ?qq7 (Or.inl ⟨?ww7, ?yy7⟩) hd0 ?rr7
  case ii7 => simp only [List.getElem?_toArray, List.getElem?_cons_succ, List.getElem?_cons_zero]; rfl
  case ff7 => kernel_rfl
  case qq7 => exact fun _ _ _ h => h
  case ww7 => rfl
  case yy7 => intro W hW; go_simp <;> with_reducible rfl
  try simp only [Act.put, List.setIfInBounds_toArray, List.set_cons_zero, List.set_cons_succ]
  refine wpAnyH_take (i := 8) (oi := ?oo8) (v := ?vv8) ?ii8 (by kernel_rfl) ?ff8 (by kernel_rfl) ?qq8 (Or.inl ⟨?ww8, ?yy8⟩) hd0 ?rr8
  case ii8 => simp only [List.getElem?_toArray, List.getElem?_cons_succ, List.getElem?_cons_zero]; rfl
  case ff8 => kernel_rfl
  case qq8 => exact fun _ _ _ h => h
  case ww8 => rfl
  case yy8 => intro W hW; go_simp <;> with_reducible rfl
  try simp only [Act.put, List.setIfInBounds_toArray, List.set_cons_zero, List.set_cons_succ]
  refine wpAnyH_take (i := 9) (oi := ?oo9) (v := ?vv9) ?ii9 (by kernel_rfl) ?ff9 (by kernel_rfl) ?qq9 (Or.inl ⟨?ww9, ?yy9⟩) hd0 ?rr9
  case ii9 => simp only [List.getElem?_toArray, List.getElem?_cons_succ, List.getElem?_cons_zero]; rfl
  case ff9 => kernel_rfl
  case qq9 => exact fun _ _ _ h => h
  case ww9 => rfl
  case yy9 => intro W hW; go_simp <;> with_reducible rfl
  try simp only [Act.put, List.setIfInBounds_toArray, List.set_cons_zero, List.set_cons_succ]
  refine wpAnyH_take (i := 10) (oi := ?oo10) (v := ?vv10) ?ii10 (by kernel_rfl) ?ff10 (by kernel_rfl) ?qq10 (Or.inl ⟨?ww10, ?yy10⟩) hd0 ?rr10
  case ii10 => simp only [List.getElem?_toArray, List.getElem?_cons_succ, List.getElem?_cons_zero]; rfl
  case ff10 => kernel_rfl
  case qq10 => exact fun _ _ _ h => h
  case ww10 => rfl
  case yy10 => intro W hW; go_simp <;> with_reducible rfl
  try simp only [Act.put, List.setIfInBounds_toArray, List.set_cons_zero, List.set_cons_succ]
  refine wpAnyH_take (i := 11) (oi := ?oo11) (v := ?vv11) ?ii11 (by kernel_rfl) ?ff11 (by kernel_rfl) ?qq11 (Or.inl ⟨?ww11, ?yy11⟩) hd0 ?rr11
  case ii11 => simp only [List.getElem?_toArray, List.getElem?_cons_succ, List.getElem?_cons_zero]; rfl
  case ff11 => kernel_rfl
  case qq11 => exact fun _ _ _ h => h
  case ww11 => rfl
  case yy11 => intro W hW; go_simp <;> with_reducible rfl
  try simp only [Act.put, List.setIfInBounds_toArray, List.set_cons_zero, List.set_cons_succ]
  refine wpAnyH_take (i := 12) (oi := ?oo12) (v := ?vv12) ?ii12 (by kernel_rfl) ?ff12 (by kernel_rfl) ?qq12 (Or.inl ⟨?ww12, ?yy12⟩) hd0 ?rr12
  case ii12 => simp only [List.getElem?_toArray, List.getElem?_cons_succ, List.getElem?_cons_zero]; rfl
  case ff12 => kernel_rfl
  case qq12 => exact fun _ _ _ h => h
  case ww12 => rfl
  case yy12 => intro W hW; go_simp <;> with_reducible rfl
  try simp only [Act.put, List.setIfInBounds_toArray, List.set_cons_zero, List.set_cons_succ]
  refine wpAnyH_take (i := 14) (oi := ?oo13) (v := ?vv13) ?ii13 (by kernel_rfl) ?ff13 (by kernel_rfl) ?qq13 (Or.inl ⟨?ww13, ?yy13⟩) hd0 ?rr13
  case ii13 => simp only [List.getElem?_toArray, List.getElem?_cons_succ, List.getElem?_cons_zero]; rfl
  case ff13 => kernel_rfl
  case qq13 => exact fun _ _ _ h => h
  case ww13 => rfl
  case yy13 => intro W hW; go_simp <;> with_reducible rfl
  try simp only [Act.put, List.setIfInBounds_toArray, List.set_cons_zero, List.set_cons_succ]
  refine wpAnyH_take (i := 15) (oi := ?oo14) (v := ?vv14) ?ii14 (by kernel_rfl) ?ff14 (by kernel_rfl) ?qq14 (Or.inl ⟨?ww14, ?yy14⟩) hd0 ?rr14
  case ii14 => simp only [List.getElem?_toArray, List.getElem?_cons_succ, List.getElem?_cons_zero]; rfl
  case ff14 => kernel_rfl
  case qq14 => exact fun _ _ _ h => h
  case ww14 => rfl
  case yy14 => intro W hW; go_simp <;> with_reducible rfl
  try simp only [Act.put, List.setIfInBounds_toArray, List.set_cons_zero, List.set_cons_succ]
  refine wpAnyH_take (i := 16) (oi := ?oo15) (v := ?vv15) ?ii15 (by kernel_rfl) ?ff15 (by kernel_rfl) ?qq15 (Or.inl ⟨?ww15, ?yy15⟩) hd0 ?rr15
  case ii15 => simp only [List.getElem?_toArray, List.getElem?_cons_succ, List.getElem?_cons_zero]; rfl
  case ff15 => kernel_rfl
  case qq15 => exact fun _ _ _ h => h
  case ww15 => rfl
  case yy15 => intro W hW; go_simp <;> with_reducible rfl
  try simp only [Act.put, List.setIfInBounds_toArray, List.set_cons_zero, List.set_cons_succ]
  refine wpAnyH_take (i := 17) (oi := ?oo16) (v := ?vv16) ?ii16 (by kernel_rfl) ?ff16 (by kernel_rfl) ?qq16 (Or.inl ⟨?ww16, ?yy16⟩) hd0 ?rr16
  case ii16 => simp only [List.getElem?_toArray, List.getElem?_cons_succ, List.getElem?_cons_zero]; rfl
  case ff16 => kernel_rfl
  case qq16 => exact fun _ _ _ h => h
  case ww16 => rfl
  case yy16 => intro W hW; go_simp <;> with_reducible rfl
  try simp only [Act.put, List.setIfInBounds_toArray, List.set_cons_zero, List.set_cons_succ]
  refine wpAnyH_ready (rs := [6]) (by kernel_rfl) (by simp) ?_
  refine AllReadyH.cons (o := ?oo17) ?ii17 (fun K hK => ?_) AllReadyH.nil
  case ii17 => simp only [List.getElem?_toArray, List.getElem?_cons_succ, List.getElem?_cons_zero]; rfl
  go_simp
  refine (C1.out _).mono ?_
  rintro e w1 ⟨rfl, hb1⟩
  have hd1 := HSt.out _ _ hd0 hb1
  clear hb1
  go_wp2_with fail
  refine hK.out _ _ hd1 (fun _ => ?_)
  clear hK K
  refine wpAnyH_ready (rs := [13]) (by kernel_rfl) (by simp) ?_
  refine AllReadyH.cons (o := ?oo18) ?ii18 (fun K hK => ?_) AllReadyH.nil
  case ii18 => simp only [List.getElem?_toArray, List.getElem?_cons_succ, List.getElem?_cons_zero]; rfl
  go_simp
  refine (C2.out _).mono ?_
  rintro e w2 ⟨rfl, hb2⟩
  have hd2 := HSt.out _ _ hd1 hb2
  clear hb2
  go_wp2_with fail
  refine hK.out _ _ hd2 (fun _ => ?_)
  clear hK K
  refine wpAnyH_ready (rs := [18]) (by kernel_rfl) (by simp) ?_
  refine AllReadyH.cons (o := ?oo19) ?ii19 (fun K hK => ?_) AllReadyH.nil
  case ii19 => simp only [List.getElem?_toArray, List.getElem?_cons_succ, List.getElem?_cons_zero]; rfl
  go_simp
  refine (C3.out _).mono ?_
  rintro e w3 ⟨rfl, hb3⟩
  have hd3 := HSt.out _ _ hd2 hb3
  have hd4 := HSt.out _ _ hd3 ((Below.refl w3.heap.size w3).alloc (Nat.le_refl _) (.cells #[.int .i64 x, .int .i64 y, .int .i64 z] 3))
  have hO := Lib.hid (HO.out w3.heap.size x y z _ (heap_alloc_new w3 _))
  clear hb3
  go_wp2_with fail
  refine hK.out _ _ hd3 (fun _ => ?_)
  clear hK K
  refine wpAnyH_ready (rs := [19]) (by kernel_rfl) (by simp) ?_
  refine AllReadyH.cons (o := ?oo20) ?ii20 (fun K hK => ?_) AllReadyH.nil
  case ii20 => simp only [List.getElem?_toArray, List.getElem?_cons_succ, List.getElem?_cons_zero]; rfl
  go_simp
  go_wp2_with fail
  refine hK.out _ _ hd4 (fun _ => ?_)
  clear hK K
  refine wpAnyH_ready (rs := [20]) (by kernel_rfl) (by simp) ?_
  refine AllReadyH.cons (o := ?oo21) ?ii21 (fun K hK => ?_) AllReadyH.nil
  case ii21 => simp only [List.getElem?_toArray, List.getElem?_cons_succ, List.getElem?_cons_zero]; rfl
  go_simp
  refine hO.out.mono ?_
  rintro e w5 ⟨rfl, hb5⟩
  have hd5 := HSt.out _ _ hd4 hb5
  clear hb5
  go_wp2_with fail
  refine hK.out _ _ hd5 (fun _ => ?_)
  clear hK K
  refine wpAnyH_take (i := 21) (oi := ?oo22) (v := ?vv22) ?ii22 (by kernel_rfl) ?ff22 (by kernel_rfl) ?qq22 (Or.inl ⟨?ww22, ?yy22⟩) hd5 ?rr22
  case ii22 => simp only [List.getElem?_toArray, List.getElem?_cons_succ, List.getElem?_cons_zero]; rfl
  case ff22 => kernel_rfl
  case qq22 => exact fun _ _ _ h => h
  case ww22 => rfl
  case yy22 => intro W hW; go_simp <;> with_reducible rfl
  try simp only [Act.put, List.setIfInBounds_toArray, List.set_cons_zero, List.set_cons_succ]
  refine wpAnyH_take (i := 22) (oi := ?oo23) (v := ?vv23) ?ii23 (by kernel_rfl) ?ff23 (by kernel_rfl) ?qq23 (Or.inl ⟨?ww23, ?yy23⟩) hd5 ?rr23
  case ii23 => simp only [List.getElem?_toArray, List.getElem?_cons_succ, List.getElem?_cons_zero]; rfl
  case ff23 => kernel_rfl
  case qq23 => exact fun _ _ _ h => h
  case ww23 => rfl
  case yy23 => intro W hW; go_simp <;> with_reducible rfl
  try simp only [Act.put, List.setIfInBounds_toArray, List.set_cons_zero, List.set_cons_succ]
  refine wpAnyH_done (by kernel_rfl) ?_ _
  have HR := Lib.hid (HF.out _ hd5)
  clear hd0 hd1 hd2 hd3 hd4 hd5 HF
  go_wp2_with fail
  go_ret
  exact HR.out
end Go.Proofs.Ytlijcfojokbdpaa
