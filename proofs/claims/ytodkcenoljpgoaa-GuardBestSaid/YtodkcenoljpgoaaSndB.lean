/- Contracts of sound's meet, fits, joins and their closures; of slices.IndexFunc and ContainsFunc at those closures. Conditions: the tables are allowed. -/
import Derived.Test.YtodkcenoljpgoaaSndA
namespace Go.Proofs.Ytodkcenoljpgoaa
open Go.RowKit
set_option maxRecDepth 100000

def Win (p : TableP.Part) : Prop := 0 ≤ p.start ∧ p.start ≤ 268435456 ∧ 1 ≤ p.length ∧ p.length ≤ 268435456
theorem win_of {n : Int} {p : TableP.Part} (h : TableP.partOk n p) : Win p := by
  obtain ⟨-, h1, h2, -⟩ := h
  unfold TableP.up at h1 h2
  exact ⟨h1.1, h1.2, h2.1, h2.2⟩
theorem any_take {α : Type} {p : α → Bool} {l : List α} {k : Nat} {x : α} (h : l[k]? = some x) : (l.take (k + 1)).any p = ((l.take k).any p || p x) := by
  rw [List.take_add_one, h]
  simp
section
variable {P : Program}
/-- s[:h], of elements of so many cells each. -/
theorem run_slice_tos (W : World) (t e : TypeId) (sz : Nat) (ht : P.underlying t = some (.slice e)) (hz : ∀ w, (Go.sizeOf e).run P w = .ok sz w) (A : Option Addr) (len cap : Nat) (h : Int) (h0 : 0 ≤ h) (h2 : h ≤ cap) :
    (Instr.slice t (.slice A len cap) none (some (.int .i64 h)) none).run P W = .ok (.slice A h.toNat cap) W := by
  have ht' : P.underlying t = some (.slice (P.elem t)) := by simp [Program.elem, ht]
  have he : P.elem t = e := by simp [Program.elem, ht]
  rw [run_slice_h W t _ _ _ ht' .i64 _ h0 h2, he, hz]
  have ha : A.map (fun x : Addr => x.add (0 * sz)) = A := by cases A <;> simp [Addr.add]
  simp only [Result.andThen, sliced, Nat.sub_zero]
  rw [ha]
  split <;> rfl
end

set_option maxHeartbeats 1000000 in
theorem meet_any (a b : TableP.Part) (ha : Win a) (hb : Win b) (w : World) :
    Calls Try.prog 50 #[.agg (partVals a).toArray, .agg (partVals b).toArray] w (BoolPost (SndP.meetB a b) w) := by
  have HB := Lib.hid (fun o1 o2 => ((Below.refl w.heap.size w).alloc (Nat.le_refl _) o1).alloc (by simp) o2)
  obtain ⟨node, start, length, budget, words, r0, r1, r2, r3⟩ := a
  obtain ⟨node', start', length', budget', words', r0', r1', r2', r3'⟩ := b
  obtain ⟨ha1, ha2, ha3, ha4⟩ := ha
  obtain ⟨hb1, hb2, hb3, hb4⟩ := hb
  simp only at ha1 ha2 ha3 ha4 hb1 hb2 hb3 hb4
  simp only [partVals, SndP.meetB]
  have e0 : IntKind.i64.wrap (start' + length') = start' + length' := IntWalk.i64_in _ (by omega)
  have e1 : IntKind.i64.wrap (start + length) = start + length := IntWalk.i64_in _ (by omega)
  clear ha1 ha2 ha3 ha4 hb1 hb2 hb3 hb4
  by_cases h1 : start < start' + length'
  · have q1 : decide (start < start' + length') = true := decide_eq_true h1
    rw [q1, Bool.true_and]
    clear h1
    go_enter Try.func50, Try.ntmps50
    go_wp2_with fail
    go_ret
    exact ⟨rfl, HB.out _ _⟩
  · have q1 : decide (start < start' + length') = false := decide_eq_false h1
    rw [q1, Bool.false_and]
    clear h1
    go_enter Try.func50, Try.ntmps50
    go_wp2_with fail
    go_ret
    exact ⟨rfl, HB.out _ _⟩

set_option maxHeartbeats 1000000 in
theorem fits1_any (p q : TableP.Part) (hp : Win p) (hq : Win q) (N : Nat) (w : World) (hN : w.heap[N]? = some (.cells (partVals p).toArray 71 (0, 0))) :
    Calls Try.prog 49 #[.agg (partVals q).toArray, .pointer (some ⟨N, 0, none⟩)] w (BoolPost (SndP.clash p q) w) := by
  have HB := Lib.hid (fun o => (Below.refl w.heap.size w).alloc (Nat.le_refl _) o)
  have HM := Lib.hid (fun W => meet_any q p hq hp W)
  have hlt := lt_of_block hN
  obtain ⟨node, start, length, budget, words, r0, r1, r2, r3⟩ := p
  obtain ⟨node', start', length', budget', words', r0', r1', r2', r3'⟩ := q
  simp only [partVals] at HM hN ⊢
  have ka := fun o => (show (w.alloc o).heap[N]? = some (.cells #[.int .i64 node, .int .i64 start, .int .i64 length, .int .i64 budget, .int .i64 words, .int .u8 (r0 : Nat), .int .u8 (r1 : Nat), .int .u8 (r2 : Nat), .int .u8 (r3 : Nat)] 71 (0, 0)) from (Below.heap_alloc _ _ _ hlt).trans hN)
  have k0 := fun o => cell_at (ka o) 0 rfl
  have k1 := fun o => cell_at (ka o) 1 rfl
  have k2 := fun o => cell_at (ka o) 2 rfl
  have k3 := fun o => cell_at (ka o) 3 rfl
  have k4 := fun o => cell_at (ka o) 4 rfl
  have k5 := fun o => cell_at (ka o) 5 rfl
  have k6 := fun o => cell_at (ka o) 6 rfl
  have k7 := fun o => cell_at (ka o) 7 rfl
  have k8 := fun o => cell_at (ka o) 8 rfl
  clear ka hN hlt
  clear hp hq
  by_cases h1 : node' = node
  · have q1 : (node' == node) = true := by rw [beq_iff_eq]; exact h1
    have e1 : SndP.clash ⟨node, start, length, budget, words, r0, r1, r2, r3⟩ ⟨node', start', length', budget', words', r0', r1', r2', r3'⟩ = SndP.meetB ⟨node', start', length', budget', words', r0', r1', r2', r3'⟩ ⟨node, start, length, budget, words, r0, r1, r2, r3⟩ := by simp [SndP.clash, h1]
    rw [e1]
    clear h1 e1
    go_enter Try.func49, Try.ntmps49
    go_wp2_with fail
    refine (HM.out _).mono ?_
    rintro e w1 ⟨rfl, hb1⟩
    have HF := Lib.hid ((HB.out _).trans (hb1.mono (by simp)))
    clear hb1
    go_wp2_with fail
    go_ret
    exact ⟨rfl, HF.out⟩
  · have q1 : (node' == node) = false := by rw [beq_eq_false_iff_ne]; exact h1
    have e1 : SndP.clash ⟨node, start, length, budget, words, r0, r1, r2, r3⟩ ⟨node', start', length', budget', words', r0', r1', r2', r3'⟩ = false := by simp [SndP.clash, h1]
    rw [e1]
    clear h1 e1 HM
    go_enter Try.func49, Try.ntmps49
    go_wp2_with fail
    go_ret
    exact ⟨rfl, HB.out _⟩

theorem joins1_any (p q : TableP.Route) (N : Nat) (w : World) (hN : w.heap[N]? = some (.cells (routeVals p).toArray 76 (0, 0))) :
    Calls Try.prog 52 #[.agg (routeVals q).toArray, .pointer (some ⟨N, 0, none⟩)] w (BoolPost (SndP.leads p q) w) := by
  have HB := Lib.hid (fun o => (Below.refl w.heap.size w).alloc (Nat.le_refl _) o)
  have hlt := lt_of_block hN
  obtain ⟨src, dst⟩ := p
  obtain ⟨src', dst'⟩ := q
  simp only [routeVals, SndP.leads] at hN ⊢
  have ka := fun o => (show (w.alloc o).heap[N]? = some (.cells #[.int .i64 src, .int .i64 dst] 76 (0, 0)) from (Below.heap_alloc _ _ _ hlt).trans hN)
  have k1 := fun o => cell_at (ka o) 1 rfl
  clear ka hN hlt
  have e1 : decide (dst' = dst) = (dst' == dst) := by rw [Bool.eq_iff_iff]; simp
  rw [e1]
  clear e1
  go_enter Try.func52, Try.ntmps52
  go_wp2_with fail
  go_ret
  exact ⟨rfl, HB.out _⟩

def IdxPost (b : Bool) (w : World) (e : Ending) (w' : World) : Prop := ∃ r : Int, e = .returned (.int .i64 r) ∧ decide (0 ≤ r) = b ∧ Below w.heap.size w w'
def IdxRel {α : Type} (p : α → Bool) (l : List α) (n : Nat) (W : World) (i : Value) (wr : World) : Prop := ∃ k, k ≤ n ∧ i = .int .i64 (k : Nat) ∧ (l.take k).any p = false ∧ Below W.heap.size W wr

set_option maxHeartbeats 1000000 in
theorem indexP_any (p : TableP.Part) (l : List TableP.Part) (hp : Win p) (hw : ∀ q ∈ l, Win q) (A : Option Addr) (n cap N : Nat) (w : World) (h : ItemsIn partVals 9 w A l) (hl : l.length = n) (hn : n ≤ 12) (hN : w.heap[N]? = some (.cells (partVals p).toArray 71 (0, 0))) :
    Calls Try.prog 55 #[.slice A n cap, .func (.func 49) #[] #[.pointer (some ⟨N, 0, none⟩)]] w (IdxPost (l.any (SndP.clash p)) w) := by
  have HI := Lib.hid h
  have hlt := lt_of_block hN
  have HC : Hid (∀ W q, q ∈ l → Below w.heap.size w W → Calls Try.prog 49 #[.agg (partVals q).toArray, .pointer (some ⟨N, 0, none⟩)] W (BoolPost ((SndP.clash p) q) W)) := Lib.hid fun W q hq hb => fits1_any p q hp (hw q hq) N W ((hb.block N hlt).trans hN)
  have HST := Lib.hid (Below.refl w.heap.size w)
  clear h hlt hN
  generalize hpr : (SndP.clash p) = pr at *
  clear hpr
  go_enter Try.func55, Try.ntmps55
  go_wp2_with fail
  go_loopw [8] (IdxRel pr l n w) (fun i _ => (n + 1 - intOf i).toNat)
  case atStart => exact ⟨0, Nat.zero_le _, rfl, rfl, HST.out⟩
  case round =>
    clear HST
    obtain ⟨k, hk, rfl, hnone, hb⟩ := hrel
    have Hb := Lib.hid hb
    have Hno := Lib.hid hnone
    clear hb hnone
    by_cases hlt : k < n
    · obtain ⟨y, hmk⟩ : ∃ y, l[k]? = some y := ⟨_, List.getElem?_eq_getElem (by omega)⟩
      obtain ⟨b, off, e, hbl, c0, c1, c2, c3, c4, c5, c6, c7, c8⟩ := parts_at (HI.out.below Hb.out) hmk
      have HP := Lib.hid (HC.out wr y (List.mem_of_getElem? hmk) Hb.out)
      have Hta := Lib.hid (any_take (p := pr) hmk)
      have Hmem := Lib.hid (List.mem_of_getElem? hmk)
      clear hmk
      subst e
      by_cases hy : pr y = true
      case pos =>
        have HF : Hid (∀ W, Below wr.heap.size wr W → IdxPost (l.any pr) w (.returned (.int .i64 (k : Nat))) W) := Lib.hid fun W hW => ⟨k, rfl, by rw [List.any_eq_true.2 ⟨y, Hmem.out, hy⟩]; simp, Hb.out.trans (hW.mono Hb.out.size)⟩
        rw [hy] at HP
        clear hy Hta Hmem
        obtain ⟨node, start, length, budget, words, r0, r1, r2, r3⟩ := y
        simp only at c0 c1 c2 c3 c4 c5 c6 c7 c8
        simp only [partVals] at HP
        go_wp2_with fail
        refine HP.out.mono ?_
        rintro e w1 ⟨rfl, hb1⟩
        have HF2 := Lib.hid (HF.out _ hb1)
        clear hb1
        go_wp2_with fail
        go_ret
        exact HF2.out
      have hy2 : pr y = false := by simpa using hy
      have HR : Hid (∀ W, Below wr.heap.size wr W → IdxRel pr l n w (.int .i64 ((k : Int) + 1)) W) := Lib.hid fun W hW => by
        refine ⟨k + 1, by omega, by go_num, ?_, Hb.out.trans (hW.mono Hb.out.size)⟩
        rw [Hta.out, Hno.out, hy2]; rfl
      rw [hy2] at HP
      clear hy hy2 Hta Hmem
      obtain ⟨node, start, length, budget, words, r0, r1, r2, r3⟩ := y
      simp only at c0 c1 c2 c3 c4 c5 c6 c7 c8
      simp only [partVals] at HP
      go_wp2_with fail
      refine HP.out.mono ?_
      rintro e w1 ⟨rfl, hb1⟩
      have HR2 := Lib.hid (HR.out _ hb1)
      clear hb1
      go_wp2_with fail
      go_roundw
      case rel => exact HR2.out
      case measure => simp [intOf]; omega
    have hkn : n = k := by omega
    have HF : Hid (IdxPost (l.any pr) w (.returned (.int .i64 (-1))) wr) := Lib.hid ⟨-1, rfl, by
      have h0 := Hno.out
      rw [List.take_of_length_le (by omega)] at h0
      rw [h0]; rfl, Hb.out⟩
    subst hkn
    go_wp2_with fail
    go_ret
    exact HF.out
theorem containsP_any (p : TableP.Part) (l : List TableP.Part) (hp : Win p) (hw : ∀ q ∈ l, Win q) (A : Option Addr) (n cap N : Nat) (w : World) (h : ItemsIn partVals 9 w A l) (hl : l.length = n) (hn : n ≤ 12) (hN : w.heap[N]? = some (.cells (partVals p).toArray 71 (0, 0))) :
    Calls Try.prog 48 #[.slice A n cap, .func (.func 49) #[] #[.pointer (some ⟨N, 0, none⟩)]] w (BoolPost (l.any (SndP.clash p)) w) := by
  have HC := Lib.hid (indexP_any p l hp hw A n cap N w h hl hn hN)
  clear h hN
  generalize l.any (SndP.clash p) = bb at *
  go_enter Try.func48, Try.ntmps48
  go_wp2_with fail
  refine HC.out.mono ?_
  rintro e w1 ⟨r, rfl, rfl, hb1⟩
  have Hb := Lib.hid hb1
  clear hb1
  go_wp2_with fail
  go_ret
  exact ⟨rfl, Hb.out⟩

set_option maxHeartbeats 1000000 in
theorem indexR_any (p : TableP.Route) (l : List TableP.Route) (A : Option Addr) (n cap N : Nat) (w : World) (h : ItemsIn routeVals 2 w A l) (hl : l.length = n) (hn : n ≤ 24) (hN : w.heap[N]? = some (.cells (routeVals p).toArray 76 (0, 0))) :
    Calls Try.prog 56 #[.slice A n cap, .func (.func 52) #[] #[.pointer (some ⟨N, 0, none⟩)]] w (IdxPost (l.any (SndP.leads p)) w) := by
  have HI := Lib.hid h
  have hlt := lt_of_block hN
  have HC : Hid (∀ W q, q ∈ l → Below w.heap.size w W → Calls Try.prog 52 #[.agg (routeVals q).toArray, .pointer (some ⟨N, 0, none⟩)] W (BoolPost ((SndP.leads p) q) W)) := Lib.hid fun W q hq hb => joins1_any p q N W ((hb.block N hlt).trans hN)
  have HST := Lib.hid (Below.refl w.heap.size w)
  clear h hlt hN
  generalize hpr : (SndP.leads p) = pr at *
  clear hpr
  go_enter Try.func56, Try.ntmps56
  go_wp2_with fail
  go_loopw [8] (IdxRel pr l n w) (fun i _ => (n + 1 - intOf i).toNat)
  case atStart => exact ⟨0, Nat.zero_le _, rfl, rfl, HST.out⟩
  case round =>
    clear HST
    obtain ⟨k, hk, rfl, hnone, hb⟩ := hrel
    have Hb := Lib.hid hb
    have Hno := Lib.hid hnone
    clear hb hnone
    by_cases hlt : k < n
    · obtain ⟨y, hmk⟩ : ∃ y, l[k]? = some y := ⟨_, List.getElem?_eq_getElem (by omega)⟩
      obtain ⟨b, off, e, hbl, c0, c1⟩ := routes_at (HI.out.below Hb.out) hmk
      have HP := Lib.hid (HC.out wr y (List.mem_of_getElem? hmk) Hb.out)
      have Hta := Lib.hid (any_take (p := pr) hmk)
      have Hmem := Lib.hid (List.mem_of_getElem? hmk)
      clear hmk
      subst e
      by_cases hy : pr y = true
      case pos =>
        have HF : Hid (∀ W, Below wr.heap.size wr W → IdxPost (l.any pr) w (.returned (.int .i64 (k : Nat))) W) := Lib.hid fun W hW => ⟨k, rfl, by rw [List.any_eq_true.2 ⟨y, Hmem.out, hy⟩]; simp, Hb.out.trans (hW.mono Hb.out.size)⟩
        rw [hy] at HP
        clear hy Hta Hmem
        obtain ⟨src, dst⟩ := y
        simp only at c0 c1
        simp only [routeVals] at HP
        go_wp2_with fail
        refine HP.out.mono ?_
        rintro e w1 ⟨rfl, hb1⟩
        have HF2 := Lib.hid (HF.out _ hb1)
        clear hb1
        go_wp2_with fail
        go_ret
        exact HF2.out
      have hy2 : pr y = false := by simpa using hy
      have HR : Hid (∀ W, Below wr.heap.size wr W → IdxRel pr l n w (.int .i64 ((k : Int) + 1)) W) := Lib.hid fun W hW => by
        refine ⟨k + 1, by omega, by go_num, ?_, Hb.out.trans (hW.mono Hb.out.size)⟩
        rw [Hta.out, Hno.out, hy2]; rfl
      rw [hy2] at HP
      clear hy hy2 Hta Hmem
      obtain ⟨src, dst⟩ := y
      simp only at c0 c1
      simp only [routeVals] at HP
      go_wp2_with fail
      refine HP.out.mono ?_
      rintro e w1 ⟨rfl, hb1⟩
      have HR2 := Lib.hid (HR.out _ hb1)
      clear hb1
      go_wp2_with fail
      go_roundw
      case rel => exact HR2.out
      case measure => simp [intOf]; omega
    have hkn : n = k := by omega
    have HF : Hid (IdxPost (l.any pr) w (.returned (.int .i64 (-1))) wr) := Lib.hid ⟨-1, rfl, by
      have h0 := Hno.out
      rw [List.take_of_length_le (by omega)] at h0
      rw [h0]; rfl, Hb.out⟩
    subst hkn
    go_wp2_with fail
    go_ret
    exact HF.out
theorem containsR_any (p : TableP.Route) (l : List TableP.Route) (A : Option Addr) (n cap N : Nat) (w : World) (h : ItemsIn routeVals 2 w A l) (hl : l.length = n) (hn : n ≤ 24) (hN : w.heap[N]? = some (.cells (routeVals p).toArray 76 (0, 0))) :
    Calls Try.prog 51 #[.slice A n cap, .func (.func 52) #[] #[.pointer (some ⟨N, 0, none⟩)]] w (BoolPost (l.any (SndP.leads p)) w) := by
  have HC := Lib.hid (indexR_any p l A n cap N w h hl hn hN)
  clear h hN
  generalize l.any (SndP.leads p) = bb at *
  go_enter Try.func51, Try.ntmps51
  go_wp2_with fail
  refine HC.out.mono ?_
  rintro e w1 ⟨r, rfl, rfl, hb1⟩
  have Hb := Lib.hid hb1
  clear hb1
  go_wp2_with fail
  go_ret
  exact ⟨rfl, Hb.out⟩
end Go.Proofs.Ytodkcenoljpgoaa
