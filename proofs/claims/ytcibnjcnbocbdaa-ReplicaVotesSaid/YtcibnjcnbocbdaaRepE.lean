/- Contract of a table's Apply. Conditions: where the table lies; the command's numbers in their ranges. -/
import Derived.Test.YtcibnjcnbocbdaaRepD
namespace Go.Proofs.Ytcibnjcnbocbdaa
open Go.RowKit RepP Go.Maps
set_option maxRecDepth 100000

def AppP14 (w : World) (b : Nat) (m : Option Nat) (t : T) (n k : Nat) (c : Cmd) (e : Ending) (w' : World) : Prop := e = .returned (.tuple #[.bool (toldT t c), errN (badT c)]) ∧ RepGo w b m (applyT t c) (n + if doneB c = true then 1 else 0) (k + if doneB c = true then 1 else 0) w'
theorem told_is {t : T} (ht : t.length = 8) {c : Cmd} (hd : doneB c = true) : toldT t c = decide (tat (applyT t c) c.key ≠ tat t c.key) := by
  unfold toldT
  rw [apply_at ht, if_pos ⟨hd, rfl⟩, hd, Bool.true_and]

set_option maxHeartbeats 1000000 in
theorem rapply_no (w : World) (b : Nat) (m : Option Nat) (t : T) (n k : Nat) (h : RepIn w b m t n k) (c : Cmd) (hd : doneB c = false) :
    Calls Try.prog 10 #[repV b, cmdV14 c] w (AppP14 w b m t n k c) := by
  have hx := boxCmd w c
  have hG : RepGo w b m t n k (w.alloc (.cells (cmdVals c).toArray 38)) := RepGo.from_ ((Below.refl _ w).alloc (Nat.le_refl _) _) ⟨m, h.below ((Below.refl _ w).alloc (Nat.le_refl _) _), Apart.refl _ _, .inl rfl⟩
  have ht : applyT t c = t := by simp [applyT, hd]
  have hto : toldT t c = false := by simp [toldT, hd]
  have HF : Hid (∀ v, errN (badT c) = v → AppP14 w b m t n k c (.returned (.tuple #[.bool false, v])) (w.alloc (.cells (cmdVals c).toArray 38))) := Lib.hid fun v hv => by
    refine ⟨by rw [hto, hv], ?_⟩
    rw [ht, hd]
    exact hG
  clear h hG ht hto
  have h3 : c.kind = 0 ∨ (c.kind ≠ 0 ∧ 7 < c.key) ∨ (c.kind ≠ 0 ∧ c.key ≤ 7 ∧ 3 < c.kind) := by
    have := of_decide_eq_false hd; omega
  clear hd
  obtain ⟨kind, key, val, old⟩ := c
  have c0 := cell_at hx 0 rfl
  have c1 := cell_at hx 1 rfl
  simp only [cmdVals] at *
  clear hx
  unfold repV cmdV14 at *
  rcases h3 with h3 | ⟨h0, h3⟩ | ⟨h0, h7, h3⟩
  · subst h3
    have HG := Lib.hid (HF.out .nilIface (by simp [badT, errN]))
    clear HF
    go_enter Try.func10, Try.ntmps10
    go_wp2_with fail
    go_ret2
    exact HG.out
  · have q0 : ¬ ((kind : Int) = 0) := by omega
    have q1 : (8 : Int) ≤ (key : Int) := by omega
    have HG := Lib.hid (HF.out (.iface 60 (.int .i64 2)) (by simp [badT, h0, h3, errN]))
    clear HF h0 h3
    go_enter Try.func10, Try.ntmps10
    go_wp2_with fail
    go_ret2
    exact HG.out
  · have q0 : ¬ ((kind : Int) = 0) := by omega
    have q1 : ¬ ((8 : Int) ≤ (key : Int)) := by omega
    have q2 : (3 : Int) < (kind : Int) := by omega
    have HG := Lib.hid (HF.out (.iface 60 (.int .i64 7)) (by simp [badT, h0, show ¬ 7 < key by omega, h3, errN]))
    clear HF h0 h3 h7
    go_enter Try.func10, Try.ntmps10
    go_wp2_with fail
    go_ret2
    exact HG.out

set_option maxHeartbeats 2000000 in
theorem rapply_yes (w : World) (b : Nat) (m : Option Nat) (t : T) (n k : Nat) (h : RepIn w b m t n k) (hk : k ≤ 1000000) (hn : n ≤ 1000000) (c : Cmd) (hc : CmdIn c) (hd : doneB c = true) :
    Calls Try.prog 10 #[repV b, cmdV14 c] w (AppP14 w b m t n k c) := by
  have hbw : Below w.heap.size w (w.alloc (.cells (cmdVals c).toArray 38)) := (Below.refl _ w).alloc (Nat.le_refl _) _
  obtain ⟨h0, h7, h3⟩ := of_decide_eq_true hd
  have hR := fun q => (h.below hbw).drewN q
  have HD := Lib.hid (fun q => rdo_any _ b m t n k (hR q) hk c hc hd)
  have hlk := fun q => (hR q).mp.look (k := c.key) (by omega)
  have k0 := (h.below hbw).c0
  have cx : ∀ q, ((w.alloc (.cells (cmdVals c).toArray 38)).drewN q).heap[w.heap.size]? = some (.cells (cmdVals c).toArray 38 (0, 0)) := fun q => boxCmd w c
  have hx := boxCmd w c
  have HB := Lib.hid (fun q => below_drewNc hbw q)
  have hoff : ∀ q, RepB b m q → q ≠ w.heap.size := fun q hq => Nat.ne_of_lt (h.blt q hq)
  have HO := Lib.hid hoff
  have hto := told_is h.len hd
  have HF : Hid (∀ W tl, tl = decide (tat (applyT t c) c.key ≠ tat t c.key) → RepGo w b m (applyT t c) (n + 1) (k + 1) W → AppP14 w b m t n k c (.returned (.tuple #[.bool tl, .nilIface])) W) := Lib.hid fun W tl h1 h2 => by
    refine ⟨by rw [hto, h1, done_bad hd]; rfl, ?_⟩
    rw [hd]
    exact h2
  have hbz := h.lt
  have HZ : Hid (∀ q, ((w.alloc (.cells (cmdVals c).toArray 38)).drewN q).heap.size = w.heap.size + 1) := Lib.hid fun q => by
    show (w.alloc (.cells (cmdVals c).toArray 38)).heap.size = _
    simp
  clear h hk hc hd hR hbw hoff hto
  generalize applyT t c = t' at *
  obtain ⟨kind, key, val, old⟩ := c
  simp only at h0 h7 h3 hlk
  have q0 : ¬ ((kind : Int) = 0) := by omega
  have q1 : ¬ ((8 : Int) ≤ (key : Int)) := by omega
  have q2 : ¬ ((3 : Int) < (kind : Int)) := by omega
  have c0 := cell_at hx 0 rfl
  have c1 := cell_at hx 1 rfl
  have e0 := fun q => cell_at (cx q) 0 rfl
  have e1 := fun q => cell_at (cx q) 1 rfl
  have e2 := fun q => cell_at (cx q) 2 rfl
  have e3 := fun q => cell_at (cx q) 3 rfl
  have HX := Lib.hid cx
  simp only [cmdVals] at *
  clear hx cx h0 h3
  unfold repV cmdV14 at *
  go_enter Try.func10, Try.ntmps10
  go_wp2_with fail
  generalize (w.alloc (.cells #[.int .u8 (kind : Nat), .int .u8 (key : Nat), .int .u16 (val : Nat), .int .u16 (old : Nat)] 38)) = wb at *
  go_quiet (fail)
  go_wp2_with fail
  rename_i qn _
  clear k0 hlk c0 c1 q0 q1 q2 e0 e1 e2 e3
  refine (HD.out _).mono ?_
  rintro e w2 ⟨rfl, m', hR2, hA2, hM2⟩
  have hx2 := (hA2.block w.heap.size (by rw [HZ.out]; omega) (fun e => HO.out _ e rfl)).trans (HX.out _)
  have g1 := hR2.c1
  have g0 := hR2.free 1
  have hR3 := hR2.counted (n + 1)
  have hA3 := hA2.setCell (p := ⟨b, 1, none⟩) (.inl (.inl rfl)) (.int .i64 ((n + 1 : Nat) : Int))
  have HG := Lib.hid (fun q => RepGo.from_ (HB.out _) ⟨m', hR3.drewN q, hA3.drewN q, hM2⟩)
  have hx3 := (((Apart.refl (fun q => q = b) w2).setCell (p := ⟨b, 1, none⟩) (.inl rfl) (.int .i64 ((n + 1 : Nat) : Int))).block w.heap.size (Array.getElem?_eq_some_iff.1 hx2).1 (by omega)).trans hx2
  have k0 := hR3.c0
  have c1 := cell_at hx3 1 rfl
  have hlk := fun q => (hR3.drewN q).mp.look (k := key) (by omega)
  clear hR2 hA2 hM2 hx2 hx3 hR3 hA3 HD HB HX HZ HO
  have ew : IntKind.i64.wrap ((n : Int) + 1) = ((n + 1 : Nat) : Int) := by rw [IntWalk.i64_in _ (by omega)]; go_num
  generalize ((n + 1 : Nat) : Int) = n1 at *
  go_wp2_with fail
  generalize (w2.setCell ⟨b, 1, none⟩ (.int .i64 n1)) = w3 at *
  clear g1 g0 ew
  go_quiet (fail)
  generalize tat t' key = o' at *
  generalize tat t key = o at *
  clear hlk k0 c1
  cases o with
  | none =>
    cases o' with
    | none =>
      go_wp2_with fail
      go_ret2
      exact HF.out _ _ (by simp) (HG.out _)
    | some v' =>
      go_wp2_with fail
      go_ret2
      exact HF.out _ _ (by simp) (HG.out _)
  | some v =>
    cases o' with
    | none =>
      go_wp2_with fail
      go_ret2
      exact HF.out _ _ (by simp) (HG.out _)
    | some v' =>
      by_cases hv : v' = v
      · subst hv
        go_wp2_with fail
        go_ret2
        exact HF.out _ _ (by simp) (HG.out _)
      · have hne : ¬ ((v' : Int) = (v : Int)) := by omega
        have HN := Lib.hid hv
        clear hv
        go_wp2_with fail
        go_ret2
        exact HF.out _ _ (by have := HN.out; simp [this, hne]) (HG.out _)

theorem rapply_any (w : World) (b : Nat) (m : Option Nat) (t : T) (n k : Nat) (h : RepIn w b m t n k) (hk : k ≤ 1000000) (hn : n ≤ 1000000) (c : Cmd) (hc : CmdIn c) :
    Calls Try.prog 10 #[repV b, cmdV14 c] w (AppP14 w b m t n k c) := by
  cases hd : doneB c with
  | false => exact rapply_no w b m t n k h c hd
  | true => exact rapply_yes w b m t n k h hk hn c hc hd
end Go.Proofs.Ytcibnjcnbocbdaa
