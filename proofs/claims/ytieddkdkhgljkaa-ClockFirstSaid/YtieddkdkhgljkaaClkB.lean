/- Contracts of clock's Real, Since and New, of a nil clock, of the document's Local and Real, and of the law's near and lawful. Conditions: the rate is lawful, times are near (as each states). -/
import Derived.Test.YtieddkdkhgljkaaClkA
namespace Go.Proofs.Ytieddkdkhgljkaa
open Go.RowKit
set_option maxRecDepth 100000

theorem real_any (b : Nat) (since rate loc : Int) (hr : RateIn rate) (hs : TimeIn since) (hd : FarIn loc) (w : World) (h : ClockIn w b since rate) :
    Calls Try.prog 18 #[clockV b, .int .i64 loc] w (Quiet (.int .i64 (ClkP.realT since rate loc)) w) := by
  obtain ⟨k0, k1⟩ := h.cells
  obtain ⟨d1, d2⟩ := hd
  have C0 := Lib.hid (fun n => speed_any b since rate hr (w.drewN n) (h.drewN n))
  have hx := ClkP.real_small (since := since) hr d1 d2
  obtain ⟨r1, r2⟩ := hr
  obtain ⟨s1, s2⟩ := hs
  have C1 := Lib.hid (fun n => down_any (-loc) 1000000 (1000000 + rate) (by omega) (by omega) (by omega) (by omega) (by omega) (by omega) (w.drewN n))
  have e0 : wrap64 (-loc) = -loc := IntWalk.wrap64_in _ (by omega)
  have HF : Hid (wrap64 (since - -loc * 1000000 / (1000000 + rate)) = ClkP.realT since rate loc) := Lib.hid (by
    have E : since - -loc * 1000000 / (1000000 + rate) = ClkP.realT since rate loc := by unfold ClkP.realT; rw [Int.neg_mul]
    rw [E]
    exact IntWalk.wrap64_in _ (by omega))
  generalize -loc * 1000000 / (1000000 + rate) = q at *
  clear r1 r2 h d1 d2 hx s1 s2
  unfold clockV at *
  go_enter Try.func18, Try.ntmps18
  go_wp2_with fail
  go_quiet ((first | (go_at_call 23; exact quiet_quiet (C0.out _)) | (go_at_call 22; exact quiet_quiet (C1.out _))))
  go_wp2_with fail
  go_ret
  exact ⟨congrArg (fun z => Ending.returned (.int .i64 z)) HF.out, _, rfl⟩

theorem since_any (b : Nat) (since rate : Int) (w : World) (h : ClockIn w b since rate) :
    Calls Try.prog 15 #[clockV b] w (Quiet (.int .i64 since) w) := by
  obtain ⟨k0, k1⟩ := h.cells
  clear h
  unfold clockV
  go_enter Try.func15, Try.ntmps15
  go_wp2_with fail
  go_ret
  exact ⟨rfl, 0, rfl⟩

theorem local_nil (t : Int) (w : World) : Calls Try.prog 16 #[.pointer none, .int .i64 t] w (Quiet (.int .i64 0) w) := by
  go_enter Try.func16, Try.ntmps16
  go_wp2_with fail
  go_ret
  exact ⟨rfl, 0, rfl⟩
theorem real_nil (t : Int) (w : World) : Calls Try.prog 18 #[.pointer none, .int .i64 t] w (Quiet (.int .i64 0) w) := by
  go_enter Try.func18, Try.ntmps18
  go_wp2_with fail
  go_ret
  exact ⟨rfl, 0, rfl⟩
theorem since_nil (w : World) : Calls Try.prog 15 #[.pointer none] w (Quiet (.int .i64 0) w) := by
  go_enter Try.func15, Try.ntmps15
  go_wp2_with fail
  go_ret
  exact ⟨rfl, 0, rfl⟩

theorem reflocal_any (since rate real : Int) (hr : RateIn rate) (hd : FarIn (real - since)) (w : World) :
    Calls Try.prog 17 #[.int .i64 since, .int .i64 rate, .int .i64 real] w (Quiet (.int .i64 (ClkP.localT since rate real)) w) := by
  obtain ⟨d1, d2⟩ := hd
  have hm := ClkP.mul_small hr d1 d2
  obtain ⟨r1, r2⟩ := hr
  have e0 : wrap64 (real - since) = real - since := IntWalk.wrap64_in _ (by omega)
  have e1 : wrap64 (1000000 + rate) = 1000000 + rate := IntWalk.wrap64_in _ (by omega)
  have e2 : wrap64 ((real - since) * (1000000 + rate)) = (real - since) * (1000000 + rate) := IntWalk.wrap64_in _ (by omega)
  have C0 := Lib.hid (refdown_any ((real - since) * (1000000 + rate)) 1000000 (by omega) (by omega) (by omega) (by omega) w)
  have E1 : (real - since) * (1000000 + rate) / 1000000 = ClkP.localT since rate real := rfl
  rw [E1] at C0
  generalize ClkP.localT since rate real = v at *
  rw [← e2, ← e0, ← e1] at C0
  clear d1 d2 hm r1 r2 e0 e1 e2 E1
  go_enter Try.func17, Try.ntmps17
  go_wp2_with fail
  refine C0.out.mono ?_
  rintro e w1 ⟨rfl, m, rfl⟩
  go_wp2_with fail
  go_ret
  exact ⟨rfl, _, rfl⟩

theorem refreal_any (since rate loc : Int) (hr : RateIn rate) (hs : TimeIn since) (hd : FarIn loc) (w : World) :
    Calls Try.prog 19 #[.int .i64 since, .int .i64 rate, .int .i64 loc] w (Quiet (.int .i64 (ClkP.realT since rate loc)) w) := by
  obtain ⟨d1, d2⟩ := hd
  have hx := ClkP.real_small (since := since) hr d1 d2
  obtain ⟨r1, r2⟩ := hr
  obtain ⟨s1, s2⟩ := hs
  have e0 : wrap64 (loc * 1000000) = loc * 1000000 := IntWalk.wrap64_in _ (by omega)
  have e1 : wrap64 (1000000 + rate) = 1000000 + rate := IntWalk.wrap64_in _ (by omega)
  have e2 : wrap64 (-(loc * 1000000)) = -(loc * 1000000) := IntWalk.wrap64_in _ (by omega)
  have C0 := Lib.hid (refdown_any (-(loc * 1000000)) (1000000 + rate) (by omega) (by omega) (by omega) (by omega) w)
  have HF : Hid (wrap64 (since - -(loc * 1000000) / (1000000 + rate)) = ClkP.realT since rate loc) := Lib.hid (by
    have E : since - -(loc * 1000000) / (1000000 + rate) = ClkP.realT since rate loc := rfl
    rw [E]
    exact IntWalk.wrap64_in _ (by omega))
  generalize -(loc * 1000000) / (1000000 + rate) = q at *
  rw [← e2, ← e0, ← e1] at C0
  clear d1 d2 hx r1 r2 s1 s2 e0 e1 e2
  go_enter Try.func19, Try.ntmps19
  go_wp2_with fail
  refine C0.out.mono ?_
  rintro e w1 ⟨rfl, m, rfl⟩
  go_wp2_with fail
  go_ret
  exact ⟨congrArg (fun z => Ending.returned (.int .i64 z)) HF.out, _, rfl⟩

theorem near_any (t : Int) (w : World) : Calls Try.prog 14 #[.int .i64 t] w (Quiet (.int .i64 (t.tmod 549755813888)) w) := by
  have hx := ClkP.near_mod t
  have HF := Lib.hid (IntWalk.wrap64_in (t.tmod 549755813888) (by unfold ClkP.Near at hx; omega))
  clear hx
  go_enter Try.func14, Try.ntmps14
  go_wp2_with fail
  go_ret
  exact ⟨rfl, 0, rfl⟩

def LawfulIn (since rate : Int) : Prop := 0 ≤ since ∧ since ≤ 1125899906842624 ∧ -200 ≤ rate ∧ rate ≤ 200
instance (since rate : Int) : Decidable (LawfulIn since rate) := by unfold LawfulIn; infer_instance

theorem lawful_yes (since rate : Int) (h : LawfulIn since rate) (w : World) :
    Calls Try.prog 11 #[.int .i64 since, .int .i64 rate] w (Quiet (.bool true) w) := by
  obtain ⟨h1, h2, h3, h4⟩ := h
  have q1 : decide (0 ≤ since) = true := decide_eq_true h1
  have q2 : decide (since ≤ 1125899906842624) = true := decide_eq_true h2
  have q3 : decide (-200 ≤ rate) = true := decide_eq_true h3
  have q4 : decide (rate ≤ 200) = true := decide_eq_true h4
  clear h1 h2 h3 h4
  go_enter Try.func11, Try.ntmps11
  go_wp2_with fail
  go_ret
  exact ⟨rfl, 0, rfl⟩
theorem lawful_no (since rate : Int) (h : ¬ LawfulIn since rate) (w : World) :
    Calls Try.prog 11 #[.int .i64 since, .int .i64 rate] w (Quiet (.bool false) w) := by
  by_cases h1 : 0 ≤ since
  case neg =>
    have q1 : decide (0 ≤ since) = false := decide_eq_false h1
    clear h h1
    go_enter Try.func11, Try.ntmps11
    go_wp2_with fail
    go_ret
    exact ⟨rfl, 0, rfl⟩
  have q1 : decide (0 ≤ since) = true := decide_eq_true h1
  by_cases h2 : since ≤ 1125899906842624
  case neg =>
    have q2 : decide (since ≤ 1125899906842624) = false := decide_eq_false h2
    clear h h1 h2
    go_enter Try.func11, Try.ntmps11
    go_wp2_with fail
    go_ret
    exact ⟨rfl, 0, rfl⟩
  have q2 : decide (since ≤ 1125899906842624) = true := decide_eq_true h2
  by_cases h3 : -200 ≤ rate
  case neg =>
    have q3 : decide (-200 ≤ rate) = false := decide_eq_false h3
    clear h h1 h2 h3
    go_enter Try.func11, Try.ntmps11
    go_wp2_with fail
    go_ret
    exact ⟨rfl, 0, rfl⟩
  have q3 : decide (-200 ≤ rate) = true := decide_eq_true h3
  have q4 : decide (rate ≤ 200) = false := decide_eq_false (fun h4 => h ⟨h1, h2, h3, h4⟩)
  clear h h1 h2 h3
  go_enter Try.func11, Try.ntmps11
  go_wp2_with fail
  go_ret
  exact ⟨rfl, 0, rfl⟩

def NewGood (since rate : Int) (w : World) (e : Ending) (w' : World) : Prop :=
  ∃ b, e = .returned (.tuple #[clockV b, .nilIface]) ∧ ClockIn w' b since rate ∧ w.heap.size ≤ b ∧ b < w'.heap.size ∧ Below w.heap.size w w'
def NewBad (w : World) (e : Ending) (w' : World) : Prop := e = .returned (.tuple #[.pointer none, errV [] (some 2)]) ∧ w' = w

theorem new_good (since rate : Int) (w : World) : NewGood since rate w (.returned (.tuple #[.pointer (some ⟨w.heap.size, 0, none⟩), .nilIface])) (w.alloc (.cells #[.int .i64 since, .int .i64 rate] 40)) :=
  ⟨w.heap.size, rfl, heap_alloc_new w _, Nat.le_refl _, by rw [World.size_alloc]; omega, (Below.refl _ _).alloc (Nat.le_refl _) _⟩

theorem clock_new (since rate : Int) (h : LawfulIn since rate) (w : World) :
    Calls Try.prog 10 #[.int .i64 since, .int .i64 rate] w (NewGood since rate w) := by
  obtain ⟨h1, h2, h3, h4⟩ := h
  have q1 : decide (since < 0) = false := decide_eq_false (by omega)
  have q2 : decide (1125899906842624 < since) = false := decide_eq_false (by omega)
  have q3 : decide (rate < -200) = false := decide_eq_false (by omega)
  have q4 : decide (200 < rate) = false := decide_eq_false (by omega)
  have HF := Lib.hid (new_good since rate w)
  clear h1 h2 h3 h4
  go_enter Try.func10, Try.ntmps10
  go_wp2_with fail
  go_ret2
  exact HF.out
theorem clock_bad (since rate : Int) (h : ¬ LawfulIn since rate) (w : World) :
    Calls Try.prog 10 #[.int .i64 since, .int .i64 rate] w (NewBad w) := by
  by_cases h1 : 0 ≤ since
  case neg =>
    have q1 : decide (since < 0) = true := decide_eq_true (by omega)
    clear h h1
    go_enter Try.func10, Try.ntmps10
    go_wp2_with fail
    go_ret2
    exact ⟨rfl, rfl⟩
  have q1 : decide (since < 0) = false := decide_eq_false (by omega)
  by_cases h2 : since ≤ 1125899906842624
  case neg =>
    have q2 : decide (1125899906842624 < since) = true := decide_eq_true (by omega)
    clear h h1 h2
    go_enter Try.func10, Try.ntmps10
    go_wp2_with fail
    go_ret2
    exact ⟨rfl, rfl⟩
  have q2 : decide (1125899906842624 < since) = false := decide_eq_false (by omega)
  by_cases h3 : -200 ≤ rate
  case neg =>
    have q3 : decide (rate < -200) = true := decide_eq_true (by omega)
    clear h h1 h2 h3
    go_enter Try.func10, Try.ntmps10
    go_wp2_with fail
    go_ret2
    exact ⟨rfl, rfl⟩
  have q3 : decide (rate < -200) = false := decide_eq_false (by omega)
  have q4 : decide (200 < rate) = true := decide_eq_true (Classical.byContradiction fun h4 => h ⟨h1, h2, h3, by omega⟩)
  clear h h1 h2 h3
  go_enter Try.func10, Try.ntmps10
  go_wp2_with fail
  go_ret2
  exact ⟨rfl, rfl⟩
end Go.Proofs.Ytieddkdkhgljkaa
