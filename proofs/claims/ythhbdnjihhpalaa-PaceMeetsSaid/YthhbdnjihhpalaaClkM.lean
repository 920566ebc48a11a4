/- Contracts of clock's functions, of the law's near and lawful, and of the document's Local and Real. Conditions: the rate is lawful, times are near (as each states). · Contracts of clock's Real, Since and New, of a nil clock, of the document's Local and Real, and of the law's near and lawful. Conditions: the rate is lawful, times are near (as each states). · Awake of stage 7: true; clocks that a law has made. Conditions: none. -/
import Derived.Test.YthhbdnjihhpalaaErrM
import Derived.Test.YthhbdnjihhpalaaPlB
import Derived.Test.YthhbdnjihhpalaaMem
import Derived.BigQuiet
namespace Go.Proofs.Ythhbdnjihhpalaa
open Go.RowKit
set_option maxRecDepth 100000

/-- A clock in memory. -/
def ClockIn (w : World) (b : Nat) (since rate : Int) : Prop := w.heap[b]? = some (.cells #[.int .i64 since, .int .i64 rate] 94 (0, 0))
theorem ClockIn.drewN {w : World} {b : Nat} {since rate : Int} (h : ClockIn w b since rate) (n : Nat) : ClockIn (w.drewN n) b since rate := h
theorem ClockIn.cells {w : World} {b : Nat} {since rate : Int} (h : ClockIn w b since rate) :
    w.cell? ⟨b, 0, none⟩ = some (.int .i64 since) ∧ w.cell? ⟨b, 1, none⟩ = some (.int .i64 rate) := by
  unfold ClockIn at h
  refine ⟨?_, ?_⟩ <;> simp [World.cell?, h]
def clockV (b : Nat) : Value := .pointer (some ⟨b, 0, none⟩)

theorem refdown_any (a b : Int) (hb : 0 < b) (hb2 : b ≤ 2000000) (h1 : -4611686018427387904 ≤ a) (h2 : a ≤ 4611686018427387904) (w : World) :
    Calls Try.prog 42 #[.int .i64 a, .int .i64 b] w (Quiet (.int .i64 (a / b)) w) := by
  have q0 : ¬ b = 0 := by omega
  have hr := ClkP.rest_lt (a := a) hb
  have e0 : IntKind.i64.wrap (a.tmod b) = a.tmod b := IntWalk.i64_in _ (by omega)
  have hq := ClkP.quot_in h1 h2 hb
  by_cases h : a.tmod b < 0
  · have q1 : decide (a.tmod b < 0) = true := decide_eq_true h
    have e1 : IntKind.i64.wrap (a.tmod b + b) = a.tmod b + b := IntWalk.i64_in _ (by omega)
    have e2 : IntKind.i64.wrap (a - (a.tmod b + b)) = a - (a.tmod b + b) := IntWalk.i64_in _ (by omega)
    have e3 := ClkP.down_yes hb h
    have e4 : IntKind.i64.wrap (a / b) = a / b := IntWalk.i64_in _ (by omega)
    clear hb hb2 h1 h2 hr hq h
    go_enter Try.func42, Try.ntmps42
    go_wp2_with fail
    go_ret
    exact ⟨rfl, 0, rfl⟩
  · have q1 : decide (a.tmod b < 0) = false := decide_eq_false h
    have e2 : IntKind.i64.wrap (a - a.tmod b) = a - a.tmod b := IntWalk.i64_in _ (by omega)
    have e3 := ClkP.down_no hb h
    have e4 : IntKind.i64.wrap (a / b) = a / b := IntWalk.i64_in _ (by omega)
    clear hb hb2 h1 h2 hr hq h
    go_enter Try.func42, Try.ntmps42
    go_wp2_with fail
    go_ret
    exact ⟨rfl, 0, rfl⟩

theorem down_any (n t b : Int) (hb : 0 < b) (hb2 : b ≤ 1000200) (ht : 0 ≤ t) (ht2 : t ≤ 1000200) (h1 : -2199023255552 ≤ n) (h2 : n ≤ 2199023255552) (w : World) :
    Calls Try.prog 56 #[.int .i64 n, .int .i64 t, .int .i64 b] w (Quiet (.int .i64 (n * t / b)) w) := by
  have q0 : ¬ b = 0 := by omega
  have hr := ClkP.rest_lt (a := n) hb
  have hq := ClkP.quot_in h1 h2 hb
  have hqt := ClkP.prod_in (a := n / b) (m := 2199023255553) (by omega) (by omega) ht ht2
  have hw := ClkP.whole_rest (n := n) (t := t) hb
  have hm0 := Int.emod_nonneg n (Int.ne_of_gt hb)
  have hm1 := Int.emod_lt_of_pos n hb
  have hmt := ClkP.prod_in (a := n % b) (m := 1000200) (by omega) (by omega) ht ht2
  have hmt0 := Int.mul_nonneg hm0 ht
  have hmq := ClkP.quot_in hmt.1 hmt.2 hb
  have e1 : wrap64 (n / b * t) = n / b * t := IntWalk.wrap64_in _ (by omega)
  have e2 : wrap64 (n % b * t) = n % b * t := IntWalk.wrap64_in _ (by omega)
  have e3 : (n % b * t).tdiv b = n % b * t / b := ClkP.quo_up hmt0
  have e4 : wrap64 (n % b * t / b) = n % b * t / b := IntWalk.wrap64_in _ (by omega)
  have e5 : wrap64 (n / b * t + n % b * t / b) = n / b * t + n % b * t / b := IntWalk.wrap64_in _ (by omega)
  rw [← hw]
  have em := Int.emod_add_mul_ediv n b
  have et := ClkP.quo_rest n b
  by_cases h : n.tmod b < 0
  · have q1 : decide (n.tmod b < 0) = true := decide_eq_true h
    have f1 := ClkP.floor_yes hb h
    have f2 : n.tmod b + b = n % b := by
      have : b * (n / b) = b * n.tdiv b - b := by rw [← f1, Int.mul_sub, Int.mul_one]
      omega
    have e6 : wrap64 (n.tdiv b) = n.tdiv b := IntWalk.wrap64_in _ (by omega)
    have e7 : wrap64 (n / b) = n / b := IntWalk.wrap64_in _ (by omega)
    have e8 : wrap64 (n % b) = n % b := IntWalk.wrap64_in _ (by omega)
    have HF := Lib.hid (show wrap64 (wrap64 (wrap64 (wrap64 (n.tdiv b) - 1) * t) + wrap64 ((wrap64 (wrap64 (n.tmod b + b) * t)).tdiv b)) = n / b * t + n % b * t / b by
      rw [e6, f1, f2, e7, e8, e1, e2, e3, e4, e5])
    clear f1 f2 hb hb2 ht ht2 h1 h2 hr hq hqt hw hm0 hm1 hmt hmt0 hmq em et h e1 e2 e3 e4 e5 e6 e7 e8
    go_enter Try.func56, Try.ntmps56
    go_wp2_with fail
    go_quiet (fail)
    go_wp2_with fail
    go_ret
    exact ⟨congrArg (fun z => Ending.returned (.int .i64 z)) HF.out, _, rfl⟩
  · have q1 : decide (n.tmod b < 0) = false := decide_eq_false h
    have f1 := ClkP.floor_no hb h
    have f2 : n.tmod b = n % b := by rw [f1] at et; omega
    have e7 : wrap64 (n / b) = n / b := IntWalk.wrap64_in _ (by omega)
    have HF := Lib.hid (show wrap64 (wrap64 (wrap64 (n.tdiv b) * t) + wrap64 ((wrap64 (n.tmod b * t)).tdiv b)) = n / b * t + n % b * t / b by
      rw [f1, f2, e7, e1, e2, e3, e4, e5])
    clear f1 f2 hb hb2 ht ht2 h1 h2 hr hq hqt hw hm0 hm1 hmt hmt0 hmq em et h e1 e2 e3 e4 e5 e7
    go_enter Try.func56, Try.ntmps56
    go_wp2_with fail
    go_quiet (fail)
    go_wp2_with fail
    go_ret
    exact ⟨congrArg (fun z => Ending.returned (.int .i64 z)) HF.out, _, rfl⟩

def RateIn (rate : Int) : Prop := -200 ≤ rate ∧ rate ≤ 200
theorem speed_any (b : Nat) (since rate : Int) (hr : RateIn rate) (w : World) (h : ClockIn w b since rate) :
    Calls Try.prog 57 #[clockV b] w (Quiet (.int .i64 (1000000 + rate)) w) := by
  obtain ⟨k0, k1⟩ := h.cells
  obtain ⟨r1, r2⟩ := hr
  have HF := Lib.hid (IntWalk.wrap64_in (1000000 + rate) (by omega))
  clear r1 r2 h
  unfold clockV
  go_enter Try.func57, Try.ntmps57
  go_wp2_with fail
  go_ret
  exact ⟨congrArg (fun z => Ending.returned (.int .i64 z)) HF.out, 0, rfl⟩

/-- A time near to a clock's beginning. -/
def FarIn (d : Int) : Prop := -2199023255552 ≤ d ∧ d ≤ 2199023255552
def TimeIn (t : Int) : Prop := -4611686018427387904 ≤ t ∧ t ≤ 4611686018427387904

theorem local_any (b : Nat) (since rate real : Int) (hr : RateIn rate) (hd : FarIn (real - since)) (w : World) (h : ClockIn w b since rate) :
    Calls Try.prog 41 #[clockV b, .int .i64 real] w (Quiet (.int .i64 (ClkP.localT since rate real)) w) := by
  obtain ⟨k0, k1⟩ := h.cells
  have hd2 := hd
  obtain ⟨d1, d2⟩ := hd2
  have e0 : wrap64 (real - since) = real - since := IntWalk.wrap64_in _ (by omega)
  have C0 := Lib.hid (fun n => speed_any b since rate hr (w.drewN n) (h.drewN n))
  obtain ⟨r1, r2⟩ := hr
  have C1 := Lib.hid (fun n => down_any (real - since) (1000000 + rate) 1000000 (by omega) (by omega) (by omega) (by omega) hd.1 hd.2 (w.drewN n))
  have E1 : (real - since) * (1000000 + rate) / 1000000 = ClkP.localT since rate real := rfl
  rw [E1] at C1
  generalize ClkP.localT since rate real = v at *
  have HE := Lib.hid e0
  clear r1 r2 h d1 d2 hd E1
  unfold clockV at *
  go_enter Try.func41, Try.ntmps41
  go_wp2_with fail
  go_quiet ((first | (go_at_call 57; exact quiet_quiet (C0.out _)) | (go_at_call 56; exact quiet_quiet (C1.out _))))
  go_wp2_with fail
  go_ret
  exact ⟨rfl, _, rfl⟩
end Go.Proofs.Ythhbdnjihhpalaa
namespace Go.Proofs.Ythhbdnjihhpalaa
open Go.RowKit
set_option maxRecDepth 100000

theorem real_any (b : Nat) (since rate loc : Int) (hr : RateIn rate) (hs : TimeIn since) (hd : FarIn loc) (w : World) (h : ClockIn w b since rate) :
    Calls Try.prog 40 #[clockV b, .int .i64 loc] w (Quiet (.int .i64 (ClkP.realT since rate loc)) w) := by
  obtain ⟨k0, k1⟩ := h.cells
  obtain ⟨d1, d2⟩ := hd
  have C0 := Lib.hid (fun n => speed_any b since rate hr (w.drewN n) (h.drewN n))
  have hx := ClkP.real_small (since := since) hr d1 d2
  obtain ⟨r1, r2⟩ := hr
  obtain ⟨s1, s2⟩ := hs
  have C1 := Lib.hid (fun n => down_any (-loc) 1000000 (1000000 + rate) (by omega) (by omega) (by omega) (by omega) (by omega) (by omega) (w.drewN n))
  have e0 : wrap64 (-loc) = -loc := IntWalk.wrap64_in _ (by omega)
  have HF : Hid (wrap64 (since - -loc * 1000000 / (1000000 + rate)) = ClkP.realT since rate loc) := Lib.hid (by
    have E : since - -loc * 1000000 / (1000000 + rate) = ClkP.realT since rate loc := by unfold ClkP.realT; rw [Int.neg_mul]
    rw [E]
    exact IntWalk.wrap64_in _ (by omega))
  generalize -loc * 1000000 / (1000000 + rate) = q at *
  clear r1 r2 h d1 d2 hx s1 s2
  unfold clockV at *
  go_enter Try.func40, Try.ntmps40
  go_wp2_with fail
  go_quiet ((first | (go_at_call 57; exact quiet_quiet (C0.out _)) | (go_at_call 56; exact quiet_quiet (C1.out _))))
  go_wp2_with fail
  go_ret
  exact ⟨congrArg (fun z => Ending.returned (.int .i64 z)) HF.out, _, rfl⟩

theorem local_nil (t : Int) (w : World) : Calls Try.prog 41 #[.pointer none, .int .i64 t] w (Quiet (.int .i64 0) w) := by
  go_enter Try.func41, Try.ntmps41
  go_wp2_with fail
  go_ret
  exact ⟨rfl, 0, rfl⟩
theorem real_nil (t : Int) (w : World) : Calls Try.prog 40 #[.pointer none, .int .i64 t] w (Quiet (.int .i64 0) w) := by
  go_enter Try.func40, Try.ntmps40
  go_wp2_with fail
  go_ret
  exact ⟨rfl, 0, rfl⟩
theorem reflocal_any (since rate real : Int) (hr : RateIn rate) (hd : FarIn (real - since)) (w : World) :
    Calls Try.prog 19 #[.int .i64 since, .int .i64 rate, .int .i64 real] w (Quiet (.int .i64 (ClkP.localT since rate real)) w) := by
  obtain ⟨d1, d2⟩ := hd
  have hm := ClkP.mul_small hr d1 d2
  obtain ⟨r1, r2⟩ := hr
  have e0 : wrap64 (real - since) = real - since := IntWalk.wrap64_in _ (by omega)
  have e1 : wrap64 (1000000 + rate) = 1000000 + rate := IntWalk.wrap64_in _ (by omega)
  have e2 : wrap64 ((real - since) * (1000000 + rate)) = (real - since) * (1000000 + rate) := IntWalk.wrap64_in _ (by omega)
  have C0 := Lib.hid (refdown_any ((real - since) * (1000000 + rate)) 1000000 (by omega) (by omega) (by omega) (by omega) w)
  have E1 : (real - since) * (1000000 + rate) / 1000000 = ClkP.localT since rate real := rfl
  rw [E1] at C0
  generalize ClkP.localT since rate real = v at *
  rw [← e2, ← e0, ← e1] at C0
  clear d1 d2 hm r1 r2 e0 e1 e2 E1
  go_enter Try.func19, Try.ntmps19
  go_wp2_with fail
  refine C0.out.mono ?_
  rintro e w1 ⟨rfl, m, rfl⟩
  go_wp2_with fail
  go_ret
  exact ⟨rfl, _, rfl⟩

theorem refreal_any (since rate loc : Int) (hr : RateIn rate) (hs : TimeIn since) (hd : FarIn loc) (w : World) :
    Calls Try.prog 45 #[.int .i64 since, .int .i64 rate, .int .i64 loc] w (Quiet (.int .i64 (ClkP.realT since rate loc)) w) := by
  obtain ⟨d1, d2⟩ := hd
  have hx := ClkP.real_small (since := since) hr d1 d2
  obtain ⟨r1, r2⟩ := hr
  obtain ⟨s1, s2⟩ := hs
  have e0 : wrap64 (loc * 1000000) = loc * 1000000 := IntWalk.wrap64_in _ (by omega)
  have e1 : wrap64 (1000000 + rate) = 1000000 + rate := IntWalk.wrap64_in _ (by omega)
  have e2 : wrap64 (-(loc * 1000000)) = -(loc * 1000000) := IntWalk.wrap64_in _ (by omega)
  have C0 := Lib.hid (refdown_any (-(loc * 1000000)) (1000000 + rate) (by omega) (by omega) (by omega) (by omega) w)
  have HF : Hid (wrap64 (since - -(loc * 1000000) / (1000000 + rate)) = ClkP.realT since rate loc) := Lib.hid (by
    have E : since - -(loc * 1000000) / (1000000 + rate) = ClkP.realT since rate loc := rfl
    rw [E]
    exact IntWalk.wrap64_in _ (by omega))
  generalize -(loc * 1000000) / (1000000 + rate) = q at *
  rw [← e2, ← e0, ← e1] at C0
  clear d1 d2 hx r1 r2 s1 s2 e0 e1 e2
  go_enter Try.func45, Try.ntmps45
  go_wp2_with fail
  refine C0.out.mono ?_
  rintro e w1 ⟨rfl, m, rfl⟩
  go_wp2_with fail
  go_ret
  exact ⟨congrArg (fun z => Ending.returned (.int .i64 z)) HF.out, _, rfl⟩

def LawfulIn (since rate : Int) : Prop := 0 ≤ since ∧ since ≤ 1125899906842624 ∧ -200 ≤ rate ∧ rate ≤ 200
instance (since rate : Int) : Decidable (LawfulIn since rate) := by unfold LawfulIn; infer_instance

def NewGood (since rate : Int) (w : World) (e : Ending) (w' : World) : Prop :=
  ∃ b, e = .returned (.tuple #[clockV b, .nilIface]) ∧ ClockIn w' b since rate ∧ w.heap.size ≤ b ∧ b < w'.heap.size ∧ Below w.heap.size w w'
def NewBad (w : World) (e : Ending) (w' : World) : Prop := e = .returned (.tuple #[.pointer none, errV [] (some 2)]) ∧ w' = w

theorem new_good (since rate : Int) (w : World) : NewGood since rate w (.returned (.tuple #[.pointer (some ⟨w.heap.size, 0, none⟩), .nilIface])) (w.alloc (.cells #[.int .i64 since, .int .i64 rate] 94)) :=
  ⟨w.heap.size, rfl, heap_alloc_new w _, Nat.le_refl _, by rw [World.size_alloc]; omega, (Below.refl _ _).alloc (Nat.le_refl _) _⟩

theorem clock_new (since rate : Int) (h : LawfulIn since rate) (w : World) :
    Calls Try.prog 31 #[.int .i64 since, .int .i64 rate] w (NewGood since rate w) := by
  obtain ⟨h1, h2, h3, h4⟩ := h
  have q1 : decide (since < 0) = false := decide_eq_false (by omega)
  have q2 : decide (1125899906842624 < since) = false := decide_eq_false (by omega)
  have q3 : decide (rate < -200) = false := decide_eq_false (by omega)
  have q4 : decide (200 < rate) = false := decide_eq_false (by omega)
  have HF := Lib.hid (new_good since rate w)
  clear h1 h2 h3 h4
  go_enter Try.func31, Try.ntmps31
  go_wp2_with fail
  go_ret2
  exact HF.out
theorem clock_bad (since rate : Int) (h : ¬ LawfulIn since rate) (w : World) :
    Calls Try.prog 31 #[.int .i64 since, .int .i64 rate] w (NewBad w) := by
  by_cases h1 : 0 ≤ since
  case neg =>
    have q1 : decide (since < 0) = true := decide_eq_true (by omega)
    clear h h1
    go_enter Try.func31, Try.ntmps31
    go_wp2_with fail
    go_ret2
    exact ⟨rfl, rfl⟩
  have q1 : decide (since < 0) = false := decide_eq_false (by omega)
  by_cases h2 : since ≤ 1125899906842624
  case neg =>
    have q2 : decide (1125899906842624 < since) = true := decide_eq_true (by omega)
    clear h h1 h2
    go_enter Try.func31, Try.ntmps31
    go_wp2_with fail
    go_ret2
    exact ⟨rfl, rfl⟩
  have q2 : decide (1125899906842624 < since) = false := decide_eq_false (by omega)
  by_cases h3 : -200 ≤ rate
  case neg =>
    have q3 : decide (rate < -200) = true := decide_eq_true (by omega)
    clear h h1 h2 h3
    go_enter Try.func31, Try.ntmps31
    go_wp2_with fail
    go_ret2
    exact ⟨rfl, rfl⟩
  have q3 : decide (rate < -200) = false := decide_eq_false (by omega)
  have q4 : decide (200 < rate) = true := decide_eq_true (Classical.byContradiction fun h4 => h ⟨h1, h2, h3, by omega⟩)
  clear h h1 h2 h3
  go_enter Try.func31, Try.ntmps31
  go_wp2_with fail
  go_ret2
  exact ⟨rfl, rfl⟩
end Go.Proofs.Ythhbdnjihhpalaa
namespace Go.Proofs.Ythhbdnjihhpalaa
open Go.RowKit
set_option maxRecDepth 100000

/-- A clock that was made, seen from a world behind which only orders are drawn. -/
structure Made (b : Nat) (since rate : Int) (w : World) : Prop where
  inn : ClockIn w b since rate
  ok : LawfulIn since rate
theorem Made.rate {b : Nat} {since rate : Int} {w : World} (h : Made b since rate w) : RateIn rate := h.ok.2.2
theorem Made.time {b : Nat} {since rate : Int} {w : World} (h : Made b since rate w) : TimeIn since := ⟨by have := h.ok.1; omega, by have := h.ok.2.1; omega⟩
theorem Made.local {b : Nat} {since rate : Int} {w : World} (h : Made b since rate w) (n : Nat) (t : Int) (hd : FarIn (t - since)) :
    Calls Try.prog 41 #[clockV b, .int .i64 t] (w.drewN n) fun e w' => e = .returned (.int .i64 (ClkP.localT since rate t)) ∧ ∃ m, w' = w.drewN m :=
  quiet_quiet (local_any b since rate t h.rate hd (w.drewN n) (h.inn.drewN n))
theorem Made.real {b : Nat} {since rate : Int} {w : World} (h : Made b since rate w) (n : Nat) (t : Int) (hd : FarIn t) :
    Calls Try.prog 40 #[clockV b, .int .i64 t] (w.drewN n) fun e w' => e = .returned (.int .i64 (ClkP.realT since rate t)) ∧ ∃ m, w' = w.drewN m :=
  quiet_quiet (real_any b since rate t h.rate h.time hd (w.drewN n) (h.inn.drewN n))
theorem Made.below {b : Nat} {since rate : Int} {w w' : World} (h : Made b since rate w) (hb : Below w.heap.size w w') (hlt : b < w.heap.size) : Made b since rate w' :=
  ⟨(hb.block b hlt).trans h.inn, h.ok⟩

def MadePost (since rate : Int) (w : World) (e : Ending) (w' : World) : Prop :=
  ∃ b w1, e = .returned (.tuple #[clockV b, .nilIface]) ∧ w' = w1.drewN 0 ∧ Made b since rate w1 ∧ b < w1.heap.size ∧ Below w.heap.size w w1
theorem make_clock (since rate : Int) (h : LawfulIn since rate) (w : World) :
    Calls Try.prog 31 #[.int .i64 since, .int .i64 rate] w (MadePost since rate w) :=
  (clock_new since rate h w).mono fun _ w' ⟨b, he, h1, _, h3, h4⟩ => ⟨b, w', he, rfl, ⟨h1, h⟩, h3, h4⟩

def AwakePost (w : World) (e : Ending) (w' : World) : Prop := e = .returned (.bool true) ∧ Below w.heap.size w w'

end Go.Proofs.Ythhbdnjihhpalaa
