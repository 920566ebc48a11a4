/- Contracts of clock's functions, of the law's near and lawful, and of the document's Local and Real. Conditions: the rate is lawful, times are near (as each states). -/
import Derived.Test.YtieddkdkhgljkaaErrR
import Derived.Test.YtieddkdkhgljkaaClkP
import Derived.BigQuiet
namespace Go.Proofs.Ytieddkdkhgljkaa
open Go.RowKit
set_option maxRecDepth 100000

/-- A call that only computes (it may draw orders). -/
def Quiet (v : Value) (w : World) (e : Ending) (w' : World) : Prop := e = .returned v ∧ ∃ m, w' = w.drewN m
theorem quiet_quiet {P : Program} {f : FuncId} {args : Array Value} {w : World} {n : Nat} {v : Value}
    (h : Calls P f args (w.drewN n) (Quiet v (w.drewN n))) : Calls P f args (w.drewN n) fun e w'' => e = .returned v ∧ ∃ m, w'' = w.drewN m :=
  h.mono fun _ _ ⟨he, m, hm⟩ => ⟨he, n + m, by rw [hm, World.drewN_drewN]⟩
theorem below_drewNc {B : Nat} {a w : World} (h : Below B a w) (n : Nat) : Below B a (w.drewN n) := ⟨h.os, h.tape, h.output, h.size, h.block⟩

/-- A clock in memory. -/
def ClockIn (w : World) (b : Nat) (since rate : Int) : Prop := w.heap[b]? = some (.cells #[.int .i64 since, .int .i64 rate] 40 (0, 0))
theorem ClockIn.drewN {w : World} {b : Nat} {since rate : Int} (h : ClockIn w b since rate) (n : Nat) : ClockIn (w.drewN n) b since rate := h
theorem ClockIn.cells {w : World} {b : Nat} {since rate : Int} (h : ClockIn w b since rate) :
    w.cell? ⟨b, 0, none⟩ = some (.int .i64 since) ∧ w.cell? ⟨b, 1, none⟩ = some (.int .i64 rate) := by
  unfold ClockIn at h
  refine ⟨?_, ?_⟩ <;> simp [World.cell?, h]
def clockV (b : Nat) : Value := .pointer (some ⟨b, 0, none⟩)

theorem refdown_any (a b : Int) (hb : 0 < b) (hb2 : b ≤ 2000000) (h1 : -4611686018427387904 ≤ a) (h2 : a ≤ 4611686018427387904) (w : World) :
    Calls Try.prog 24 #[.int .i64 a, .int .i64 b] w (Quiet (.int .i64 (a / b)) w) := by
  have q0 : ¬ b = 0 := by omega
  have hr := ClkP.rest_lt (a := a) hb
  have e0 : IntKind.i64.wrap (a.tmod b) = a.tmod b := IntWalk.i64_in _ (by omega)
  have hq := ClkP.quot_in h1 h2 hb
  by_cases h : a.tmod b < 0
  · have q1 : decide (a.tmod b < 0) = true := decide_eq_true h
    have e1 : IntKind.i64.wrap (a.tmod b + b) = a.tmod b + b := IntWalk.i64_in _ (by omega)
    have e2 : IntKind.i64.wrap (a - (a.tmod b + b)) = a - (a.tmod b + b) := IntWalk.i64_in _ (by omega)
    have e3 := ClkP.down_yes hb h
    have e4 : IntKind.i64.wrap (a / b) = a / b := IntWalk.i64_in _ (by omega)
    clear hb hb2 h1 h2 hr hq h
    go_enter Try.func24, Try.ntmps24
    go_wp2_with fail
    go_ret
    exact ⟨rfl, 0, rfl⟩
  · have q1 : decide (a.tmod b < 0) = false := decide_eq_false h
    have e2 : IntKind.i64.wrap (a - a.tmod b) = a - a.tmod b := IntWalk.i64_in _ (by omega)
    have e3 := ClkP.down_no hb h
    have e4 : IntKind.i64.wrap (a / b) = a / b := IntWalk.i64_in _ (by omega)
    clear hb hb2 h1 h2 hr hq h
    go_enter Try.func24, Try.ntmps24
    go_wp2_with fail
    go_ret
    exact ⟨rfl, 0, rfl⟩

theorem down_any (n t b : Int) (hb : 0 < b) (hb2 : b ≤ 1000200) (ht : 0 ≤ t) (ht2 : t ≤ 1000200) (h1 : -2199023255552 ≤ n) (h2 : n ≤ 2199023255552) (w : World) :
    Calls Try.prog 22 #[.int .i64 n, .int .i64 t, .int .i64 b] w (Quiet (.int .i64 (n * t / b)) w) := by
  have q0 : ¬ b = 0 := by omega
  have hr := ClkP.rest_lt (a := n) hb
  have hq := ClkP.quot_in h1 h2 hb
  have hqt := ClkP.prod_in (a := n / b) (m := 2199023255553) (by omega) (by omega) ht ht2
  have hw := ClkP.whole_rest (n := n) (t := t) hb
  have hm0 := Int.emod_nonneg n (Int.ne_of_gt hb)
  have hm1 := Int.emod_lt_of_pos n hb
  have hmt := ClkP.prod_in (a := n % b) (m := 1000200) (by omega) (by omega) ht ht2
  have hmt0 := Int.mul_nonneg hm0 ht
  have hmq := ClkP.quot_in hmt.1 hmt.2 hb
  have e1 : wrap64 (n / b * t) = n / b * t := IntWalk.wrap64_in _ (by omega)
  have e2 : wrap64 (n % b * t) = n % b * t := IntWalk.wrap64_in _ (by omega)
  have e3 : (n % b * t).tdiv b = n % b * t / b := ClkP.quo_up hmt0
  have e4 : wrap64 (n % b * t / b) = n % b * t / b := IntWalk.wrap64_in _ (by omega)
  have e5 : wrap64 (n / b * t + n % b * t / b) = n / b * t + n % b * t / b := IntWalk.wrap64_in _ (by omega)
  rw [← hw]
  have em := Int.emod_add_mul_ediv n b
  have et := ClkP.quo_rest n b
  by_cases h : n.tmod b < 0
  · have q1 : decide (n.tmod b < 0) = true := decide_eq_true h
    have f1 := ClkP.floor_yes hb h
    have f2 : n.tmod b + b = n % b := by
      have : b * (n / b) = b * n.tdiv b - b := by rw [← f1, Int.mul_sub, Int.mul_one]
      omega
    have e6 : wrap64 (n.tdiv b) = n.tdiv b := IntWalk.wrap64_in _ (by omega)
    have e7 : wrap64 (n / b) = n / b := IntWalk.wrap64_in _ (by omega)
    have e8 : wrap64 (n % b) = n % b := IntWalk.wrap64_in _ (by omega)
    have HF := Lib.hid (show wrap64 (wrap64 (wrap64 (wrap64 (n.tdiv b) - 1) * t) + wrap64 ((wrap64 (wrap64 (n.tmod b + b) * t)).tdiv b)) = n / b * t + n % b * t / b by
      rw [e6, f1, f2, e7, e8, e1, e2, e3, e4, e5])
    clear f1 f2 hb hb2 ht ht2 h1 h2 hr hq hqt hw hm0 hm1 hmt hmt0 hmq em et h e1 e2 e3 e4 e5 e6 e7 e8
    go_enter Try.func22, Try.ntmps22
    go_wp2_with fail
    go_quiet (fail)
    go_wp2_with fail
    go_ret
    exact ⟨congrArg (fun z => Ending.returned (.int .i64 z)) HF.out, _, rfl⟩
  · have q1 : decide (n.tmod b < 0) = false := decide_eq_false h
    have f1 := ClkP.floor_no hb h
    have f2 : n.tmod b = n % b := by rw [f1] at et; omega
    have e7 : wrap64 (n / b) = n / b := IntWalk.wrap64_in _ (by omega)
    have HF := Lib.hid (show wrap64 (wrap64 (wrap64 (n.tdiv b) * t) + wrap64 ((wrap64 (n.tmod b * t)).tdiv b)) = n / b * t + n % b * t / b by
      rw [f1, f2, e7, e1, e2, e3, e4, e5])
    clear f1 f2 hb hb2 ht ht2 h1 h2 hr hq hqt hw hm0 hm1 hmt hmt0 hmq em et h e1 e2 e3 e4 e5 e7
    go_enter Try.func22, Try.ntmps22
    go_wp2_with fail
    go_quiet (fail)
    go_wp2_with fail
    go_ret
    exact ⟨congrArg (fun z => Ending.returned (.int .i64 z)) HF.out, _, rfl⟩

def RateIn (rate : Int) : Prop := -200 ≤ rate ∧ rate ≤ 200
theorem speed_any (b : Nat) (since rate : Int) (hr : RateIn rate) (w : World) (h : ClockIn w b since rate) :
    Calls Try.prog 23 #[clockV b] w (Quiet (.int .i64 (1000000 + rate)) w) := by
  obtain ⟨k0, k1⟩ := h.cells
  obtain ⟨r1, r2⟩ := hr
  have HF := Lib.hid (IntWalk.wrap64_in (1000000 + rate) (by omega))
  clear r1 r2 h
  unfold clockV
  go_enter Try.func23, Try.ntmps23
  go_wp2_with fail
  go_ret
  exact ⟨congrArg (fun z => Ending.returned (.int .i64 z)) HF.out, 0, rfl⟩

/-- A time near to a clock's beginning. -/
def FarIn (d : Int) : Prop := -2199023255552 ≤ d ∧ d ≤ 2199023255552
def TimeIn (t : Int) : Prop := -4611686018427387904 ≤ t ∧ t ≤ 4611686018427387904

theorem local_any (b : Nat) (since rate real : Int) (hr : RateIn rate) (hd : FarIn (real - since)) (w : World) (h : ClockIn w b since rate) :
    Calls Try.prog 16 #[clockV b, .int .i64 real] w (Quiet (.int .i64 (ClkP.localT since rate real)) w) := by
  obtain ⟨k0, k1⟩ := h.cells
  have hd2 := hd
  obtain ⟨d1, d2⟩ := hd2
  have e0 : wrap64 (real - since) = real - since := IntWalk.wrap64_in _ (by omega)
  have C0 := Lib.hid (fun n => speed_any b since rate hr (w.drewN n) (h.drewN n))
  obtain ⟨r1, r2⟩ := hr
  have C1 := Lib.hid (fun n => down_any (real - since) (1000000 + rate) 1000000 (by omega) (by omega) (by omega) (by omega) hd.1 hd.2 (w.drewN n))
  have E1 : (real - since) * (1000000 + rate) / 1000000 = ClkP.localT since rate real := rfl
  rw [E1] at C1
  generalize ClkP.localT since rate real = v at *
  have HE := Lib.hid e0
  clear r1 r2 h d1 d2 hd E1
  unfold clockV at *
  go_enter Try.func16, Try.ntmps16
  go_wp2_with fail
  go_quiet ((first | (go_at_call 23; exact quiet_quiet (C0.out _)) | (go_at_call 22; exact quiet_quiet (C1.out _))))
  go_wp2_with fail
  go_ret
  exact ⟨rfl, _, rfl⟩
end Go.Proofs.Ytieddkdkhgljkaa
