/- Awake of stage 7: true; clocks that a law has made. Conditions: none. -/
import Derived.Test.YtieddkdkhgljkaaClkB
namespace Go.Proofs.Ytieddkdkhgljkaa
open Go.RowKit
set_option maxRecDepth 100000

/-- A clock that was made, seen from a world behind which only orders are drawn. -/
structure Made (b : Nat) (since rate : Int) (w : World) : Prop where
  inn : ClockIn w b since rate
  ok : LawfulIn since rate
theorem Made.rate {b : Nat} {since rate : Int} {w : World} (h : Made b since rate w) : RateIn rate := h.ok.2.2
theorem Made.time {b : Nat} {since rate : Int} {w : World} (h : Made b since rate w) : TimeIn since := ⟨by have := h.ok.1; omega, by have := h.ok.2.1; omega⟩
theorem Made.local {b : Nat} {since rate : Int} {w : World} (h : Made b since rate w) (n : Nat) (t : Int) (hd : FarIn (t - since)) :
    Calls Try.prog 16 #[clockV b, .int .i64 t] (w.drewN n) fun e w' => e = .returned (.int .i64 (ClkP.localT since rate t)) ∧ ∃ m, w' = w.drewN m :=
  quiet_quiet (local_any b since rate t h.rate hd (w.drewN n) (h.inn.drewN n))
theorem Made.real {b : Nat} {since rate : Int} {w : World} (h : Made b since rate w) (n : Nat) (t : Int) (hd : FarIn t) :
    Calls Try.prog 18 #[clockV b, .int .i64 t] (w.drewN n) fun e w' => e = .returned (.int .i64 (ClkP.realT since rate t)) ∧ ∃ m, w' = w.drewN m :=
  quiet_quiet (real_any b since rate t h.rate h.time hd (w.drewN n) (h.inn.drewN n))
theorem Made.since {b : Nat} {since rate : Int} {w : World} (h : Made b since rate w) (n : Nat) :
    Calls Try.prog 15 #[clockV b] (w.drewN n) fun e w' => e = .returned (.int .i64 since) ∧ ∃ m, w' = w.drewN m :=
  quiet_quiet (since_any b since rate (w.drewN n) (h.inn.drewN n))
theorem Made.below {b : Nat} {since rate : Int} {w w' : World} (h : Made b since rate w) (hb : Below w.heap.size w w') (hlt : b < w.heap.size) : Made b since rate w' :=
  ⟨(hb.block b hlt).trans h.inn, h.ok⟩

def MadePost (since rate : Int) (w : World) (e : Ending) (w' : World) : Prop :=
  ∃ b w1, e = .returned (.tuple #[clockV b, .nilIface]) ∧ w' = w1.drewN 0 ∧ Made b since rate w1 ∧ b < w1.heap.size ∧ Below w.heap.size w w1
theorem make_clock (since rate : Int) (h : LawfulIn since rate) (w : World) :
    Calls Try.prog 10 #[.int .i64 since, .int .i64 rate] w (MadePost since rate w) :=
  (clock_new since rate h w).mono fun _ w' ⟨b, he, h1, _, h3, h4⟩ => ⟨b, w', he, rfl, ⟨h1, h⟩, h3, h4⟩

def AwakePost (w : World) (e : Ending) (w' : World) : Prop := e = .returned (.bool true) ∧ Below w.heap.size w w'

theorem awake_any (w : World) : Calls Try.prog 9 #[] w (AwakePost w) := by
  have C0 := Lib.hid (make_clock 100 200 (by decide) w)
  have e1 : ClkP.localT 100 200 1000100 = 1000200 := by decide
  have e2 : ClkP.localT 100 200 99 = -2 := by decide
  have e3 : ClkP.realT 100 200 1000200 = 1000100 := by decide
  have e4 : ClkP.realT 100 200 1 = 101 := by decide
  go_enter Try.func9, Try.ntmps9
  go_wp2_with fail
  refine C0.out.mono ?_
  rintro e wx ⟨b, w1, rfl, rfl, hM, hlt, hb⟩
  have C1 := hM.local 0 1000100 (by unfold FarIn; omega)
  have C2 := Lib.hid (fun n => hM.local n 99 (by unfold FarIn; omega))
  have C3 := Lib.hid (fun n => hM.real n 1000200 (by unfold FarIn; omega))
  have C4 := Lib.hid (fun n => hM.real n 1 (by unfold FarIn; omega))
  rw [e1] at C1
  rw [e2] at C2
  rw [e3] at C3
  rw [e4] at C4
  have Hb := Lib.hid hb
  replace C1 := Lib.hid C1
  clear hM hlt hb e1 e2 e3 e4 C0
  unfold clockV at *
  go_wp2_with fail
  refine C1.out.mono ?_
  rintro e wx ⟨rfl, n1, rfl⟩
  go_wp2_with fail
  refine (C2.out n1).mono ?_
  rintro e wx ⟨rfl, n2, rfl⟩
  go_wp2_with fail
  refine (C3.out n2).mono ?_
  rintro e wx ⟨rfl, n3, rfl⟩
  go_wp2_with fail
  refine (C4.out n3).mono ?_
  rintro e wx ⟨rfl, n4, rfl⟩
  go_wp2_with fail
  go_ret
  exact ⟨rfl, below_drewNc Hb.out _⟩

theorem nil_law (t : Int) (w : World) : Calls Try.prog 6 #[.int .i64 t] w (AwakePost w) := by
  have HA := Lib.hid (awake_any w)
  go_enter Try.func6, Try.ntmps6
  go_wp2_with fail
  refine HA.out.mono ?_
  rintro e w1 ⟨rfl, hb⟩
  have Hb := Lib.hid hb
  clear hb HA
  go_wp2_with fail
  refine (local_nil t _).mono ?_
  rintro e wx ⟨rfl, n1, rfl⟩
  go_wp2_with fail
  refine (real_nil t _).mono ?_
  rintro e wx ⟨rfl, n2, rfl⟩
  go_wp2_with fail
  refine (since_nil _).mono ?_
  rintro e wx ⟨rfl, n3, rfl⟩
  go_wp2_with fail
  go_ret
  exact ⟨rfl, below_drewNc Hb.out _⟩
end Go.Proofs.Ytieddkdkhgljkaa
