/- Contracts of table's within, place, mostFresh, way and the document's up. No conditions. -/
import Derived.Test.YtgceleipaiameaaWirG
import Derived.Test.YtgceleipaiameaaTbA
namespace Go.Proofs.Ytgceleipaiameaa
open Go.RowKit

/-- What a call that only computes answers. -/
def Pure (v : Value) (w : World) (e : Ending) (w' : World) : Prop := e = .returned v ∧ w = w'

theorem quiet_pure {P : Program} {f : FuncId} {args : Array Value} {w : World} {n : Nat} {v : Value}
    (h : Calls P f args (w.drewN n) (Pure v (w.drewN n))) : Calls P f args (w.drewN n) fun e w'' => e = .returned v ∧ ∃ m, w'' = w.drewN m :=
  h.mono fun _ _ ⟨he, hm⟩ => ⟨he, n, hm.symm⟩

theorem within_any (n a b : Int) (w : World) :
    Calls Try.prog 50 #[.int .i64 n, .int .i64 a, .int .i64 b] w (Pure (.bool (decide (TableP.up n a b))) w) := by
  by_cases h1 : a ≤ n
  · have e : decide (TableP.up n a b) = decide (n ≤ b) := by unfold TableP.up; simp [h1]
    have q1 : decide (a ≤ n) = true := decide_eq_true h1
    rw [e]; clear e h1
    go_enter Try.func50, Try.ntmps50
    go_wp2_with fail
    go_ret
    exact ⟨rfl, rfl⟩
  · have e : decide (TableP.up n a b) = false := by unfold TableP.up; simp [h1]
    have q1 : decide (a ≤ n) = false := decide_eq_false h1
    rw [e]; clear e h1
    go_enter Try.func50, Try.ntmps50
    go_wp2_with fail
    go_ret
    exact ⟨rfl, rfl⟩
theorem up_any (n a b : Int) (w : World) :
    Calls Try.prog 35 #[.int .i64 n, .int .i64 a, .int .i64 b] w (Pure (.bool (decide (TableP.up n a b))) w) := by
  by_cases h1 : a ≤ n
  · have e : decide (TableP.up n a b) = decide (n ≤ b) := by unfold TableP.up; simp [h1]
    have q1 : decide (a ≤ n) = true := decide_eq_true h1
    rw [e]; clear e h1
    go_enter Try.func35, Try.ntmps35
    go_wp2_with fail
    go_ret
    exact ⟨rfl, rfl⟩
  · have e : decide (TableP.up n a b) = false := by unfold TableP.up; simp [h1]
    have q1 : decide (a ≤ n) = false := decide_eq_false h1
    rw [e]; clear e h1
    go_enter Try.func35, Try.ntmps35
    go_wp2_with fail
    go_ret
    exact ⟨rfl, rfl⟩
theorem place_any (n : Int) (m : Nat) (hm : m ≤ 140737488355328) (w : World) :
    Calls Try.prog 34 #[.int .i64 n, .int .i64 (m : Nat)] w (Pure (.bool (decide (TableP.up n 0 ((m : Int) - 1)))) w) := by
  have HW := Lib.hid (fun W => within_any n 0 ((m : Int) - 1) W)
  have hw : IntKind.i64.wrap ((m : Int) - 1) = (m : Int) - 1 := IntWalk.i64_in _ (by omega)
  go_enter Try.func34, Try.ntmps34
  go_wp2_with fail
  refine (HW.out _).mono ?_
  rintro e w1 ⟨rfl, rfl⟩
  go_wp2_with fail
  go_ret
  exact ⟨rfl, rfl⟩
theorem mostFresh_any (o : Bool) (w : World) :
    Calls Try.prog 51 #[.bool o] w (Pure (.int .i64 (if o then 0 else 8)) w) := by
  cases o with
  | true =>
    go_enter Try.func51, Try.ntmps51
    go_wp2_with fail
    go_ret
    exact ⟨rfl, rfl⟩
  | false =>
    go_enter Try.func51, Try.ntmps51
    go_wp2_with fail
    go_ret
    exact ⟨rfl, rfl⟩
theorem way_any (o : Bool) (w : World) :
    Calls Try.prog 23 #[.bool o] w (Pure (.int .i64 ((TableP.bit o : Nat) : Int)) w) := by
  cases o with
  | true =>
    go_enter Try.func23, Try.ntmps23
    go_wp2_with fail
    go_ret
    exact ⟨rfl, rfl⟩
  | false =>
    go_enter Try.func23, Try.ntmps23
    go_wp2_with fail
    go_ret
    exact ⟨rfl, rfl⟩
end Go.Proofs.Ytgceleipaiameaa
