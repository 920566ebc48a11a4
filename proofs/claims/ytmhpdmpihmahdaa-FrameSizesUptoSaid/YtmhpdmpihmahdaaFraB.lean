/- Contracts of frame's wrongMessage, wrongCommand, wrongRecord. Conditions: numbers within their types. -/
import Derived.Test.YtmhpdmpihmahdaaWirG
import Derived.Test.YtmhpdmpihmahdaaFraA
namespace Go.Proofs.Ytmhpdmpihmahdaa
open Go.RowKit

def msgCode (port : Int) (m : Nat) : Int := if port < 0 ∨ 23 < port then 2 else if 16 < m then 12 else 0

/-- What a call answers that makes memory at most: a number. -/
def NumPost (n : Int) (w : World) (e : Ending) (w' : World) : Prop := e = .returned (.int .i64 n) ∧ Below w.heap.size w w'

theorem wrongMessage_any (port : Int) (A : Option Addr) (m cap : Nat) (w : World) (hm : m ≤ 140737488355328) :
    Calls Try.prog 35 #[.agg #[.int .i64 port, .slice A m cap]] w (NumPost (msgCode port m) w) := by
  have HB := Lib.hid (fun t => (Below.refl w.heap.size w).alloc (Nat.le_refl _) (.cells #[.int .i64 port, .slice A m cap] t))
  by_cases h1 : port < 0
  · have e : msgCode port m = 2 := if_pos (.inl h1)
    have q1 : decide (port < 0) = true := decide_eq_true h1
    rw [e]; clear e h1
    go_enter Try.func35, Try.ntmps35
    go_wp2_with fail
    go_ret
    exact ⟨rfl, HB.out _⟩
  · have q1 : decide (port < 0) = false := decide_eq_false h1
    by_cases h2 : 24 ≤ port
    · have e : msgCode port m = 2 := if_pos (.inr (by omega))
      have q2 : decide (24 ≤ port) = true := decide_eq_true h2
      rw [e]; clear e h1 h2
      go_enter Try.func35, Try.ntmps35
      go_wp2_with fail
      go_ret
      exact ⟨rfl, HB.out _⟩
    · have q2 : decide (24 ≤ port) = false := decide_eq_false h2
      by_cases h3 : 16 < m
      · have e : msgCode port m = 12 := by unfold msgCode; rw [if_neg (by omega), if_pos h3]
        have q3 : decide ((16 : Int) < m) = true := decide_eq_true (by omega)
        rw [e]; clear e h1 h2 h3
        go_enter Try.func35, Try.ntmps35
        go_wp2_with fail
        go_ret
        exact ⟨rfl, HB.out _⟩
      · have e : msgCode port m = 0 := by unfold msgCode; rw [if_neg (by omega), if_neg h3]
        have q3 : decide ((16 : Int) < m) = false := decide_eq_false (by omega)
        rw [e]; clear e h1 h2 h3
        go_enter Try.func35, Try.ntmps35
        go_wp2_with fail
        go_ret
        exact ⟨rfl, HB.out _⟩
end Go.Proofs.Ytmhpdmpihmahdaa
