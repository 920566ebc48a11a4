/- Contracts of fault.nothing and fault.Wrap at an error in memory (errV: ErrA0). No conditions. -/
import Derived.Test.YtabndibenffngaaDoorErrM
import Derived.WalkKit
import Derived.LaidEql
import Derived.Stop.Asserts
import Derived.RowKitTokens
import Derived.Lib.Hide
namespace Go.Proofs.YtabndibenffngaaDoor
open Go.RowKit Go.Extern.Stop Go.Stop Go.Extern

/-- fault.nothing: of nil alone (a fault is never a nil pointer here). -/
theorem nothing_nil (w : World) :
    Calls Tryd.prog 29 #[.nilIface] w fun e w' => e = .returned (.bool true) ∧ w = w' := by
  go_enter Tryd.func29, Tryd.ntmps29
  go_wp2
  go_ret
  exact ⟨rfl, rfl⟩

theorem nothing_E (n : Value) (w : World) :
    Calls Tryd.prog 29 #[.iface 30 n] w fun e w' => e = .returned (.bool false) ∧ w = w' := by
  have h1 := asFault_E
  go_enter Tryd.func29, Tryd.ntmps29
  go_wp2
  go_ret
  exact ⟨rfl, rfl⟩

theorem nothing_F (b : Nat) (w : World) :
    Calls Tryd.prog 29 #[.iface 80 (.pointer (some ⟨b, 0, none⟩))] w fun e w' => e = .returned (.bool false) ∧ w = w' := by
  have h1 := asFault_F
  go_enter Tryd.func29, Tryd.ntmps29
  go_wp2
  go_ret
  exact ⟨rfl, rfl⟩

/-- fault.Wrap over nil: nil. -/
theorem wrap_nil (c a : Int) (w : World) :
    Calls Tryd.prog 13 #[.int .i64 c, .int .i64 a, .nilIface] w fun e w' => e = .returned .nilIface ∧ w = w' := by
  go_enter Tryd.func13, Tryd.ntmps13
  go_wp2_with (go_at_call 29; refine (nothing_nil _).mono ?_; rintro e w' ⟨rfl, rfl⟩)
  go_ret
  exact ⟨rfl, rfl⟩

def isErr (v : Value) : Prop := (∃ n, v = .iface 30 n) ∨ ∃ b, v = .iface 80 (.pointer (some ⟨b, 0, none⟩))

theorem nothing_not (v : Value) (h : isErr v) (w : World) :
    Calls Tryd.prog 29 #[v] w fun e w' => e = .returned (.bool false) ∧ w = w' := by
  rcases h with ⟨n, rfl⟩ | ⟨b, rfl⟩
  · exact nothing_E n w
  · exact nothing_F b w

theorem wrap_ok (a : Int) (v : Value) (h : isErr v) (w : World) :
    Calls Tryd.prog 13 #[.int .i64 0, .int .i64 a, v] w fun e w' => e = .returned v ∧ w = w' := by
  go_enter Tryd.func13, Tryd.ntmps13
  go_wp2_with (go_at_call 29; refine (nothing_not v h _).mono ?_; rintro e w' ⟨rfl, rfl⟩)
  go_ret
  exact ⟨rfl, rfl⟩

theorem wrap_E (c a : Int) (n : Value) (w : World) (hc : (c == 0) = false) :
    Calls Tryd.prog 13 #[.int .i64 c, .int .i64 a, .iface 30 n] w fun e w' => e = .returned (.iface 80 (.pointer (some ⟨w.heap.size, 0, none⟩))) ∧ w' = w.alloc (.cells #[.int .i64 c, .int .i64 (place a), .iface 30 n] 82) := by
  by_cases ha : a < -1
  · have hp : place a = -1 := if_pos ha
    rw [hp]; clear hp
    go_enter Tryd.func13, Tryd.ntmps13
    go_wp2_with (go_at_call 29; refine (nothing_E n _).mono ?_; rintro e w' ⟨rfl, rfl⟩)
    all_goals (go_ret; exact ⟨rfl, rfl⟩)
  · have hp : place a = a := if_neg ha
    rw [hp]; clear hp
    go_enter Tryd.func13, Tryd.ntmps13
    go_wp2_with (go_at_call 29; refine (nothing_E n _).mono ?_; rintro e w' ⟨rfl, rfl⟩)
    all_goals (go_ret; exact ⟨rfl, rfl⟩)

theorem wrap_F (c a : Int) (b : Nat) (w : World) (hc : (c == 0) = false) :
    Calls Tryd.prog 13 #[.int .i64 c, .int .i64 a, .iface 80 (.pointer (some ⟨b, 0, none⟩))] w fun e w' => e = .returned (.iface 80 (.pointer (some ⟨w.heap.size, 0, none⟩))) ∧ w' = w.alloc (.cells #[.int .i64 c, .int .i64 (place a), .iface 80 (.pointer (some ⟨b, 0, none⟩))] 82) := by
  by_cases ha : a < -1
  · have hp : place a = -1 := if_pos ha
    rw [hp]; clear hp
    go_enter Tryd.func13, Tryd.ntmps13
    go_wp2_with (go_at_call 29; refine (nothing_F b _).mono ?_; rintro e w' ⟨rfl, rfl⟩)
    all_goals (go_ret; exact ⟨rfl, rfl⟩)
  · have hp : place a = a := if_neg ha
    rw [hp]; clear hp
    go_enter Tryd.func13, Tryd.ntmps13
    go_wp2_with (go_at_call 29; refine (nothing_F b _).mono ?_; rintro e w' ⟨rfl, rfl⟩)
    all_goals (go_ret; exact ⟨rfl, rfl⟩)

theorem wrap_some (c a : Int) (v : Value) (h : isErr v) (w : World) (hc : (c == 0) = false) :
    Calls Tryd.prog 13 #[.int .i64 c, .int .i64 a, v] w fun e w' => e = .returned (.iface 80 (.pointer (some ⟨w.heap.size, 0, none⟩))) ∧ w' = w.alloc (.cells #[.int .i64 c, .int .i64 (place a), v] 82) := by
  rcases h with ⟨n, rfl⟩ | ⟨b, rfl⟩
  · exact wrap_E c a n w hc
  · exact wrap_F c a b w hc
end Go.Proofs.YtabndibenffngaaDoor
