/- What an error is in memory (errV, ErrIn), and contracts of errors.Unwrap, (*api.Fault).Unwrap, (*api.Fault).Is, fault.nothing, fault.New and fault.Wrap at such an error. No conditions beyond the readings of memory that each states. -/
import Derived.Test.YtinjaidmoghjjaaDoorChecked
import Derived.WalkKit
import Derived.LaidEql
import Derived.Stop.Asserts
import Derived.RowKitTokens
import Derived.Lib.Hide
namespace Go.Proofs.YtinjaidmoghjjaaDoor
open Go.RowKit Go.Extern.Stop Go.Stop Go.Extern

/-- An error: faults (block, code, place), the outermost first, and perhaps a bare number below them. -/
def errV : List (Nat × Int × Int) → Option Int → Value
  | [], none => .nilIface
  | [], some n => .iface 33 (.int .i64 n)
  | (b, _, _) :: _, _ => .iface 36 (.pointer (some ⟨b, 0, none⟩))

/-- Its faults lie in memory, each in a block below the one that wraps it. -/
def ErrIn (w : World) (t : Option Int) : Nat → List (Nat × Int × Int) → Prop
  | _, [] => True
  | B, (b, c, a) :: r => b < B ∧ w.heap[b]? = some (.cells #[.int .i64 c, .int .i64 a, errV r t] 39 (0, 0)) ∧ ErrIn w t b r

theorem ErrIn.mono {w : World} {t : Option Int} : ∀ {l : List (Nat × Int × Int)} {B B' : Nat}, ErrIn w t B l → B ≤ B' → ErrIn w t B' l
  | [], _, _, _, _ => trivial
  | (_, _, _) :: _, _, _, ⟨h1, h2, h3⟩, hB => ⟨Nat.lt_of_lt_of_le h1 hB, h2, h3⟩

theorem ErrIn.keep {w w' : World} {t : Option Int} : ∀ {l : List (Nat × Int × Int)} {B : Nat}, ErrIn w t B l → (∀ k, k < B → w'.heap[k]? = w.heap[k]?) → ErrIn w' t B l
  | [], _, _, _ => trivial
  | (_, _, _) :: _, _, ⟨h1, h2, h3⟩, hk => ⟨h1, (hk _ h1).trans h2, h3.keep (fun k hk' => hk k (Nat.lt_trans hk' h1))⟩

theorem ErrIn.below {w w' : World} {t : Option Int} {l : List (Nat × Int × Int)} {B C : Nat} (h : ErrIn w t B l) (hb : Below C w w') (hB : B ≤ C) : ErrIn w' t B l :=
  h.keep fun k hk => hb.block k (by omega)

theorem ErrIn.tail {w : World} {t : Option Int} {B : Nat} {x : Nat × Int × Int} {l : List (Nat × Int × Int)} (h : ErrIn w t B (x :: l)) : ErrIn w t B l := by
  obtain ⟨b, c, a⟩ := x
  exact h.2.2.mono (Nat.le_of_lt h.1)

theorem ErrIn.drop {w : World} {t : Option Int} {B : Nat} : ∀ {l : List (Nat × Int × Int)} (n : Nat), ErrIn w t B l → ErrIn w t B (l.drop n)
  | _, 0, h => by simpa using h
  | [], _ + 1, _ => trivial
  | _ :: l, n + 1, h => by simpa using ErrIn.drop n h.tail

theorem cells3 {w : World} {b : Nat} {x y z : Value} {t : TypeId} (h : w.heap[b]? = some (.cells #[x, y, z] t (0, 0))) :
    w.cell? ⟨b, 0, none⟩ = some x ∧ w.cell? ⟨b, 1, none⟩ = some y ∧ w.cell? ⟨b, 2, none⟩ = some z := by
  refine ⟨?_, ?_, ?_⟩ <;> simp [World.cell?, h]

/- assertions at *api.Fault and api.Errno -/
theorem hasUnwrapF (v : Value) (xT : TypeId) (w : World) : (Instr.typeAssert (.iface 36 v) xT 77 true).run Tryd.prog w = .ok (.tuple #[.iface 36 v, .bool true]) w := run_typeAssert_hasB Tryd.underlying77 (by kernel_rfl) v xT w
theorem noUnwrapE (v : Value) (xT : TypeId) (w : World) : (Instr.typeAssert (.iface 33 v) xT 77 true).run Tryd.prog w = .ok (.tuple #[.nilIface, .bool false]) w := run_typeAssert_lacksB Tryd.underlying77 (by kernel_rfl) (by kernel_rfl) v xT w
theorem noUnwrapsF (v : Value) (xT : TypeId) (w : World) : (Instr.typeAssert (.iface 36 v) xT 80 true).run Tryd.prog w = .ok (.tuple #[.nilIface, .bool false]) w := run_typeAssert_lacksB Tryd.underlying80 (by kernel_rfl) (by kernel_rfl) v xT w
theorem noUnwrapsE (v : Value) (xT : TypeId) (w : World) : (Instr.typeAssert (.iface 33 v) xT 80 true).run Tryd.prog w = .ok (.tuple #[.nilIface, .bool false]) w := run_typeAssert_lacksB Tryd.underlying80 (by kernel_rfl) (by kernel_rfl) v xT w
theorem methodUnwrapF (v : Value) (w : World) : (Go.method 228 36 v "Unwrap").run Tryd.prog w = .ok (67, v) w := by kernel_rfl

theorem asErrno_E (n : Value) (w : World) : (Instr.typeAssert (.iface 33 n) 25 33 true).run Tryd.prog w = .ok (.tuple #[n, .bool true]) w := by kernel_rfl
theorem asErrno_F (n : Value) (w : World) : (Instr.typeAssert (.iface 36 n) 25 33 true).run Tryd.prog w = .ok (.tuple #[.int .i64 0, .bool false]) w := by kernel_rfl
theorem asFault_F (n : Value) (w : World) : (Instr.typeAssert (.iface 36 n) 25 36 true).run Tryd.prog w = .ok (.tuple #[n, .bool true]) w := by kernel_rfl
theorem asFault_E (n : Value) (w : World) : (Instr.typeAssert (.iface 33 n) 25 36 true).run Tryd.prog w = .ok (.tuple #[.pointer none, .bool false]) w := by kernel_rfl

theorem fUnwrap (b : Nat) (v : Value) (w : World) (h2 : w.cell? ⟨b, 2, none⟩ = some v) :
    Calls Tryd.prog 67 #[.pointer (some ⟨b, 0, none⟩)] w fun e w' => e = .returned v ∧ w = w' := by
  go_enter Tryd.func67, Tryd.ntmps67
  go_wp2
  go_ret
  exact ⟨rfl, rfl⟩

theorem unwrapE (n : Value) (w : World) :
    Calls Tryd.prog 18 #[.iface 33 n] w fun e w' => e = .returned .nilIface ∧ w = w' := by
  have h1 := noUnwrapE
  go_enter Tryd.func18, Tryd.ntmps18
  go_wp2
  go_ret
  exact ⟨rfl, rfl⟩

theorem unwrapF (b : Nat) (v : Value) (w : World) (h2 : w.cell? ⟨b, 2, none⟩ = some v) :
    Calls Tryd.prog 18 #[.iface 36 (.pointer (some ⟨b, 0, none⟩))] w fun e w' => e = .returned v ∧ w = w' := by
  have h1 := hasUnwrapF
  have h3 := methodUnwrapF
  go_enter Tryd.func18, Tryd.ntmps18
  go_wp2_with (go_at_call 67; refine (fUnwrap b v _ h2).mono ?_; rintro e w' ⟨rfl, rfl⟩)
  go_ret
  exact ⟨rfl, rfl⟩

theorem fIs (b : Nat) (c n : Int) (w : World) (h0 : w.cell? ⟨b, 0, none⟩ = some (.int .i64 c)) :
    Calls Tryd.prog 66 #[.pointer (some ⟨b, 0, none⟩), .iface 33 (.int .i64 n)] w fun e w' => e = .returned (.bool (c == n)) ∧ w = w' := by
  have h1 := asErrno_E
  go_enter Tryd.func66, Tryd.ntmps66
  go_wp2
  go_ret
  exact ⟨rfl, rfl⟩

/-- fault.nothing: of nil alone (a fault is never a nil pointer here). -/
theorem nothing_nil (w : World) :
    Calls Tryd.prog 38 #[.nilIface] w fun e w' => e = .returned (.bool true) ∧ w = w' := by
  go_enter Tryd.func38, Tryd.ntmps38
  go_wp2
  go_ret
  exact ⟨rfl, rfl⟩

theorem nothing_E (n : Value) (w : World) :
    Calls Tryd.prog 38 #[.iface 33 n] w fun e w' => e = .returned (.bool false) ∧ w = w' := by
  have h1 := asFault_E
  go_enter Tryd.func38, Tryd.ntmps38
  go_wp2
  go_ret
  exact ⟨rfl, rfl⟩

theorem nothing_F (b : Nat) (w : World) :
    Calls Tryd.prog 38 #[.iface 36 (.pointer (some ⟨b, 0, none⟩))] w fun e w' => e = .returned (.bool false) ∧ w = w' := by
  have h1 := asFault_F
  go_enter Tryd.func38, Tryd.ntmps38
  go_wp2
  go_ret
  exact ⟨rfl, rfl⟩

theorem numberless_nil (w : World) :
    Calls Tryd.prog 29 #[.nilIface] w fun e w' => e = .returned (.int .i64 0) ∧ w = w' := by
  go_enter Tryd.func29, Tryd.ntmps29
  go_wp2_with (go_at_call 38; refine (nothing_nil _).mono ?_; rintro e w' ⟨rfl, rfl⟩)
  go_ret
  exact ⟨rfl, rfl⟩

def place (a : Int) : Int := if a < -1 then -1 else a

theorem new_ok (a : Int) (w : World) :
    Calls Tryd.prog 20 #[.int .i64 0, .int .i64 a] w fun e w' => e = .returned .nilIface ∧ w = w' := by
  go_enter Tryd.func20, Tryd.ntmps20
  go_wp2
  go_ret
  exact ⟨rfl, rfl⟩

theorem new_some (c a : Int) (w : World) (hc : (c == 0) = false) :
    Calls Tryd.prog 20 #[.int .i64 c, .int .i64 a] w fun e w' => e = .returned (.iface 36 (.pointer (some ⟨w.heap.size, 0, none⟩))) ∧ w' = w.alloc (.cells #[.int .i64 c, .int .i64 (place a), .nilIface] 39) := by
  by_cases ha : a < -1
  · have hp : place a = -1 := if_pos ha
    rw [hp]; clear hp
    go_enter Tryd.func20, Tryd.ntmps20
    go_wp2
    all_goals (go_ret; exact ⟨rfl, rfl⟩)
  · have hp : place a = a := if_neg ha
    rw [hp]; clear hp
    go_enter Tryd.func20, Tryd.ntmps20
    go_wp2
    all_goals (go_ret; exact ⟨rfl, rfl⟩)

/-- fault.Wrap over nil: nil. -/
theorem wrap_nil (c a : Int) (w : World) :
    Calls Tryd.prog 19 #[.int .i64 c, .int .i64 a, .nilIface] w fun e w' => e = .returned .nilIface ∧ w = w' := by
  go_enter Tryd.func19, Tryd.ntmps19
  go_wp2_with (go_at_call 38; refine (nothing_nil _).mono ?_; rintro e w' ⟨rfl, rfl⟩)
  go_ret
  exact ⟨rfl, rfl⟩

def isErr (v : Value) : Prop := (∃ n, v = .iface 33 n) ∨ ∃ b, v = .iface 36 (.pointer (some ⟨b, 0, none⟩))

theorem nothing_not (v : Value) (h : isErr v) (w : World) :
    Calls Tryd.prog 38 #[v] w fun e w' => e = .returned (.bool false) ∧ w = w' := by
  rcases h with ⟨n, rfl⟩ | ⟨b, rfl⟩
  · exact nothing_E n w
  · exact nothing_F b w

theorem wrap_ok (a : Int) (v : Value) (h : isErr v) (w : World) :
    Calls Tryd.prog 19 #[.int .i64 0, .int .i64 a, v] w fun e w' => e = .returned v ∧ w = w' := by
  go_enter Tryd.func19, Tryd.ntmps19
  go_wp2_with (go_at_call 38; refine (nothing_not v h _).mono ?_; rintro e w' ⟨rfl, rfl⟩)
  go_ret
  exact ⟨rfl, rfl⟩

theorem wrap_E (c a : Int) (n : Value) (w : World) (hc : (c == 0) = false) :
    Calls Tryd.prog 19 #[.int .i64 c, .int .i64 a, .iface 33 n] w fun e w' => e = .returned (.iface 36 (.pointer (some ⟨w.heap.size, 0, none⟩))) ∧ w' = w.alloc (.cells #[.int .i64 c, .int .i64 (place a), .iface 33 n] 39) := by
  by_cases ha : a < -1
  · have hp : place a = -1 := if_pos ha
    rw [hp]; clear hp
    go_enter Tryd.func19, Tryd.ntmps19
    go_wp2_with (go_at_call 38; refine (nothing_E n _).mono ?_; rintro e w' ⟨rfl, rfl⟩)
    all_goals (go_ret; exact ⟨rfl, rfl⟩)
  · have hp : place a = a := if_neg ha
    rw [hp]; clear hp
    go_enter Tryd.func19, Tryd.ntmps19
    go_wp2_with (go_at_call 38; refine (nothing_E n _).mono ?_; rintro e w' ⟨rfl, rfl⟩)
    all_goals (go_ret; exact ⟨rfl, rfl⟩)

theorem wrap_F (c a : Int) (b : Nat) (w : World) (hc : (c == 0) = false) :
    Calls Tryd.prog 19 #[.int .i64 c, .int .i64 a, .iface 36 (.pointer (some ⟨b, 0, none⟩))] w fun e w' => e = .returned (.iface 36 (.pointer (some ⟨w.heap.size, 0, none⟩))) ∧ w' = w.alloc (.cells #[.int .i64 c, .int .i64 (place a), .iface 36 (.pointer (some ⟨b, 0, none⟩))] 39) := by
  by_cases ha : a < -1
  · have hp : place a = -1 := if_pos ha
    rw [hp]; clear hp
    go_enter Tryd.func19, Tryd.ntmps19
    go_wp2_with (go_at_call 38; refine (nothing_F b _).mono ?_; rintro e w' ⟨rfl, rfl⟩)
    all_goals (go_ret; exact ⟨rfl, rfl⟩)
  · have hp : place a = a := if_neg ha
    rw [hp]; clear hp
    go_enter Tryd.func19, Tryd.ntmps19
    go_wp2_with (go_at_call 38; refine (nothing_F b _).mono ?_; rintro e w' ⟨rfl, rfl⟩)
    all_goals (go_ret; exact ⟨rfl, rfl⟩)

theorem wrap_some (c a : Int) (v : Value) (h : isErr v) (w : World) (hc : (c == 0) = false) :
    Calls Tryd.prog 19 #[.int .i64 c, .int .i64 a, v] w fun e w' => e = .returned (.iface 36 (.pointer (some ⟨w.heap.size, 0, none⟩))) ∧ w' = w.alloc (.cells #[.int .i64 c, .int .i64 (place a), v] 39) := by
  rcases h with ⟨n, rfl⟩ | ⟨b, rfl⟩
  · exact wrap_E c a n w hc
  · exact wrap_F c a b w hc
end Go.Proofs.YtinjaidmoghjjaaDoor
