/- What an error is in memory (errV, ErrIn: ErrA0), and contracts of errors.Unwrap, (*api.Fault).Unwrap, (*api.Fault).Is and fault.numberless at such an error. No conditions beyond the readings of memory that each states. -/
import Derived.Test.YtabndibenffngaaDoorErrA1
import Derived.WalkKit
import Derived.LaidEql
import Derived.Stop.Asserts
import Derived.RowKitTokens
import Derived.Lib.Hide
namespace Go.Proofs.YtabndibenffngaaDoor
open Go.RowKit Go.Extern.Stop Go.Stop Go.Extern

/- assertions at *api.Fault and api.Errno -/
theorem hasUnwrapF (v : Value) (xT : TypeId) (w : World) : (Instr.typeAssert (.iface 80 v) xT 122 true).run Tryd.prog w = .ok (.tuple #[.iface 80 v, .bool true]) w := run_typeAssert_hasB Tryd.underlying122 (by kernel_rfl) v xT w
theorem noUnwrapE (v : Value) (xT : TypeId) (w : World) : (Instr.typeAssert (.iface 30 v) xT 122 true).run Tryd.prog w = .ok (.tuple #[.nilIface, .bool false]) w := run_typeAssert_lacksB Tryd.underlying122 (by kernel_rfl) (by kernel_rfl) v xT w
theorem noUnwrapsF (v : Value) (xT : TypeId) (w : World) : (Instr.typeAssert (.iface 80 v) xT 109 true).run Tryd.prog w = .ok (.tuple #[.nilIface, .bool false]) w := run_typeAssert_lacksB Tryd.underlying109 (by kernel_rfl) (by kernel_rfl) v xT w
theorem noUnwrapsE (v : Value) (xT : TypeId) (w : World) : (Instr.typeAssert (.iface 30 v) xT 109 true).run Tryd.prog w = .ok (.tuple #[.nilIface, .bool false]) w := run_typeAssert_lacksB Tryd.underlying109 (by kernel_rfl) (by kernel_rfl) v xT w
theorem methodUnwrapF (v : Value) (w : World) : (Go.method 279 80 v "Unwrap").run Tryd.prog w = .ok (85, v) w := by kernel_rfl

theorem fUnwrap (b : Nat) (v : Value) (w : World) (h2 : w.cell? ⟨b, 2, none⟩ = some v) :
    Calls Tryd.prog 85 #[.pointer (some ⟨b, 0, none⟩)] w fun e w' => e = .returned v ∧ w = w' := by
  go_enter Tryd.func85, Tryd.ntmps85
  go_wp2
  go_ret
  exact ⟨rfl, rfl⟩

theorem unwrapE (n : Value) (w : World) :
    Calls Tryd.prog 48 #[.iface 30 n] w fun e w' => e = .returned .nilIface ∧ w = w' := by
  have h1 := noUnwrapE
  go_enter Tryd.func48, Tryd.ntmps48
  go_wp2
  go_ret
  exact ⟨rfl, rfl⟩

theorem unwrapF (b : Nat) (v : Value) (w : World) (h2 : w.cell? ⟨b, 2, none⟩ = some v) :
    Calls Tryd.prog 48 #[.iface 80 (.pointer (some ⟨b, 0, none⟩))] w fun e w' => e = .returned v ∧ w = w' := by
  have h1 := hasUnwrapF
  have h3 := methodUnwrapF
  go_enter Tryd.func48, Tryd.ntmps48
  go_wp2_with (go_at_call 85; refine (fUnwrap b v _ h2).mono ?_; rintro e w' ⟨rfl, rfl⟩)
  go_ret
  exact ⟨rfl, rfl⟩

theorem fIs (b : Nat) (c n : Int) (w : World) (h0 : w.cell? ⟨b, 0, none⟩ = some (.int .i64 c)) :
    Calls Tryd.prog 84 #[.pointer (some ⟨b, 0, none⟩), .iface 30 (.int .i64 n)] w fun e w' => e = .returned (.bool (c == n)) ∧ w = w' := by
  have h1 := asErrno_E
  go_enter Tryd.func84, Tryd.ntmps84
  go_wp2
  go_ret
  exact ⟨rfl, rfl⟩

end Go.Proofs.YtabndibenffngaaDoor
