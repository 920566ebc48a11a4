/- The program's own knob: none. -/
import Derived.Test.YthihdbcclocbkaaChecked
import Derived.KernelRfl
namespace Go.Proofs.Ythihdbcclocbkaa
theorem own : ownKnob Try.prog.godebug = none := by kernel_rfl
end Go.Proofs.Ythihdbcclocbkaa
