/- The program's own knob: none. -/
import Derived.Test.YtieddkdkhgljkaaChecked
import Derived.KernelRfl
namespace Go.Proofs.Ytieddkdkhgljkaa
theorem own : ownKnob Try.prog.godebug = none := by kernel_rfl
end Go.Proofs.Ytieddkdkhgljkaa
