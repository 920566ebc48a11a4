/- The program's own knob: none. -/
import Derived.Test.YtodkcenoljpgoaaChecked
import Derived.KernelRfl
namespace Go.Proofs.Ytodkcenoljpgoaa
theorem own : ownKnob Try.prog.godebug = none := by kernel_rfl
end Go.Proofs.Ytodkcenoljpgoaa
