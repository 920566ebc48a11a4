/- The program's own knob: none. -/
import Derived.Test.YtgceleipaiameaaChecked
import Derived.KernelRfl
namespace Go.Proofs.Ytgceleipaiameaa
theorem own : ownKnob Try.prog.godebug = none := by kernel_rfl
end Go.Proofs.Ytgceleipaiameaa
