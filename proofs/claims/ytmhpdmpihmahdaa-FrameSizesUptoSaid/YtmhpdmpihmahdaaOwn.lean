/- The program's own knob: none. -/
import Derived.Test.YtmhpdmpihmahdaaChecked
import Derived.KernelRfl
namespace Go.Proofs.Ytmhpdmpihmahdaa
theorem own : ownKnob Try.prog.godebug = none := by kernel_rfl
end Go.Proofs.Ytmhpdmpihmahdaa
