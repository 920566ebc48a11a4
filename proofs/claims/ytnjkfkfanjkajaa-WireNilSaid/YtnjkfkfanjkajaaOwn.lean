/- The program's own knob: none. -/
import Derived.Test.YtnjkfkfanjkajaaChecked
import Derived.KernelRfl
namespace Go.Proofs.Ytnjkfkfanjkajaa
theorem own : ownKnob Try.prog.godebug = none := by kernel_rfl
end Go.Proofs.Ytnjkfkfanjkajaa
