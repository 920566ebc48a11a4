/- The program's own knob: none. -/
import Derived.Test.YtpfhkcikjenjiaaChecked
import Derived.KernelRfl
namespace Go.Proofs.Ytpfhkcikjenjiaa
theorem own : ownKnob Try.prog.godebug = none := by kernel_rfl
end Go.Proofs.Ytpfhkcikjenjiaa
