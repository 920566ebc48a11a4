/- The program's own knob: none. -/
import Derived.Test.YtlijcfojokbdpaaChecked
import Derived.KernelRfl
namespace Go.Proofs.Ytlijcfojokbdpaa
theorem own : ownKnob Try.prog.godebug = none := by kernel_rfl
end Go.Proofs.Ytlijcfojokbdpaa
