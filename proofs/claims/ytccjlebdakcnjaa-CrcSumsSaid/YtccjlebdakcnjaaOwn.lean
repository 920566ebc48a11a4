/- The program's own knob: none. -/
import Derived.Test.YtccjlebdakcnjaaChecked
import Derived.KernelRfl
namespace Go.Proofs.Ytccjlebdakcnjaa
theorem own : ownKnob Try.prog.godebug = none := by kernel_rfl
end Go.Proofs.Ytccjlebdakcnjaa
