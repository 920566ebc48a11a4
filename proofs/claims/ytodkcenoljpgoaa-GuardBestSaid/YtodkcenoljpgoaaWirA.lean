/- A Writer in memory (WriterAt), and the contract of Put. Conditions: where the Writer lies; it holds at most 100000000 bytes. -/
import Derived.Test.YtodkcenoljpgoaaChecked
import Derived.Test.YtodkcenoljpgoaaWirP
import Derived.Test.YtodkcenoljpgoaaFrm
import Derived.WalkKit
import Derived.Lib.Hide
import Derived.Outline
import Derived.OwnWalk
import Derived.RegionTactic
import Derived.BigQuiet
import Derived.Tactics2
import Derived.StillTactics
import Derived.Laws.Pointers
namespace Go.Proofs.Ytodkcenoljpgoaa
open Go.RowKit

theorem infoB : (Try.prog.info? 5).map (fun i => (i.zero, i.size, i.bytes)) = some (some (.int .u8 0), 1, 1) := by kernel_rfl

/-- What a Writer's block and its bytes' block may be written. -/
def WF (bw : Nat) (g : Option Nat) (k : Nat) : Prop := k = bw ∨ g = some k

theorem u8_nat (n : Nat) : ((n % 256 : Nat) : Int) = (((UInt8.ofNat (n % 256)).toNat : Nat) : Int) := by simp

end Go.Proofs.Ytodkcenoljpgoaa
