/- Contracts of frame's wrongMessage, wrongCommand, wrongRecord. Conditions: numbers within their types. -/
import Derived.Test.YtabndibenffngaaDoorWirM
import Derived.Test.YtabndibenffngaaDoorFraA
namespace Go.Proofs.YtabndibenffngaaDoor
open Go.RowKit

def msgCode (port : Int) (m : Nat) : Int := if port < 0 ∨ 23 < port then 2 else if 16 < m then 12 else 0

/-- What a call answers that makes memory at most: a number. -/
def NumPost (n : Int) (w : World) (e : Ending) (w' : World) : Prop := e = .returned (.int .i64 n) ∧ Below w.heap.size w w'

end Go.Proofs.YtabndibenffngaaDoor
