/- Ops, turns and results as they stand in memory. Of no program. No conditions beyond those that each states. -/
import Derived.Test.YtemcgegickpdbaaGreatDoorSl02
import Derived.Test.YtemcgegickpdbaaGreatDoorSl01
namespace Go.Proofs.YtemcgegickpdbaaGreatDoor
open Go.RowKit

/-- Pairs of numbers. -/
structure PairC where
  a : Int
  b : Int
def pairVals (x : PairC) : List Value := [.int .i64 x.a, .int .i64 x.b]
end Go.Proofs.YtemcgegickpdbaaGreatDoor
