/- Contracts of apex's New, Memory, Clear, of the document's SameWords. Conditions: where things lie. -/
import Derived.BigQuiet
import Derived.Lib.SliceRun
import Derived.Test.YtemcgegickpdbaaGreatDoorSl23
import Derived.Test.YtemcgegickpdbaaGreatDoorSl20
namespace Go.Proofs.YtemcgegickpdbaaGreatDoor
open Go.RowKit
set_option maxRecDepth 100000

def ClrP (w : World) (B pb part : Nat) (budget : Int) (wv : Value) (n : Nat) (e : Ending) (w' : World) : Prop := e = .returned (.tuple #[]) ∧ PartIn w' B pb part budget wv (List.replicate n 0) ∧ Apart (fun k => wv.ownBlock = some k) w w'
end Go.Proofs.YtemcgegickpdbaaGreatDoor
