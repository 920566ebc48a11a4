/- Contracts of fault.Place and of the law's Awake (it tells true). Conditions: errors.errorType holds the type error. -/
import Derived.Test.YtabndibenffngaaDoorErrM
import Derived.Test.YtabndibenffngaaDoorErrK
import Derived.Test.YtabndibenffngaaDoorTbRf
namespace Go.Proofs.YtabndibenffngaaDoor
open Go.RowKit Go.Extern.Stop Go.Stop Go.Extern

def placeOf : List (Nat × Int × Int) → Int
  | [] => -1
  | (_, _, a) :: _ => a

theorem awakeText (b b' : Nat) : sufT none true [(b, 40, 9), (b', 12, 3)] = [52, 48, 64, 57, 62, 49, 50, 64, 51] := by
  simp only [sufT, sep]
  decide +kernel

end Go.Proofs.YtabndibenffngaaDoor
