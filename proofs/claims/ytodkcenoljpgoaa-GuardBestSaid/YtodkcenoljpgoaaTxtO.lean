/- Contract of the document's Over (texts of errors). Conditions: sizes that each states. -/
import Derived.Test.YtodkcenoljpgoaaTxtB
namespace Go.Proofs.Ytodkcenoljpgoaa
open Go.RowKit Go.Extern.Stop Go.Stop Go.Extern

def overT (c : Nat) (a : Int) (x : List UInt8) : List UInt8 := if x = [] then [] else atT c a ++ 62 :: x

end Go.Proofs.Ytodkcenoljpgoaa
