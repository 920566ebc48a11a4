/- Contracts of the Writer's Put (any size), Text and Bytes. Conditions: where the Writer lies; it holds at most 100000000 bytes. -/
import Derived.Test.YtodkcenoljpgoaaWirA
namespace Go.Proofs.Ytodkcenoljpgoaa
open Go.RowKit

/-- What Bytes answers: a new slice of the bytes. -/
def BytesPost (l : List UInt8) (w : World) (e : Ending) (w' : World) : Prop :=
  ∃ v g, e = .returned v ∧ Row w' w.heap.size 5 g v l ∧ Below w.heap.size w w'

end Go.Proofs.Ytodkcenoljpgoaa
