/- Contracts of the document's Reach and SameInts. Conditions: the tables are allowed; both slices say the same. -/
import Derived.Test.YtfgpfmhjnccccaaSndWa
import Derived.Deep.OwnRows
import Derived.BigQuiet
namespace Go.Proofs.Ytfgpfmhjnccccaa
open Go.RowKit
set_option maxRecDepth 100000

theorem own_high {w : World} {B B' e size n c g : Nat} {xs : List Value} (h : w.ownsRow B e size (.slice (some ⟨g, 0, none⟩) n c) n xs) (hb : B' ≤ g) : w.ownsRow B' e size (.slice (some ⟨g, 0, none⟩) n c) n xs :=
  ⟨h.1, h.2.imp id fun ⟨g', cap, cur, h1, _, h3⟩ => ⟨g', cap, cur, h1, by simp at h1; omega, h3⟩⟩

end Go.Proofs.Ytfgpfmhjnccccaa
