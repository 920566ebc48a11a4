/- Contracts of frame's lawful, wrongCommand, wrongRecord. Conditions: numbers within their types. -/
import Derived.Test.YtabndibenffngaaDoorFraB
namespace Go.Proofs.YtabndibenffngaaDoor
open Go.RowKit

def BoolPost4 (b : Bool) (w : World) (e : Ending) (w' : World) : Prop := e = .returned (.bool b) ∧ Below w.heap.size w w'

theorem beq_nat {a b : Nat} : (((a : Nat) : Int) == ((b : Nat) : Int)) = decide (a = b) := by
  by_cases h : a = b
  · subst h; simp
  · rw [decide_eq_false h, beq_eq_false_iff_ne]; omega

def cmdCode (kind key val old : Nat) : Int := if 3 < kind then 7 else if FrameP.unlawful kind key val old then 8 else 0

def recCode (x : FrameP.Rec) : Int := if 6 < x.node ∨ 11 < x.part ∨ 3 < x.kind ∨ 3 < x.did then 50 else 0

end Go.Proofs.YtabndibenffngaaDoor
