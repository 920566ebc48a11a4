/-
  No cell of these rows narrows 'for every input' (looked for: loops, veiled, ifaces, maps, wideKeys, modest, calm, conditions, laid).
  DERIVED. THE GIVEN ROWS OF THIS SEAT. 3 by the template 'for every input the law returns true; each argument reads behind the call as it read before'; 0 by the template 'total and deterministic' (their statements: YthhbdnjihhpalaaTotals.lean).
  GIVEN WITH THE SEED: the statements are not yours to turn. If you find one false, say at which input.
  Laid BY PROGRAM, IN A SANDBOX (cutbox-rows.mjs): the forced cells as the released guide's own fill.sh prints them over the translation 32ebdffc006c820c… (all of the seat's roots in one cut). By AI agents, Wed Nov 11 2026. No macro, syntax, notation, axiom, sorry.
-/
import Derived.Test.YthhbdnjihhpalaaChecked
import GoSem.Claim
import GoSem.ClaimJoined
import GoSem.ClaimMapViews
import Derived.JoinedTies
import Derived.KernelRfl
namespace Go.Proofs.Ythhbdnjihhpalaa
/- THE CELL 'sum', in the pinned program and in every row, IS THE sha256 OF THE DUMP (.gsa) THAT YthhbdnjihhpalaaProg.lean LOADS. Nothing in Lean hashes anything: it is a label: what it is worth is what the hold of that sum in a sandbox is worth. -/
noncomputable def Try.pinned : Pinned := { name := "ythhbdnjihhpalaa", sum := "32ebdffc006c820cd12d08b2c7c2e25f458600ea8ce776263a668621e46e1bb9", checked := Try.checked }
namespace Rows
def none {H : Type} : Left H := { results := [], args := [] }

/-- 'escapementlaw11.PaceTurns': WHATEVER THE INPUT: true; the input reads as it did. -/
def paceTurnsSpec : ChangeSpec := { name := "paceTurns", fn := fun _ => fun
  | [d1, d2, d3] => { results := [.lit (.bool true)], args := [d1, d2, d3] }
  | _ => none }
def paceTurnsRow : OpenClaim := { program := "ythhbdnjihhpalaa", sum := "32ebdffc006c820cd12d08b2c7c2e25f458600ea8ce776263a668621e46e1bb9", func := "escapement/escapementlaw11.PaceTurns", spec := "paceTurns", unfollowed := true, recurses := true, apart := false }
def PaceTurnsSaid : Prop := paceTurnsRow.holds Try.pinned (OpenSpec.ofChange paceTurnsSpec)

/-- ITS FALSE NEIGHBOUR: 'it returns false'. Refute it at one input. -/
def paceTurnsWrong : ChangeSpec := { name := "paceTurns", fn := fun _ => fun
  | [d1, d2, d3] => { results := [.lit (.bool false)], args := [d1, d2, d3] }
  | _ => none }
def PaceTurnsWrongFalsely : Prop := paceTurnsRow.holds Try.pinned (OpenSpec.ofChange paceTurnsWrong)

/-- 'escapementlaw11.PaceLies': WHATEVER THE INPUT: true; the input reads as it did. -/
def paceLiesSpec : ChangeSpec := { name := "paceLies", fn := fun _ => fun
  | [d1, d2, d3, d4, d5] => { results := [.lit (.bool true)], args := [d1, d2, d3, d4, d5] }
  | _ => none }
def paceLiesRow : OpenClaim := { program := "ythhbdnjihhpalaa", sum := "32ebdffc006c820cd12d08b2c7c2e25f458600ea8ce776263a668621e46e1bb9", func := "escapement/escapementlaw11.PaceLies", spec := "paceLies", unfollowed := true, recurses := true, apart := false }
def PaceLiesSaid : Prop := paceLiesRow.holds Try.pinned (OpenSpec.ofChange paceLiesSpec)

/-- ITS FALSE NEIGHBOUR: 'it returns false'. Refute it at one input. -/
def paceLiesWrong : ChangeSpec := { name := "paceLies", fn := fun _ => fun
  | [d1, d2, d3, d4, d5] => { results := [.lit (.bool false)], args := [d1, d2, d3, d4, d5] }
  | _ => none }
def PaceLiesWrongFalsely : Prop := paceLiesRow.holds Try.pinned (OpenSpec.ofChange paceLiesWrong)

/-- 'escapementlaw11.PaceMeets': WHATEVER THE INPUT: true; the input reads as it did. -/
def paceMeetsSpec : ChangeSpec := { name := "paceMeets", fn := fun _ => fun
  | [d1, d2, d3, d4, d5] => { results := [.lit (.bool true)], args := [d1, d2, d3, d4, d5] }
  | _ => none }
def paceMeetsRow : OpenClaim := { program := "ythhbdnjihhpalaa", sum := "32ebdffc006c820cd12d08b2c7c2e25f458600ea8ce776263a668621e46e1bb9", func := "escapement/escapementlaw11.PaceMeets", spec := "paceMeets", unfollowed := true, recurses := true, apart := false }
def PaceMeetsSaid : Prop := paceMeetsRow.holds Try.pinned (OpenSpec.ofChange paceMeetsSpec)

/-- ITS FALSE NEIGHBOUR: 'it returns false'. Refute it at one input. -/
def paceMeetsWrong : ChangeSpec := { name := "paceMeets", fn := fun _ => fun
  | [d1, d2, d3, d4, d5] => { results := [.lit (.bool false)], args := [d1, d2, d3, d4, d5] }
  | _ => none }
def PaceMeetsWrongFalsely : Prop := paceMeetsRow.holds Try.pinned (OpenSpec.ofChange paceMeetsWrong)

/- THE SECOND FORM. 'bulk': how many values and letters a reading holds, each counted each time it is reached (what is shared counts as often as it is met; a slice's spare places count too). A statement '..UptoSaid' is the law's where the arguments, and the package variables that the reading takes, are together of bulk at most 1048576: NARROWER than '..Said'. Prove '..Said' where nothing that the law and all that it calls make is longer than what came in: it says more and counts as full. Else prove '..UptoSaid'. A law counts once. -/
mutual
def uptoBulk {H : Type} : DataW H → Nat
  | .lit (.string bytes) => bytes.length + 1
  | .lit _ => 1
  | .nil => 1
  | .ptr d => uptoBulk d + 1
  | .slice elems spare => uptoBulkAll elems + uptoBulkAll spare + 1
  | .agg parts => uptoBulkAll parts + 1
  | .iface _ d => uptoBulk d + 1
  | .map entries => uptoBulkEntries entries + 1
  | .held _ => 1
def uptoBulkAll {H : Type} : List (DataW H) → Nat
  | [] => 0
  | d :: r => uptoBulk d + uptoBulkAll r
def uptoBulkEntries {H : Type} : List (Lit × DataW H) → Nat
  | [] => 0
  | x :: r => uptoBulkEntry x + uptoBulkEntries r
def uptoBulkEntry {H : Type} : Lit × DataW H → Nat
  | (.string bytes, d) => bytes.length + uptoBulk d + 1
  | (_, d) => uptoBulk d + 1
 end
def uptoSmall : (H : Type) → List (DataW H) → Bool := fun _ ds => decide (uptoBulkAll ds ≤ 1048576)
def OpenSpec.upto (s : _root_.Go.ChangeSpec) : _root_.Go.OpenSpec := { _root_.Go.OpenSpec.ofChange s with cond := some uptoSmall }

/-- 'escapementlaw11.PaceTurns', WHERE WHAT IT READS IS OF BULK AT MOST 1048576: true; the input reads as it did. -/
def paceTurnsUptoRow : OpenClaim := { program := "ythhbdnjihhpalaa", sum := "32ebdffc006c820cd12d08b2c7c2e25f458600ea8ce776263a668621e46e1bb9", func := "escapement/escapementlaw11.PaceTurns", spec := "paceTurns", unfollowed := true, recurses := true, apart := false, narrowed := true }
def PaceTurnsUptoSaid : Prop := paceTurnsUptoRow.holds Try.pinned (OpenSpec.upto paceTurnsSpec)

/-- 'escapementlaw11.PaceLies', WHERE WHAT IT READS IS OF BULK AT MOST 1048576: true; the input reads as it did. -/
def paceLiesUptoRow : OpenClaim := { program := "ythhbdnjihhpalaa", sum := "32ebdffc006c820cd12d08b2c7c2e25f458600ea8ce776263a668621e46e1bb9", func := "escapement/escapementlaw11.PaceLies", spec := "paceLies", unfollowed := true, recurses := true, apart := false, narrowed := true }
def PaceLiesUptoSaid : Prop := paceLiesUptoRow.holds Try.pinned (OpenSpec.upto paceLiesSpec)

/-- 'escapementlaw11.PaceMeets', WHERE WHAT IT READS IS OF BULK AT MOST 1048576: true; the input reads as it did. -/
def paceMeetsUptoRow : OpenClaim := { program := "ythhbdnjihhpalaa", sum := "32ebdffc006c820cd12d08b2c7c2e25f458600ea8ce776263a668621e46e1bb9", func := "escapement/escapementlaw11.PaceMeets", spec := "paceMeets", unfollowed := true, recurses := true, apart := false, narrowed := true }
def PaceMeetsUptoSaid : Prop := paceMeetsUptoRow.holds Try.pinned (OpenSpec.upto paceMeetsSpec)

end Rows
end Go.Proofs.Ythhbdnjihhpalaa
