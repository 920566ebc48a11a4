/-
  No cell of these rows narrows 'for every input' (looked for: loops, veiled, ifaces, maps, wideKeys, modest, calm, conditions, laid).
  DERIVED. THE GIVEN ROWS OF THIS SEAT. 4 by the template 'for every input the law returns true; each argument reads behind the call as it read before'; 0 by the template 'total and deterministic' (their statements: YtfgpfmhjnccccaaTotals.lean).
  GIVEN WITH THE SEED: the statements are not yours to turn. If you find one false, say at which input.
  Laid BY PROGRAM, IN A SANDBOX (cutbox-rows.mjs): the forced cells as the released guide's own fill.sh prints them over the translation dcf6a7a5139efa41… (all of the seat's roots in one cut). By AI agents, Wed Nov 11 2026. No macro, syntax, notation, axiom, sorry.
-/
import Derived.Test.YtfgpfmhjnccccaaChecked
import GoSem.Claim
import GoSem.ClaimJoined
import GoSem.ClaimMapViews
import Derived.JoinedTies
import Derived.KernelRfl
namespace Go.Proofs.Ytfgpfmhjnccccaa
/- THE CELL 'sum', in the pinned program and in every row, IS THE sha256 OF THE DUMP (.gsa) THAT YtfgpfmhjnccccaaProg.lean LOADS. Nothing in Lean hashes anything: it is a label: what it is worth is what the hold of that sum in a sandbox is worth. -/
noncomputable def Try.pinned : Pinned := { name := "ytfgpfmhjnccccaa", sum := "dcf6a7a5139efa41b555e782dc5c56a8c8138891e623ea7b81afd5e25ce5c868", checked := Try.checked }
namespace Rows
def none {H : Type} : Left H := { results := [], args := [] }

/-- 'escapementlaw17.FramesFind': WHATEVER THE INPUT: true; the input reads as it did. -/
def framesFindSpec : ChangeSpec := { name := "framesFind", fn := fun _ => fun
  | [d1, d2, d3] => { results := [.lit (.bool true)], args := [d1, d2, d3] }
  | _ => none }
def framesFindRow : OpenClaim := { program := "ytfgpfmhjnccccaa", sum := "dcf6a7a5139efa41b555e782dc5c56a8c8138891e623ea7b81afd5e25ce5c868", func := "escapement/escapementlaw17.FramesFind", spec := "framesFind", unfollowed := true, recurses := true, apart := false }
def FramesFindSaid : Prop := framesFindRow.holds Try.pinned (OpenSpec.ofChange framesFindSpec)

/-- ITS FALSE NEIGHBOUR: 'it returns false'. Refute it at one input. -/
def framesFindWrong : ChangeSpec := { name := "framesFind", fn := fun _ => fun
  | [d1, d2, d3] => { results := [.lit (.bool false)], args := [d1, d2, d3] }
  | _ => none }
def FramesFindWrongFalsely : Prop := framesFindRow.holds Try.pinned (OpenSpec.ofChange framesFindWrong)

/-- 'escapementlaw17.FramesApart': WHATEVER THE INPUT: true; the input reads as it did. -/
def framesApartSpec : ChangeSpec := { name := "framesApart", fn := fun _ => fun
  | [d1, d2, d3] => { results := [.lit (.bool true)], args := [d1, d2, d3] }
  | _ => none }
def framesApartRow : OpenClaim := { program := "ytfgpfmhjnccccaa", sum := "dcf6a7a5139efa41b555e782dc5c56a8c8138891e623ea7b81afd5e25ce5c868", func := "escapement/escapementlaw17.FramesApart", spec := "framesApart", unfollowed := true, recurses := true, apart := false }
def FramesApartSaid : Prop := framesApartRow.holds Try.pinned (OpenSpec.ofChange framesApartSpec)

/-- ITS FALSE NEIGHBOUR: 'it returns false'. Refute it at one input. -/
def framesApartWrong : ChangeSpec := { name := "framesApart", fn := fun _ => fun
  | [d1, d2, d3] => { results := [.lit (.bool false)], args := [d1, d2, d3] }
  | _ => none }
def FramesApartWrongFalsely : Prop := framesApartRow.holds Try.pinned (OpenSpec.ofChange framesApartWrong)

/-- 'escapementlaw17.FramesWalk': WHATEVER THE INPUT: true; the input reads as it did. -/
def framesWalkSpec : ChangeSpec := { name := "framesWalk", fn := fun _ => fun
  | [d1, d2] => { results := [.lit (.bool true)], args := [d1, d2] }
  | _ => none }
def framesWalkRow : OpenClaim := { program := "ytfgpfmhjnccccaa", sum := "dcf6a7a5139efa41b555e782dc5c56a8c8138891e623ea7b81afd5e25ce5c868", func := "escapement/escapementlaw17.FramesWalk", spec := "framesWalk", unfollowed := true, recurses := true, apart := false }
def FramesWalkSaid : Prop := framesWalkRow.holds Try.pinned (OpenSpec.ofChange framesWalkSpec)

/-- ITS FALSE NEIGHBOUR: 'it returns false'. Refute it at one input. -/
def framesWalkWrong : ChangeSpec := { name := "framesWalk", fn := fun _ => fun
  | [d1, d2] => { results := [.lit (.bool false)], args := [d1, d2] }
  | _ => none }
def FramesWalkWrongFalsely : Prop := framesWalkRow.holds Try.pinned (OpenSpec.ofChange framesWalkWrong)

/-- 'escapementlaw17.FramesIdle': WHATEVER THE INPUT: true; the input reads as it did. -/
def framesIdleSpec : ChangeSpec := { name := "framesIdle", fn := fun _ => fun
  | [d1, d2] => { results := [.lit (.bool true)], args := [d1, d2] }
  | _ => none }
def framesIdleRow : OpenClaim := { program := "ytfgpfmhjnccccaa", sum := "dcf6a7a5139efa41b555e782dc5c56a8c8138891e623ea7b81afd5e25ce5c868", func := "escapement/escapementlaw17.FramesIdle", spec := "framesIdle", unfollowed := true, recurses := true, apart := false }
def FramesIdleSaid : Prop := framesIdleRow.holds Try.pinned (OpenSpec.ofChange framesIdleSpec)

/-- ITS FALSE NEIGHBOUR: 'it returns false'. Refute it at one input. -/
def framesIdleWrong : ChangeSpec := { name := "framesIdle", fn := fun _ => fun
  | [d1, d2] => { results := [.lit (.bool false)], args := [d1, d2] }
  | _ => none }
def FramesIdleWrongFalsely : Prop := framesIdleRow.holds Try.pinned (OpenSpec.ofChange framesIdleWrong)

/- THE SECOND FORM. 'bulk': how many values and letters a reading holds, each counted each time it is reached (what is shared counts as often as it is met; a slice's spare places count too). A statement '..UptoSaid' is the law's where the arguments, and the package variables that the reading takes, are together of bulk at most 1048576: NARROWER than '..Said'. Prove '..Said' where nothing that the law and all that it calls make is longer than what came in: it says more and counts as full. Else prove '..UptoSaid'. A law counts once. -/
mutual
def uptoBulk {H : Type} : DataW H → Nat
  | .lit (.string bytes) => bytes.length + 1
  | .lit _ => 1
  | .nil => 1
  | .ptr d => uptoBulk d + 1
  | .slice elems spare => uptoBulkAll elems + uptoBulkAll spare + 1
  | .agg parts => uptoBulkAll parts + 1
  | .iface _ d => uptoBulk d + 1
  | .map entries => uptoBulkEntries entries + 1
  | .held _ => 1
def uptoBulkAll {H : Type} : List (DataW H) → Nat
  | [] => 0
  | d :: r => uptoBulk d + uptoBulkAll r
def uptoBulkEntries {H : Type} : List (Lit × DataW H) → Nat
  | [] => 0
  | x :: r => uptoBulkEntry x + uptoBulkEntries r
def uptoBulkEntry {H : Type} : Lit × DataW H → Nat
  | (.string bytes, d) => bytes.length + uptoBulk d + 1
  | (_, d) => uptoBulk d + 1
 end
def uptoSmall : (H : Type) → List (DataW H) → Bool := fun _ ds => decide (uptoBulkAll ds ≤ 1048576)
def OpenSpec.upto (s : _root_.Go.ChangeSpec) : _root_.Go.OpenSpec := { _root_.Go.OpenSpec.ofChange s with cond := some uptoSmall }

/-- 'escapementlaw17.FramesFind', WHERE WHAT IT READS IS OF BULK AT MOST 1048576: true; the input reads as it did. -/
def framesFindUptoRow : OpenClaim := { program := "ytfgpfmhjnccccaa", sum := "dcf6a7a5139efa41b555e782dc5c56a8c8138891e623ea7b81afd5e25ce5c868", func := "escapement/escapementlaw17.FramesFind", spec := "framesFind", unfollowed := true, recurses := true, apart := false, narrowed := true }
def FramesFindUptoSaid : Prop := framesFindUptoRow.holds Try.pinned (OpenSpec.upto framesFindSpec)

/-- 'escapementlaw17.FramesApart', WHERE WHAT IT READS IS OF BULK AT MOST 1048576: true; the input reads as it did. -/
def framesApartUptoRow : OpenClaim := { program := "ytfgpfmhjnccccaa", sum := "dcf6a7a5139efa41b555e782dc5c56a8c8138891e623ea7b81afd5e25ce5c868", func := "escapement/escapementlaw17.FramesApart", spec := "framesApart", unfollowed := true, recurses := true, apart := false, narrowed := true }
def FramesApartUptoSaid : Prop := framesApartUptoRow.holds Try.pinned (OpenSpec.upto framesApartSpec)

/-- 'escapementlaw17.FramesWalk', WHERE WHAT IT READS IS OF BULK AT MOST 1048576: true; the input reads as it did. -/
def framesWalkUptoRow : OpenClaim := { program := "ytfgpfmhjnccccaa", sum := "dcf6a7a5139efa41b555e782dc5c56a8c8138891e623ea7b81afd5e25ce5c868", func := "escapement/escapementlaw17.FramesWalk", spec := "framesWalk", unfollowed := true, recurses := true, apart := false, narrowed := true }
def FramesWalkUptoSaid : Prop := framesWalkUptoRow.holds Try.pinned (OpenSpec.upto framesWalkSpec)

/-- 'escapementlaw17.FramesIdle', WHERE WHAT IT READS IS OF BULK AT MOST 1048576: true; the input reads as it did. -/
def framesIdleUptoRow : OpenClaim := { program := "ytfgpfmhjnccccaa", sum := "dcf6a7a5139efa41b555e782dc5c56a8c8138891e623ea7b81afd5e25ce5c868", func := "escapement/escapementlaw17.FramesIdle", spec := "framesIdle", unfollowed := true, recurses := true, apart := false, narrowed := true }
def FramesIdleUptoSaid : Prop := framesIdleUptoRow.holds Try.pinned (OpenSpec.upto framesIdleSpec)

end Rows
end Go.Proofs.Ytfgpfmhjnccccaa
