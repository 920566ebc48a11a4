/-
  No cell of these rows narrows 'for every input' (looked for: loops, veiled, ifaces, maps, wideKeys, modest, calm, conditions, laid).
  DERIVED. THE GIVEN ROWS OF THIS SEAT. 6 by the template 'for every input the law returns true; each argument reads behind the call as it read before'; 0 by the template 'total and deterministic' (their statements: YtkahecdnmeofkaaTotals.lean).
  GIVEN WITH THE SEED: the statements are not yours to turn. If you find one false, say at which input.
  Laid BY PROGRAM, IN A SANDBOX (cutbox-rows.mjs): the forced cells as the released guide's own fill.sh prints them over the translation 4f676aa1c2493dca… (all of the seat's roots in one cut). By AI agents, Wed Nov 11 2026. No macro, syntax, notation, axiom, sorry.
-/
import Derived.Test.YtkahecdnmeofkaaChecked
import GoSem.Claim
import GoSem.ClaimJoined
import GoSem.ClaimMapViews
import Derived.JoinedTies
import Derived.KernelRfl
namespace Go.Proofs.Ytkahecdnmeofkaa
/- THE CELL 'sum', in the pinned program and in every row, IS THE sha256 OF THE DUMP (.gsa) THAT YtkahecdnmeofkaaProg.lean LOADS. Nothing in Lean hashes anything: it is a label: what it is worth is what the hold of that sum in a sandbox is worth. -/
noncomputable def Try.pinned : Pinned := { name := "ytkahecdnmeofkaa", sum := "4f676aa1c2493dca4c38fa9502b809c9da6bad30fb08c66014d3fd039948d350", checked := Try.checked }
namespace Rows
def none {H : Type} : Left H := { results := [], args := [] }

/-- 'escapementlaw12.MemberSets': WHATEVER THE INPUT: true; the input reads as it did. -/
def memberSetsSpec : ChangeSpec := { name := "memberSets", fn := fun _ => fun
  | [d1, d2, d3] => { results := [.lit (.bool true)], args := [d1, d2, d3] }
  | _ => none }
def memberSetsRow : OpenClaim := { program := "ytkahecdnmeofkaa", sum := "4f676aa1c2493dca4c38fa9502b809c9da6bad30fb08c66014d3fd039948d350", func := "escapement/escapementlaw12.MemberSets", spec := "memberSets", apart := false }
def MemberSetsSaid : Prop := memberSetsRow.holds Try.pinned (OpenSpec.ofChange memberSetsSpec)

/-- ITS FALSE NEIGHBOUR: 'it returns false'. Refute it at one input. -/
def memberSetsWrong : ChangeSpec := { name := "memberSets", fn := fun _ => fun
  | [d1, d2, d3] => { results := [.lit (.bool false)], args := [d1, d2, d3] }
  | _ => none }
def MemberSetsWrongFalsely : Prop := memberSetsRow.holds Try.pinned (OpenSpec.ofChange memberSetsWrong)

/-- 'escapementlaw12.MemberHears': WHATEVER THE INPUT: true; the input reads as it did. -/
def memberHearsSpec : ChangeSpec := { name := "memberHears", fn := fun _ => fun
  | [d1, d2, d3] => { results := [.lit (.bool true)], args := [d1, d2, d3] }
  | _ => none }
def memberHearsRow : OpenClaim := { program := "ytkahecdnmeofkaa", sum := "4f676aa1c2493dca4c38fa9502b809c9da6bad30fb08c66014d3fd039948d350", func := "escapement/escapementlaw12.MemberHears", spec := "memberHears", apart := false }
def MemberHearsSaid : Prop := memberHearsRow.holds Try.pinned (OpenSpec.ofChange memberHearsSpec)

/-- ITS FALSE NEIGHBOUR: 'it returns false'. Refute it at one input. -/
def memberHearsWrong : ChangeSpec := { name := "memberHears", fn := fun _ => fun
  | [d1, d2, d3] => { results := [.lit (.bool false)], args := [d1, d2, d3] }
  | _ => none }
def MemberHearsWrongFalsely : Prop := memberHearsRow.holds Try.pinned (OpenSpec.ofChange memberHearsWrong)

/-- 'escapementlaw12.MemberSame': WHATEVER THE INPUT: true; the input reads as it did. -/
def memberSameSpec : ChangeSpec := { name := "memberSame", fn := fun _ => fun
  | [d1, d2] => { results := [.lit (.bool true)], args := [d1, d2] }
  | _ => none }
def memberSameRow : OpenClaim := { program := "ytkahecdnmeofkaa", sum := "4f676aa1c2493dca4c38fa9502b809c9da6bad30fb08c66014d3fd039948d350", func := "escapement/escapementlaw12.MemberSame", spec := "memberSame", apart := false }
def MemberSameSaid : Prop := memberSameRow.holds Try.pinned (OpenSpec.ofChange memberSameSpec)

/-- ITS FALSE NEIGHBOUR: 'it returns false'. Refute it at one input. -/
def memberSameWrong : ChangeSpec := { name := "memberSame", fn := fun _ => fun
  | [d1, d2] => { results := [.lit (.bool false)], args := [d1, d2] }
  | _ => none }
def MemberSameWrongFalsely : Prop := memberSameRow.holds Try.pinned (OpenSpec.ofChange memberSameWrong)

/-- 'escapementlaw12.MemberNil': WHATEVER THE INPUT: true; the input reads as it did. -/
def memberNilSpec : ChangeSpec := { name := "memberNil", fn := fun _ => fun
  | [d1, d2] => { results := [.lit (.bool true)], args := [d1, d2] }
  | _ => none }
def memberNilRow : OpenClaim := { program := "ytkahecdnmeofkaa", sum := "4f676aa1c2493dca4c38fa9502b809c9da6bad30fb08c66014d3fd039948d350", func := "escapement/escapementlaw12.MemberNil", spec := "memberNil", apart := false }
def MemberNilSaid : Prop := memberNilRow.holds Try.pinned (OpenSpec.ofChange memberNilSpec)

/-- ITS FALSE NEIGHBOUR: 'it returns false'. Refute it at one input. -/
def memberNilWrong : ChangeSpec := { name := "memberNil", fn := fun _ => fun
  | [d1, d2] => { results := [.lit (.bool false)], args := [d1, d2] }
  | _ => none }
def MemberNilWrongFalsely : Prop := memberNilRow.holds Try.pinned (OpenSpec.ofChange memberNilWrong)

/-- 'escapementlaw12.MemberParts': WHATEVER THE INPUT: true; the input reads as it did. -/
def memberPartsSpec : ChangeSpec := { name := "memberParts", fn := fun _ => fun
  | [d1, d2] => { results := [.lit (.bool true)], args := [d1, d2] }
  | _ => none }
def memberPartsRow : OpenClaim := { program := "ytkahecdnmeofkaa", sum := "4f676aa1c2493dca4c38fa9502b809c9da6bad30fb08c66014d3fd039948d350", func := "escapement/escapementlaw12.MemberParts", spec := "memberParts", apart := false }
def MemberPartsSaid : Prop := memberPartsRow.holds Try.pinned (OpenSpec.ofChange memberPartsSpec)

/-- ITS FALSE NEIGHBOUR: 'it returns false'. Refute it at one input. -/
def memberPartsWrong : ChangeSpec := { name := "memberParts", fn := fun _ => fun
  | [d1, d2] => { results := [.lit (.bool false)], args := [d1, d2] }
  | _ => none }
def MemberPartsWrongFalsely : Prop := memberPartsRow.holds Try.pinned (OpenSpec.ofChange memberPartsWrong)

/-- 'escapementlaw12.MemberOther': WHATEVER THE INPUT: true; the input reads as it did. -/
def memberOtherSpec : ChangeSpec := { name := "memberOther", fn := fun _ => fun
  | [d1, d2, d3] => { results := [.lit (.bool true)], args := [d1, d2, d3] }
  | _ => none }
def memberOtherRow : OpenClaim := { program := "ytkahecdnmeofkaa", sum := "4f676aa1c2493dca4c38fa9502b809c9da6bad30fb08c66014d3fd039948d350", func := "escapement/escapementlaw12.MemberOther", spec := "memberOther", apart := false }
def MemberOtherSaid : Prop := memberOtherRow.holds Try.pinned (OpenSpec.ofChange memberOtherSpec)

/-- ITS FALSE NEIGHBOUR: 'it returns false'. Refute it at one input. -/
def memberOtherWrong : ChangeSpec := { name := "memberOther", fn := fun _ => fun
  | [d1, d2, d3] => { results := [.lit (.bool false)], args := [d1, d2, d3] }
  | _ => none }
def MemberOtherWrongFalsely : Prop := memberOtherRow.holds Try.pinned (OpenSpec.ofChange memberOtherWrong)

/- THE SECOND FORM. 'bulk': how many values and letters a reading holds, each counted each time it is reached (what is shared counts as often as it is met; a slice's spare places count too). A statement '..UptoSaid' is the law's where the arguments, and the package variables that the reading takes, are together of bulk at most 1048576: NARROWER than '..Said'. Prove '..Said' where nothing that the law and all that it calls make is longer than what came in: it says more and counts as full. Else prove '..UptoSaid'. A law counts once. -/
mutual
def uptoBulk {H : Type} : DataW H → Nat
  | .lit (.string bytes) => bytes.length + 1
  | .lit _ => 1
  | .nil => 1
  | .ptr d => uptoBulk d + 1
  | .slice elems spare => uptoBulkAll elems + uptoBulkAll spare + 1
  | .agg parts => uptoBulkAll parts + 1
  | .iface _ d => uptoBulk d + 1
  | .map entries => uptoBulkEntries entries + 1
  | .held _ => 1
def uptoBulkAll {H : Type} : List (DataW H) → Nat
  | [] => 0
  | d :: r => uptoBulk d + uptoBulkAll r
def uptoBulkEntries {H : Type} : List (Lit × DataW H) → Nat
  | [] => 0
  | x :: r => uptoBulkEntry x + uptoBulkEntries r
def uptoBulkEntry {H : Type} : Lit × DataW H → Nat
  | (.string bytes, d) => bytes.length + uptoBulk d + 1
  | (_, d) => uptoBulk d + 1
 end
def uptoSmall : (H : Type) → List (DataW H) → Bool := fun _ ds => decide (uptoBulkAll ds ≤ 1048576)
def OpenSpec.upto (s : _root_.Go.ChangeSpec) : _root_.Go.OpenSpec := { _root_.Go.OpenSpec.ofChange s with cond := some uptoSmall }

/-- 'escapementlaw12.MemberSets', WHERE WHAT IT READS IS OF BULK AT MOST 1048576: true; the input reads as it did. -/
def memberSetsUptoRow : OpenClaim := { program := "ytkahecdnmeofkaa", sum := "4f676aa1c2493dca4c38fa9502b809c9da6bad30fb08c66014d3fd039948d350", func := "escapement/escapementlaw12.MemberSets", spec := "memberSets", apart := false, narrowed := true }
def MemberSetsUptoSaid : Prop := memberSetsUptoRow.holds Try.pinned (OpenSpec.upto memberSetsSpec)

/-- 'escapementlaw12.MemberHears', WHERE WHAT IT READS IS OF BULK AT MOST 1048576: true; the input reads as it did. -/
def memberHearsUptoRow : OpenClaim := { program := "ytkahecdnmeofkaa", sum := "4f676aa1c2493dca4c38fa9502b809c9da6bad30fb08c66014d3fd039948d350", func := "escapement/escapementlaw12.MemberHears", spec := "memberHears", apart := false, narrowed := true }
def MemberHearsUptoSaid : Prop := memberHearsUptoRow.holds Try.pinned (OpenSpec.upto memberHearsSpec)

/-- 'escapementlaw12.MemberSame', WHERE WHAT IT READS IS OF BULK AT MOST 1048576: true; the input reads as it did. -/
def memberSameUptoRow : OpenClaim := { program := "ytkahecdnmeofkaa", sum := "4f676aa1c2493dca4c38fa9502b809c9da6bad30fb08c66014d3fd039948d350", func := "escapement/escapementlaw12.MemberSame", spec := "memberSame", apart := false, narrowed := true }
def MemberSameUptoSaid : Prop := memberSameUptoRow.holds Try.pinned (OpenSpec.upto memberSameSpec)

/-- 'escapementlaw12.MemberNil', WHERE WHAT IT READS IS OF BULK AT MOST 1048576: true; the input reads as it did. -/
def memberNilUptoRow : OpenClaim := { program := "ytkahecdnmeofkaa", sum := "4f676aa1c2493dca4c38fa9502b809c9da6bad30fb08c66014d3fd039948d350", func := "escapement/escapementlaw12.MemberNil", spec := "memberNil", apart := false, narrowed := true }
def MemberNilUptoSaid : Prop := memberNilUptoRow.holds Try.pinned (OpenSpec.upto memberNilSpec)

/-- 'escapementlaw12.MemberParts', WHERE WHAT IT READS IS OF BULK AT MOST 1048576: true; the input reads as it did. -/
def memberPartsUptoRow : OpenClaim := { program := "ytkahecdnmeofkaa", sum := "4f676aa1c2493dca4c38fa9502b809c9da6bad30fb08c66014d3fd039948d350", func := "escapement/escapementlaw12.MemberParts", spec := "memberParts", apart := false, narrowed := true }
def MemberPartsUptoSaid : Prop := memberPartsUptoRow.holds Try.pinned (OpenSpec.upto memberPartsSpec)

/-- 'escapementlaw12.MemberOther', WHERE WHAT IT READS IS OF BULK AT MOST 1048576: true; the input reads as it did. -/
def memberOtherUptoRow : OpenClaim := { program := "ytkahecdnmeofkaa", sum := "4f676aa1c2493dca4c38fa9502b809c9da6bad30fb08c66014d3fd039948d350", func := "escapement/escapementlaw12.MemberOther", spec := "memberOther", apart := false, narrowed := true }
def MemberOtherUptoSaid : Prop := memberOtherUptoRow.holds Try.pinned (OpenSpec.upto memberOtherSpec)

end Rows
end Go.Proofs.Ytkahecdnmeofkaa
