/-
  NARROWER THAN 'FOR EVERY INPUT', by the rows' own cells (each row's printed sentence says how): HealthKinds: laid · HealthReports: laid · HealthRow: laid · HealthLogs: laid · HealthSeals: laid · HealthParts: laid · HealthOf: laid.
  DERIVED. THE GIVEN ROWS OF THIS SEAT. 7 by the template 'for every input the law returns true; each argument reads behind the call as it read before'; 0 by the template 'total and deterministic' (their statements: YtabndibenffngaaDoorTotals.lean).
  GIVEN WITH THE SEED: the statements are not yours to turn. If you find one false, say at which input.
  Laid BY PROGRAM, IN A SANDBOX (cutbox-rows.mjs): the forced cells as the released guide's own fill.sh prints them over the translation f469abb5fb396b35… (all of the seat's roots in one cut). By AI agents, Wed Nov 11 2026. No macro, syntax, notation, axiom, sorry.
-/
import Derived.Test.YtabndibenffngaaDoorChecked
import GoSem.Claim
import GoSem.ClaimJoined
import GoSem.ClaimMapViews
import Derived.JoinedTies
import Derived.KernelRfl
namespace Go.Proofs.YtabndibenffngaaDoor
/- THE CELL 'sum', in the pinned program and in every row, IS THE sha256 OF THE DUMP (.gsa) THAT YtabndibenffngaaDoorProg.lean LOADS. Nothing in Lean hashes anything: it is a label: what it is worth is what the hold of that sum in a sandbox is worth. -/
noncomputable def Tryd.pinned : Pinned := { name := "ytabndibenffngaadoor", sum := "f469abb5fb396b3594eb8b257f3fe9650367dc3cb0d7c428629cdac6cdf00446", checked := Tryd.checked }
namespace Rows
def none {H : Type} : Left H := { results := [], args := [] }

/- WHAT THE LISTED PACKAGE-LEVEL VARIABLES READ AS WHEN THE CALL BEGINS. Each datum BY PROGRAM (the guide's laid-datum.mjs) off the statement by which the dump's own 'gosem.cut.vars' lays the variable. In a bare row this is a premise. The card (YtabndibenffngaaDoorCards.lean) ties it to the program's text. -/
def laid_errors_errorType {H : Type} : DataW H := .iface "internal/reflectlite.rtype" (.agg [.ptr (.lit (.string [101, 114, 114, 111, 114]))])

/-- 'escapementlaw15.HealthKinds': WHATEVER THE INPUT: true; the input reads as it did. -/
def healthKindsSpec : ChangeSpec := { name := "healthKinds", fn := fun _ => fun
  | [d1, d2] => { results := [.lit (.bool true)], args := [d1, d2] }
  | _ => none }
def healthKindsRow : OpenClaim := { program := "ytabndibenffngaadoor", sum := "f469abb5fb396b3594eb8b257f3fe9650367dc3cb0d7c428629cdac6cdf00446", func := "escapement/escapementlaw15.HealthKinds", spec := "healthKinds", inPlace := ["internal/reflectlite.ValueOf", "(internal/reflectlite.Value).Type", "(internal/reflectlite.Value).IsNil", "internal/reflectlite.TypeOf", "(internal/reflectlite.Value).Elem", "(internal/reflectlite.Value).Set"], unfollowed := true, recurses := true, named := ["errors.errorType"], apart := false, laid := [("errors.errorType", laid_errors_errorType)] }
def HealthKindsSaid : Prop := healthKindsRow.holds Tryd.pinned (OpenSpec.ofChange healthKindsSpec)

/-- ITS FALSE NEIGHBOUR: 'it returns false'. Refute it at one input. -/
def healthKindsWrong : ChangeSpec := { name := "healthKinds", fn := fun _ => fun
  | [d1, d2] => { results := [.lit (.bool false)], args := [d1, d2] }
  | _ => none }
def HealthKindsWrongFalsely : Prop := healthKindsRow.holds Tryd.pinned (OpenSpec.ofChange healthKindsWrong)

/-- 'escapementlaw15.HealthReports': WHATEVER THE INPUT: true; the input reads as it did. -/
def healthReportsSpec : ChangeSpec := { name := "healthReports", fn := fun _ => fun
  | [d1, d2, d3] => { results := [.lit (.bool true)], args := [d1, d2, d3] }
  | _ => none }
def healthReportsRow : OpenClaim := { program := "ytabndibenffngaadoor", sum := "f469abb5fb396b3594eb8b257f3fe9650367dc3cb0d7c428629cdac6cdf00446", func := "escapement/escapementlaw15.HealthReports", spec := "healthReports", inPlace := ["internal/reflectlite.ValueOf", "(internal/reflectlite.Value).Type", "(internal/reflectlite.Value).IsNil", "internal/reflectlite.TypeOf", "(internal/reflectlite.Value).Elem", "(internal/reflectlite.Value).Set"], unfollowed := true, recurses := true, named := ["errors.errorType"], apart := false, laid := [("errors.errorType", laid_errors_errorType)] }
def HealthReportsSaid : Prop := healthReportsRow.holds Tryd.pinned (OpenSpec.ofChange healthReportsSpec)

/-- ITS FALSE NEIGHBOUR: 'it returns false'. Refute it at one input. -/
def healthReportsWrong : ChangeSpec := { name := "healthReports", fn := fun _ => fun
  | [d1, d2, d3] => { results := [.lit (.bool false)], args := [d1, d2, d3] }
  | _ => none }
def HealthReportsWrongFalsely : Prop := healthReportsRow.holds Tryd.pinned (OpenSpec.ofChange healthReportsWrong)

/-- 'escapementlaw15.HealthRow': WHATEVER THE INPUT: true; the input reads as it did. -/
def healthRowSpec : ChangeSpec := { name := "healthRow", fn := fun _ => fun
  | [d1, d2] => { results := [.lit (.bool true)], args := [d1, d2] }
  | _ => none }
def healthRowRow : OpenClaim := { program := "ytabndibenffngaadoor", sum := "f469abb5fb396b3594eb8b257f3fe9650367dc3cb0d7c428629cdac6cdf00446", func := "escapement/escapementlaw15.HealthRow", spec := "healthRow", inPlace := ["internal/reflectlite.ValueOf", "(internal/reflectlite.Value).Type", "(internal/reflectlite.Value).IsNil", "internal/reflectlite.TypeOf", "(internal/reflectlite.Value).Elem", "(internal/reflectlite.Value).Set"], unfollowed := true, recurses := true, named := ["errors.errorType"], apart := false, laid := [("errors.errorType", laid_errors_errorType)] }
def HealthRowSaid : Prop := healthRowRow.holds Tryd.pinned (OpenSpec.ofChange healthRowSpec)

/-- ITS FALSE NEIGHBOUR: 'it returns false'. Refute it at one input. -/
def healthRowWrong : ChangeSpec := { name := "healthRow", fn := fun _ => fun
  | [d1, d2] => { results := [.lit (.bool false)], args := [d1, d2] }
  | _ => none }
def HealthRowWrongFalsely : Prop := healthRowRow.holds Tryd.pinned (OpenSpec.ofChange healthRowWrong)

/-- 'escapementlaw15.HealthLogs': WHATEVER THE INPUT: true; the input reads as it did. -/
def healthLogsSpec : ChangeSpec := { name := "healthLogs", fn := fun _ => fun
  | [d] => { results := [.lit (.bool true)], args := [d] }
  | _ => none }
def healthLogsRow : OpenClaim := { program := "ytabndibenffngaadoor", sum := "f469abb5fb396b3594eb8b257f3fe9650367dc3cb0d7c428629cdac6cdf00446", func := "escapement/escapementlaw15.HealthLogs", spec := "healthLogs", inPlace := ["internal/reflectlite.ValueOf", "(internal/reflectlite.Value).Type", "(internal/reflectlite.Value).IsNil", "internal/reflectlite.TypeOf", "(internal/reflectlite.Value).Elem", "(internal/reflectlite.Value).Set"], unfollowed := true, recurses := true, named := ["errors.errorType"], apart := false, laid := [("errors.errorType", laid_errors_errorType)] }
def HealthLogsSaid : Prop := healthLogsRow.holds Tryd.pinned (OpenSpec.ofChange healthLogsSpec)

/-- ITS FALSE NEIGHBOUR: 'it returns false'. Refute it at one input. -/
def healthLogsWrong : ChangeSpec := { name := "healthLogs", fn := fun _ => fun
  | [d] => { results := [.lit (.bool false)], args := [d] }
  | _ => none }
def HealthLogsWrongFalsely : Prop := healthLogsRow.holds Tryd.pinned (OpenSpec.ofChange healthLogsWrong)

/-- 'escapementlaw15.HealthSeals': WHATEVER THE INPUT: true; the input reads as it did. -/
def healthSealsSpec : ChangeSpec := { name := "healthSeals", fn := fun _ => fun
  | [d] => { results := [.lit (.bool true)], args := [d] }
  | _ => none }
def healthSealsRow : OpenClaim := { program := "ytabndibenffngaadoor", sum := "f469abb5fb396b3594eb8b257f3fe9650367dc3cb0d7c428629cdac6cdf00446", func := "escapement/escapementlaw15.HealthSeals", spec := "healthSeals", inPlace := ["internal/reflectlite.ValueOf", "(internal/reflectlite.Value).Type", "(internal/reflectlite.Value).IsNil", "internal/reflectlite.TypeOf", "(internal/reflectlite.Value).Elem", "(internal/reflectlite.Value).Set"], unfollowed := true, recurses := true, named := ["errors.errorType"], apart := false, laid := [("errors.errorType", laid_errors_errorType)] }
def HealthSealsSaid : Prop := healthSealsRow.holds Tryd.pinned (OpenSpec.ofChange healthSealsSpec)

/-- ITS FALSE NEIGHBOUR: 'it returns false'. Refute it at one input. -/
def healthSealsWrong : ChangeSpec := { name := "healthSeals", fn := fun _ => fun
  | [d] => { results := [.lit (.bool false)], args := [d] }
  | _ => none }
def HealthSealsWrongFalsely : Prop := healthSealsRow.holds Tryd.pinned (OpenSpec.ofChange healthSealsWrong)

/-- 'escapementlaw15.HealthParts': WHATEVER THE INPUT: true; the input reads as it did. -/
def healthPartsSpec : ChangeSpec := { name := "healthParts", fn := fun _ => fun
  | [d1, d2] => { results := [.lit (.bool true)], args := [d1, d2] }
  | _ => none }
def healthPartsRow : OpenClaim := { program := "ytabndibenffngaadoor", sum := "f469abb5fb396b3594eb8b257f3fe9650367dc3cb0d7c428629cdac6cdf00446", func := "escapement/escapementlaw15.HealthParts", spec := "healthParts", inPlace := ["internal/reflectlite.ValueOf", "(internal/reflectlite.Value).Type", "(internal/reflectlite.Value).IsNil", "internal/reflectlite.TypeOf", "(internal/reflectlite.Value).Elem", "(internal/reflectlite.Value).Set"], unfollowed := true, recurses := true, named := ["errors.errorType"], apart := false, laid := [("errors.errorType", laid_errors_errorType)] }
def HealthPartsSaid : Prop := healthPartsRow.holds Tryd.pinned (OpenSpec.ofChange healthPartsSpec)

/-- ITS FALSE NEIGHBOUR: 'it returns false'. Refute it at one input. -/
def healthPartsWrong : ChangeSpec := { name := "healthParts", fn := fun _ => fun
  | [d1, d2] => { results := [.lit (.bool false)], args := [d1, d2] }
  | _ => none }
def HealthPartsWrongFalsely : Prop := healthPartsRow.holds Tryd.pinned (OpenSpec.ofChange healthPartsWrong)

/-- 'escapementlaw15.HealthOf': WHATEVER THE INPUT: true; the input reads as it did. -/
def healthOfSpec : ChangeSpec := { name := "healthOf", fn := fun _ => fun
  | [d1, d2] => { results := [.lit (.bool true)], args := [d1, d2] }
  | _ => none }
def healthOfRow : OpenClaim := { program := "ytabndibenffngaadoor", sum := "f469abb5fb396b3594eb8b257f3fe9650367dc3cb0d7c428629cdac6cdf00446", func := "escapement/escapementlaw15.HealthOf", spec := "healthOf", inPlace := ["internal/reflectlite.ValueOf", "(internal/reflectlite.Value).Type", "(internal/reflectlite.Value).IsNil", "internal/reflectlite.TypeOf", "(internal/reflectlite.Value).Elem", "(internal/reflectlite.Value).Set"], unfollowed := true, recurses := true, named := ["errors.errorType"], apart := false, laid := [("errors.errorType", laid_errors_errorType)] }
def HealthOfSaid : Prop := healthOfRow.holds Tryd.pinned (OpenSpec.ofChange healthOfSpec)

/-- ITS FALSE NEIGHBOUR: 'it returns false'. Refute it at one input. -/
def healthOfWrong : ChangeSpec := { name := "healthOf", fn := fun _ => fun
  | [d1, d2] => { results := [.lit (.bool false)], args := [d1, d2] }
  | _ => none }
def HealthOfWrongFalsely : Prop := healthOfRow.holds Tryd.pinned (OpenSpec.ofChange healthOfWrong)

/- THE SECOND FORM. 'bulk': how many values and letters a reading holds, each counted each time it is reached (what is shared counts as often as it is met; a slice's spare places count too). A statement '..UptoSaid' is the law's where the arguments, and the package variables that the reading takes, are together of bulk at most 1048576: NARROWER than '..Said'. Prove '..Said' where nothing that the law and all that it calls make is longer than what came in: it says more and counts as full. Else prove '..UptoSaid'. A law counts once. -/
mutual
def uptoBulk {H : Type} : DataW H → Nat
  | .lit (.string bytes) => bytes.length + 1
  | .lit _ => 1
  | .nil => 1
  | .ptr d => uptoBulk d + 1
  | .slice elems spare => uptoBulkAll elems + uptoBulkAll spare + 1
  | .agg parts => uptoBulkAll parts + 1
  | .iface _ d => uptoBulk d + 1
  | .map entries => uptoBulkEntries entries + 1
  | .held _ => 1
def uptoBulkAll {H : Type} : List (DataW H) → Nat
  | [] => 0
  | d :: r => uptoBulk d + uptoBulkAll r
def uptoBulkEntries {H : Type} : List (Lit × DataW H) → Nat
  | [] => 0
  | x :: r => uptoBulkEntry x + uptoBulkEntries r
def uptoBulkEntry {H : Type} : Lit × DataW H → Nat
  | (.string bytes, d) => bytes.length + uptoBulk d + 1
  | (_, d) => uptoBulk d + 1
 end
def uptoSmall : (H : Type) → List (DataW H) → Bool := fun _ ds => decide (uptoBulkAll ds ≤ 1048576)
def OpenSpec.upto (s : _root_.Go.ChangeSpec) : _root_.Go.OpenSpec := { _root_.Go.OpenSpec.ofChange s with cond := some uptoSmall }

/-- 'escapementlaw15.HealthKinds', WHERE WHAT IT READS IS OF BULK AT MOST 1048576: true; the input reads as it did. -/
def healthKindsUptoRow : OpenClaim := { program := "ytabndibenffngaadoor", sum := "f469abb5fb396b3594eb8b257f3fe9650367dc3cb0d7c428629cdac6cdf00446", func := "escapement/escapementlaw15.HealthKinds", spec := "healthKinds", inPlace := ["internal/reflectlite.ValueOf", "(internal/reflectlite.Value).Type", "(internal/reflectlite.Value).IsNil", "internal/reflectlite.TypeOf", "(internal/reflectlite.Value).Elem", "(internal/reflectlite.Value).Set"], unfollowed := true, recurses := true, named := ["errors.errorType"], apart := false, laid := [("errors.errorType", laid_errors_errorType)], narrowed := true }
def HealthKindsUptoSaid : Prop := healthKindsUptoRow.holds Tryd.pinned (OpenSpec.upto healthKindsSpec)

/-- 'escapementlaw15.HealthReports', WHERE WHAT IT READS IS OF BULK AT MOST 1048576: true; the input reads as it did. -/
def healthReportsUptoRow : OpenClaim := { program := "ytabndibenffngaadoor", sum := "f469abb5fb396b3594eb8b257f3fe9650367dc3cb0d7c428629cdac6cdf00446", func := "escapement/escapementlaw15.HealthReports", spec := "healthReports", inPlace := ["internal/reflectlite.ValueOf", "(internal/reflectlite.Value).Type", "(internal/reflectlite.Value).IsNil", "internal/reflectlite.TypeOf", "(internal/reflectlite.Value).Elem", "(internal/reflectlite.Value).Set"], unfollowed := true, recurses := true, named := ["errors.errorType"], apart := false, laid := [("errors.errorType", laid_errors_errorType)], narrowed := true }
def HealthReportsUptoSaid : Prop := healthReportsUptoRow.holds Tryd.pinned (OpenSpec.upto healthReportsSpec)

/-- 'escapementlaw15.HealthRow', WHERE WHAT IT READS IS OF BULK AT MOST 1048576: true; the input reads as it did. -/
def healthRowUptoRow : OpenClaim := { program := "ytabndibenffngaadoor", sum := "f469abb5fb396b3594eb8b257f3fe9650367dc3cb0d7c428629cdac6cdf00446", func := "escapement/escapementlaw15.HealthRow", spec := "healthRow", inPlace := ["internal/reflectlite.ValueOf", "(internal/reflectlite.Value).Type", "(internal/reflectlite.Value).IsNil", "internal/reflectlite.TypeOf", "(internal/reflectlite.Value).Elem", "(internal/reflectlite.Value).Set"], unfollowed := true, recurses := true, named := ["errors.errorType"], apart := false, laid := [("errors.errorType", laid_errors_errorType)], narrowed := true }
def HealthRowUptoSaid : Prop := healthRowUptoRow.holds Tryd.pinned (OpenSpec.upto healthRowSpec)

/-- 'escapementlaw15.HealthLogs', WHERE WHAT IT READS IS OF BULK AT MOST 1048576: true; the input reads as it did. -/
def healthLogsUptoRow : OpenClaim := { program := "ytabndibenffngaadoor", sum := "f469abb5fb396b3594eb8b257f3fe9650367dc3cb0d7c428629cdac6cdf00446", func := "escapement/escapementlaw15.HealthLogs", spec := "healthLogs", inPlace := ["internal/reflectlite.ValueOf", "(internal/reflectlite.Value).Type", "(internal/reflectlite.Value).IsNil", "internal/reflectlite.TypeOf", "(internal/reflectlite.Value).Elem", "(internal/reflectlite.Value).Set"], unfollowed := true, recurses := true, named := ["errors.errorType"], apart := false, laid := [("errors.errorType", laid_errors_errorType)], narrowed := true }
def HealthLogsUptoSaid : Prop := healthLogsUptoRow.holds Tryd.pinned (OpenSpec.upto healthLogsSpec)

/-- 'escapementlaw15.HealthSeals', WHERE WHAT IT READS IS OF BULK AT MOST 1048576: true; the input reads as it did. -/
def healthSealsUptoRow : OpenClaim := { program := "ytabndibenffngaadoor", sum := "f469abb5fb396b3594eb8b257f3fe9650367dc3cb0d7c428629cdac6cdf00446", func := "escapement/escapementlaw15.HealthSeals", spec := "healthSeals", inPlace := ["internal/reflectlite.ValueOf", "(internal/reflectlite.Value).Type", "(internal/reflectlite.Value).IsNil", "internal/reflectlite.TypeOf", "(internal/reflectlite.Value).Elem", "(internal/reflectlite.Value).Set"], unfollowed := true, recurses := true, named := ["errors.errorType"], apart := false, laid := [("errors.errorType", laid_errors_errorType)], narrowed := true }
def HealthSealsUptoSaid : Prop := healthSealsUptoRow.holds Tryd.pinned (OpenSpec.upto healthSealsSpec)

/-- 'escapementlaw15.HealthParts', WHERE WHAT IT READS IS OF BULK AT MOST 1048576: true; the input reads as it did. -/
def healthPartsUptoRow : OpenClaim := { program := "ytabndibenffngaadoor", sum := "f469abb5fb396b3594eb8b257f3fe9650367dc3cb0d7c428629cdac6cdf00446", func := "escapement/escapementlaw15.HealthParts", spec := "healthParts", inPlace := ["internal/reflectlite.ValueOf", "(internal/reflectlite.Value).Type", "(internal/reflectlite.Value).IsNil", "internal/reflectlite.TypeOf", "(internal/reflectlite.Value).Elem", "(internal/reflectlite.Value).Set"], unfollowed := true, recurses := true, named := ["errors.errorType"], apart := false, laid := [("errors.errorType", laid_errors_errorType)], narrowed := true }
def HealthPartsUptoSaid : Prop := healthPartsUptoRow.holds Tryd.pinned (OpenSpec.upto healthPartsSpec)

/-- 'escapementlaw15.HealthOf', WHERE WHAT IT READS IS OF BULK AT MOST 1048576: true; the input reads as it did. -/
def healthOfUptoRow : OpenClaim := { program := "ytabndibenffngaadoor", sum := "f469abb5fb396b3594eb8b257f3fe9650367dc3cb0d7c428629cdac6cdf00446", func := "escapement/escapementlaw15.HealthOf", spec := "healthOf", inPlace := ["internal/reflectlite.ValueOf", "(internal/reflectlite.Value).Type", "(internal/reflectlite.Value).IsNil", "internal/reflectlite.TypeOf", "(internal/reflectlite.Value).Elem", "(internal/reflectlite.Value).Set"], unfollowed := true, recurses := true, named := ["errors.errorType"], apart := false, laid := [("errors.errorType", laid_errors_errorType)], narrowed := true }
def HealthOfUptoSaid : Prop := healthOfUptoRow.holds Tryd.pinned (OpenSpec.upto healthOfSpec)

end Rows
end Go.Proofs.YtabndibenffngaaDoor
