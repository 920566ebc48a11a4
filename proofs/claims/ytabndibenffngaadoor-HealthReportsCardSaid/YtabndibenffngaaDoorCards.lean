/-
  DERIVED. GIVEN WITH THE SEED: THE CARDS: each row of YtabndibenffngaaDoorRows.lean that lists a variable, with what it lists TIED to the program's text (the seventh form; the later family's looks); each row that meets fmt, with fmt's text TOLD by the authors' own Lean function (tested against real Go, not proved from fmt's source: count such statements apart). THE CARD IS WHAT COUNTS. Prove the row's statement (the work); the ties are given (YtabndibenffngaaDoorTie.lean); close each card by the builder's one call (the guide's Derived/Test/ToyasCard.lean, 'card_holds'). Laid BY PROGRAM, IN A SANDBOX (cutbox-door.mjs). By AI agents, Wed Nov 11 2026. No macro, syntax, notation, axiom, sorry.
-/
import Derived.Test.YtabndibenffngaaDoorRows
import GoSem.ClaimSeven
namespace Go.Proofs.YtabndibenffngaaDoor
namespace Rows

/-- THE TIED CARD OF 'escapementlaw15.HealthKinds'. -/
def healthKindsCard : Claim7 := { stood := { row := healthKindsRow, standIns := [], harness := (true, "aa763a3b1e242aa45c419bf378a5451ade9471e2b1707022370d5a8a1f80dc7e"), looks := true }, kinds := [], alts := [], laidByText := true, laidKinds := [.handle], laidTests := true, laidLooks := .later }
def HealthKindsCardSaid : Prop := Claim7.holds Tryd.pinned (.plain (OpenSpec.ofChange healthKindsSpec)) healthKindsCard

/-- THE TIED CARD OF 'escapementlaw15.HealthReports'. -/
def healthReportsCard : Claim7 := { stood := { row := healthReportsRow, standIns := [], harness := (true, "aa763a3b1e242aa45c419bf378a5451ade9471e2b1707022370d5a8a1f80dc7e"), looks := true }, kinds := [], alts := [], laidByText := true, laidKinds := [.handle], laidTests := true, laidLooks := .later }
def HealthReportsCardSaid : Prop := Claim7.holds Tryd.pinned (.plain (OpenSpec.ofChange healthReportsSpec)) healthReportsCard

/-- THE TIED CARD OF 'escapementlaw15.HealthRow'. -/
def healthRowCard : Claim7 := { stood := { row := healthRowRow, standIns := [], harness := (true, "aa763a3b1e242aa45c419bf378a5451ade9471e2b1707022370d5a8a1f80dc7e"), looks := true }, kinds := [], alts := [], laidByText := true, laidKinds := [.handle], laidTests := true, laidLooks := .later }
def HealthRowCardSaid : Prop := Claim7.holds Tryd.pinned (.plain (OpenSpec.ofChange healthRowSpec)) healthRowCard

/-- THE TIED CARD OF 'escapementlaw15.HealthLogs'. -/
def healthLogsCard : Claim7 := { stood := { row := healthLogsRow, standIns := [], harness := (true, "aa763a3b1e242aa45c419bf378a5451ade9471e2b1707022370d5a8a1f80dc7e"), looks := true }, kinds := [], alts := [], laidByText := true, laidKinds := [.handle], laidTests := true, laidLooks := .later }
def HealthLogsCardSaid : Prop := Claim7.holds Tryd.pinned (.plain (OpenSpec.ofChange healthLogsSpec)) healthLogsCard

/-- THE TIED CARD OF 'escapementlaw15.HealthSeals'. -/
def healthSealsCard : Claim7 := { stood := { row := healthSealsRow, standIns := [], harness := (true, "aa763a3b1e242aa45c419bf378a5451ade9471e2b1707022370d5a8a1f80dc7e"), looks := true }, kinds := [], alts := [], laidByText := true, laidKinds := [.handle], laidTests := true, laidLooks := .later }
def HealthSealsCardSaid : Prop := Claim7.holds Tryd.pinned (.plain (OpenSpec.ofChange healthSealsSpec)) healthSealsCard

/-- THE TIED CARD OF 'escapementlaw15.HealthParts'. -/
def healthPartsCard : Claim7 := { stood := { row := healthPartsRow, standIns := [], harness := (true, "aa763a3b1e242aa45c419bf378a5451ade9471e2b1707022370d5a8a1f80dc7e"), looks := true }, kinds := [], alts := [], laidByText := true, laidKinds := [.handle], laidTests := true, laidLooks := .later }
def HealthPartsCardSaid : Prop := Claim7.holds Tryd.pinned (.plain (OpenSpec.ofChange healthPartsSpec)) healthPartsCard

/-- THE TIED CARD OF 'escapementlaw15.HealthOf'. -/
def healthOfCard : Claim7 := { stood := { row := healthOfRow, standIns := [], harness := (true, "aa763a3b1e242aa45c419bf378a5451ade9471e2b1707022370d5a8a1f80dc7e"), looks := true }, kinds := [], alts := [], laidByText := true, laidKinds := [.handle], laidTests := true, laidLooks := .later }
def HealthOfCardSaid : Prop := Claim7.holds Tryd.pinned (.plain (OpenSpec.ofChange healthOfSpec)) healthOfCard

/-- THE SECOND FORM's CARD OF 'escapementlaw15.HealthKinds'. -/
def healthKindsUptoCard : Claim7 := { stood := { row := healthKindsUptoRow, standIns := [], harness := (true, "aa763a3b1e242aa45c419bf378a5451ade9471e2b1707022370d5a8a1f80dc7e"), looks := true }, kinds := [], alts := [], laidByText := true, laidKinds := [.handle], laidTests := true, laidLooks := .later }
def HealthKindsUptoCardSaid : Prop := Claim7.holds Tryd.pinned (.plain (OpenSpec.upto healthKindsSpec)) healthKindsUptoCard

/-- THE SECOND FORM's CARD OF 'escapementlaw15.HealthReports'. -/
def healthReportsUptoCard : Claim7 := { stood := { row := healthReportsUptoRow, standIns := [], harness := (true, "aa763a3b1e242aa45c419bf378a5451ade9471e2b1707022370d5a8a1f80dc7e"), looks := true }, kinds := [], alts := [], laidByText := true, laidKinds := [.handle], laidTests := true, laidLooks := .later }
def HealthReportsUptoCardSaid : Prop := Claim7.holds Tryd.pinned (.plain (OpenSpec.upto healthReportsSpec)) healthReportsUptoCard

/-- THE SECOND FORM's CARD OF 'escapementlaw15.HealthRow'. -/
def healthRowUptoCard : Claim7 := { stood := { row := healthRowUptoRow, standIns := [], harness := (true, "aa763a3b1e242aa45c419bf378a5451ade9471e2b1707022370d5a8a1f80dc7e"), looks := true }, kinds := [], alts := [], laidByText := true, laidKinds := [.handle], laidTests := true, laidLooks := .later }
def HealthRowUptoCardSaid : Prop := Claim7.holds Tryd.pinned (.plain (OpenSpec.upto healthRowSpec)) healthRowUptoCard

/-- THE SECOND FORM's CARD OF 'escapementlaw15.HealthLogs'. -/
def healthLogsUptoCard : Claim7 := { stood := { row := healthLogsUptoRow, standIns := [], harness := (true, "aa763a3b1e242aa45c419bf378a5451ade9471e2b1707022370d5a8a1f80dc7e"), looks := true }, kinds := [], alts := [], laidByText := true, laidKinds := [.handle], laidTests := true, laidLooks := .later }
def HealthLogsUptoCardSaid : Prop := Claim7.holds Tryd.pinned (.plain (OpenSpec.upto healthLogsSpec)) healthLogsUptoCard

/-- THE SECOND FORM's CARD OF 'escapementlaw15.HealthSeals'. -/
def healthSealsUptoCard : Claim7 := { stood := { row := healthSealsUptoRow, standIns := [], harness := (true, "aa763a3b1e242aa45c419bf378a5451ade9471e2b1707022370d5a8a1f80dc7e"), looks := true }, kinds := [], alts := [], laidByText := true, laidKinds := [.handle], laidTests := true, laidLooks := .later }
def HealthSealsUptoCardSaid : Prop := Claim7.holds Tryd.pinned (.plain (OpenSpec.upto healthSealsSpec)) healthSealsUptoCard

/-- THE SECOND FORM's CARD OF 'escapementlaw15.HealthParts'. -/
def healthPartsUptoCard : Claim7 := { stood := { row := healthPartsUptoRow, standIns := [], harness := (true, "aa763a3b1e242aa45c419bf378a5451ade9471e2b1707022370d5a8a1f80dc7e"), looks := true }, kinds := [], alts := [], laidByText := true, laidKinds := [.handle], laidTests := true, laidLooks := .later }
def HealthPartsUptoCardSaid : Prop := Claim7.holds Tryd.pinned (.plain (OpenSpec.upto healthPartsSpec)) healthPartsUptoCard

/-- THE SECOND FORM's CARD OF 'escapementlaw15.HealthOf'. -/
def healthOfUptoCard : Claim7 := { stood := { row := healthOfUptoRow, standIns := [], harness := (true, "aa763a3b1e242aa45c419bf378a5451ade9471e2b1707022370d5a8a1f80dc7e"), looks := true }, kinds := [], alts := [], laidByText := true, laidKinds := [.handle], laidTests := true, laidLooks := .later }
def HealthOfUptoCardSaid : Prop := Claim7.holds Tryd.pinned (.plain (OpenSpec.upto healthOfSpec)) healthOfUptoCard
end Rows
end Go.Proofs.YtabndibenffngaaDoor
