/-
  DERIVED. GIVEN WITH THE SEED: THE CARDS: each row of YtfgpfmhjnccccaaGreatDoorRows.lean that lists a variable, with what it lists TIED to the program's text (the seventh form; the later family's looks); each row that meets fmt, with fmt's text TOLD by the authors' own Lean function (tested against real Go, not proved from fmt's source: count such statements apart). THE CARD IS WHAT COUNTS. Prove the row's statement (the work); the ties are given (YtfgpfmhjnccccaaGreatDoorTie.lean); close each card by the builder's one call (the guide's Derived/Test/ToyasCard.lean, 'card_holds'). Laid BY PROGRAM, IN A SANDBOX (cutbox-door.mjs). By AI agents, Wed Nov 11 2026. No macro, syntax, notation, axiom, sorry.
-/
import Derived.Test.YtfgpfmhjnccccaaGreatDoorRows
import GoSem.ClaimSeven
namespace Go.Proofs.YtfgpfmhjnccccaaGreatDoor
namespace Rows

/-- THE TIED CARD OF 'escapementlaw16.ApexRuns'. -/
def apexRunsCard : Claim7 := { stood := { row := apexRunsRow, standIns := [], harness := (true, "6d436f289be2349ee353a14302afe1cea2d1653b7ddf36021fdfd2ccd1b24108"), looks := true }, kinds := [], alts := [], laidByText := true, laidKinds := [.handle], laidTests := true, laidLooks := .later }
def ApexRunsCardSaid : Prop := Claim7.holds Tryz.pinned (.plain (OpenSpec.ofChange apexRunsSpec)) apexRunsCard

/-- THE SECOND FORM's CARD OF 'escapementlaw16.ApexRuns'. -/
def apexRunsUptoCard : Claim7 := { stood := { row := apexRunsUptoRow, standIns := [], harness := (true, "6d436f289be2349ee353a14302afe1cea2d1653b7ddf36021fdfd2ccd1b24108"), looks := true }, kinds := [], alts := [], laidByText := true, laidKinds := [.handle], laidTests := true, laidLooks := .later }
def ApexRunsUptoCardSaid : Prop := Claim7.holds Tryz.pinned (.plain (OpenSpec.upto apexRunsSpec)) apexRunsUptoCard
end Rows
end Go.Proofs.YtfgpfmhjnccccaaGreatDoor
