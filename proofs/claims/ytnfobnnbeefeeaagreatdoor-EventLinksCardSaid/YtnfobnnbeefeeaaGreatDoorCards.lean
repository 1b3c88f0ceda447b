/-
  DERIVED. GIVEN WITH THE SEED: THE CARDS: each row of YtnfobnnbeefeeaaGreatDoorRows.lean that lists a variable, with what it lists TIED to the program's text (the seventh form; the later family's looks); each row that meets fmt, with fmt's text TOLD by the authors' own Lean function (tested against real Go, not proved from fmt's source: count such statements apart). THE CARD IS WHAT COUNTS. Prove the row's statement (the work); the ties are given (YtnfobnnbeefeeaaGreatDoorTie.lean); close each card by the builder's one call (the guide's Derived/Test/ToyasCard.lean, 'card_holds'). Laid BY PROGRAM, IN A SANDBOX (cutbox-door.mjs). By AI agents, Wed Nov 11 2026. No macro, syntax, notation, axiom, sorry.
-/
import Derived.Test.YtnfobnnbeefeeaaGreatDoorRows
import GoSem.ClaimSeven
namespace Go.Proofs.YtnfobnnbeefeeaaGreatDoor
namespace Rows

/-- THE TIED CARD OF 'foliotlaw09.EventLinks'. -/
def eventLinksCard : Claim7 := { stood := { row := eventLinksRow, standIns := [], harness := (true, "e9d0a7222586f3abad0508b14064fb803e23b5bac3d664b9173308d3af28e7a5"), looks := false }, kinds := [], alts := [], laidByText := true, laidKinds := [.data, .data, .data, .data, .data], laidTests := true, laidLooks := .later }
def EventLinksCardSaid : Prop := Claim7.holds Tryz.pinned (.plain (OpenSpec.ofChange eventLinksSpec)) eventLinksCard

/-- THE TIED CARD OF 'foliotlaw10.CommandChecks'. -/
def commandChecksCard : Claim7 := { stood := { row := commandChecksRow, standIns := [], harness := (true, "e9d0a7222586f3abad0508b14064fb803e23b5bac3d664b9173308d3af28e7a5"), looks := false }, kinds := [], alts := [], laidByText := true, laidKinds := [.data, .data, .data, .data], laidTests := true, laidLooks := .later }
def CommandChecksCardSaid : Prop := Claim7.holds Tryz.pinned (.plain (OpenSpec.ofChange commandChecksSpec)) commandChecksCard

/-- THE TIED CARD OF 'foliotlaw10.CommandDecodes'. -/
def commandDecodesCard : Claim7 := { stood := { row := commandDecodesRow, standIns := [], harness := (true, "e9d0a7222586f3abad0508b14064fb803e23b5bac3d664b9173308d3af28e7a5"), looks := false }, kinds := [], alts := [], laidByText := true, laidKinds := [.data, .data, .data, .data], laidTests := true, laidLooks := .later }
def CommandDecodesCardSaid : Prop := Claim7.holds Tryz.pinned (.plain (OpenSpec.ofChange commandDecodesSpec)) commandDecodesCard

/-- THE TIED CARD OF 'foliotlaw10.CommandMany'. -/
def commandManyCard : Claim7 := { stood := { row := commandManyRow, standIns := [], harness := (true, "e9d0a7222586f3abad0508b14064fb803e23b5bac3d664b9173308d3af28e7a5"), looks := false }, kinds := [], alts := [], laidByText := true, laidKinds := [.data, .data, .data, .data], laidTests := true, laidLooks := .later }
def CommandManyCardSaid : Prop := Claim7.holds Tryz.pinned (.plain (OpenSpec.ofChange commandManySpec)) commandManyCard

/-- THE TIED CARD OF 'foliotlaw10.CommandEvents'. -/
def commandEventsCard : Claim7 := { stood := { row := commandEventsRow, standIns := [], harness := (true, "e9d0a7222586f3abad0508b14064fb803e23b5bac3d664b9173308d3af28e7a5"), looks := false }, kinds := [], alts := [], laidByText := true, laidKinds := [.data, .data, .data, .data], laidTests := true, laidLooks := .later }
def CommandEventsCardSaid : Prop := Claim7.holds Tryz.pinned (.plain (OpenSpec.ofChange commandEventsSpec)) commandEventsCard

/-- THE TIED CARD OF 'foliotlaw10.CommandPrints'. -/
def commandPrintsCard : Claim7 := { stood := { row := commandPrintsRow, standIns := [], harness := (true, "e9d0a7222586f3abad0508b14064fb803e23b5bac3d664b9173308d3af28e7a5"), looks := false }, kinds := [], alts := [], laidByText := true, laidKinds := [.data, .data, .data, .data], laidTests := true, laidLooks := .later }
def CommandPrintsCardSaid : Prop := Claim7.holds Tryz.pinned (.plain (OpenSpec.ofChange commandPrintsSpec)) commandPrintsCard

/-- THE TIED CARD OF 'foliotlaw10.CommandKinds'. -/
def commandKindsCard : Claim7 := { stood := { row := commandKindsRow, standIns := [], harness := (true, "e9d0a7222586f3abad0508b14064fb803e23b5bac3d664b9173308d3af28e7a5"), looks := false }, kinds := [], alts := [], laidByText := true, laidKinds := [.data, .data, .data, .data], laidTests := true, laidLooks := .later }
def CommandKindsCardSaid : Prop := Claim7.holds Tryz.pinned (.plain (OpenSpec.ofChange commandKindsSpec)) commandKindsCard

/-- THE TIED CARD OF 'foliotlaw10.CommandSaturates'. -/
def commandSaturatesCard : Claim7 := { stood := { row := commandSaturatesRow, standIns := [], harness := (true, "e9d0a7222586f3abad0508b14064fb803e23b5bac3d664b9173308d3af28e7a5"), looks := false }, kinds := [], alts := [], laidByText := true, laidKinds := [.data, .data, .data, .data], laidTests := true, laidLooks := .later }
def CommandSaturatesCardSaid : Prop := Claim7.holds Tryz.pinned (.plain (OpenSpec.ofChange commandSaturatesSpec)) commandSaturatesCard

/-- THE TIED CARD OF 'foliotlaw10.CommandOwn'. -/
def commandOwnCard : Claim7 := { stood := { row := commandOwnRow, standIns := [], harness := (true, "e9d0a7222586f3abad0508b14064fb803e23b5bac3d664b9173308d3af28e7a5"), looks := false }, kinds := [], alts := [], laidByText := true, laidKinds := [.data, .data, .data, .data], laidTests := true, laidLooks := .later }
def CommandOwnCardSaid : Prop := Claim7.holds Tryz.pinned (.plain (OpenSpec.ofChange commandOwnSpec)) commandOwnCard

/-- THE SECOND FORM's CARD OF 'foliotlaw09.EventLinks'. -/
def eventLinksUptoCard : Claim7 := { stood := { row := eventLinksUptoRow, standIns := [], harness := (true, "e9d0a7222586f3abad0508b14064fb803e23b5bac3d664b9173308d3af28e7a5"), looks := false }, kinds := [], alts := [], laidByText := true, laidKinds := [.data, .data, .data, .data, .data], laidTests := true, laidLooks := .later }
def EventLinksUptoCardSaid : Prop := Claim7.holds Tryz.pinned (.plain (OpenSpec.upto eventLinksSpec)) eventLinksUptoCard

/-- THE SECOND FORM's CARD OF 'foliotlaw10.CommandChecks'. -/
def commandChecksUptoCard : Claim7 := { stood := { row := commandChecksUptoRow, standIns := [], harness := (true, "e9d0a7222586f3abad0508b14064fb803e23b5bac3d664b9173308d3af28e7a5"), looks := false }, kinds := [], alts := [], laidByText := true, laidKinds := [.data, .data, .data, .data], laidTests := true, laidLooks := .later }
def CommandChecksUptoCardSaid : Prop := Claim7.holds Tryz.pinned (.plain (OpenSpec.upto commandChecksSpec)) commandChecksUptoCard

/-- THE SECOND FORM's CARD OF 'foliotlaw10.CommandDecodes'. -/
def commandDecodesUptoCard : Claim7 := { stood := { row := commandDecodesUptoRow, standIns := [], harness := (true, "e9d0a7222586f3abad0508b14064fb803e23b5bac3d664b9173308d3af28e7a5"), looks := false }, kinds := [], alts := [], laidByText := true, laidKinds := [.data, .data, .data, .data], laidTests := true, laidLooks := .later }
def CommandDecodesUptoCardSaid : Prop := Claim7.holds Tryz.pinned (.plain (OpenSpec.upto commandDecodesSpec)) commandDecodesUptoCard

/-- THE SECOND FORM's CARD OF 'foliotlaw10.CommandMany'. -/
def commandManyUptoCard : Claim7 := { stood := { row := commandManyUptoRow, standIns := [], harness := (true, "e9d0a7222586f3abad0508b14064fb803e23b5bac3d664b9173308d3af28e7a5"), looks := false }, kinds := [], alts := [], laidByText := true, laidKinds := [.data, .data, .data, .data], laidTests := true, laidLooks := .later }
def CommandManyUptoCardSaid : Prop := Claim7.holds Tryz.pinned (.plain (OpenSpec.upto commandManySpec)) commandManyUptoCard

/-- THE SECOND FORM's CARD OF 'foliotlaw10.CommandEvents'. -/
def commandEventsUptoCard : Claim7 := { stood := { row := commandEventsUptoRow, standIns := [], harness := (true, "e9d0a7222586f3abad0508b14064fb803e23b5bac3d664b9173308d3af28e7a5"), looks := false }, kinds := [], alts := [], laidByText := true, laidKinds := [.data, .data, .data, .data], laidTests := true, laidLooks := .later }
def CommandEventsUptoCardSaid : Prop := Claim7.holds Tryz.pinned (.plain (OpenSpec.upto commandEventsSpec)) commandEventsUptoCard

/-- THE SECOND FORM's CARD OF 'foliotlaw10.CommandPrints'. -/
def commandPrintsUptoCard : Claim7 := { stood := { row := commandPrintsUptoRow, standIns := [], harness := (true, "e9d0a7222586f3abad0508b14064fb803e23b5bac3d664b9173308d3af28e7a5"), looks := false }, kinds := [], alts := [], laidByText := true, laidKinds := [.data, .data, .data, .data], laidTests := true, laidLooks := .later }
def CommandPrintsUptoCardSaid : Prop := Claim7.holds Tryz.pinned (.plain (OpenSpec.upto commandPrintsSpec)) commandPrintsUptoCard

/-- THE SECOND FORM's CARD OF 'foliotlaw10.CommandKinds'. -/
def commandKindsUptoCard : Claim7 := { stood := { row := commandKindsUptoRow, standIns := [], harness := (true, "e9d0a7222586f3abad0508b14064fb803e23b5bac3d664b9173308d3af28e7a5"), looks := false }, kinds := [], alts := [], laidByText := true, laidKinds := [.data, .data, .data, .data], laidTests := true, laidLooks := .later }
def CommandKindsUptoCardSaid : Prop := Claim7.holds Tryz.pinned (.plain (OpenSpec.upto commandKindsSpec)) commandKindsUptoCard

/-- THE SECOND FORM's CARD OF 'foliotlaw10.CommandSaturates'. -/
def commandSaturatesUptoCard : Claim7 := { stood := { row := commandSaturatesUptoRow, standIns := [], harness := (true, "e9d0a7222586f3abad0508b14064fb803e23b5bac3d664b9173308d3af28e7a5"), looks := false }, kinds := [], alts := [], laidByText := true, laidKinds := [.data, .data, .data, .data], laidTests := true, laidLooks := .later }
def CommandSaturatesUptoCardSaid : Prop := Claim7.holds Tryz.pinned (.plain (OpenSpec.upto commandSaturatesSpec)) commandSaturatesUptoCard

/-- THE SECOND FORM's CARD OF 'foliotlaw10.CommandOwn'. -/
def commandOwnUptoCard : Claim7 := { stood := { row := commandOwnUptoRow, standIns := [], harness := (true, "e9d0a7222586f3abad0508b14064fb803e23b5bac3d664b9173308d3af28e7a5"), looks := false }, kinds := [], alts := [], laidByText := true, laidKinds := [.data, .data, .data, .data], laidTests := true, laidLooks := .later }
def CommandOwnUptoCardSaid : Prop := Claim7.holds Tryz.pinned (.plain (OpenSpec.upto commandOwnSpec)) commandOwnUptoCard
end Rows
end Go.Proofs.YtnfobnnbeefeeaaGreatDoor
