/-
  DERIVED. GIVEN WITH THE SEED: THE CARDS: each row of YtgdoolchmimgbaaGreatDoorRows.lean that lists a variable, with what it lists TIED to the program's text (the seventh form; the later family's looks); each row that meets fmt, with fmt's text TOLD by the authors' own Lean function (tested against real Go, not proved from fmt's source: count such statements apart). THE CARD IS WHAT COUNTS. Prove the row's statement (the work); the ties are given (YtgdoolchmimgbaaGreatDoorTie.lean); close each card by the builder's one call (the guide's Derived/Test/ToyasCard.lean, 'card_holds'). Laid BY PROGRAM, IN A SANDBOX (cutbox-door.mjs). By AI agents, Wed Nov 11 2026. No macro, syntax, notation, axiom, sorry.
-/
import Derived.Test.YtgdoolchmimgbaaGreatDoorRows
import GoSem.ClaimSeven
namespace Go.Proofs.YtgdoolchmimgbaaGreatDoor
namespace Rows

/-- THE TIED CARD OF 'foliotlaw09.EventChecks'. -/
def eventChecksCard : Claim7 := { stood := { row := eventChecksRow, standIns := [], harness := (true, "647ccadbcd0652a221a4e7d697c09323fde3ab6ceab1846d4b8bf4c0c31de0e9"), looks := false }, kinds := [], alts := [], laidByText := true, laidKinds := [.data, .data, .data], laidTests := true, laidLooks := .later }
def EventChecksCardSaid : Prop := Claim7.holds Tryz.pinned (.plain (OpenSpec.ofChange eventChecksSpec)) eventChecksCard

/-- THE TIED CARD OF 'foliotlaw09.EventDecodes'. -/
def eventDecodesCard : Claim7 := { stood := { row := eventDecodesRow, standIns := [], harness := (true, "647ccadbcd0652a221a4e7d697c09323fde3ab6ceab1846d4b8bf4c0c31de0e9"), looks := false }, kinds := [], alts := [], laidByText := true, laidKinds := [.data, .data, .data], laidTests := true, laidLooks := .later }
def EventDecodesCardSaid : Prop := Claim7.holds Tryz.pinned (.plain (OpenSpec.ofChange eventDecodesSpec)) eventDecodesCard

/-- THE TIED CARD OF 'foliotlaw09.EventCuts'. -/
def eventCutsCard : Claim7 := { stood := { row := eventCutsRow, standIns := [], harness := (true, "647ccadbcd0652a221a4e7d697c09323fde3ab6ceab1846d4b8bf4c0c31de0e9"), looks := false }, kinds := [], alts := [], laidByText := true, laidKinds := [.data, .data, .data], laidTests := true, laidLooks := .later }
def EventCutsCardSaid : Prop := Claim7.holds Tryz.pinned (.plain (OpenSpec.ofChange eventCutsSpec)) eventCutsCard

/-- THE TIED CARD OF 'foliotlaw09.EventNames'. -/
def eventNamesCard : Claim7 := { stood := { row := eventNamesRow, standIns := [], harness := (true, "647ccadbcd0652a221a4e7d697c09323fde3ab6ceab1846d4b8bf4c0c31de0e9"), looks := false }, kinds := [], alts := [], laidByText := true, laidKinds := [.data, .data, .data], laidTests := true, laidLooks := .later }
def EventNamesCardSaid : Prop := Claim7.holds Tryz.pinned (.plain (OpenSpec.ofChange eventNamesSpec)) eventNamesCard

/-- THE TIED CARD OF 'foliotlaw09.EventPrints'. -/
def eventPrintsCard : Claim7 := { stood := { row := eventPrintsRow, standIns := [], harness := (true, "647ccadbcd0652a221a4e7d697c09323fde3ab6ceab1846d4b8bf4c0c31de0e9"), looks := false }, kinds := [], alts := [], laidByText := true, laidKinds := [.data, .data, .data], laidTests := true, laidLooks := .later }
def EventPrintsCardSaid : Prop := Claim7.holds Tryz.pinned (.plain (OpenSpec.ofChange eventPrintsSpec)) eventPrintsCard

/-- THE TIED CARD OF 'foliotlaw09.EventErases'. -/
def eventErasesCard : Claim7 := { stood := { row := eventErasesRow, standIns := [], harness := (true, "647ccadbcd0652a221a4e7d697c09323fde3ab6ceab1846d4b8bf4c0c31de0e9"), looks := false }, kinds := [], alts := [], laidByText := true, laidKinds := [.data, .data, .data], laidTests := true, laidLooks := .later }
def EventErasesCardSaid : Prop := Claim7.holds Tryz.pinned (.plain (OpenSpec.ofChange eventErasesSpec)) eventErasesCard

/-- THE TIED CARD OF 'foliotlaw09.EventLinks'. -/
def eventLinksCard : Claim7 := { stood := { row := eventLinksRow, standIns := [], harness := (true, "647ccadbcd0652a221a4e7d697c09323fde3ab6ceab1846d4b8bf4c0c31de0e9"), looks := false }, kinds := [], alts := [], laidByText := true, laidKinds := [.data, .data, .data, .data, .data], laidTests := true, laidLooks := .later }
def EventLinksCardSaid : Prop := Claim7.holds Tryz.pinned (.plain (OpenSpec.ofChange eventLinksSpec)) eventLinksCard

/-- THE TIED CARD OF 'foliotlaw09.EventOwn'. -/
def eventOwnCard : Claim7 := { stood := { row := eventOwnRow, standIns := [], harness := (true, "647ccadbcd0652a221a4e7d697c09323fde3ab6ceab1846d4b8bf4c0c31de0e9"), looks := false }, kinds := [], alts := [], laidByText := true, laidKinds := [.data, .data, .data], laidTests := true, laidLooks := .later }
def EventOwnCardSaid : Prop := Claim7.holds Tryz.pinned (.plain (OpenSpec.ofChange eventOwnSpec)) eventOwnCard

/-- THE TIED CARD OF 'foliotlaw09.EventWrites'. -/
def eventWritesCard : Claim7 := { stood := { row := eventWritesRow, standIns := [], harness := (true, "647ccadbcd0652a221a4e7d697c09323fde3ab6ceab1846d4b8bf4c0c31de0e9"), looks := false }, kinds := [], alts := [], laidByText := true, laidKinds := [.data, .data, .data], laidTests := true, laidLooks := .later }
def EventWritesCardSaid : Prop := Claim7.holds Tryz.pinned (.plain (OpenSpec.ofChange eventWritesSpec)) eventWritesCard

/-- THE SECOND FORM's CARD OF 'foliotlaw09.EventChecks'. -/
def eventChecksUptoCard : Claim7 := { stood := { row := eventChecksUptoRow, standIns := [], harness := (true, "647ccadbcd0652a221a4e7d697c09323fde3ab6ceab1846d4b8bf4c0c31de0e9"), looks := false }, kinds := [], alts := [], laidByText := true, laidKinds := [.data, .data, .data], laidTests := true, laidLooks := .later }
def EventChecksUptoCardSaid : Prop := Claim7.holds Tryz.pinned (.plain (OpenSpec.upto eventChecksSpec)) eventChecksUptoCard

/-- THE SECOND FORM's CARD OF 'foliotlaw09.EventDecodes'. -/
def eventDecodesUptoCard : Claim7 := { stood := { row := eventDecodesUptoRow, standIns := [], harness := (true, "647ccadbcd0652a221a4e7d697c09323fde3ab6ceab1846d4b8bf4c0c31de0e9"), looks := false }, kinds := [], alts := [], laidByText := true, laidKinds := [.data, .data, .data], laidTests := true, laidLooks := .later }
def EventDecodesUptoCardSaid : Prop := Claim7.holds Tryz.pinned (.plain (OpenSpec.upto eventDecodesSpec)) eventDecodesUptoCard

/-- THE SECOND FORM's CARD OF 'foliotlaw09.EventCuts'. -/
def eventCutsUptoCard : Claim7 := { stood := { row := eventCutsUptoRow, standIns := [], harness := (true, "647ccadbcd0652a221a4e7d697c09323fde3ab6ceab1846d4b8bf4c0c31de0e9"), looks := false }, kinds := [], alts := [], laidByText := true, laidKinds := [.data, .data, .data], laidTests := true, laidLooks := .later }
def EventCutsUptoCardSaid : Prop := Claim7.holds Tryz.pinned (.plain (OpenSpec.upto eventCutsSpec)) eventCutsUptoCard

/-- THE SECOND FORM's CARD OF 'foliotlaw09.EventNames'. -/
def eventNamesUptoCard : Claim7 := { stood := { row := eventNamesUptoRow, standIns := [], harness := (true, "647ccadbcd0652a221a4e7d697c09323fde3ab6ceab1846d4b8bf4c0c31de0e9"), looks := false }, kinds := [], alts := [], laidByText := true, laidKinds := [.data, .data, .data], laidTests := true, laidLooks := .later }
def EventNamesUptoCardSaid : Prop := Claim7.holds Tryz.pinned (.plain (OpenSpec.upto eventNamesSpec)) eventNamesUptoCard

/-- THE SECOND FORM's CARD OF 'foliotlaw09.EventPrints'. -/
def eventPrintsUptoCard : Claim7 := { stood := { row := eventPrintsUptoRow, standIns := [], harness := (true, "647ccadbcd0652a221a4e7d697c09323fde3ab6ceab1846d4b8bf4c0c31de0e9"), looks := false }, kinds := [], alts := [], laidByText := true, laidKinds := [.data, .data, .data], laidTests := true, laidLooks := .later }
def EventPrintsUptoCardSaid : Prop := Claim7.holds Tryz.pinned (.plain (OpenSpec.upto eventPrintsSpec)) eventPrintsUptoCard

/-- THE SECOND FORM's CARD OF 'foliotlaw09.EventErases'. -/
def eventErasesUptoCard : Claim7 := { stood := { row := eventErasesUptoRow, standIns := [], harness := (true, "647ccadbcd0652a221a4e7d697c09323fde3ab6ceab1846d4b8bf4c0c31de0e9"), looks := false }, kinds := [], alts := [], laidByText := true, laidKinds := [.data, .data, .data], laidTests := true, laidLooks := .later }
def EventErasesUptoCardSaid : Prop := Claim7.holds Tryz.pinned (.plain (OpenSpec.upto eventErasesSpec)) eventErasesUptoCard

/-- THE SECOND FORM's CARD OF 'foliotlaw09.EventLinks'. -/
def eventLinksUptoCard : Claim7 := { stood := { row := eventLinksUptoRow, standIns := [], harness := (true, "647ccadbcd0652a221a4e7d697c09323fde3ab6ceab1846d4b8bf4c0c31de0e9"), looks := false }, kinds := [], alts := [], laidByText := true, laidKinds := [.data, .data, .data, .data, .data], laidTests := true, laidLooks := .later }
def EventLinksUptoCardSaid : Prop := Claim7.holds Tryz.pinned (.plain (OpenSpec.upto eventLinksSpec)) eventLinksUptoCard

/-- THE SECOND FORM's CARD OF 'foliotlaw09.EventOwn'. -/
def eventOwnUptoCard : Claim7 := { stood := { row := eventOwnUptoRow, standIns := [], harness := (true, "647ccadbcd0652a221a4e7d697c09323fde3ab6ceab1846d4b8bf4c0c31de0e9"), looks := false }, kinds := [], alts := [], laidByText := true, laidKinds := [.data, .data, .data], laidTests := true, laidLooks := .later }
def EventOwnUptoCardSaid : Prop := Claim7.holds Tryz.pinned (.plain (OpenSpec.upto eventOwnSpec)) eventOwnUptoCard

/-- THE SECOND FORM's CARD OF 'foliotlaw09.EventWrites'. -/
def eventWritesUptoCard : Claim7 := { stood := { row := eventWritesUptoRow, standIns := [], harness := (true, "647ccadbcd0652a221a4e7d697c09323fde3ab6ceab1846d4b8bf4c0c31de0e9"), looks := false }, kinds := [], alts := [], laidByText := true, laidKinds := [.data, .data, .data], laidTests := true, laidLooks := .later }
def EventWritesUptoCardSaid : Prop := Claim7.holds Tryz.pinned (.plain (OpenSpec.upto eventWritesSpec)) eventWritesUptoCard
end Rows
end Go.Proofs.YtgdoolchmimgbaaGreatDoor
