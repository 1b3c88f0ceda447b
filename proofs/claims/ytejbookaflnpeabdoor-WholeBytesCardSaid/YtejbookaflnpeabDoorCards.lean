/-
  DERIVED. GIVEN WITH THE SEED: THE CARDS: each row of YtejbookaflnpeabDoorRows.lean that lists a variable, with what it lists TIED to the program's text (the seventh form; the later family's looks); each row that meets fmt, with fmt's text TOLD by the authors' own Lean function (tested against real Go, not proved from fmt's source: count such statements apart). THE CARD IS WHAT COUNTS. Prove the row's statement (the work); the ties are given (YtejbookaflnpeabDoorTie.lean); close each card by the builder's one call (the guide's Derived/Test/ToyasCard.lean, 'card_holds'). Laid BY PROGRAM, IN A SANDBOX (cutbox-door.mjs). By AI agents, Wed Nov 11 2026. No macro, syntax, notation, axiom, sorry.
-/
import Derived.Test.YtejbookaflnpeabDoorRows
import GoSem.ClaimSeven
namespace Go.Proofs.YtejbookaflnpeabDoor
namespace Rows

/-- THE TIED CARD OF 'foliotlaw04.CronStars'. -/
def cronStarsCard : Claim7 := { stood := { row := cronStarsRow, standIns := [], harness := (true, "a4fea41c1372f30c3398eb24257792f185b49362321f984488df634c65f6feb1"), looks := false }, kinds := [], alts := [], laidByText := true, laidKinds := [.data, .data, .data, .pinned], laidTests := true, laidLooks := .later }
def CronStarsCardSaid : Prop := Claim7.holds Tryd.pinned (.plain (OpenSpec.ofChange cronStarsSpec)) cronStarsCard

/-- THE TIED CARD OF 'foliotlaw04.CronParts'. -/
def cronPartsCard : Claim7 := { stood := { row := cronPartsRow, standIns := [], harness := (true, "a4fea41c1372f30c3398eb24257792f185b49362321f984488df634c65f6feb1"), looks := false }, kinds := [], alts := [], laidByText := true, laidKinds := [.data, .data, .data, .pinned], laidTests := true, laidLooks := .later }
def CronPartsCardSaid : Prop := Claim7.holds Tryd.pinned (.plain (OpenSpec.ofChange cronPartsSpec)) cronPartsCard

/-- THE TIED CARD OF 'foliottop.WholeBytes'. -/
def wholeBytesCard : Claim7 := { stood := { row := wholeBytesRow, standIns := [], harness := (true, "a4fea41c1372f30c3398eb24257792f185b49362321f984488df634c65f6feb1"), looks := false }, kinds := [], alts := [], laidByText := true, laidKinds := [.data, .data], laidTests := true, laidLooks := .later }
def WholeBytesCardSaid : Prop := Claim7.holds Tryd.pinned (.plain (OpenSpec.ofChange wholeBytesSpec)) wholeBytesCard

/-- THE SECOND FORM's CARD OF 'foliotlaw04.CronStars'. -/
def cronStarsUptoCard : Claim7 := { stood := { row := cronStarsUptoRow, standIns := [], harness := (true, "a4fea41c1372f30c3398eb24257792f185b49362321f984488df634c65f6feb1"), looks := false }, kinds := [], alts := [], laidByText := true, laidKinds := [.data, .data, .data, .pinned], laidTests := true, laidLooks := .later }
def CronStarsUptoCardSaid : Prop := Claim7.holds Tryd.pinned (.plain (OpenSpec.upto cronStarsSpec)) cronStarsUptoCard

/-- THE SECOND FORM's CARD OF 'foliotlaw04.CronParts'. -/
def cronPartsUptoCard : Claim7 := { stood := { row := cronPartsUptoRow, standIns := [], harness := (true, "a4fea41c1372f30c3398eb24257792f185b49362321f984488df634c65f6feb1"), looks := false }, kinds := [], alts := [], laidByText := true, laidKinds := [.data, .data, .data, .pinned], laidTests := true, laidLooks := .later }
def CronPartsUptoCardSaid : Prop := Claim7.holds Tryd.pinned (.plain (OpenSpec.upto cronPartsSpec)) cronPartsUptoCard

/-- THE SECOND FORM's CARD OF 'foliottop.WholeBytes'. -/
def wholeBytesUptoCard : Claim7 := { stood := { row := wholeBytesUptoRow, standIns := [], harness := (true, "a4fea41c1372f30c3398eb24257792f185b49362321f984488df634c65f6feb1"), looks := false }, kinds := [], alts := [], laidByText := true, laidKinds := [.data, .data], laidTests := true, laidLooks := .later }
def WholeBytesUptoCardSaid : Prop := Claim7.holds Tryd.pinned (.plain (OpenSpec.upto wholeBytesSpec)) wholeBytesUptoCard
end Rows
end Go.Proofs.YtejbookaflnpeabDoor
