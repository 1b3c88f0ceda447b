/-
  DERIVED. GIVEN WITH THE SEED: THE CARDS: each row of YtejbookaflnpeaaDoorRows.lean that lists a variable, with what it lists TIED to the program's text (the seventh form; the later family's looks); each row that meets fmt, with fmt's text TOLD by the authors' own Lean function (tested against real Go, not proved from fmt's source: count such statements apart). THE CARD IS WHAT COUNTS. Prove the row's statement (the work); the ties are given (YtejbookaflnpeaaDoorTie.lean); close each card by the builder's one call (the guide's Derived/Test/ToyasCard.lean, 'card_holds'). Laid BY PROGRAM, IN A SANDBOX (cutbox-door.mjs). By AI agents, Wed Nov 11 2026. No macro, syntax, notation, axiom, sorry.
-/
import Derived.Test.YtejbookaflnpeaaDoorRows
import GoSem.ClaimSeven
namespace Go.Proofs.YtejbookaflnpeaaDoor
namespace Rows

/-- THE TIED CARD OF 'foliotlaw01.SumCRC'. -/
def sumCRCCard : Claim7 := { stood := { row := sumCRCRow, standIns := [], harness := (true, "38c954161738925dac6095baf8e43f1efb8cfccc95399d646e199d508b49ab6c"), looks := false }, kinds := [], alts := [], laidByText := true, laidKinds := [.data, .data], laidTests := true, laidLooks := .later }
def SumCRCCardSaid : Prop := Claim7.holds Tryd.pinned (.plain (OpenSpec.ofChange sumCRCSpec)) sumCRCCard

/-- THE TIED CARD OF 'foliotlaw01.SumOf'. -/
def sumOfCard : Claim7 := { stood := { row := sumOfRow, standIns := [], harness := (true, "38c954161738925dac6095baf8e43f1efb8cfccc95399d646e199d508b49ab6c"), looks := false }, kinds := [], alts := [], laidByText := true, laidKinds := [.data, .data], laidTests := true, laidLooks := .later }
def SumOfCardSaid : Prop := Claim7.holds Tryd.pinned (.plain (OpenSpec.ofChange sumOfSpec)) sumOfCard

/-- THE TIED CARD OF 'foliotlaw01.SumParts'. -/
def sumPartsCard : Claim7 := { stood := { row := sumPartsRow, standIns := [], harness := (true, "38c954161738925dac6095baf8e43f1efb8cfccc95399d646e199d508b49ab6c"), looks := false }, kinds := [], alts := [], laidByText := true, laidKinds := [.data, .data], laidTests := true, laidLooks := .later }
def SumPartsCardSaid : Prop := Claim7.holds Tryd.pinned (.plain (OpenSpec.ofChange sumPartsSpec)) sumPartsCard

/-- THE TIED CARD OF 'foliotlaw01.SumGoes'. -/
def sumGoesCard : Claim7 := { stood := { row := sumGoesRow, standIns := [], harness := (true, "38c954161738925dac6095baf8e43f1efb8cfccc95399d646e199d508b49ab6c"), looks := false }, kinds := [], alts := [], laidByText := true, laidKinds := [.data, .data], laidTests := true, laidLooks := .later }
def SumGoesCardSaid : Prop := Claim7.holds Tryd.pinned (.plain (OpenSpec.ofChange sumGoesSpec)) sumGoesCard

/-- THE TIED CARD OF 'foliotlaw01.SumChain'. -/
def sumChainCard : Claim7 := { stood := { row := sumChainRow, standIns := [], harness := (true, "38c954161738925dac6095baf8e43f1efb8cfccc95399d646e199d508b49ab6c"), looks := false }, kinds := [], alts := [], laidByText := true, laidKinds := [.data, .data], laidTests := true, laidLooks := .later }
def SumChainCardSaid : Prop := Claim7.holds Tryd.pinned (.plain (OpenSpec.ofChange sumChainSpec)) sumChainCard

/-- THE TIED CARD OF 'foliotlaw01.SumBit'. -/
def sumBitCard : Claim7 := { stood := { row := sumBitRow, standIns := [], harness := (true, "38c954161738925dac6095baf8e43f1efb8cfccc95399d646e199d508b49ab6c"), looks := false }, kinds := [], alts := [], laidByText := true, laidKinds := [.data, .data], laidTests := true, laidLooks := .later }
def SumBitCardSaid : Prop := Claim7.holds Tryd.pinned (.plain (OpenSpec.ofChange sumBitSpec)) sumBitCard

/-- THE TIED CARD OF 'foliotlaw01.SumRuns'. -/
def sumRunsCard : Claim7 := { stood := { row := sumRunsRow, standIns := [], harness := (true, "38c954161738925dac6095baf8e43f1efb8cfccc95399d646e199d508b49ab6c"), looks := false }, kinds := [], alts := [], laidByText := true, laidKinds := [.data, .data], laidTests := true, laidLooks := .later }
def SumRunsCardSaid : Prop := Claim7.holds Tryd.pinned (.plain (OpenSpec.ofChange sumRunsSpec)) sumRunsCard

/-- THE TIED CARD OF 'foliotlaw04.CronReads'. -/
def cronReadsCard : Claim7 := { stood := { row := cronReadsRow, standIns := [], harness := (true, "38c954161738925dac6095baf8e43f1efb8cfccc95399d646e199d508b49ab6c"), looks := false }, kinds := [], alts := [], laidByText := true, laidKinds := [.data, .data, .data, .pinned], laidTests := true, laidLooks := .later }
def CronReadsCardSaid : Prop := Claim7.holds Tryd.pinned (.plain (OpenSpec.ofChange cronReadsSpec)) cronReadsCard

/-- THE TIED CARD OF 'foliotlaw04.CronDates'. -/
def cronDatesCard : Claim7 := { stood := { row := cronDatesRow, standIns := [], harness := (true, "38c954161738925dac6095baf8e43f1efb8cfccc95399d646e199d508b49ab6c"), looks := false }, kinds := [], alts := [], laidByText := true, laidKinds := [.data, .data, .data, .pinned], laidTests := true, laidLooks := .later }
def CronDatesCardSaid : Prop := Claim7.holds Tryd.pinned (.plain (OpenSpec.ofChange cronDatesSpec)) cronDatesCard

/-- THE TIED CARD OF 'foliotlaw04.CronNext'. -/
def cronNextCard : Claim7 := { stood := { row := cronNextRow, standIns := [], harness := (true, "38c954161738925dac6095baf8e43f1efb8cfccc95399d646e199d508b49ab6c"), looks := false }, kinds := [], alts := [], laidByText := true, laidKinds := [.data, .data, .data, .pinned], laidTests := true, laidLooks := .later }
def CronNextCardSaid : Prop := Claim7.holds Tryd.pinned (.plain (OpenSpec.ofChange cronNextSpec)) cronNextCard

/-- THE TIED CARD OF 'foliotlaw04.CronFirst'. -/
def cronFirstCard : Claim7 := { stood := { row := cronFirstRow, standIns := [], harness := (true, "38c954161738925dac6095baf8e43f1efb8cfccc95399d646e199d508b49ab6c"), looks := false }, kinds := [], alts := [], laidByText := true, laidKinds := [.data, .data, .data, .pinned], laidTests := true, laidLooks := .later }
def CronFirstCardSaid : Prop := Claim7.holds Tryd.pinned (.plain (OpenSpec.ofChange cronFirstSpec)) cronFirstCard

/-- THE TIED CARD OF 'foliotlaw04.CronDays'. -/
def cronDaysCard : Claim7 := { stood := { row := cronDaysRow, standIns := [], harness := (true, "38c954161738925dac6095baf8e43f1efb8cfccc95399d646e199d508b49ab6c"), looks := false }, kinds := [], alts := [], laidByText := true, laidKinds := [.data, .data, .data, .pinned], laidTests := true, laidLooks := .later }
def CronDaysCardSaid : Prop := Claim7.holds Tryd.pinned (.plain (OpenSpec.ofChange cronDaysSpec)) cronDaysCard

/-- THE SECOND FORM's CARD OF 'foliotlaw01.SumCRC'. -/
def sumCRCUptoCard : Claim7 := { stood := { row := sumCRCUptoRow, standIns := [], harness := (true, "38c954161738925dac6095baf8e43f1efb8cfccc95399d646e199d508b49ab6c"), looks := false }, kinds := [], alts := [], laidByText := true, laidKinds := [.data, .data], laidTests := true, laidLooks := .later }
def SumCRCUptoCardSaid : Prop := Claim7.holds Tryd.pinned (.plain (OpenSpec.upto sumCRCSpec)) sumCRCUptoCard

/-- THE SECOND FORM's CARD OF 'foliotlaw01.SumOf'. -/
def sumOfUptoCard : Claim7 := { stood := { row := sumOfUptoRow, standIns := [], harness := (true, "38c954161738925dac6095baf8e43f1efb8cfccc95399d646e199d508b49ab6c"), looks := false }, kinds := [], alts := [], laidByText := true, laidKinds := [.data, .data], laidTests := true, laidLooks := .later }
def SumOfUptoCardSaid : Prop := Claim7.holds Tryd.pinned (.plain (OpenSpec.upto sumOfSpec)) sumOfUptoCard

/-- THE SECOND FORM's CARD OF 'foliotlaw01.SumParts'. -/
def sumPartsUptoCard : Claim7 := { stood := { row := sumPartsUptoRow, standIns := [], harness := (true, "38c954161738925dac6095baf8e43f1efb8cfccc95399d646e199d508b49ab6c"), looks := false }, kinds := [], alts := [], laidByText := true, laidKinds := [.data, .data], laidTests := true, laidLooks := .later }
def SumPartsUptoCardSaid : Prop := Claim7.holds Tryd.pinned (.plain (OpenSpec.upto sumPartsSpec)) sumPartsUptoCard

/-- THE SECOND FORM's CARD OF 'foliotlaw01.SumGoes'. -/
def sumGoesUptoCard : Claim7 := { stood := { row := sumGoesUptoRow, standIns := [], harness := (true, "38c954161738925dac6095baf8e43f1efb8cfccc95399d646e199d508b49ab6c"), looks := false }, kinds := [], alts := [], laidByText := true, laidKinds := [.data, .data], laidTests := true, laidLooks := .later }
def SumGoesUptoCardSaid : Prop := Claim7.holds Tryd.pinned (.plain (OpenSpec.upto sumGoesSpec)) sumGoesUptoCard

/-- THE SECOND FORM's CARD OF 'foliotlaw01.SumChain'. -/
def sumChainUptoCard : Claim7 := { stood := { row := sumChainUptoRow, standIns := [], harness := (true, "38c954161738925dac6095baf8e43f1efb8cfccc95399d646e199d508b49ab6c"), looks := false }, kinds := [], alts := [], laidByText := true, laidKinds := [.data, .data], laidTests := true, laidLooks := .later }
def SumChainUptoCardSaid : Prop := Claim7.holds Tryd.pinned (.plain (OpenSpec.upto sumChainSpec)) sumChainUptoCard

/-- THE SECOND FORM's CARD OF 'foliotlaw01.SumBit'. -/
def sumBitUptoCard : Claim7 := { stood := { row := sumBitUptoRow, standIns := [], harness := (true, "38c954161738925dac6095baf8e43f1efb8cfccc95399d646e199d508b49ab6c"), looks := false }, kinds := [], alts := [], laidByText := true, laidKinds := [.data, .data], laidTests := true, laidLooks := .later }
def SumBitUptoCardSaid : Prop := Claim7.holds Tryd.pinned (.plain (OpenSpec.upto sumBitSpec)) sumBitUptoCard

/-- THE SECOND FORM's CARD OF 'foliotlaw01.SumRuns'. -/
def sumRunsUptoCard : Claim7 := { stood := { row := sumRunsUptoRow, standIns := [], harness := (true, "38c954161738925dac6095baf8e43f1efb8cfccc95399d646e199d508b49ab6c"), looks := false }, kinds := [], alts := [], laidByText := true, laidKinds := [.data, .data], laidTests := true, laidLooks := .later }
def SumRunsUptoCardSaid : Prop := Claim7.holds Tryd.pinned (.plain (OpenSpec.upto sumRunsSpec)) sumRunsUptoCard

/-- THE SECOND FORM's CARD OF 'foliotlaw04.CronReads'. -/
def cronReadsUptoCard : Claim7 := { stood := { row := cronReadsUptoRow, standIns := [], harness := (true, "38c954161738925dac6095baf8e43f1efb8cfccc95399d646e199d508b49ab6c"), looks := false }, kinds := [], alts := [], laidByText := true, laidKinds := [.data, .data, .data, .pinned], laidTests := true, laidLooks := .later }
def CronReadsUptoCardSaid : Prop := Claim7.holds Tryd.pinned (.plain (OpenSpec.upto cronReadsSpec)) cronReadsUptoCard

/-- THE SECOND FORM's CARD OF 'foliotlaw04.CronDates'. -/
def cronDatesUptoCard : Claim7 := { stood := { row := cronDatesUptoRow, standIns := [], harness := (true, "38c954161738925dac6095baf8e43f1efb8cfccc95399d646e199d508b49ab6c"), looks := false }, kinds := [], alts := [], laidByText := true, laidKinds := [.data, .data, .data, .pinned], laidTests := true, laidLooks := .later }
def CronDatesUptoCardSaid : Prop := Claim7.holds Tryd.pinned (.plain (OpenSpec.upto cronDatesSpec)) cronDatesUptoCard

/-- THE SECOND FORM's CARD OF 'foliotlaw04.CronNext'. -/
def cronNextUptoCard : Claim7 := { stood := { row := cronNextUptoRow, standIns := [], harness := (true, "38c954161738925dac6095baf8e43f1efb8cfccc95399d646e199d508b49ab6c"), looks := false }, kinds := [], alts := [], laidByText := true, laidKinds := [.data, .data, .data, .pinned], laidTests := true, laidLooks := .later }
def CronNextUptoCardSaid : Prop := Claim7.holds Tryd.pinned (.plain (OpenSpec.upto cronNextSpec)) cronNextUptoCard

/-- THE SECOND FORM's CARD OF 'foliotlaw04.CronFirst'. -/
def cronFirstUptoCard : Claim7 := { stood := { row := cronFirstUptoRow, standIns := [], harness := (true, "38c954161738925dac6095baf8e43f1efb8cfccc95399d646e199d508b49ab6c"), looks := false }, kinds := [], alts := [], laidByText := true, laidKinds := [.data, .data, .data, .pinned], laidTests := true, laidLooks := .later }
def CronFirstUptoCardSaid : Prop := Claim7.holds Tryd.pinned (.plain (OpenSpec.upto cronFirstSpec)) cronFirstUptoCard

/-- THE SECOND FORM's CARD OF 'foliotlaw04.CronDays'. -/
def cronDaysUptoCard : Claim7 := { stood := { row := cronDaysUptoRow, standIns := [], harness := (true, "38c954161738925dac6095baf8e43f1efb8cfccc95399d646e199d508b49ab6c"), looks := false }, kinds := [], alts := [], laidByText := true, laidKinds := [.data, .data, .data, .pinned], laidTests := true, laidLooks := .later }
def CronDaysUptoCardSaid : Prop := Claim7.holds Tryd.pinned (.plain (OpenSpec.upto cronDaysSpec)) cronDaysUptoCard
end Rows
end Go.Proofs.YtejbookaflnpeaaDoor
