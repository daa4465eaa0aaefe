/-
  DERIVED. GIVEN WITH THE SEED: THE CARDS: each row of YtpmlhmdmnbmnnaaGreatDoorRows.lean that lists a variable, with what it lists TIED to the program's text (the seventh form; the later family's looks); each row that meets fmt, with fmt's text TOLD by the authors' own Lean function (tested against real Go, not proved from fmt's source: count such statements apart). THE CARD IS WHAT COUNTS. Prove the row's statement (the work); the ties are given (YtpmlhmdmnbmnnaaGreatDoorTie.lean); close each card by the builder's one call (the guide's Derived/Test/ToyasCard.lean, 'card_holds'). Laid BY PROGRAM, IN A SANDBOX (cutbox-door.mjs). By AI agents, Wed Nov 11 2026. No macro, syntax, notation, axiom, sorry.
-/
import Derived.Test.YtpmlhmdmnbmnnaaGreatDoorRows
import GoSem.ClaimSeven
namespace Go.Proofs.YtpmlhmdmnbmnnaaGreatDoor
namespace Rows

/-- THE TIED CARD OF 'nearhandlaw02.RealNear'. -/
def realNearCard : Claim7 := { stood := { row := realNearRow, standIns := [], harness := (true, "82a81443685a6802caadaff55c93f5c628ba5ec4b4cac86887311aeee38483ed"), looks := true }, kinds := [], alts := [], laidByText := true, laidKinds := [.data, .data, .widerDeep, .widerDeep, .data, .data, .data, .data, .data, .sentinel, .sentinel, .pinned, .pinned], laidTests := true, laidLooks := .later }
def RealNearCardSaid : Prop := Claim7.holds Tryz.pinned (.plain (OpenSpec.ofChange realNearSpec)) realNearCard

/-- THE TIED CARD OF 'nearhandlaw02.RealWhole'. -/
def realWholeCard : Claim7 := { stood := { row := realWholeRow, standIns := [], harness := (true, "82a81443685a6802caadaff55c93f5c628ba5ec4b4cac86887311aeee38483ed"), looks := true }, kinds := [], alts := [], laidByText := true, laidKinds := [.data, .data, .widerDeep, .widerDeep, .data, .data, .data, .data, .data, .sentinel, .sentinel, .pinned, .pinned], laidTests := true, laidLooks := .later }
def RealWholeCardSaid : Prop := Claim7.holds Tryz.pinned (.plain (OpenSpec.ofChange realWholeSpec)) realWholeCard

/-- THE TIED CARD OF 'nearhandlaw04.WireBytes'. -/
def wireBytesCard : Claim7 := { stood := { row := wireBytesRow, standIns := [], harness := (true, "82a81443685a6802caadaff55c93f5c628ba5ec4b4cac86887311aeee38483ed"), looks := true }, kinds := [], alts := [], laidByText := true, laidKinds := [.data, .data, .widerDeep, .widerDeep, .data, .data, .data, .data, .data, .data, .sentinel, .sentinel, .data, .pinned, .pinned, .pinned], laidTests := true, laidLooks := .later }
def WireBytesCardSaid : Prop := Claim7.holds Tryz.pinned (.plain (OpenSpec.ofChange wireBytesSpec)) wireBytesCard

/-- THE TIED CARD OF 'nearhandlaw04.WireCommands'. -/
def wireCommandsCard : Claim7 := { stood := { row := wireCommandsRow, standIns := [], harness := (true, "82a81443685a6802caadaff55c93f5c628ba5ec4b4cac86887311aeee38483ed"), looks := true }, kinds := [], alts := [], laidByText := true, laidKinds := [.data, .data, .widerDeep, .widerDeep, .data, .data, .data, .data, .data, .sentinel, .sentinel, .data, .pinned, .pinned], laidTests := true, laidLooks := .later }
def WireCommandsCardSaid : Prop := Claim7.holds Tryz.pinned (.plain (OpenSpec.ofChange wireCommandsSpec)) wireCommandsCard

/-- THE TIED CARD OF 'nearhandlaw04.WireApart'. -/
def wireApartCard : Claim7 := { stood := { row := wireApartRow, standIns := [], harness := (true, "82a81443685a6802caadaff55c93f5c628ba5ec4b4cac86887311aeee38483ed"), looks := true }, kinds := [], alts := [], laidByText := true, laidKinds := [.data, .data, .data, .data, .data, .data, .pinned, .pinned, .pinned], laidTests := true, laidLooks := .later }
def WireApartCardSaid : Prop := Claim7.holds Tryz.pinned (.plain (OpenSpec.ofChange wireApartSpec)) wireApartCard

/-- THE TIED CARD OF 'nearhandlaw05.ReaderNames'. -/
def readerNamesCard : Claim7 := { stood := { row := readerNamesRow, standIns := [], harness := (true, "82a81443685a6802caadaff55c93f5c628ba5ec4b4cac86887311aeee38483ed"), looks := true }, kinds := [], alts := [], laidByText := true, laidKinds := [.data, .data, .widerDeep, .widerDeep, .data, .data, .data, .data, .data, .data, .sentinel, .sentinel, .pinned, .pinned, .pinned], laidTests := true, laidLooks := .later }
def ReaderNamesCardSaid : Prop := Claim7.holds Tryz.pinned (.plain (OpenSpec.ofChange readerNamesSpec)) readerNamesCard

/-- THE TIED CARD OF 'nearhandlaw05.ReaderParses'. -/
def readerParsesCard : Claim7 := { stood := { row := readerParsesRow, standIns := [], harness := (true, "82a81443685a6802caadaff55c93f5c628ba5ec4b4cac86887311aeee38483ed"), looks := true }, kinds := [], alts := [], laidByText := true, laidKinds := [.data, .data, .widerDeep, .widerDeep, .data, .data, .data, .data, .data, .data, .sentinel, .sentinel, .pinned, .pinned, .pinned], laidTests := true, laidLooks := .later }
def ReaderParsesCardSaid : Prop := Claim7.holds Tryz.pinned (.plain (OpenSpec.ofChange readerParsesSpec)) readerParsesCard

/-- THE TIED CARD OF 'nearhandlaw05.ReaderFeeds'. -/
def readerFeedsCard : Claim7 := { stood := { row := readerFeedsRow, standIns := [], harness := (true, "82a81443685a6802caadaff55c93f5c628ba5ec4b4cac86887311aeee38483ed"), looks := true }, kinds := [], alts := [], laidByText := true, laidKinds := [.data, .data, .widerDeep, .widerDeep, .data, .data, .data, .data, .data, .data, .sentinel, .sentinel, .pinned, .pinned, .pinned], laidTests := true, laidLooks := .later }
def ReaderFeedsCardSaid : Prop := Claim7.holds Tryz.pinned (.plain (OpenSpec.ofChange readerFeedsSpec)) readerFeedsCard

/-- THE TIED CARD OF 'nearhandlaw05.ReaderBack'. -/
def readerBackCard : Claim7 := { stood := { row := readerBackRow, standIns := [], harness := (true, "82a81443685a6802caadaff55c93f5c628ba5ec4b4cac86887311aeee38483ed"), looks := true }, kinds := [], alts := [], laidByText := true, laidKinds := [.data, .data, .widerDeep, .widerDeep, .data, .data, .data, .data, .data, .data, .sentinel, .sentinel, .data, .pinned, .pinned, .pinned], laidTests := true, laidLooks := .later }
def ReaderBackCardSaid : Prop := Claim7.holds Tryz.pinned (.plain (OpenSpec.ofChange readerBackSpec)) readerBackCard

/-- THE TIED CARD OF 'nearhandlaw05.ReaderWaits'. -/
def readerWaitsCard : Claim7 := { stood := { row := readerWaitsRow, standIns := [], harness := (true, "82a81443685a6802caadaff55c93f5c628ba5ec4b4cac86887311aeee38483ed"), looks := true }, kinds := [], alts := [], laidByText := true, laidKinds := [.data, .data, .widerDeep, .widerDeep, .data, .data, .data, .data, .data, .data, .sentinel, .sentinel, .data, .pinned, .pinned, .pinned], laidTests := true, laidLooks := .later }
def ReaderWaitsCardSaid : Prop := Claim7.holds Tryz.pinned (.plain (OpenSpec.ofChange readerWaitsSpec)) readerWaitsCard

/-- THE TIED CARD OF 'nearhandlaw05.ReaderAgain'. -/
def readerAgainCard : Claim7 := { stood := { row := readerAgainRow, standIns := [], harness := (true, "82a81443685a6802caadaff55c93f5c628ba5ec4b4cac86887311aeee38483ed"), looks := true }, kinds := [], alts := [], laidByText := true, laidKinds := [.data, .data, .widerDeep, .widerDeep, .data, .data, .data, .data, .data, .data, .sentinel, .sentinel, .data, .pinned, .pinned, .pinned], laidTests := true, laidLooks := .later }
def ReaderAgainCardSaid : Prop := Claim7.holds Tryz.pinned (.plain (OpenSpec.ofChange readerAgainSpec)) readerAgainCard

/-- THE SECOND FORM's CARD OF 'nearhandlaw02.RealNear'. -/
def realNearUptoCard : Claim7 := { stood := { row := realNearUptoRow, standIns := [], harness := (true, "82a81443685a6802caadaff55c93f5c628ba5ec4b4cac86887311aeee38483ed"), looks := true }, kinds := [], alts := [], laidByText := true, laidKinds := [.data, .data, .widerDeep, .widerDeep, .data, .data, .data, .data, .data, .sentinel, .sentinel, .pinned, .pinned], laidTests := true, laidLooks := .later }
def RealNearUptoCardSaid : Prop := Claim7.holds Tryz.pinned (.plain (OpenSpec.upto realNearSpec)) realNearUptoCard

/-- THE SECOND FORM's CARD OF 'nearhandlaw02.RealWhole'. -/
def realWholeUptoCard : Claim7 := { stood := { row := realWholeUptoRow, standIns := [], harness := (true, "82a81443685a6802caadaff55c93f5c628ba5ec4b4cac86887311aeee38483ed"), looks := true }, kinds := [], alts := [], laidByText := true, laidKinds := [.data, .data, .widerDeep, .widerDeep, .data, .data, .data, .data, .data, .sentinel, .sentinel, .pinned, .pinned], laidTests := true, laidLooks := .later }
def RealWholeUptoCardSaid : Prop := Claim7.holds Tryz.pinned (.plain (OpenSpec.upto realWholeSpec)) realWholeUptoCard

/-- THE SECOND FORM's CARD OF 'nearhandlaw04.WireBytes'. -/
def wireBytesUptoCard : Claim7 := { stood := { row := wireBytesUptoRow, standIns := [], harness := (true, "82a81443685a6802caadaff55c93f5c628ba5ec4b4cac86887311aeee38483ed"), looks := true }, kinds := [], alts := [], laidByText := true, laidKinds := [.data, .data, .widerDeep, .widerDeep, .data, .data, .data, .data, .data, .data, .sentinel, .sentinel, .data, .pinned, .pinned, .pinned], laidTests := true, laidLooks := .later }
def WireBytesUptoCardSaid : Prop := Claim7.holds Tryz.pinned (.plain (OpenSpec.upto wireBytesSpec)) wireBytesUptoCard

/-- THE SECOND FORM's CARD OF 'nearhandlaw04.WireCommands'. -/
def wireCommandsUptoCard : Claim7 := { stood := { row := wireCommandsUptoRow, standIns := [], harness := (true, "82a81443685a6802caadaff55c93f5c628ba5ec4b4cac86887311aeee38483ed"), looks := true }, kinds := [], alts := [], laidByText := true, laidKinds := [.data, .data, .widerDeep, .widerDeep, .data, .data, .data, .data, .data, .sentinel, .sentinel, .data, .pinned, .pinned], laidTests := true, laidLooks := .later }
def WireCommandsUptoCardSaid : Prop := Claim7.holds Tryz.pinned (.plain (OpenSpec.upto wireCommandsSpec)) wireCommandsUptoCard

/-- THE SECOND FORM's CARD OF 'nearhandlaw04.WireApart'. -/
def wireApartUptoCard : Claim7 := { stood := { row := wireApartUptoRow, standIns := [], harness := (true, "82a81443685a6802caadaff55c93f5c628ba5ec4b4cac86887311aeee38483ed"), looks := true }, kinds := [], alts := [], laidByText := true, laidKinds := [.data, .data, .data, .data, .data, .data, .pinned, .pinned, .pinned], laidTests := true, laidLooks := .later }
def WireApartUptoCardSaid : Prop := Claim7.holds Tryz.pinned (.plain (OpenSpec.upto wireApartSpec)) wireApartUptoCard

/-- THE SECOND FORM's CARD OF 'nearhandlaw05.ReaderNames'. -/
def readerNamesUptoCard : Claim7 := { stood := { row := readerNamesUptoRow, standIns := [], harness := (true, "82a81443685a6802caadaff55c93f5c628ba5ec4b4cac86887311aeee38483ed"), looks := true }, kinds := [], alts := [], laidByText := true, laidKinds := [.data, .data, .widerDeep, .widerDeep, .data, .data, .data, .data, .data, .data, .sentinel, .sentinel, .pinned, .pinned, .pinned], laidTests := true, laidLooks := .later }
def ReaderNamesUptoCardSaid : Prop := Claim7.holds Tryz.pinned (.plain (OpenSpec.upto readerNamesSpec)) readerNamesUptoCard

/-- THE SECOND FORM's CARD OF 'nearhandlaw05.ReaderParses'. -/
def readerParsesUptoCard : Claim7 := { stood := { row := readerParsesUptoRow, standIns := [], harness := (true, "82a81443685a6802caadaff55c93f5c628ba5ec4b4cac86887311aeee38483ed"), looks := true }, kinds := [], alts := [], laidByText := true, laidKinds := [.data, .data, .widerDeep, .widerDeep, .data, .data, .data, .data, .data, .data, .sentinel, .sentinel, .pinned, .pinned, .pinned], laidTests := true, laidLooks := .later }
def ReaderParsesUptoCardSaid : Prop := Claim7.holds Tryz.pinned (.plain (OpenSpec.upto readerParsesSpec)) readerParsesUptoCard

/-- THE SECOND FORM's CARD OF 'nearhandlaw05.ReaderFeeds'. -/
def readerFeedsUptoCard : Claim7 := { stood := { row := readerFeedsUptoRow, standIns := [], harness := (true, "82a81443685a6802caadaff55c93f5c628ba5ec4b4cac86887311aeee38483ed"), looks := true }, kinds := [], alts := [], laidByText := true, laidKinds := [.data, .data, .widerDeep, .widerDeep, .data, .data, .data, .data, .data, .data, .sentinel, .sentinel, .pinned, .pinned, .pinned], laidTests := true, laidLooks := .later }
def ReaderFeedsUptoCardSaid : Prop := Claim7.holds Tryz.pinned (.plain (OpenSpec.upto readerFeedsSpec)) readerFeedsUptoCard

/-- THE SECOND FORM's CARD OF 'nearhandlaw05.ReaderBack'. -/
def readerBackUptoCard : Claim7 := { stood := { row := readerBackUptoRow, standIns := [], harness := (true, "82a81443685a6802caadaff55c93f5c628ba5ec4b4cac86887311aeee38483ed"), looks := true }, kinds := [], alts := [], laidByText := true, laidKinds := [.data, .data, .widerDeep, .widerDeep, .data, .data, .data, .data, .data, .data, .sentinel, .sentinel, .data, .pinned, .pinned, .pinned], laidTests := true, laidLooks := .later }
def ReaderBackUptoCardSaid : Prop := Claim7.holds Tryz.pinned (.plain (OpenSpec.upto readerBackSpec)) readerBackUptoCard

/-- THE SECOND FORM's CARD OF 'nearhandlaw05.ReaderWaits'. -/
def readerWaitsUptoCard : Claim7 := { stood := { row := readerWaitsUptoRow, standIns := [], harness := (true, "82a81443685a6802caadaff55c93f5c628ba5ec4b4cac86887311aeee38483ed"), looks := true }, kinds := [], alts := [], laidByText := true, laidKinds := [.data, .data, .widerDeep, .widerDeep, .data, .data, .data, .data, .data, .data, .sentinel, .sentinel, .data, .pinned, .pinned, .pinned], laidTests := true, laidLooks := .later }
def ReaderWaitsUptoCardSaid : Prop := Claim7.holds Tryz.pinned (.plain (OpenSpec.upto readerWaitsSpec)) readerWaitsUptoCard

/-- THE SECOND FORM's CARD OF 'nearhandlaw05.ReaderAgain'. -/
def readerAgainUptoCard : Claim7 := { stood := { row := readerAgainUptoRow, standIns := [], harness := (true, "82a81443685a6802caadaff55c93f5c628ba5ec4b4cac86887311aeee38483ed"), looks := true }, kinds := [], alts := [], laidByText := true, laidKinds := [.data, .data, .widerDeep, .widerDeep, .data, .data, .data, .data, .data, .data, .sentinel, .sentinel, .data, .pinned, .pinned, .pinned], laidTests := true, laidLooks := .later }
def ReaderAgainUptoCardSaid : Prop := Claim7.holds Tryz.pinned (.plain (OpenSpec.upto readerAgainSpec)) readerAgainUptoCard
end Rows
end Go.Proofs.YtpmlhmdmnbmnnaaGreatDoor
