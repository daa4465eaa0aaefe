/-
  DERIVED. GIVEN WITH THE SEED: THE CARDS: each row of YtenhgjpoigkdgaaGreatDoorRows.lean that lists a variable, with what it lists TIED to the program's text (the seventh form; the later family's looks); each row that meets fmt, with fmt's text TOLD by the authors' own Lean function (tested against real Go, not proved from fmt's source: count such statements apart). THE CARD IS WHAT COUNTS. Prove the row's statement (the work); the ties are given (YtenhgjpoigkdgaaGreatDoorTie.lean); close each card by the builder's one call (the guide's Derived/Test/ToyasCard.lean, 'card_holds'). Laid BY PROGRAM, IN A SANDBOX (cutbox-door.mjs). By AI agents, Wed Nov 11 2026. No macro, syntax, notation, axiom, sorry.
-/
import Derived.Test.YtenhgjpoigkdgaaGreatDoorRows
import GoSem.ClaimSeven
namespace Go.Proofs.YtenhgjpoigkdgaaGreatDoor
namespace Rows

/-- THE TIED CARD OF 'nearhandlaw06.LinesFeeds'. -/
def linesFeedsCard : Claim7 := { stood := { row := linesFeedsRow, standIns := [], harness := (true, "923b1c9bb00c7dbe9102deebf84fc3a90dd1c29ed14b9bc31a507635894e9129"), looks := true }, kinds := [], alts := [], laidByText := true, laidKinds := [.data, .data, .data, .data, .sentinel, .sentinel, .pinned], laidTests := true, laidLooks := .later }
def LinesFeedsCardSaid : Prop := Claim7.holds Tryz.pinned (.plain (OpenSpec.ofChange linesFeedsSpec)) linesFeedsCard

/-- THE TIED CARD OF 'nearhandlaw06.LinesQuotes'. -/
def linesQuotesCard : Claim7 := { stood := { row := linesQuotesRow, standIns := [], harness := (true, "923b1c9bb00c7dbe9102deebf84fc3a90dd1c29ed14b9bc31a507635894e9129"), looks := true }, kinds := [], alts := [], laidByText := true, laidKinds := [.data, .data, .data, .data, .sentinel, .sentinel, .data, .pinned], laidTests := true, laidLooks := .later }
def LinesQuotesCardSaid : Prop := Claim7.holds Tryz.pinned (.plain (OpenSpec.ofChange linesQuotesSpec)) linesQuotesCard

/-- THE TIED CARD OF 'nearhandlaw06.LinesStops'. -/
def linesStopsCard : Claim7 := { stood := { row := linesStopsRow, standIns := [], harness := (true, "923b1c9bb00c7dbe9102deebf84fc3a90dd1c29ed14b9bc31a507635894e9129"), looks := true }, kinds := [], alts := [], laidByText := true, laidKinds := [.data, .data, .data, .data, .sentinel, .sentinel, .data, .pinned], laidTests := true, laidLooks := .later }
def LinesStopsCardSaid : Prop := Claim7.holds Tryz.pinned (.plain (OpenSpec.ofChange linesStopsSpec)) linesStopsCard

/-- THE SECOND FORM's CARD OF 'nearhandlaw06.LinesFeeds'. -/
def linesFeedsUptoCard : Claim7 := { stood := { row := linesFeedsUptoRow, standIns := [], harness := (true, "923b1c9bb00c7dbe9102deebf84fc3a90dd1c29ed14b9bc31a507635894e9129"), looks := true }, kinds := [], alts := [], laidByText := true, laidKinds := [.data, .data, .data, .data, .sentinel, .sentinel, .pinned], laidTests := true, laidLooks := .later }
def LinesFeedsUptoCardSaid : Prop := Claim7.holds Tryz.pinned (.plain (OpenSpec.upto linesFeedsSpec)) linesFeedsUptoCard

/-- THE SECOND FORM's CARD OF 'nearhandlaw06.LinesQuotes'. -/
def linesQuotesUptoCard : Claim7 := { stood := { row := linesQuotesUptoRow, standIns := [], harness := (true, "923b1c9bb00c7dbe9102deebf84fc3a90dd1c29ed14b9bc31a507635894e9129"), looks := true }, kinds := [], alts := [], laidByText := true, laidKinds := [.data, .data, .data, .data, .sentinel, .sentinel, .data, .pinned], laidTests := true, laidLooks := .later }
def LinesQuotesUptoCardSaid : Prop := Claim7.holds Tryz.pinned (.plain (OpenSpec.upto linesQuotesSpec)) linesQuotesUptoCard

/-- THE SECOND FORM's CARD OF 'nearhandlaw06.LinesStops'. -/
def linesStopsUptoCard : Claim7 := { stood := { row := linesStopsUptoRow, standIns := [], harness := (true, "923b1c9bb00c7dbe9102deebf84fc3a90dd1c29ed14b9bc31a507635894e9129"), looks := true }, kinds := [], alts := [], laidByText := true, laidKinds := [.data, .data, .data, .data, .sentinel, .sentinel, .data, .pinned], laidTests := true, laidLooks := .later }
def LinesStopsUptoCardSaid : Prop := Claim7.holds Tryz.pinned (.plain (OpenSpec.upto linesStopsSpec)) linesStopsUptoCard
end Rows
end Go.Proofs.YtenhgjpoigkdgaaGreatDoor
