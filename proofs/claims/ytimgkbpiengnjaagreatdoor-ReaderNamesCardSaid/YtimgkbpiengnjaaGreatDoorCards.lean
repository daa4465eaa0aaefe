/-
  DERIVED. GIVEN WITH THE SEED: THE CARDS: each row of YtimgkbpiengnjaaGreatDoorRows.lean that lists a variable, with what it lists TIED to the program's text (the seventh form; the later family's looks); each row that meets fmt, with fmt's text TOLD by the authors' own Lean function (tested against real Go, not proved from fmt's source: count such statements apart). THE CARD IS WHAT COUNTS. Prove the row's statement (the work); the ties are given (YtimgkbpiengnjaaGreatDoorTie.lean); close each card by the builder's one call (the guide's Derived/Test/ToyasCard.lean, 'card_holds'). Laid BY PROGRAM, IN A SANDBOX (cutbox-door.mjs). By AI agents, Wed Nov 11 2026. No macro, syntax, notation, axiom, sorry.
-/
import Derived.Test.YtimgkbpiengnjaaGreatDoorRows
import GoSem.ClaimSeven
namespace Go.Proofs.YtimgkbpiengnjaaGreatDoor
namespace Rows

/-- THE TIED CARD OF 'nearhandlaw05.ReaderNames'. -/
def readerNamesCard : Claim7 := { stood := { row := readerNamesRow, standIns := [], harness := (true, "36b6288a365ef11a2ff32fe960d11755e65f48948c51bcd1d198cc106c11926c"), looks := true }, kinds := [], alts := [], laidByText := true, laidKinds := [.data, .data, .widerDeep, .widerDeep, .data, .data, .data, .data, .data, .data, .sentinel, .sentinel, .pinned, .pinned, .pinned], laidTests := true, laidLooks := .later }
def ReaderNamesCardSaid : Prop := Claim7.holds Tryz.pinned (.plain (OpenSpec.ofChange readerNamesSpec)) readerNamesCard

/-- THE SECOND FORM's CARD OF 'nearhandlaw05.ReaderNames'. -/
def readerNamesUptoCard : Claim7 := { stood := { row := readerNamesUptoRow, standIns := [], harness := (true, "36b6288a365ef11a2ff32fe960d11755e65f48948c51bcd1d198cc106c11926c"), looks := true }, kinds := [], alts := [], laidByText := true, laidKinds := [.data, .data, .widerDeep, .widerDeep, .data, .data, .data, .data, .data, .data, .sentinel, .sentinel, .pinned, .pinned, .pinned], laidTests := true, laidLooks := .later }
def ReaderNamesUptoCardSaid : Prop := Claim7.holds Tryz.pinned (.plain (OpenSpec.upto readerNamesSpec)) readerNamesUptoCard
end Rows
end Go.Proofs.YtimgkbpiengnjaaGreatDoor
