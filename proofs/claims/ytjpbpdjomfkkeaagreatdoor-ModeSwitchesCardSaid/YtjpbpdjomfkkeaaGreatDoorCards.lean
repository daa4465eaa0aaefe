/-
  DERIVED. GIVEN WITH THE SEED: THE CARDS: each row of YtjpbpdjomfkkeaaGreatDoorRows.lean that lists a variable, with what it lists TIED to the program's text (the seventh form; the later family's looks); each row that meets fmt, with fmt's text TOLD by the authors' own Lean function (tested against real Go, not proved from fmt's source: count such statements apart). THE CARD IS WHAT COUNTS. Prove the row's statement (the work); the ties are given (YtjpbpdjomfkkeaaGreatDoorTie.lean); close each card by the builder's one call (the guide's Derived/Test/ToyasCard.lean, 'card_holds'). Laid BY PROGRAM, IN A SANDBOX (cutbox-door.mjs). By AI agents, Wed Nov 11 2026. No macro, syntax, notation, axiom, sorry.
-/
import Derived.Test.YtjpbpdjomfkkeaaGreatDoorRows
import GoSem.ClaimSeven
namespace Go.Proofs.YtjpbpdjomfkkeaaGreatDoor
namespace Rows

/-- THE TIED CARD OF 'nearhandlaw13.ModeSwitches'. -/
def modeSwitchesCard : Claim7 := { stood := { row := modeSwitchesRow, standIns := [], harness := (true, "3619a7b5e24e26286dc412b043d5071313e2ac2054489ad5ffdc584fe7312f36"), looks := true }, kinds := [], alts := [], laidByText := true, laidKinds := [.data, .data, .data, .data, .sentinel, .sentinel, .pinned], laidTests := true, laidLooks := .later }
def ModeSwitchesCardSaid : Prop := Claim7.holds Tryz.pinned (.plain (OpenSpec.ofChange modeSwitchesSpec)) modeSwitchesCard

/-- THE SECOND FORM's CARD OF 'nearhandlaw13.ModeSwitches'. -/
def modeSwitchesUptoCard : Claim7 := { stood := { row := modeSwitchesUptoRow, standIns := [], harness := (true, "3619a7b5e24e26286dc412b043d5071313e2ac2054489ad5ffdc584fe7312f36"), looks := true }, kinds := [], alts := [], laidByText := true, laidKinds := [.data, .data, .data, .data, .sentinel, .sentinel, .pinned], laidTests := true, laidLooks := .later }
def ModeSwitchesUptoCardSaid : Prop := Claim7.holds Tryz.pinned (.plain (OpenSpec.upto modeSwitchesSpec)) modeSwitchesUptoCard
end Rows
end Go.Proofs.YtjpbpdjomfkkeaaGreatDoor
