/-
  DERIVED. GIVEN WITH THE SEED: THE CARDS: each row of YtfljonmfkjblhaaGreatDoorRows.lean that lists a variable, with what it lists TIED to the program's text (the seventh form; the later family's looks); each row that meets fmt, with fmt's text TOLD by the authors' own Lean function (tested against real Go, not proved from fmt's source: count such statements apart). THE CARD IS WHAT COUNTS. Prove the row's statement (the work); the ties are given (YtfljonmfkjblhaaGreatDoorTie.lean); close each card by the builder's one call (the guide's Derived/Test/ToyasCard.lean, 'card_holds'). Laid BY PROGRAM, IN A SANDBOX (cutbox-door.mjs). By AI agents, Wed Nov 11 2026. No macro, syntax, notation, axiom, sorry.
-/
import Derived.Test.YtfljonmfkjblhaaGreatDoorRows
import GoSem.ClaimSeven
namespace Go.Proofs.YtfljonmfkjblhaaGreatDoor
namespace Rows

/-- THE TIED CARD OF 'nearhandlaw09.ItemNames'. -/
def itemNamesCard : Claim7 := { stood := { row := itemNamesRow, standIns := [], harness := (true, "c68a635c85cc240fdf33fa75df217b9ed88485c99b9e1a2d215ddfcb69bc37b4"), looks := true }, kinds := [], alts := [], laidByText := true, laidKinds := [.data, .data, .widerDeep, .widerDeep, .data, .data, .data, .data, .data, .sentinel, .sentinel, .pinned, .pinned], laidTests := true, laidLooks := .later }
def ItemNamesCardSaid : Prop := Claim7.holds Tryz.pinned (.plain (OpenSpec.ofChange itemNamesSpec)) itemNamesCard

/-- THE SECOND FORM's CARD OF 'nearhandlaw09.ItemNames'. -/
def itemNamesUptoCard : Claim7 := { stood := { row := itemNamesUptoRow, standIns := [], harness := (true, "c68a635c85cc240fdf33fa75df217b9ed88485c99b9e1a2d215ddfcb69bc37b4"), looks := true }, kinds := [], alts := [], laidByText := true, laidKinds := [.data, .data, .widerDeep, .widerDeep, .data, .data, .data, .data, .data, .sentinel, .sentinel, .pinned, .pinned], laidTests := true, laidLooks := .later }
def ItemNamesUptoCardSaid : Prop := Claim7.holds Tryz.pinned (.plain (OpenSpec.upto itemNamesSpec)) itemNamesUptoCard
end Rows
end Go.Proofs.YtfljonmfkjblhaaGreatDoor
