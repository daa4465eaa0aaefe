/-
  DERIVED. GIVEN WITH THE SEED: THE CARDS: each row of YtjjphpklifbipaaDoorRows.lean that lists a variable, with what it lists TIED to the program's text (the seventh form; the later family's looks); each row that meets fmt, with fmt's text TOLD by the authors' own Lean function (tested against real Go, not proved from fmt's source: count such statements apart). THE CARD IS WHAT COUNTS. Prove the row's statement (the work); the ties are given (YtjjphpklifbipaaDoorTie.lean); close each card by the builder's one call (the guide's Derived/Test/ToyasCard.lean, 'card_holds'). Laid BY PROGRAM, IN A SANDBOX (cutbox-door.mjs). By AI agents, Wed Nov 11 2026. No macro, syntax, notation, axiom, sorry.
-/
import Derived.Test.YtjjphpklifbipaaDoorRows
import GoSem.ClaimSeven
namespace Go.Proofs.YtjjphpklifbipaaDoor
namespace Rows

/-- THE TIED CARD OF 'nearhandlaw09.ItemChecks'. -/
def itemChecksCard : Claim7 := { stood := { row := itemChecksRow, standIns := [], harness := (true, "3788408b9f54fff86dfd556526cfce2540ca14a501f295a7ccad887fc7067f8d"), looks := true }, kinds := [], alts := [], laidByText := true, laidKinds := [.data, .data, .data, .sentinel, .sentinel], laidTests := true, laidLooks := .later }
def ItemChecksCardSaid : Prop := Claim7.holds Tryd.pinned (.plain (OpenSpec.ofChange itemChecksSpec)) itemChecksCard

/-- THE TIED CARD OF 'nearhandlaw09.ItemTexts'. -/
def itemTextsCard : Claim7 := { stood := { row := itemTextsRow, standIns := [], harness := (true, "3788408b9f54fff86dfd556526cfce2540ca14a501f295a7ccad887fc7067f8d"), looks := true }, kinds := [], alts := [], laidByText := true, laidKinds := [.data, .data, .data, .sentinel, .sentinel], laidTests := true, laidLooks := .later }
def ItemTextsCardSaid : Prop := Claim7.holds Tryd.pinned (.plain (OpenSpec.ofChange itemTextsSpec)) itemTextsCard

/-- THE TIED CARD OF 'nearhandlaw09.ItemBack'. -/
def itemBackCard : Claim7 := { stood := { row := itemBackRow, standIns := [], harness := (true, "3788408b9f54fff86dfd556526cfce2540ca14a501f295a7ccad887fc7067f8d"), looks := true }, kinds := [], alts := [], laidByText := true, laidKinds := [.data, .data, .data, .sentinel, .sentinel], laidTests := true, laidLooks := .later }
def ItemBackCardSaid : Prop := Claim7.holds Tryd.pinned (.plain (OpenSpec.ofChange itemBackSpec)) itemBackCard

/-- THE TIED CARD OF 'nearhandlaw09.ItemFields'. -/
def itemFieldsCard : Claim7 := { stood := { row := itemFieldsRow, standIns := [], harness := (true, "3788408b9f54fff86dfd556526cfce2540ca14a501f295a7ccad887fc7067f8d"), looks := true }, kinds := [], alts := [], laidByText := true, laidKinds := [.data, .data, .data, .sentinel, .sentinel], laidTests := true, laidLooks := .later }
def ItemFieldsCardSaid : Prop := Claim7.holds Tryd.pinned (.plain (OpenSpec.ofChange itemFieldsSpec)) itemFieldsCard

/-- THE TIED CARD OF 'nearhandlaw09.ItemCosts'. -/
def itemCostsCard : Claim7 := { stood := { row := itemCostsRow, standIns := [], harness := (true, "3788408b9f54fff86dfd556526cfce2540ca14a501f295a7ccad887fc7067f8d"), looks := true }, kinds := [], alts := [], laidByText := true, laidKinds := [.data, .data, .data, .sentinel, .sentinel], laidTests := true, laidLooks := .later }
def ItemCostsCardSaid : Prop := Claim7.holds Tryd.pinned (.plain (OpenSpec.ofChange itemCostsSpec)) itemCostsCard

/-- THE SECOND FORM's CARD OF 'nearhandlaw09.ItemChecks'. -/
def itemChecksUptoCard : Claim7 := { stood := { row := itemChecksUptoRow, standIns := [], harness := (true, "3788408b9f54fff86dfd556526cfce2540ca14a501f295a7ccad887fc7067f8d"), looks := true }, kinds := [], alts := [], laidByText := true, laidKinds := [.data, .data, .data, .sentinel, .sentinel], laidTests := true, laidLooks := .later }
def ItemChecksUptoCardSaid : Prop := Claim7.holds Tryd.pinned (.plain (OpenSpec.upto itemChecksSpec)) itemChecksUptoCard

/-- THE SECOND FORM's CARD OF 'nearhandlaw09.ItemTexts'. -/
def itemTextsUptoCard : Claim7 := { stood := { row := itemTextsUptoRow, standIns := [], harness := (true, "3788408b9f54fff86dfd556526cfce2540ca14a501f295a7ccad887fc7067f8d"), looks := true }, kinds := [], alts := [], laidByText := true, laidKinds := [.data, .data, .data, .sentinel, .sentinel], laidTests := true, laidLooks := .later }
def ItemTextsUptoCardSaid : Prop := Claim7.holds Tryd.pinned (.plain (OpenSpec.upto itemTextsSpec)) itemTextsUptoCard

/-- THE SECOND FORM's CARD OF 'nearhandlaw09.ItemBack'. -/
def itemBackUptoCard : Claim7 := { stood := { row := itemBackUptoRow, standIns := [], harness := (true, "3788408b9f54fff86dfd556526cfce2540ca14a501f295a7ccad887fc7067f8d"), looks := true }, kinds := [], alts := [], laidByText := true, laidKinds := [.data, .data, .data, .sentinel, .sentinel], laidTests := true, laidLooks := .later }
def ItemBackUptoCardSaid : Prop := Claim7.holds Tryd.pinned (.plain (OpenSpec.upto itemBackSpec)) itemBackUptoCard

/-- THE SECOND FORM's CARD OF 'nearhandlaw09.ItemFields'. -/
def itemFieldsUptoCard : Claim7 := { stood := { row := itemFieldsUptoRow, standIns := [], harness := (true, "3788408b9f54fff86dfd556526cfce2540ca14a501f295a7ccad887fc7067f8d"), looks := true }, kinds := [], alts := [], laidByText := true, laidKinds := [.data, .data, .data, .sentinel, .sentinel], laidTests := true, laidLooks := .later }
def ItemFieldsUptoCardSaid : Prop := Claim7.holds Tryd.pinned (.plain (OpenSpec.upto itemFieldsSpec)) itemFieldsUptoCard

/-- THE SECOND FORM's CARD OF 'nearhandlaw09.ItemCosts'. -/
def itemCostsUptoCard : Claim7 := { stood := { row := itemCostsUptoRow, standIns := [], harness := (true, "3788408b9f54fff86dfd556526cfce2540ca14a501f295a7ccad887fc7067f8d"), looks := true }, kinds := [], alts := [], laidByText := true, laidKinds := [.data, .data, .data, .sentinel, .sentinel], laidTests := true, laidLooks := .later }
def ItemCostsUptoCardSaid : Prop := Claim7.holds Tryd.pinned (.plain (OpenSpec.upto itemCostsSpec)) itemCostsUptoCard
end Rows
end Go.Proofs.YtjjphpklifbipaaDoor
