/-
  DERIVED. GIVEN WITH THE SEED: THE CARDS: each row of YtlhnefeeihghgaaGreatDoorRows.lean that lists a variable, with what it lists TIED to the program's text (the seventh form; the later family's looks); each row that meets fmt, with fmt's text TOLD by the authors' own Lean function (tested against real Go, not proved from fmt's source: count such statements apart). THE CARD IS WHAT COUNTS. Prove the row's statement (the work); the ties are given (YtlhnefeeihghgaaGreatDoorTie.lean); close each card by the builder's one call (the guide's Derived/Test/ToyasCard.lean, 'card_holds'). Laid BY PROGRAM, IN A SANDBOX (cutbox-door.mjs). By AI agents, Wed Nov 11 2026. No macro, syntax, notation, axiom, sorry.
-/
import Derived.Test.YtlhnefeeihghgaaGreatDoorRows
import GoSem.ClaimSeven
namespace Go.Proofs.YtlhnefeeihghgaaGreatDoor
namespace Rows

/-- THE TIED CARD OF 'consignorlaw04.TextPrints'. -/
def textPrintsCard : Claim7 := { stood := { row := textPrintsRow, standIns := [], harness := (true, "b71c269224a01d22d13f06fdabd0ccbcd8cc02dbf83c5bf51cbe9f47f28fc097"), looks := true }, kinds := [], alts := [], laidByText := true, laidKinds := [.data, .data, .data, .data, .sentinel, .sentinel, .pinned], laidTests := true, laidLooks := .later }
def TextPrintsCardSaid : Prop := Claim7.holds Tryz.pinned (.plain (OpenSpec.ofChange textPrintsSpec)) textPrintsCard

/-- THE TIED CARD OF 'consignorlaw05.ManifestPrints'. -/
def manifestPrintsCard : Claim7 := { stood := { row := manifestPrintsRow, standIns := [], harness := (true, "b71c269224a01d22d13f06fdabd0ccbcd8cc02dbf83c5bf51cbe9f47f28fc097"), looks := true }, kinds := [], alts := [], laidByText := true, laidKinds := [.data, .data, .data, .handle, .sentinel, .sentinel, .data, .data], laidTests := true, laidLooks := .later }
def ManifestPrintsCardSaid : Prop := Claim7.holds Tryz.pinned (.plain (OpenSpec.ofChange manifestPrintsSpec)) manifestPrintsCard

/-- THE TIED CARD OF 'consignorlaw05.ManifestParses'. -/
def manifestParsesCard : Claim7 := { stood := { row := manifestParsesRow, standIns := [], harness := (true, "b71c269224a01d22d13f06fdabd0ccbcd8cc02dbf83c5bf51cbe9f47f28fc097"), looks := true }, kinds := [], alts := [], laidByText := true, laidKinds := [.data, .data, .data, .data, .handle, .sentinel, .sentinel, .sentinel, .sentinel, .data, .data, .pinned], laidTests := true, laidLooks := .later }
def ManifestParsesCardSaid : Prop := Claim7.holds Tryz.pinned (.plain (OpenSpec.ofChange manifestParsesSpec)) manifestParsesCard

/-- THE TIED CARD OF 'consignorlaw05.ManifestBack'. -/
def manifestBackCard : Claim7 := { stood := { row := manifestBackRow, standIns := [], harness := (true, "b71c269224a01d22d13f06fdabd0ccbcd8cc02dbf83c5bf51cbe9f47f28fc097"), looks := true }, kinds := [], alts := [], laidByText := true, laidKinds := [.data, .data, .data, .data, .handle, .sentinel, .sentinel, .sentinel, .sentinel, .data, .data, .pinned], laidTests := true, laidLooks := .later }
def ManifestBackCardSaid : Prop := Claim7.holds Tryz.pinned (.plain (OpenSpec.ofChange manifestBackSpec)) manifestBackCard

/-- THE TIED CARD OF 'consignorlaw05.ManifestNeeds'. -/
def manifestNeedsCard : Claim7 := { stood := { row := manifestNeedsRow, standIns := [], harness := (true, "b71c269224a01d22d13f06fdabd0ccbcd8cc02dbf83c5bf51cbe9f47f28fc097"), looks := true }, kinds := [], alts := [], laidByText := true, laidKinds := [.data, .data, .data, .handle, .sentinel, .sentinel, .data, .data], laidTests := true, laidLooks := .later }
def ManifestNeedsCardSaid : Prop := Claim7.holds Tryz.pinned (.plain (OpenSpec.ofChange manifestNeedsSpec)) manifestNeedsCard

/-- THE TIED CARD OF 'consignorlaw05.ManifestApart'. -/
def manifestApartCard : Claim7 := { stood := { row := manifestApartRow, standIns := [], harness := (true, "b71c269224a01d22d13f06fdabd0ccbcd8cc02dbf83c5bf51cbe9f47f28fc097"), looks := true }, kinds := [], alts := [], laidByText := true, laidKinds := [.data, .data, .data, .data, .handle, .sentinel, .sentinel, .sentinel, .sentinel, .data, .data, .pinned], laidTests := true, laidLooks := .later }
def ManifestApartCardSaid : Prop := Claim7.holds Tryz.pinned (.plain (OpenSpec.ofChange manifestApartSpec)) manifestApartCard

/-- THE SECOND FORM's CARD OF 'consignorlaw04.TextPrints'. -/
def textPrintsUptoCard : Claim7 := { stood := { row := textPrintsUptoRow, standIns := [], harness := (true, "b71c269224a01d22d13f06fdabd0ccbcd8cc02dbf83c5bf51cbe9f47f28fc097"), looks := true }, kinds := [], alts := [], laidByText := true, laidKinds := [.data, .data, .data, .data, .sentinel, .sentinel, .pinned], laidTests := true, laidLooks := .later }
def TextPrintsUptoCardSaid : Prop := Claim7.holds Tryz.pinned (.plain (OpenSpec.upto textPrintsSpec)) textPrintsUptoCard

/-- THE SECOND FORM's CARD OF 'consignorlaw05.ManifestPrints'. -/
def manifestPrintsUptoCard : Claim7 := { stood := { row := manifestPrintsUptoRow, standIns := [], harness := (true, "b71c269224a01d22d13f06fdabd0ccbcd8cc02dbf83c5bf51cbe9f47f28fc097"), looks := true }, kinds := [], alts := [], laidByText := true, laidKinds := [.data, .data, .data, .handle, .sentinel, .sentinel, .data, .data], laidTests := true, laidLooks := .later }
def ManifestPrintsUptoCardSaid : Prop := Claim7.holds Tryz.pinned (.plain (OpenSpec.upto manifestPrintsSpec)) manifestPrintsUptoCard

/-- THE SECOND FORM's CARD OF 'consignorlaw05.ManifestParses'. -/
def manifestParsesUptoCard : Claim7 := { stood := { row := manifestParsesUptoRow, standIns := [], harness := (true, "b71c269224a01d22d13f06fdabd0ccbcd8cc02dbf83c5bf51cbe9f47f28fc097"), looks := true }, kinds := [], alts := [], laidByText := true, laidKinds := [.data, .data, .data, .data, .handle, .sentinel, .sentinel, .sentinel, .sentinel, .data, .data, .pinned], laidTests := true, laidLooks := .later }
def ManifestParsesUptoCardSaid : Prop := Claim7.holds Tryz.pinned (.plain (OpenSpec.upto manifestParsesSpec)) manifestParsesUptoCard

/-- THE SECOND FORM's CARD OF 'consignorlaw05.ManifestBack'. -/
def manifestBackUptoCard : Claim7 := { stood := { row := manifestBackUptoRow, standIns := [], harness := (true, "b71c269224a01d22d13f06fdabd0ccbcd8cc02dbf83c5bf51cbe9f47f28fc097"), looks := true }, kinds := [], alts := [], laidByText := true, laidKinds := [.data, .data, .data, .data, .handle, .sentinel, .sentinel, .sentinel, .sentinel, .data, .data, .pinned], laidTests := true, laidLooks := .later }
def ManifestBackUptoCardSaid : Prop := Claim7.holds Tryz.pinned (.plain (OpenSpec.upto manifestBackSpec)) manifestBackUptoCard

/-- THE SECOND FORM's CARD OF 'consignorlaw05.ManifestNeeds'. -/
def manifestNeedsUptoCard : Claim7 := { stood := { row := manifestNeedsUptoRow, standIns := [], harness := (true, "b71c269224a01d22d13f06fdabd0ccbcd8cc02dbf83c5bf51cbe9f47f28fc097"), looks := true }, kinds := [], alts := [], laidByText := true, laidKinds := [.data, .data, .data, .handle, .sentinel, .sentinel, .data, .data], laidTests := true, laidLooks := .later }
def ManifestNeedsUptoCardSaid : Prop := Claim7.holds Tryz.pinned (.plain (OpenSpec.upto manifestNeedsSpec)) manifestNeedsUptoCard

/-- THE SECOND FORM's CARD OF 'consignorlaw05.ManifestApart'. -/
def manifestApartUptoCard : Claim7 := { stood := { row := manifestApartUptoRow, standIns := [], harness := (true, "b71c269224a01d22d13f06fdabd0ccbcd8cc02dbf83c5bf51cbe9f47f28fc097"), looks := true }, kinds := [], alts := [], laidByText := true, laidKinds := [.data, .data, .data, .data, .handle, .sentinel, .sentinel, .sentinel, .sentinel, .data, .data, .pinned], laidTests := true, laidLooks := .later }
def ManifestApartUptoCardSaid : Prop := Claim7.holds Tryz.pinned (.plain (OpenSpec.upto manifestApartSpec)) manifestApartUptoCard
end Rows
end Go.Proofs.YtlhnefeeihghgaaGreatDoor
