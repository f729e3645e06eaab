/-
  DERIVED. GIVEN WITH THE SEED: THE CARDS: each row of YtfcglnajdfpmhaaGreatDoorRows.lean that lists a variable, with what it lists TIED to the program's text (the seventh form; the later family's looks); each row that meets fmt, with fmt's text TOLD by the authors' own Lean function (tested against real Go, not proved from fmt's source: count such statements apart). THE CARD IS WHAT COUNTS. Prove the row's statement (the work); the ties are given (YtfcglnajdfpmhaaGreatDoorTie.lean); close each card by the builder's one call (the guide's Derived/Test/ToyasCard.lean, 'card_holds'). Laid BY PROGRAM, IN A SANDBOX (cutbox-door.mjs). By AI agents, Wed Nov 11 2026. No macro, syntax, notation, axiom, sorry.
-/
import Derived.Test.YtfcglnajdfpmhaaGreatDoorRows
import GoSem.ClaimSeven
namespace Go.Proofs.YtfcglnajdfpmhaaGreatDoor
namespace Rows

/-- THE TIED CARD OF 'consignorlaw05.ManifestPrints'. -/
def manifestPrintsCard : Claim7 := { stood := { row := manifestPrintsRow, standIns := [], harness := (true, "d3799b4f0fb8dfa0334a80a260dbaa6e1bc2a3cf19e9cb9d8c0ade8d11cfcb73"), looks := true }, kinds := [], alts := [], laidByText := true, laidKinds := [.data, .data, .data, .handle, .sentinel, .sentinel, .data, .data], laidTests := true, laidLooks := .later }
def ManifestPrintsCardSaid : Prop := Claim7.holds Tryz.pinned (.plain (OpenSpec.ofChange manifestPrintsSpec)) manifestPrintsCard

/-- THE TIED CARD OF 'consignorlaw05.ManifestParses'. -/
def manifestParsesCard : Claim7 := { stood := { row := manifestParsesRow, standIns := [], harness := (true, "d3799b4f0fb8dfa0334a80a260dbaa6e1bc2a3cf19e9cb9d8c0ade8d11cfcb73"), looks := true }, kinds := [], alts := [], laidByText := true, laidKinds := [.data, .data, .data, .data, .handle, .sentinel, .sentinel, .sentinel, .sentinel, .data, .data, .pinned], laidTests := true, laidLooks := .later }
def ManifestParsesCardSaid : Prop := Claim7.holds Tryz.pinned (.plain (OpenSpec.ofChange manifestParsesSpec)) manifestParsesCard

/-- THE TIED CARD OF 'consignorlaw05.ManifestBack'. -/
def manifestBackCard : Claim7 := { stood := { row := manifestBackRow, standIns := [], harness := (true, "d3799b4f0fb8dfa0334a80a260dbaa6e1bc2a3cf19e9cb9d8c0ade8d11cfcb73"), looks := true }, kinds := [], alts := [], laidByText := true, laidKinds := [.data, .data, .data, .data, .handle, .sentinel, .sentinel, .sentinel, .sentinel, .data, .data, .pinned], laidTests := true, laidLooks := .later }
def ManifestBackCardSaid : Prop := Claim7.holds Tryz.pinned (.plain (OpenSpec.ofChange manifestBackSpec)) manifestBackCard

/-- THE TIED CARD OF 'consignorlaw05.ManifestNeeds'. -/
def manifestNeedsCard : Claim7 := { stood := { row := manifestNeedsRow, standIns := [], harness := (true, "d3799b4f0fb8dfa0334a80a260dbaa6e1bc2a3cf19e9cb9d8c0ade8d11cfcb73"), looks := true }, kinds := [], alts := [], laidByText := true, laidKinds := [.data, .data, .data, .handle, .sentinel, .sentinel, .data, .data], laidTests := true, laidLooks := .later }
def ManifestNeedsCardSaid : Prop := Claim7.holds Tryz.pinned (.plain (OpenSpec.ofChange manifestNeedsSpec)) manifestNeedsCard

/-- THE TIED CARD OF 'consignorlaw05.ManifestApart'. -/
def manifestApartCard : Claim7 := { stood := { row := manifestApartRow, standIns := [], harness := (true, "d3799b4f0fb8dfa0334a80a260dbaa6e1bc2a3cf19e9cb9d8c0ade8d11cfcb73"), looks := true }, kinds := [], alts := [], laidByText := true, laidKinds := [.data, .data, .data, .data, .handle, .sentinel, .sentinel, .sentinel, .sentinel, .data, .data, .pinned], laidTests := true, laidLooks := .later }
def ManifestApartCardSaid : Prop := Claim7.holds Tryz.pinned (.plain (OpenSpec.ofChange manifestApartSpec)) manifestApartCard

/-- THE TIED CARD OF 'consignorlaw06.ClosureWalks'. -/
def closureWalksCard : Claim7 := { stood := { row := closureWalksRow, standIns := [], harness := (true, "d3799b4f0fb8dfa0334a80a260dbaa6e1bc2a3cf19e9cb9d8c0ade8d11cfcb73"), looks := true }, kinds := [], alts := [], laidByText := true, laidKinds := [.data, .data, .data, .data, .handle, .sentinel, .sentinel, .sentinel, .sentinel, .data, .data, .pinned], laidTests := true, laidLooks := .later }
def ClosureWalksCardSaid : Prop := Claim7.holds Tryz.pinned (.plain (OpenSpec.ofChange closureWalksSpec)) closureWalksCard

/-- THE TIED CARD OF 'consignorlaw06.ClosureOrder'. -/
def closureOrderCard : Claim7 := { stood := { row := closureOrderRow, standIns := [], harness := (true, "d3799b4f0fb8dfa0334a80a260dbaa6e1bc2a3cf19e9cb9d8c0ade8d11cfcb73"), looks := true }, kinds := [], alts := [], laidByText := true, laidKinds := [.data, .data, .data, .data, .handle, .sentinel, .sentinel, .sentinel, .sentinel, .data, .data, .pinned], laidTests := true, laidLooks := .later }
def ClosureOrderCardSaid : Prop := Claim7.holds Tryz.pinned (.plain (OpenSpec.ofChange closureOrderSpec)) closureOrderCard

/-- THE TIED CARD OF 'consignorlaw06.ClosureMore'. -/
def closureMoreCard : Claim7 := { stood := { row := closureMoreRow, standIns := [], harness := (true, "d3799b4f0fb8dfa0334a80a260dbaa6e1bc2a3cf19e9cb9d8c0ade8d11cfcb73"), looks := true }, kinds := [], alts := [], laidByText := true, laidKinds := [.data, .data, .data, .data, .handle, .sentinel, .sentinel, .sentinel, .sentinel, .data, .data, .pinned], laidTests := true, laidLooks := .later }
def ClosureMoreCardSaid : Prop := Claim7.holds Tryz.pinned (.plain (OpenSpec.ofChange closureMoreSpec)) closureMoreCard

/-- THE TIED CARD OF 'consignorlaw06.ClosureLacks'. -/
def closureLacksCard : Claim7 := { stood := { row := closureLacksRow, standIns := [], harness := (true, "d3799b4f0fb8dfa0334a80a260dbaa6e1bc2a3cf19e9cb9d8c0ade8d11cfcb73"), looks := true }, kinds := [], alts := [], laidByText := true, laidKinds := [.data, .data, .data, .data, .handle, .sentinel, .sentinel, .sentinel, .sentinel, .data, .data, .pinned], laidTests := true, laidLooks := .later }
def ClosureLacksCardSaid : Prop := Claim7.holds Tryz.pinned (.plain (OpenSpec.ofChange closureLacksSpec)) closureLacksCard

/-- THE SECOND FORM's CARD OF 'consignorlaw05.ManifestPrints'. -/
def manifestPrintsUptoCard : Claim7 := { stood := { row := manifestPrintsUptoRow, standIns := [], harness := (true, "d3799b4f0fb8dfa0334a80a260dbaa6e1bc2a3cf19e9cb9d8c0ade8d11cfcb73"), looks := true }, kinds := [], alts := [], laidByText := true, laidKinds := [.data, .data, .data, .handle, .sentinel, .sentinel, .data, .data], laidTests := true, laidLooks := .later }
def ManifestPrintsUptoCardSaid : Prop := Claim7.holds Tryz.pinned (.plain (OpenSpec.upto manifestPrintsSpec)) manifestPrintsUptoCard

/-- THE SECOND FORM's CARD OF 'consignorlaw05.ManifestParses'. -/
def manifestParsesUptoCard : Claim7 := { stood := { row := manifestParsesUptoRow, standIns := [], harness := (true, "d3799b4f0fb8dfa0334a80a260dbaa6e1bc2a3cf19e9cb9d8c0ade8d11cfcb73"), looks := true }, kinds := [], alts := [], laidByText := true, laidKinds := [.data, .data, .data, .data, .handle, .sentinel, .sentinel, .sentinel, .sentinel, .data, .data, .pinned], laidTests := true, laidLooks := .later }
def ManifestParsesUptoCardSaid : Prop := Claim7.holds Tryz.pinned (.plain (OpenSpec.upto manifestParsesSpec)) manifestParsesUptoCard

/-- THE SECOND FORM's CARD OF 'consignorlaw05.ManifestBack'. -/
def manifestBackUptoCard : Claim7 := { stood := { row := manifestBackUptoRow, standIns := [], harness := (true, "d3799b4f0fb8dfa0334a80a260dbaa6e1bc2a3cf19e9cb9d8c0ade8d11cfcb73"), looks := true }, kinds := [], alts := [], laidByText := true, laidKinds := [.data, .data, .data, .data, .handle, .sentinel, .sentinel, .sentinel, .sentinel, .data, .data, .pinned], laidTests := true, laidLooks := .later }
def ManifestBackUptoCardSaid : Prop := Claim7.holds Tryz.pinned (.plain (OpenSpec.upto manifestBackSpec)) manifestBackUptoCard

/-- THE SECOND FORM's CARD OF 'consignorlaw05.ManifestNeeds'. -/
def manifestNeedsUptoCard : Claim7 := { stood := { row := manifestNeedsUptoRow, standIns := [], harness := (true, "d3799b4f0fb8dfa0334a80a260dbaa6e1bc2a3cf19e9cb9d8c0ade8d11cfcb73"), looks := true }, kinds := [], alts := [], laidByText := true, laidKinds := [.data, .data, .data, .handle, .sentinel, .sentinel, .data, .data], laidTests := true, laidLooks := .later }
def ManifestNeedsUptoCardSaid : Prop := Claim7.holds Tryz.pinned (.plain (OpenSpec.upto manifestNeedsSpec)) manifestNeedsUptoCard

/-- THE SECOND FORM's CARD OF 'consignorlaw05.ManifestApart'. -/
def manifestApartUptoCard : Claim7 := { stood := { row := manifestApartUptoRow, standIns := [], harness := (true, "d3799b4f0fb8dfa0334a80a260dbaa6e1bc2a3cf19e9cb9d8c0ade8d11cfcb73"), looks := true }, kinds := [], alts := [], laidByText := true, laidKinds := [.data, .data, .data, .data, .handle, .sentinel, .sentinel, .sentinel, .sentinel, .data, .data, .pinned], laidTests := true, laidLooks := .later }
def ManifestApartUptoCardSaid : Prop := Claim7.holds Tryz.pinned (.plain (OpenSpec.upto manifestApartSpec)) manifestApartUptoCard

/-- THE SECOND FORM's CARD OF 'consignorlaw06.ClosureWalks'. -/
def closureWalksUptoCard : Claim7 := { stood := { row := closureWalksUptoRow, standIns := [], harness := (true, "d3799b4f0fb8dfa0334a80a260dbaa6e1bc2a3cf19e9cb9d8c0ade8d11cfcb73"), looks := true }, kinds := [], alts := [], laidByText := true, laidKinds := [.data, .data, .data, .data, .handle, .sentinel, .sentinel, .sentinel, .sentinel, .data, .data, .pinned], laidTests := true, laidLooks := .later }
def ClosureWalksUptoCardSaid : Prop := Claim7.holds Tryz.pinned (.plain (OpenSpec.upto closureWalksSpec)) closureWalksUptoCard

/-- THE SECOND FORM's CARD OF 'consignorlaw06.ClosureOrder'. -/
def closureOrderUptoCard : Claim7 := { stood := { row := closureOrderUptoRow, standIns := [], harness := (true, "d3799b4f0fb8dfa0334a80a260dbaa6e1bc2a3cf19e9cb9d8c0ade8d11cfcb73"), looks := true }, kinds := [], alts := [], laidByText := true, laidKinds := [.data, .data, .data, .data, .handle, .sentinel, .sentinel, .sentinel, .sentinel, .data, .data, .pinned], laidTests := true, laidLooks := .later }
def ClosureOrderUptoCardSaid : Prop := Claim7.holds Tryz.pinned (.plain (OpenSpec.upto closureOrderSpec)) closureOrderUptoCard

/-- THE SECOND FORM's CARD OF 'consignorlaw06.ClosureMore'. -/
def closureMoreUptoCard : Claim7 := { stood := { row := closureMoreUptoRow, standIns := [], harness := (true, "d3799b4f0fb8dfa0334a80a260dbaa6e1bc2a3cf19e9cb9d8c0ade8d11cfcb73"), looks := true }, kinds := [], alts := [], laidByText := true, laidKinds := [.data, .data, .data, .data, .handle, .sentinel, .sentinel, .sentinel, .sentinel, .data, .data, .pinned], laidTests := true, laidLooks := .later }
def ClosureMoreUptoCardSaid : Prop := Claim7.holds Tryz.pinned (.plain (OpenSpec.upto closureMoreSpec)) closureMoreUptoCard

/-- THE SECOND FORM's CARD OF 'consignorlaw06.ClosureLacks'. -/
def closureLacksUptoCard : Claim7 := { stood := { row := closureLacksUptoRow, standIns := [], harness := (true, "d3799b4f0fb8dfa0334a80a260dbaa6e1bc2a3cf19e9cb9d8c0ade8d11cfcb73"), looks := true }, kinds := [], alts := [], laidByText := true, laidKinds := [.data, .data, .data, .data, .handle, .sentinel, .sentinel, .sentinel, .sentinel, .data, .data, .pinned], laidTests := true, laidLooks := .later }
def ClosureLacksUptoCardSaid : Prop := Claim7.holds Tryz.pinned (.plain (OpenSpec.upto closureLacksSpec)) closureLacksUptoCard
end Rows
end Go.Proofs.YtfcglnajdfpmhaaGreatDoor
