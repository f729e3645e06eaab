/-
  DERIVED. GIVEN WITH THE SEED: THE CARDS: each row of YtodjhmphneoifaaDoorRows.lean that lists a variable, with what it lists TIED to the program's text (the seventh form; the later family's looks); each row that meets fmt, with fmt's text TOLD by the authors' own Lean function (tested against real Go, not proved from fmt's source: count such statements apart). THE CARD IS WHAT COUNTS. Prove the row's statement (the work); the ties are given (YtodjhmphneoifaaDoorTie.lean); close each card by the builder's one call (the guide's Derived/Test/ToyasCard.lean, 'card_holds'). Laid BY PROGRAM, IN A SANDBOX (cutbox-door.mjs). By AI agents, Wed Nov 11 2026. No macro, syntax, notation, axiom, sorry.
-/
import Derived.Test.YtodjhmphneoifaaDoorRows
import GoSem.ClaimSeven
namespace Go.Proofs.YtodjhmphneoifaaDoor
namespace Rows

/-- THE TIED CARD OF 'consignorlaw11.BlobPieces'. -/
def blobPiecesCard : Claim7 := { stood := { row := blobPiecesRow, standIns := [], harness := (true, "6c5849ae1c55081b4d4be0c560b3319eed74a5b85e86599aadecf60e55762f50"), looks := true }, kinds := [], alts := [], laidByText := true, laidKinds := [.handle, .sentinel, .sentinel, .data, .data], laidTests := true, laidLooks := .later }
def BlobPiecesCardSaid : Prop := Claim7.holds Tryd.pinned (.plain (OpenSpec.ofChange blobPiecesSpec)) blobPiecesCard

/-- THE TIED CARD OF 'consignorlaw11.BlobQuota'. -/
def blobQuotaCard : Claim7 := { stood := { row := blobQuotaRow, standIns := [], harness := (true, "6c5849ae1c55081b4d4be0c560b3319eed74a5b85e86599aadecf60e55762f50"), looks := true }, kinds := [], alts := [], laidByText := true, laidKinds := [.handle, .sentinel, .sentinel, .data, .data], laidTests := true, laidLooks := .later }
def BlobQuotaCardSaid : Prop := Claim7.holds Tryd.pinned (.plain (OpenSpec.ofChange blobQuotaSpec)) blobQuotaCard

/-- THE TIED CARD OF 'consignorlaw11.BlobApart'. -/
def blobApartCard : Claim7 := { stood := { row := blobApartRow, standIns := [], harness := (true, "6c5849ae1c55081b4d4be0c560b3319eed74a5b85e86599aadecf60e55762f50"), looks := true }, kinds := [], alts := [], laidByText := true, laidKinds := [.handle, .sentinel, .sentinel, .data, .data], laidTests := true, laidLooks := .later }
def BlobApartCardSaid : Prop := Claim7.holds Tryd.pinned (.plain (OpenSpec.ofChange blobApartSpec)) blobApartCard

/-- THE SECOND FORM's CARD OF 'consignorlaw11.BlobPieces'. -/
def blobPiecesUptoCard : Claim7 := { stood := { row := blobPiecesUptoRow, standIns := [], harness := (true, "6c5849ae1c55081b4d4be0c560b3319eed74a5b85e86599aadecf60e55762f50"), looks := true }, kinds := [], alts := [], laidByText := true, laidKinds := [.handle, .sentinel, .sentinel, .data, .data], laidTests := true, laidLooks := .later }
def BlobPiecesUptoCardSaid : Prop := Claim7.holds Tryd.pinned (.plain (OpenSpec.upto blobPiecesSpec)) blobPiecesUptoCard

/-- THE SECOND FORM's CARD OF 'consignorlaw11.BlobQuota'. -/
def blobQuotaUptoCard : Claim7 := { stood := { row := blobQuotaUptoRow, standIns := [], harness := (true, "6c5849ae1c55081b4d4be0c560b3319eed74a5b85e86599aadecf60e55762f50"), looks := true }, kinds := [], alts := [], laidByText := true, laidKinds := [.handle, .sentinel, .sentinel, .data, .data], laidTests := true, laidLooks := .later }
def BlobQuotaUptoCardSaid : Prop := Claim7.holds Tryd.pinned (.plain (OpenSpec.upto blobQuotaSpec)) blobQuotaUptoCard

/-- THE SECOND FORM's CARD OF 'consignorlaw11.BlobApart'. -/
def blobApartUptoCard : Claim7 := { stood := { row := blobApartUptoRow, standIns := [], harness := (true, "6c5849ae1c55081b4d4be0c560b3319eed74a5b85e86599aadecf60e55762f50"), looks := true }, kinds := [], alts := [], laidByText := true, laidKinds := [.handle, .sentinel, .sentinel, .data, .data], laidTests := true, laidLooks := .later }
def BlobApartUptoCardSaid : Prop := Claim7.holds Tryd.pinned (.plain (OpenSpec.upto blobApartSpec)) blobApartUptoCard
end Rows
end Go.Proofs.YtodjhmphneoifaaDoor
