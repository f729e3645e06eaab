/-
  DERIVED. GIVEN WITH THE SEED: THE CARDS: each row of YtodjhmphneoifaaGreatDoorRows.lean that lists a variable, with what it lists TIED to the program's text (the seventh form; the later family's looks); each row that meets fmt, with fmt's text TOLD by the authors' own Lean function (tested against real Go, not proved from fmt's source: count such statements apart). THE CARD IS WHAT COUNTS. Prove the row's statement (the work); the ties are given (YtodjhmphneoifaaGreatDoorTie.lean); close each card by the builder's one call (the guide's Derived/Test/ToyasCard.lean, 'card_holds'). Laid BY PROGRAM, IN A SANDBOX (cutbox-door.mjs). By AI agents, Wed Nov 11 2026. No macro, syntax, notation, axiom, sorry.
-/
import Derived.Test.YtodjhmphneoifaaGreatDoorRows
import GoSem.ClaimSeven
namespace Go.Proofs.YtodjhmphneoifaaGreatDoor
namespace Rows

/-- THE TIED CARD OF 'consignorlaw11.BlobReads'. -/
def blobReadsCard : Claim7 := { stood := { row := blobReadsRow, standIns := [], harness := (true, "9f5a45e236ade2cc84c278cfa75b0fe2553d85bfedb346648070c94516062435"), looks := true }, kinds := [], alts := [], laidByText := true, laidKinds := [.handle, .sentinel, .sentinel, .data, .data], laidTests := true, laidLooks := .later }
def BlobReadsCardSaid : Prop := Claim7.holds Tryz.pinned (.plain (OpenSpec.ofChange blobReadsSpec)) blobReadsCard

/-- THE TIED CARD OF 'consignorlaw11.BlobWrites'. -/
def blobWritesCard : Claim7 := { stood := { row := blobWritesRow, standIns := [], harness := (true, "9f5a45e236ade2cc84c278cfa75b0fe2553d85bfedb346648070c94516062435"), looks := true }, kinds := [], alts := [], laidByText := true, laidKinds := [.handle, .sentinel, .sentinel, .data, .data], laidTests := true, laidLooks := .later }
def BlobWritesCardSaid : Prop := Claim7.holds Tryz.pinned (.plain (OpenSpec.ofChange blobWritesSpec)) blobWritesCard

/-- THE TIED CARD OF 'consignorlaw11.BlobStays'. -/
def blobStaysCard : Claim7 := { stood := { row := blobStaysRow, standIns := [], harness := (true, "9f5a45e236ade2cc84c278cfa75b0fe2553d85bfedb346648070c94516062435"), looks := true }, kinds := [], alts := [], laidByText := true, laidKinds := [.handle, .sentinel, .sentinel, .data, .data], laidTests := true, laidLooks := .later }
def BlobStaysCardSaid : Prop := Claim7.holds Tryz.pinned (.plain (OpenSpec.ofChange blobStaysSpec)) blobStaysCard

/-- THE SECOND FORM's CARD OF 'consignorlaw11.BlobReads'. -/
def blobReadsUptoCard : Claim7 := { stood := { row := blobReadsUptoRow, standIns := [], harness := (true, "9f5a45e236ade2cc84c278cfa75b0fe2553d85bfedb346648070c94516062435"), looks := true }, kinds := [], alts := [], laidByText := true, laidKinds := [.handle, .sentinel, .sentinel, .data, .data], laidTests := true, laidLooks := .later }
def BlobReadsUptoCardSaid : Prop := Claim7.holds Tryz.pinned (.plain (OpenSpec.upto blobReadsSpec)) blobReadsUptoCard

/-- THE SECOND FORM's CARD OF 'consignorlaw11.BlobWrites'. -/
def blobWritesUptoCard : Claim7 := { stood := { row := blobWritesUptoRow, standIns := [], harness := (true, "9f5a45e236ade2cc84c278cfa75b0fe2553d85bfedb346648070c94516062435"), looks := true }, kinds := [], alts := [], laidByText := true, laidKinds := [.handle, .sentinel, .sentinel, .data, .data], laidTests := true, laidLooks := .later }
def BlobWritesUptoCardSaid : Prop := Claim7.holds Tryz.pinned (.plain (OpenSpec.upto blobWritesSpec)) blobWritesUptoCard

/-- THE SECOND FORM's CARD OF 'consignorlaw11.BlobStays'. -/
def blobStaysUptoCard : Claim7 := { stood := { row := blobStaysUptoRow, standIns := [], harness := (true, "9f5a45e236ade2cc84c278cfa75b0fe2553d85bfedb346648070c94516062435"), looks := true }, kinds := [], alts := [], laidByText := true, laidKinds := [.handle, .sentinel, .sentinel, .data, .data], laidTests := true, laidLooks := .later }
def BlobStaysUptoCardSaid : Prop := Claim7.holds Tryz.pinned (.plain (OpenSpec.upto blobStaysSpec)) blobStaysUptoCard
end Rows
end Go.Proofs.YtodjhmphneoifaaGreatDoor
