/-
  DERIVED. GIVEN WITH THE SEED: THE CARDS: each row of YtepcaglekgeamaaGreatDoorRows.lean that lists a variable, with what it lists TIED to the program's text (the seventh form; the later family's looks); each row that meets fmt, with fmt's text TOLD by the authors' own Lean function (tested against real Go, not proved from fmt's source: count such statements apart). THE CARD IS WHAT COUNTS. Prove the row's statement (the work); the ties are given (YtepcaglekgeamaaGreatDoorTie.lean); close each card by the builder's one call (the guide's Derived/Test/ToyasCard.lean, 'card_holds'). Laid BY PROGRAM, IN A SANDBOX (cutbox-door.mjs). By AI agents, Wed Nov 11 2026. No macro, syntax, notation, axiom, sorry.
-/
import Derived.Test.YtepcaglekgeamaaGreatDoorRows
import GoSem.ClaimSeven
namespace Go.Proofs.YtepcaglekgeamaaGreatDoor
namespace Rows

/-- THE TIED CARD OF 'consignorlaw06.ClosureWalks'. -/
def closureWalksCard : Claim7 := { stood := { row := closureWalksRow, standIns := [], harness := (true, "12fa6f85b96fdae9c373d7717b815763e944cced8f62cc279a8bc49b6a351227"), looks := true }, kinds := [], alts := [], laidByText := true, laidKinds := [.data, .data, .data, .data, .handle, .sentinel, .sentinel, .sentinel, .sentinel, .data, .data, .pinned], laidTests := true, laidLooks := .later }
def ClosureWalksCardSaid : Prop := Claim7.holds Tryz.pinned (.plain (OpenSpec.ofChange closureWalksSpec)) closureWalksCard

/-- THE SECOND FORM's CARD OF 'consignorlaw06.ClosureWalks'. -/
def closureWalksUptoCard : Claim7 := { stood := { row := closureWalksUptoRow, standIns := [], harness := (true, "12fa6f85b96fdae9c373d7717b815763e944cced8f62cc279a8bc49b6a351227"), looks := true }, kinds := [], alts := [], laidByText := true, laidKinds := [.data, .data, .data, .data, .handle, .sentinel, .sentinel, .sentinel, .sentinel, .data, .data, .pinned], laidTests := true, laidLooks := .later }
def ClosureWalksUptoCardSaid : Prop := Claim7.holds Tryz.pinned (.plain (OpenSpec.upto closureWalksSpec)) closureWalksUptoCard
end Rows
end Go.Proofs.YtepcaglekgeamaaGreatDoor
