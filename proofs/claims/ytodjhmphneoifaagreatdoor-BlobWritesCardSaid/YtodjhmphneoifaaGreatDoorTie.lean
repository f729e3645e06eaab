/-
  DERIVED. GIVEN WITH THE SEED: THE PROGRAM's TIES (one call each: nine closed facts by the kernel) AND EACH ROW's TIE, after the 31st guide's Derived/Test/Toyas{Tie, Card}.lean. No idea stands in it: it is a product of the set-up. Laid BY PROGRAM, IN A SANDBOX (cutbox-door.mjs). By AI agents, Wed Nov 11 2026. No macro, syntax, notation, axiom, sorry.
-/
import Derived.Test.YtodjhmphneoifaaGreatDoorRows
import Derived.LaidByTextLater
import Derived.SevenTiedAt
import Derived.LaidSub
import Derived.LaidOnce
namespace Go.Proofs.YtodjhmphneoifaaGreatDoor
open Go
set_option maxRecDepth 100000
theorem seatTie1 : Tryz.prog.laidByTextLater [("errors.errorType", Rows.laid_errors_errorType), ("consignor/octet.errDigits", Rows.laid_consignor_octet_errDigits), ("consignor/octet.errShort", Rows.laid_consignor_octet_errShort), ("consignor/digest.squares", Rows.laid_consignor_digest_squares), ("consignor/digest.cubes", Rows.laid_consignor_digest_cubes)] [.handle, .sentinel, .sentinel, .data, .data] true :=
  Program.laidByTextLater_by_one 64 8 65 (by kernel_rfl) (by kernel_rfl) (by kernel_rfl) (by kernel_rfl) (by kernel_rfl) (by kernel_rfl) (fun _ _ => by kernel_rfl)
theorem noOwnUnsafe : Tryz.pinned.checked.prog.headLifts.contains "ownunsafe" = false := by kernel_rfl
theorem tie : Tryz.prog.laidByTextLater [("errors.errorType", Rows.laid_errors_errorType), ("consignor/octet.errDigits", Rows.laid_consignor_octet_errDigits), ("consignor/octet.errShort", Rows.laid_consignor_octet_errShort), ("consignor/digest.squares", Rows.laid_consignor_digest_squares), ("consignor/digest.cubes", Rows.laid_consignor_digest_cubes)] [.handle, .sentinel, .sentinel, .data, .data] true :=
  Program.laidByTextLater.sub seatTie1 ["errors.errorType", "consignor/octet.errDigits", "consignor/octet.errShort", "consignor/digest.squares", "consignor/digest.cubes"] (by kernel_rfl) (by kernel_rfl)
theorem blobReads_row_tie : Rows.blobReadsRow.laidByTextAt .later Tryz.pinned [.handle, .sentinel, .sentinel, .data, .data] true :=
  OpenClaim.laidByTextAt_later rfl rfl tie noOwnUnsafe
theorem blobWrites_row_tie : Rows.blobWritesRow.laidByTextAt .later Tryz.pinned [.handle, .sentinel, .sentinel, .data, .data] true :=
  OpenClaim.laidByTextAt_later rfl rfl tie noOwnUnsafe
theorem blobStays_row_tie : Rows.blobStaysRow.laidByTextAt .later Tryz.pinned [.handle, .sentinel, .sentinel, .data, .data] true :=
  OpenClaim.laidByTextAt_later rfl rfl tie noOwnUnsafe
theorem blobReadsUpto_row_tie : Rows.blobReadsUptoRow.laidByTextAt .later Tryz.pinned [.handle, .sentinel, .sentinel, .data, .data] true :=
  OpenClaim.laidByTextAt_later rfl rfl tie noOwnUnsafe
theorem blobWritesUpto_row_tie : Rows.blobWritesUptoRow.laidByTextAt .later Tryz.pinned [.handle, .sentinel, .sentinel, .data, .data] true :=
  OpenClaim.laidByTextAt_later rfl rfl tie noOwnUnsafe
theorem blobStaysUpto_row_tie : Rows.blobStaysUptoRow.laidByTextAt .later Tryz.pinned [.handle, .sentinel, .sentinel, .data, .data] true :=
  OpenClaim.laidByTextAt_later rfl rfl tie noOwnUnsafe
end Go.Proofs.YtodjhmphneoifaaGreatDoor
