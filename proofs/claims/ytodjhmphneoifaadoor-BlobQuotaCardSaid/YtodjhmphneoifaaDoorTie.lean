/-
  DERIVED. GIVEN WITH THE SEED: THE PROGRAM's TIES (one call each: nine closed facts by the kernel) AND EACH ROW's TIE, after the 31st guide's Derived/Test/Toyas{Tie, Card}.lean. No idea stands in it: it is a product of the set-up. Laid BY PROGRAM, IN A SANDBOX (cutbox-door.mjs). By AI agents, Wed Nov 11 2026. No macro, syntax, notation, axiom, sorry.
-/
import Derived.Test.YtodjhmphneoifaaDoorRows
import Derived.LaidByTextLater
import Derived.SevenTiedAt
import Derived.LaidSub
import Derived.LaidOnce
namespace Go.Proofs.YtodjhmphneoifaaDoor
open Go
set_option maxRecDepth 100000
theorem seatTie1 : Tryd.prog.laidByTextLater [("errors.errorType", Rows.laid_errors_errorType), ("consignor/octet.errDigits", Rows.laid_consignor_octet_errDigits), ("consignor/octet.errShort", Rows.laid_consignor_octet_errShort), ("consignor/digest.squares", Rows.laid_consignor_digest_squares), ("consignor/digest.cubes", Rows.laid_consignor_digest_cubes)] [.handle, .sentinel, .sentinel, .data, .data] true :=
  Program.laidByTextLater_by_one 64 8 65 (by kernel_rfl) (by kernel_rfl) (by kernel_rfl) (by kernel_rfl) (by kernel_rfl) (by kernel_rfl) (fun _ _ => by kernel_rfl)
theorem noOwnUnsafe : Tryd.pinned.checked.prog.headLifts.contains "ownunsafe" = false := by kernel_rfl
theorem tie : Tryd.prog.laidByTextLater [("errors.errorType", Rows.laid_errors_errorType), ("consignor/octet.errDigits", Rows.laid_consignor_octet_errDigits), ("consignor/octet.errShort", Rows.laid_consignor_octet_errShort), ("consignor/digest.squares", Rows.laid_consignor_digest_squares), ("consignor/digest.cubes", Rows.laid_consignor_digest_cubes)] [.handle, .sentinel, .sentinel, .data, .data] true :=
  Program.laidByTextLater.sub seatTie1 ["errors.errorType", "consignor/octet.errDigits", "consignor/octet.errShort", "consignor/digest.squares", "consignor/digest.cubes"] (by kernel_rfl) (by kernel_rfl)
theorem blobPieces_row_tie : Rows.blobPiecesRow.laidByTextAt .later Tryd.pinned [.handle, .sentinel, .sentinel, .data, .data] true :=
  OpenClaim.laidByTextAt_later rfl rfl tie noOwnUnsafe
theorem blobQuota_row_tie : Rows.blobQuotaRow.laidByTextAt .later Tryd.pinned [.handle, .sentinel, .sentinel, .data, .data] true :=
  OpenClaim.laidByTextAt_later rfl rfl tie noOwnUnsafe
theorem blobApart_row_tie : Rows.blobApartRow.laidByTextAt .later Tryd.pinned [.handle, .sentinel, .sentinel, .data, .data] true :=
  OpenClaim.laidByTextAt_later rfl rfl tie noOwnUnsafe
theorem blobPiecesUpto_row_tie : Rows.blobPiecesUptoRow.laidByTextAt .later Tryd.pinned [.handle, .sentinel, .sentinel, .data, .data] true :=
  OpenClaim.laidByTextAt_later rfl rfl tie noOwnUnsafe
theorem blobQuotaUpto_row_tie : Rows.blobQuotaUptoRow.laidByTextAt .later Tryd.pinned [.handle, .sentinel, .sentinel, .data, .data] true :=
  OpenClaim.laidByTextAt_later rfl rfl tie noOwnUnsafe
theorem blobApartUpto_row_tie : Rows.blobApartUptoRow.laidByTextAt .later Tryd.pinned [.handle, .sentinel, .sentinel, .data, .data] true :=
  OpenClaim.laidByTextAt_later rfl rfl tie noOwnUnsafe
end Go.Proofs.YtodjhmphneoifaaDoor
