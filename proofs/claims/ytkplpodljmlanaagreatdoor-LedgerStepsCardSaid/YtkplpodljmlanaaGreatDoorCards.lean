/-
  DERIVED. GIVEN WITH THE SEED: THE CARDS: each row of YtkplpodljmlanaaGreatDoorRows.lean that lists a variable, with what it lists TIED to the program's text (the seventh form; the later family's looks); each row that meets fmt, with fmt's text TOLD by the authors' own Lean function (tested against real Go, not proved from fmt's source: count such statements apart). THE CARD IS WHAT COUNTS. Prove the row's statement (the work); the ties are given (YtkplpodljmlanaaGreatDoorTie.lean); close each card by the builder's one call (the guide's Derived/Test/ToyasCard.lean, 'card_holds'). Laid BY PROGRAM, IN A SANDBOX (cutbox-door.mjs). By AI agents, Wed Nov 11 2026. No macro, syntax, notation, axiom, sorry.
-/
import Derived.Test.YtkplpodljmlanaaGreatDoorRows
import GoSem.ClaimSeven
namespace Go.Proofs.YtkplpodljmlanaaGreatDoor
namespace Rows

/-- THE TIED CARD OF 'consignorlaw10.LedgerOpens'. -/
def ledgerOpensCard : Claim7 := { stood := { row := ledgerOpensRow, standIns := [], harness := (true, "c81e2b4b219455f19a97a85fc66a44e2ff62c32a0773017ce7f1273772b71ba6"), looks := true }, kinds := [], alts := [], laidByText := true, laidKinds := [.handle, .sentinel, .sentinel, .sentinel], laidTests := true, laidLooks := .later }
def LedgerOpensCardSaid : Prop := Claim7.holds Tryz.pinned (.plain (OpenSpec.ofChange ledgerOpensSpec)) ledgerOpensCard

/-- THE TIED CARD OF 'consignorlaw10.LedgerSteps'. -/
def ledgerStepsCard : Claim7 := { stood := { row := ledgerStepsRow, standIns := [], harness := (true, "c81e2b4b219455f19a97a85fc66a44e2ff62c32a0773017ce7f1273772b71ba6"), looks := true }, kinds := [], alts := [], laidByText := true, laidKinds := [.handle, .sentinel, .sentinel, .sentinel], laidTests := true, laidLooks := .later }
def LedgerStepsCardSaid : Prop := Claim7.holds Tryz.pinned (.plain (OpenSpec.ofChange ledgerStepsSpec)) ledgerStepsCard

/-- THE TIED CARD OF 'consignorlaw10.LedgerCrashes'. -/
def ledgerCrashesCard : Claim7 := { stood := { row := ledgerCrashesRow, standIns := [], harness := (true, "c81e2b4b219455f19a97a85fc66a44e2ff62c32a0773017ce7f1273772b71ba6"), looks := true }, kinds := [], alts := [], laidByText := true, laidKinds := [.handle, .sentinel, .sentinel, .sentinel], laidTests := true, laidLooks := .later }
def LedgerCrashesCardSaid : Prop := Claim7.holds Tryz.pinned (.plain (OpenSpec.ofChange ledgerCrashesSpec)) ledgerCrashesCard

/-- THE TIED CARD OF 'consignorlaw10.LedgerGoes'. -/
def ledgerGoesCard : Claim7 := { stood := { row := ledgerGoesRow, standIns := [], harness := (true, "c81e2b4b219455f19a97a85fc66a44e2ff62c32a0773017ce7f1273772b71ba6"), looks := true }, kinds := [], alts := [], laidByText := true, laidKinds := [.handle, .sentinel, .sentinel, .sentinel], laidTests := true, laidLooks := .later }
def LedgerGoesCardSaid : Prop := Claim7.holds Tryz.pinned (.plain (OpenSpec.ofChange ledgerGoesSpec)) ledgerGoesCard

/-- THE TIED CARD OF 'consignorlaw10.LedgerHalves'. -/
def ledgerHalvesCard : Claim7 := { stood := { row := ledgerHalvesRow, standIns := [], harness := (true, "c81e2b4b219455f19a97a85fc66a44e2ff62c32a0773017ce7f1273772b71ba6"), looks := true }, kinds := [], alts := [], laidByText := true, laidKinds := [.handle, .sentinel, .sentinel, .sentinel], laidTests := true, laidLooks := .later }
def LedgerHalvesCardSaid : Prop := Claim7.holds Tryz.pinned (.plain (OpenSpec.ofChange ledgerHalvesSpec)) ledgerHalvesCard

/-- THE TIED CARD OF 'consignorlaw10.LedgerFills'. -/
def ledgerFillsCard : Claim7 := { stood := { row := ledgerFillsRow, standIns := [], harness := (true, "c81e2b4b219455f19a97a85fc66a44e2ff62c32a0773017ce7f1273772b71ba6"), looks := true }, kinds := [], alts := [], laidByText := true, laidKinds := [.handle, .sentinel, .sentinel, .sentinel], laidTests := true, laidLooks := .later }
def LedgerFillsCardSaid : Prop := Claim7.holds Tryz.pinned (.plain (OpenSpec.ofChange ledgerFillsSpec)) ledgerFillsCard

/-- THE TIED CARD OF 'consignorlaw10.LedgerOrder'. -/
def ledgerOrderCard : Claim7 := { stood := { row := ledgerOrderRow, standIns := [], harness := (true, "c81e2b4b219455f19a97a85fc66a44e2ff62c32a0773017ce7f1273772b71ba6"), looks := true }, kinds := [], alts := [], laidByText := true, laidKinds := [.handle, .sentinel, .sentinel, .sentinel], laidTests := true, laidLooks := .later }
def LedgerOrderCardSaid : Prop := Claim7.holds Tryz.pinned (.plain (OpenSpec.ofChange ledgerOrderSpec)) ledgerOrderCard

/-- THE TIED CARD OF 'consignorlaw10.LedgerOther'. -/
def ledgerOtherCard : Claim7 := { stood := { row := ledgerOtherRow, standIns := [], harness := (true, "c81e2b4b219455f19a97a85fc66a44e2ff62c32a0773017ce7f1273772b71ba6"), looks := true }, kinds := [], alts := [], laidByText := true, laidKinds := [.handle, .sentinel, .sentinel, .sentinel], laidTests := true, laidLooks := .later }
def LedgerOtherCardSaid : Prop := Claim7.holds Tryz.pinned (.plain (OpenSpec.ofChange ledgerOtherSpec)) ledgerOtherCard

/-- THE SECOND FORM's CARD OF 'consignorlaw10.LedgerOpens'. -/
def ledgerOpensUptoCard : Claim7 := { stood := { row := ledgerOpensUptoRow, standIns := [], harness := (true, "c81e2b4b219455f19a97a85fc66a44e2ff62c32a0773017ce7f1273772b71ba6"), looks := true }, kinds := [], alts := [], laidByText := true, laidKinds := [.handle, .sentinel, .sentinel, .sentinel], laidTests := true, laidLooks := .later }
def LedgerOpensUptoCardSaid : Prop := Claim7.holds Tryz.pinned (.plain (OpenSpec.upto ledgerOpensSpec)) ledgerOpensUptoCard

/-- THE SECOND FORM's CARD OF 'consignorlaw10.LedgerSteps'. -/
def ledgerStepsUptoCard : Claim7 := { stood := { row := ledgerStepsUptoRow, standIns := [], harness := (true, "c81e2b4b219455f19a97a85fc66a44e2ff62c32a0773017ce7f1273772b71ba6"), looks := true }, kinds := [], alts := [], laidByText := true, laidKinds := [.handle, .sentinel, .sentinel, .sentinel], laidTests := true, laidLooks := .later }
def LedgerStepsUptoCardSaid : Prop := Claim7.holds Tryz.pinned (.plain (OpenSpec.upto ledgerStepsSpec)) ledgerStepsUptoCard

/-- THE SECOND FORM's CARD OF 'consignorlaw10.LedgerCrashes'. -/
def ledgerCrashesUptoCard : Claim7 := { stood := { row := ledgerCrashesUptoRow, standIns := [], harness := (true, "c81e2b4b219455f19a97a85fc66a44e2ff62c32a0773017ce7f1273772b71ba6"), looks := true }, kinds := [], alts := [], laidByText := true, laidKinds := [.handle, .sentinel, .sentinel, .sentinel], laidTests := true, laidLooks := .later }
def LedgerCrashesUptoCardSaid : Prop := Claim7.holds Tryz.pinned (.plain (OpenSpec.upto ledgerCrashesSpec)) ledgerCrashesUptoCard

/-- THE SECOND FORM's CARD OF 'consignorlaw10.LedgerGoes'. -/
def ledgerGoesUptoCard : Claim7 := { stood := { row := ledgerGoesUptoRow, standIns := [], harness := (true, "c81e2b4b219455f19a97a85fc66a44e2ff62c32a0773017ce7f1273772b71ba6"), looks := true }, kinds := [], alts := [], laidByText := true, laidKinds := [.handle, .sentinel, .sentinel, .sentinel], laidTests := true, laidLooks := .later }
def LedgerGoesUptoCardSaid : Prop := Claim7.holds Tryz.pinned (.plain (OpenSpec.upto ledgerGoesSpec)) ledgerGoesUptoCard

/-- THE SECOND FORM's CARD OF 'consignorlaw10.LedgerHalves'. -/
def ledgerHalvesUptoCard : Claim7 := { stood := { row := ledgerHalvesUptoRow, standIns := [], harness := (true, "c81e2b4b219455f19a97a85fc66a44e2ff62c32a0773017ce7f1273772b71ba6"), looks := true }, kinds := [], alts := [], laidByText := true, laidKinds := [.handle, .sentinel, .sentinel, .sentinel], laidTests := true, laidLooks := .later }
def LedgerHalvesUptoCardSaid : Prop := Claim7.holds Tryz.pinned (.plain (OpenSpec.upto ledgerHalvesSpec)) ledgerHalvesUptoCard

/-- THE SECOND FORM's CARD OF 'consignorlaw10.LedgerFills'. -/
def ledgerFillsUptoCard : Claim7 := { stood := { row := ledgerFillsUptoRow, standIns := [], harness := (true, "c81e2b4b219455f19a97a85fc66a44e2ff62c32a0773017ce7f1273772b71ba6"), looks := true }, kinds := [], alts := [], laidByText := true, laidKinds := [.handle, .sentinel, .sentinel, .sentinel], laidTests := true, laidLooks := .later }
def LedgerFillsUptoCardSaid : Prop := Claim7.holds Tryz.pinned (.plain (OpenSpec.upto ledgerFillsSpec)) ledgerFillsUptoCard

/-- THE SECOND FORM's CARD OF 'consignorlaw10.LedgerOrder'. -/
def ledgerOrderUptoCard : Claim7 := { stood := { row := ledgerOrderUptoRow, standIns := [], harness := (true, "c81e2b4b219455f19a97a85fc66a44e2ff62c32a0773017ce7f1273772b71ba6"), looks := true }, kinds := [], alts := [], laidByText := true, laidKinds := [.handle, .sentinel, .sentinel, .sentinel], laidTests := true, laidLooks := .later }
def LedgerOrderUptoCardSaid : Prop := Claim7.holds Tryz.pinned (.plain (OpenSpec.upto ledgerOrderSpec)) ledgerOrderUptoCard

/-- THE SECOND FORM's CARD OF 'consignorlaw10.LedgerOther'. -/
def ledgerOtherUptoCard : Claim7 := { stood := { row := ledgerOtherUptoRow, standIns := [], harness := (true, "c81e2b4b219455f19a97a85fc66a44e2ff62c32a0773017ce7f1273772b71ba6"), looks := true }, kinds := [], alts := [], laidByText := true, laidKinds := [.handle, .sentinel, .sentinel, .sentinel], laidTests := true, laidLooks := .later }
def LedgerOtherUptoCardSaid : Prop := Claim7.holds Tryz.pinned (.plain (OpenSpec.upto ledgerOtherSpec)) ledgerOtherUptoCard
end Rows
end Go.Proofs.YtkplpodljmlanaaGreatDoor
