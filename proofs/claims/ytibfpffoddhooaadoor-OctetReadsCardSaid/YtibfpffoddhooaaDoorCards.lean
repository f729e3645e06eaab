/-
  DERIVED. GIVEN WITH THE SEED: THE CARDS: each row of YtibfpffoddhooaaDoorRows.lean that lists a variable, with what it lists TIED to the program's text (the seventh form; the later family's looks); each row that meets fmt, with fmt's text TOLD by the authors' own Lean function (tested against real Go, not proved from fmt's source: count such statements apart). THE CARD IS WHAT COUNTS. Prove the row's statement (the work); the ties are given (YtibfpffoddhooaaDoorTie.lean); close each card by the builder's one call (the guide's Derived/Test/ToyasCard.lean, 'card_holds'). Laid BY PROGRAM, IN A SANDBOX (cutbox-door.mjs). By AI agents, Wed Nov 11 2026. No macro, syntax, notation, axiom, sorry.
-/
import Derived.Test.YtibfpffoddhooaaDoorRows
import GoSem.ClaimSeven
namespace Go.Proofs.YtibfpffoddhooaaDoor
namespace Rows

/-- THE TIED CARD OF 'consignorlaw01.OctetReads'. -/
def octetReadsCard : Claim7 := { stood := { row := octetReadsRow, standIns := [], harness := (true, "15b340e9393c2ac30542b4dc8a0413df84a9a9f088175383a463af84a452b119"), looks := true }, kinds := [], alts := [], laidByText := true, laidKinds := [.handle, .sentinel, .sentinel, .sentinel], laidTests := true, laidLooks := .later }
def OctetReadsCardSaid : Prop := Claim7.holds Tryd.pinned (.plain (OpenSpec.ofChange octetReadsSpec)) octetReadsCard

/-- THE TIED CARD OF 'consignorlaw01.OctetBinds'. -/
def octetBindsCard : Claim7 := { stood := { row := octetBindsRow, standIns := [], harness := (true, "15b340e9393c2ac30542b4dc8a0413df84a9a9f088175383a463af84a452b119"), looks := true }, kinds := [], alts := [], laidByText := true, laidKinds := [.handle, .sentinel, .sentinel, .sentinel], laidTests := true, laidLooks := .later }
def OctetBindsCardSaid : Prop := Claim7.holds Tryd.pinned (.plain (OpenSpec.ofChange octetBindsSpec)) octetBindsCard

/-- THE TIED CARD OF 'consignorlaw01.OctetBack'. -/
def octetBackCard : Claim7 := { stood := { row := octetBackRow, standIns := [], harness := (true, "15b340e9393c2ac30542b4dc8a0413df84a9a9f088175383a463af84a452b119"), looks := true }, kinds := [], alts := [], laidByText := true, laidKinds := [.handle, .sentinel, .sentinel, .sentinel], laidTests := true, laidLooks := .later }
def OctetBackCardSaid : Prop := Claim7.holds Tryd.pinned (.plain (OpenSpec.ofChange octetBackSpec)) octetBackCard

/-- THE TIED CARD OF 'consignorlaw01.OctetApart'. -/
def octetApartCard : Claim7 := { stood := { row := octetApartRow, standIns := [], harness := (true, "15b340e9393c2ac30542b4dc8a0413df84a9a9f088175383a463af84a452b119"), looks := true }, kinds := [], alts := [], laidByText := true, laidKinds := [.handle, .sentinel, .sentinel, .sentinel], laidTests := true, laidLooks := .later }
def OctetApartCardSaid : Prop := Claim7.holds Tryd.pinned (.plain (OpenSpec.ofChange octetApartSpec)) octetApartCard

/-- THE TIED CARD OF 'consignorlaw01.OctetLong'. -/
def octetLongCard : Claim7 := { stood := { row := octetLongRow, standIns := [], harness := (true, "15b340e9393c2ac30542b4dc8a0413df84a9a9f088175383a463af84a452b119"), looks := true }, kinds := [], alts := [], laidByText := true, laidKinds := [.handle, .sentinel, .sentinel, .sentinel], laidTests := true, laidLooks := .later }
def OctetLongCardSaid : Prop := Claim7.holds Tryd.pinned (.plain (OpenSpec.ofChange octetLongSpec)) octetLongCard

/-- THE TIED CARD OF 'consignorlaw01.OctetParts'. -/
def octetPartsCard : Claim7 := { stood := { row := octetPartsRow, standIns := [], harness := (true, "15b340e9393c2ac30542b4dc8a0413df84a9a9f088175383a463af84a452b119"), looks := true }, kinds := [], alts := [], laidByText := true, laidKinds := [.handle, .sentinel, .sentinel, .sentinel], laidTests := true, laidLooks := .later }
def OctetPartsCardSaid : Prop := Claim7.holds Tryd.pinned (.plain (OpenSpec.ofChange octetPartsSpec)) octetPartsCard

/-- THE SECOND FORM's CARD OF 'consignorlaw01.OctetReads'. -/
def octetReadsUptoCard : Claim7 := { stood := { row := octetReadsUptoRow, standIns := [], harness := (true, "15b340e9393c2ac30542b4dc8a0413df84a9a9f088175383a463af84a452b119"), looks := true }, kinds := [], alts := [], laidByText := true, laidKinds := [.handle, .sentinel, .sentinel, .sentinel], laidTests := true, laidLooks := .later }
def OctetReadsUptoCardSaid : Prop := Claim7.holds Tryd.pinned (.plain (OpenSpec.upto octetReadsSpec)) octetReadsUptoCard

/-- THE SECOND FORM's CARD OF 'consignorlaw01.OctetBinds'. -/
def octetBindsUptoCard : Claim7 := { stood := { row := octetBindsUptoRow, standIns := [], harness := (true, "15b340e9393c2ac30542b4dc8a0413df84a9a9f088175383a463af84a452b119"), looks := true }, kinds := [], alts := [], laidByText := true, laidKinds := [.handle, .sentinel, .sentinel, .sentinel], laidTests := true, laidLooks := .later }
def OctetBindsUptoCardSaid : Prop := Claim7.holds Tryd.pinned (.plain (OpenSpec.upto octetBindsSpec)) octetBindsUptoCard

/-- THE SECOND FORM's CARD OF 'consignorlaw01.OctetBack'. -/
def octetBackUptoCard : Claim7 := { stood := { row := octetBackUptoRow, standIns := [], harness := (true, "15b340e9393c2ac30542b4dc8a0413df84a9a9f088175383a463af84a452b119"), looks := true }, kinds := [], alts := [], laidByText := true, laidKinds := [.handle, .sentinel, .sentinel, .sentinel], laidTests := true, laidLooks := .later }
def OctetBackUptoCardSaid : Prop := Claim7.holds Tryd.pinned (.plain (OpenSpec.upto octetBackSpec)) octetBackUptoCard

/-- THE SECOND FORM's CARD OF 'consignorlaw01.OctetApart'. -/
def octetApartUptoCard : Claim7 := { stood := { row := octetApartUptoRow, standIns := [], harness := (true, "15b340e9393c2ac30542b4dc8a0413df84a9a9f088175383a463af84a452b119"), looks := true }, kinds := [], alts := [], laidByText := true, laidKinds := [.handle, .sentinel, .sentinel, .sentinel], laidTests := true, laidLooks := .later }
def OctetApartUptoCardSaid : Prop := Claim7.holds Tryd.pinned (.plain (OpenSpec.upto octetApartSpec)) octetApartUptoCard

/-- THE SECOND FORM's CARD OF 'consignorlaw01.OctetLong'. -/
def octetLongUptoCard : Claim7 := { stood := { row := octetLongUptoRow, standIns := [], harness := (true, "15b340e9393c2ac30542b4dc8a0413df84a9a9f088175383a463af84a452b119"), looks := true }, kinds := [], alts := [], laidByText := true, laidKinds := [.handle, .sentinel, .sentinel, .sentinel], laidTests := true, laidLooks := .later }
def OctetLongUptoCardSaid : Prop := Claim7.holds Tryd.pinned (.plain (OpenSpec.upto octetLongSpec)) octetLongUptoCard

/-- THE SECOND FORM's CARD OF 'consignorlaw01.OctetParts'. -/
def octetPartsUptoCard : Claim7 := { stood := { row := octetPartsUptoRow, standIns := [], harness := (true, "15b340e9393c2ac30542b4dc8a0413df84a9a9f088175383a463af84a452b119"), looks := true }, kinds := [], alts := [], laidByText := true, laidKinds := [.handle, .sentinel, .sentinel, .sentinel], laidTests := true, laidLooks := .later }
def OctetPartsUptoCardSaid : Prop := Claim7.holds Tryd.pinned (.plain (OpenSpec.upto octetPartsSpec)) octetPartsUptoCard
end Rows
end Go.Proofs.YtibfpffoddhooaaDoor
