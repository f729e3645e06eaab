/-
  DERIVED. GIVEN WITH THE SEED: THE CARDS: each row of YtjohjmoggldfcaaDoorRows.lean that lists a variable, with what it lists TIED to the program's text (the seventh form; the later family's looks); each row that meets fmt, with fmt's text TOLD by the authors' own Lean function (tested against real Go, not proved from fmt's source: count such statements apart). THE CARD IS WHAT COUNTS. Prove the row's statement (the work); the ties are given (YtjohjmoggldfcaaDoorTie.lean); close each card by the builder's one call (the guide's Derived/Test/ToyasCard.lean, 'card_holds'). Laid BY PROGRAM, IN A SANDBOX (cutbox-door.mjs). By AI agents, Wed Nov 11 2026. No macro, syntax, notation, axiom, sorry.
-/
import Derived.Test.YtjohjmoggldfcaaDoorRows
import GoSem.ClaimSeven
namespace Go.Proofs.YtjohjmoggldfcaaDoor
namespace Rows

/-- THE TIED CARD OF 'consignorlaw07.GlobStars'. -/
def globStarsCard : Claim7 := { stood := { row := globStarsRow, standIns := [], harness := (true, "560c7e7c2f4acfcd28cd30279262404d6460d184d70f9b9254eaec8890758602"), looks := false }, kinds := [], alts := [], laidByText := true, laidKinds := [.data, .pinned], laidTests := true, laidLooks := .later }
def GlobStarsCardSaid : Prop := Claim7.holds Tryd.pinned (.plain (OpenSpec.ofChange globStarsSpec)) globStarsCard

/-- THE TIED CARD OF 'consignorlaw07.GlobWords'. -/
def globWordsCard : Claim7 := { stood := { row := globWordsRow, standIns := [], harness := (true, "560c7e7c2f4acfcd28cd30279262404d6460d184d70f9b9254eaec8890758602"), looks := false }, kinds := [], alts := [], laidByText := true, laidKinds := [.data, .pinned], laidTests := true, laidLooks := .later }
def GlobWordsCardSaid : Prop := Claim7.holds Tryd.pinned (.plain (OpenSpec.ofChange globWordsSpec)) globWordsCard

/-- THE TIED CARD OF 'consignorlaw07.GlobOnes'. -/
def globOnesCard : Claim7 := { stood := { row := globOnesRow, standIns := [], harness := (true, "560c7e7c2f4acfcd28cd30279262404d6460d184d70f9b9254eaec8890758602"), looks := false }, kinds := [], alts := [], laidByText := true, laidKinds := [.data, .pinned], laidTests := true, laidLooks := .later }
def GlobOnesCardSaid : Prop := Claim7.holds Tryd.pinned (.plain (OpenSpec.ofChange globOnesSpec)) globOnesCard

/-- THE TIED CARD OF 'consignorlaw07.GlobNames'. -/
def globNamesCard : Claim7 := { stood := { row := globNamesRow, standIns := [], harness := (true, "560c7e7c2f4acfcd28cd30279262404d6460d184d70f9b9254eaec8890758602"), looks := false }, kinds := [], alts := [], laidByText := true, laidKinds := [.data, .pinned], laidTests := true, laidLooks := .later }
def GlobNamesCardSaid : Prop := Claim7.holds Tryd.pinned (.plain (OpenSpec.ofChange globNamesSpec)) globNamesCard

/-- THE SECOND FORM's CARD OF 'consignorlaw07.GlobStars'. -/
def globStarsUptoCard : Claim7 := { stood := { row := globStarsUptoRow, standIns := [], harness := (true, "560c7e7c2f4acfcd28cd30279262404d6460d184d70f9b9254eaec8890758602"), looks := false }, kinds := [], alts := [], laidByText := true, laidKinds := [.data, .pinned], laidTests := true, laidLooks := .later }
def GlobStarsUptoCardSaid : Prop := Claim7.holds Tryd.pinned (.plain (OpenSpec.upto globStarsSpec)) globStarsUptoCard

/-- THE SECOND FORM's CARD OF 'consignorlaw07.GlobWords'. -/
def globWordsUptoCard : Claim7 := { stood := { row := globWordsUptoRow, standIns := [], harness := (true, "560c7e7c2f4acfcd28cd30279262404d6460d184d70f9b9254eaec8890758602"), looks := false }, kinds := [], alts := [], laidByText := true, laidKinds := [.data, .pinned], laidTests := true, laidLooks := .later }
def GlobWordsUptoCardSaid : Prop := Claim7.holds Tryd.pinned (.plain (OpenSpec.upto globWordsSpec)) globWordsUptoCard

/-- THE SECOND FORM's CARD OF 'consignorlaw07.GlobOnes'. -/
def globOnesUptoCard : Claim7 := { stood := { row := globOnesUptoRow, standIns := [], harness := (true, "560c7e7c2f4acfcd28cd30279262404d6460d184d70f9b9254eaec8890758602"), looks := false }, kinds := [], alts := [], laidByText := true, laidKinds := [.data, .pinned], laidTests := true, laidLooks := .later }
def GlobOnesUptoCardSaid : Prop := Claim7.holds Tryd.pinned (.plain (OpenSpec.upto globOnesSpec)) globOnesUptoCard

/-- THE SECOND FORM's CARD OF 'consignorlaw07.GlobNames'. -/
def globNamesUptoCard : Claim7 := { stood := { row := globNamesUptoRow, standIns := [], harness := (true, "560c7e7c2f4acfcd28cd30279262404d6460d184d70f9b9254eaec8890758602"), looks := false }, kinds := [], alts := [], laidByText := true, laidKinds := [.data, .pinned], laidTests := true, laidLooks := .later }
def GlobNamesUptoCardSaid : Prop := Claim7.holds Tryd.pinned (.plain (OpenSpec.upto globNamesSpec)) globNamesUptoCard
end Rows
end Go.Proofs.YtjohjmoggldfcaaDoor
