/-
  DERIVED. GIVEN WITH THE SEED: THE CARDS: each row of YtccobaohmbilpaaDoorRows.lean that lists a variable, with what it lists TIED to the program's text (the seventh form; the later family's looks); each row that meets fmt, with fmt's text TOLD by the authors' own Lean function (tested against real Go, not proved from fmt's source: count such statements apart). THE CARD IS WHAT COUNTS. Prove the row's statement (the work); the ties are given (YtccobaohmbilpaaDoorTie.lean); close each card by the builder's one call (the guide's Derived/Test/ToyasCard.lean, 'card_holds'). Laid BY PROGRAM, IN A SANDBOX (cutbox-door.mjs). By AI agents, Wed Nov 11 2026. No macro, syntax, notation, axiom, sorry.
-/
import Derived.Test.YtccobaohmbilpaaDoorRows
import GoSem.ClaimSeven
namespace Go.Proofs.YtccobaohmbilpaaDoor
namespace Rows

/-- THE TIED CARD OF 'consignorlaw08.CronParses'. -/
def cronParsesCard : Claim7 := { stood := { row := cronParsesRow, standIns := [], harness := (true, "6e0596ef469e784abd890c9e0b8c6ff6ffa3cb5089b788aca12271137c6921f8"), looks := true }, kinds := [], alts := [], laidByText := true, laidKinds := [.data, .data, .data, .data, .sentinel, .sentinel, .data, .wider, .sentinel, .sentinel, .sentinel, .pinned], laidTests := true, laidLooks := .later }
def CronParsesCardSaid : Prop := Claim7.holds Tryd.pinned (.plain (OpenSpec.ofChange cronParsesSpec)) cronParsesCard

/-- THE TIED CARD OF 'consignorlaw08.CronTimes'. -/
def cronTimesCard : Claim7 := { stood := { row := cronTimesRow, standIns := [], harness := (true, "6e0596ef469e784abd890c9e0b8c6ff6ffa3cb5089b788aca12271137c6921f8"), looks := true }, kinds := [], alts := [], laidByText := true, laidKinds := [.data, .data, .data, .data, .sentinel, .sentinel, .data, .wider, .sentinel, .sentinel, .sentinel, .pinned], laidTests := true, laidLooks := .later }
def CronTimesCardSaid : Prop := Claim7.holds Tryd.pinned (.plain (OpenSpec.ofChange cronTimesSpec)) cronTimesCard

/-- THE TIED CARD OF 'consignorlaw08.CronFires'. -/
def cronFiresCard : Claim7 := { stood := { row := cronFiresRow, standIns := [], harness := (true, "6e0596ef469e784abd890c9e0b8c6ff6ffa3cb5089b788aca12271137c6921f8"), looks := true }, kinds := [], alts := [], laidByText := true, laidKinds := [.data, .data, .data, .data, .sentinel, .sentinel, .data, .wider, .sentinel, .sentinel, .sentinel, .pinned], laidTests := true, laidLooks := .later }
def CronFiresCardSaid : Prop := Claim7.holds Tryd.pinned (.plain (OpenSpec.ofChange cronFiresSpec)) cronFiresCard

/-- THE TIED CARD OF 'consignorlaw08.CronEvery'. -/
def cronEveryCard : Claim7 := { stood := { row := cronEveryRow, standIns := [], harness := (true, "6e0596ef469e784abd890c9e0b8c6ff6ffa3cb5089b788aca12271137c6921f8"), looks := true }, kinds := [], alts := [], laidByText := true, laidKinds := [.data, .data, .data, .data, .sentinel, .sentinel, .data, .wider, .sentinel, .sentinel, .sentinel, .pinned], laidTests := true, laidLooks := .later }
def CronEveryCardSaid : Prop := Claim7.holds Tryd.pinned (.plain (OpenSpec.ofChange cronEverySpec)) cronEveryCard

/-- THE TIED CARD OF 'consignorlaw08.CronDays'. -/
def cronDaysCard : Claim7 := { stood := { row := cronDaysRow, standIns := [], harness := (true, "6e0596ef469e784abd890c9e0b8c6ff6ffa3cb5089b788aca12271137c6921f8"), looks := true }, kinds := [], alts := [], laidByText := true, laidKinds := [.data, .data, .data, .data, .sentinel, .sentinel, .data, .wider, .sentinel, .sentinel, .sentinel, .pinned], laidTests := true, laidLooks := .later }
def CronDaysCardSaid : Prop := Claim7.holds Tryd.pinned (.plain (OpenSpec.ofChange cronDaysSpec)) cronDaysCard

/-- THE TIED CARD OF 'consignorlaw08.CronNext'. -/
def cronNextCard : Claim7 := { stood := { row := cronNextRow, standIns := [], harness := (true, "6e0596ef469e784abd890c9e0b8c6ff6ffa3cb5089b788aca12271137c6921f8"), looks := true }, kinds := [], alts := [], laidByText := true, laidKinds := [.data, .data, .data, .data, .sentinel, .sentinel, .data, .wider, .sentinel, .sentinel, .sentinel, .pinned], laidTests := true, laidLooks := .later }
def CronNextCardSaid : Prop := Claim7.holds Tryd.pinned (.plain (OpenSpec.ofChange cronNextSpec)) cronNextCard

/-- THE SECOND FORM's CARD OF 'consignorlaw08.CronParses'. -/
def cronParsesUptoCard : Claim7 := { stood := { row := cronParsesUptoRow, standIns := [], harness := (true, "6e0596ef469e784abd890c9e0b8c6ff6ffa3cb5089b788aca12271137c6921f8"), looks := true }, kinds := [], alts := [], laidByText := true, laidKinds := [.data, .data, .data, .data, .sentinel, .sentinel, .data, .wider, .sentinel, .sentinel, .sentinel, .pinned], laidTests := true, laidLooks := .later }
def CronParsesUptoCardSaid : Prop := Claim7.holds Tryd.pinned (.plain (OpenSpec.upto cronParsesSpec)) cronParsesUptoCard

/-- THE SECOND FORM's CARD OF 'consignorlaw08.CronTimes'. -/
def cronTimesUptoCard : Claim7 := { stood := { row := cronTimesUptoRow, standIns := [], harness := (true, "6e0596ef469e784abd890c9e0b8c6ff6ffa3cb5089b788aca12271137c6921f8"), looks := true }, kinds := [], alts := [], laidByText := true, laidKinds := [.data, .data, .data, .data, .sentinel, .sentinel, .data, .wider, .sentinel, .sentinel, .sentinel, .pinned], laidTests := true, laidLooks := .later }
def CronTimesUptoCardSaid : Prop := Claim7.holds Tryd.pinned (.plain (OpenSpec.upto cronTimesSpec)) cronTimesUptoCard

/-- THE SECOND FORM's CARD OF 'consignorlaw08.CronFires'. -/
def cronFiresUptoCard : Claim7 := { stood := { row := cronFiresUptoRow, standIns := [], harness := (true, "6e0596ef469e784abd890c9e0b8c6ff6ffa3cb5089b788aca12271137c6921f8"), looks := true }, kinds := [], alts := [], laidByText := true, laidKinds := [.data, .data, .data, .data, .sentinel, .sentinel, .data, .wider, .sentinel, .sentinel, .sentinel, .pinned], laidTests := true, laidLooks := .later }
def CronFiresUptoCardSaid : Prop := Claim7.holds Tryd.pinned (.plain (OpenSpec.upto cronFiresSpec)) cronFiresUptoCard

/-- THE SECOND FORM's CARD OF 'consignorlaw08.CronEvery'. -/
def cronEveryUptoCard : Claim7 := { stood := { row := cronEveryUptoRow, standIns := [], harness := (true, "6e0596ef469e784abd890c9e0b8c6ff6ffa3cb5089b788aca12271137c6921f8"), looks := true }, kinds := [], alts := [], laidByText := true, laidKinds := [.data, .data, .data, .data, .sentinel, .sentinel, .data, .wider, .sentinel, .sentinel, .sentinel, .pinned], laidTests := true, laidLooks := .later }
def CronEveryUptoCardSaid : Prop := Claim7.holds Tryd.pinned (.plain (OpenSpec.upto cronEverySpec)) cronEveryUptoCard

/-- THE SECOND FORM's CARD OF 'consignorlaw08.CronDays'. -/
def cronDaysUptoCard : Claim7 := { stood := { row := cronDaysUptoRow, standIns := [], harness := (true, "6e0596ef469e784abd890c9e0b8c6ff6ffa3cb5089b788aca12271137c6921f8"), looks := true }, kinds := [], alts := [], laidByText := true, laidKinds := [.data, .data, .data, .data, .sentinel, .sentinel, .data, .wider, .sentinel, .sentinel, .sentinel, .pinned], laidTests := true, laidLooks := .later }
def CronDaysUptoCardSaid : Prop := Claim7.holds Tryd.pinned (.plain (OpenSpec.upto cronDaysSpec)) cronDaysUptoCard

/-- THE SECOND FORM's CARD OF 'consignorlaw08.CronNext'. -/
def cronNextUptoCard : Claim7 := { stood := { row := cronNextUptoRow, standIns := [], harness := (true, "6e0596ef469e784abd890c9e0b8c6ff6ffa3cb5089b788aca12271137c6921f8"), looks := true }, kinds := [], alts := [], laidByText := true, laidKinds := [.data, .data, .data, .data, .sentinel, .sentinel, .data, .wider, .sentinel, .sentinel, .sentinel, .pinned], laidTests := true, laidLooks := .later }
def CronNextUptoCardSaid : Prop := Claim7.holds Tryd.pinned (.plain (OpenSpec.upto cronNextSpec)) cronNextUptoCard
end Rows
end Go.Proofs.YtccobaohmbilpaaDoor
