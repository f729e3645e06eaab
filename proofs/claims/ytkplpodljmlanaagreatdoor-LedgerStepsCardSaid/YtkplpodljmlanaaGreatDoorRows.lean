/-
  NARROWER THAN 'FOR EVERY INPUT', by the rows' own cells (each row's printed sentence says how): LedgerOpens: laid · LedgerSteps: laid · LedgerCrashes: laid · LedgerGoes: laid · LedgerHalves: laid · LedgerFills: laid · LedgerOrder: laid · LedgerOther: laid.
  DERIVED. THE GIVEN ROWS OF THIS SEAT. 8 by the template 'for every input the law returns true; each argument reads behind the call as it read before'; 0 by the template 'total and deterministic' (their statements: YtkplpodljmlanaaGreatDoorTotals.lean).
  GIVEN WITH THE SEED: the statements are not yours to turn. If you find one false, say at which input.
  Laid BY PROGRAM, IN A SANDBOX (cutbox-rows.mjs): the forced cells as the released guide's own fill.sh prints them over the translation d8d89b19b9f25559… (all of the seat's roots in one cut). By AI agents, Wed Nov 11 2026. No macro, syntax, notation, axiom, sorry.
-/
import Derived.Test.YtkplpodljmlanaaGreatDoorChecked
import GoSem.Claim
import GoSem.ClaimJoined
import GoSem.ClaimMapViews
import Derived.JoinedTies
import Derived.KernelRfl
namespace Go.Proofs.YtkplpodljmlanaaGreatDoor
/- THE CELL 'sum', in the pinned program and in every row, IS THE sha256 OF THE DUMP (.gsa) THAT YtkplpodljmlanaaGreatDoorProg.lean LOADS. Nothing in Lean hashes anything: it is a label: what it is worth is what the hold of that sum in a sandbox is worth. -/
noncomputable def Tryz.pinned : Pinned := { name := "ytkplpodljmlanaagreatdoor", sum := "d8d89b19b9f2555916d6d8f164dc0557861a5d48969f401438db023a9dab64ac", checked := Tryz.checked }
namespace Rows
def none {H : Type} : Left H := { results := [], args := [] }

/- WHAT THE LISTED PACKAGE-LEVEL VARIABLES READ AS WHEN THE CALL BEGINS. Each datum BY PROGRAM (the guide's laid-datum.mjs) off the statement by which the dump's own 'gosem.cut.vars' lays the variable. In a bare row this is a premise. The card (YtkplpodljmlanaaGreatDoorCards.lean) ties it to the program's text. -/
def laid_errors_errorType {H : Type} : DataW H := .iface "internal/reflectlite.rtype" (.agg [.ptr (.lit (.string [101, 114, 114, 111, 114]))])
def laid_consignor_octet_errDigits {H : Type} : DataW H := .iface "*errors.errorString" (.ptr (.agg [.lit (.string [110, 111, 32, 100, 105, 103, 105, 116, 115, 32, 111, 102, 32, 98, 121, 116, 101, 115])]))
def laid_consignor_octet_errShort {H : Type} : DataW H := .iface "*errors.errorString" (.ptr (.agg [.lit (.string [102, 101, 119, 101, 114, 32, 98, 121, 116, 101, 115, 32, 116, 104, 97, 110, 32, 116, 111, 108, 100])]))
def laid_consignor_octet_errSize {H : Type} : DataW H := .iface "*errors.errorString" (.ptr (.agg [.lit (.string [97, 32, 115, 105, 122, 101, 32, 116, 104, 97, 116, 32, 109, 97, 121, 32, 110, 111, 116, 32, 98, 101])]))

/-- 'consignorlaw10.LedgerOpens': WHATEVER THE INPUT: true; the input reads as it did. -/
def ledgerOpensSpec : ChangeSpec := { name := "ledgerOpens", fn := fun _ => fun
  | [d1, d2, d3] => { results := [.lit (.bool true)], args := [d1, d2, d3] }
  | _ => none }
def ledgerOpensRow : OpenClaim := { program := "ytkplpodljmlanaagreatdoor", sum := "d8d89b19b9f2555916d6d8f164dc0557861a5d48969f401438db023a9dab64ac", func := "consignor/consignorlaw10.LedgerOpens", spec := "ledgerOpens", inPlace := ["internal/reflectlite.ValueOf", "(internal/reflectlite.Value).Type", "(internal/reflectlite.Value).IsNil", "internal/reflectlite.TypeOf", "(internal/reflectlite.Value).Elem", "(internal/reflectlite.Value).Set", "internal/abi.NoEscape", "internal/bytealg.MakeNoZero"], unfollowed := true, recurses := true, named := ["consignor/octet.errShort", "consignor/octet.errDigits", "errors.errorType", "consignor/octet.errSize"], apart := false, laid := [("errors.errorType", laid_errors_errorType), ("consignor/octet.errDigits", laid_consignor_octet_errDigits), ("consignor/octet.errShort", laid_consignor_octet_errShort), ("consignor/octet.errSize", laid_consignor_octet_errSize)] }
def LedgerOpensSaid : Prop := ledgerOpensRow.holds Tryz.pinned (OpenSpec.ofChange ledgerOpensSpec)

/-- ITS FALSE NEIGHBOUR: 'it returns false'. Refute it at one input. -/
def ledgerOpensWrong : ChangeSpec := { name := "ledgerOpens", fn := fun _ => fun
  | [d1, d2, d3] => { results := [.lit (.bool false)], args := [d1, d2, d3] }
  | _ => none }
def LedgerOpensWrongFalsely : Prop := ledgerOpensRow.holds Tryz.pinned (OpenSpec.ofChange ledgerOpensWrong)

/-- 'consignorlaw10.LedgerSteps': WHATEVER THE INPUT: true; the input reads as it did. -/
def ledgerStepsSpec : ChangeSpec := { name := "ledgerSteps", fn := fun _ => fun
  | [d1, d2, d3] => { results := [.lit (.bool true)], args := [d1, d2, d3] }
  | _ => none }
def ledgerStepsRow : OpenClaim := { program := "ytkplpodljmlanaagreatdoor", sum := "d8d89b19b9f2555916d6d8f164dc0557861a5d48969f401438db023a9dab64ac", func := "consignor/consignorlaw10.LedgerSteps", spec := "ledgerSteps", inPlace := ["internal/reflectlite.ValueOf", "(internal/reflectlite.Value).Type", "(internal/reflectlite.Value).IsNil", "internal/reflectlite.TypeOf", "(internal/reflectlite.Value).Elem", "(internal/reflectlite.Value).Set", "internal/abi.NoEscape", "internal/bytealg.MakeNoZero"], unfollowed := true, recurses := true, named := ["consignor/octet.errShort", "consignor/octet.errDigits", "errors.errorType", "consignor/octet.errSize"], apart := false, laid := [("errors.errorType", laid_errors_errorType), ("consignor/octet.errDigits", laid_consignor_octet_errDigits), ("consignor/octet.errShort", laid_consignor_octet_errShort), ("consignor/octet.errSize", laid_consignor_octet_errSize)] }
def LedgerStepsSaid : Prop := ledgerStepsRow.holds Tryz.pinned (OpenSpec.ofChange ledgerStepsSpec)

/-- ITS FALSE NEIGHBOUR: 'it returns false'. Refute it at one input. -/
def ledgerStepsWrong : ChangeSpec := { name := "ledgerSteps", fn := fun _ => fun
  | [d1, d2, d3] => { results := [.lit (.bool false)], args := [d1, d2, d3] }
  | _ => none }
def LedgerStepsWrongFalsely : Prop := ledgerStepsRow.holds Tryz.pinned (OpenSpec.ofChange ledgerStepsWrong)

/-- 'consignorlaw10.LedgerCrashes': WHATEVER THE INPUT: true; the input reads as it did. -/
def ledgerCrashesSpec : ChangeSpec := { name := "ledgerCrashes", fn := fun _ => fun
  | [d1, d2, d3, d4, d5, d6] => { results := [.lit (.bool true)], args := [d1, d2, d3, d4, d5, d6] }
  | _ => none }
def ledgerCrashesRow : OpenClaim := { program := "ytkplpodljmlanaagreatdoor", sum := "d8d89b19b9f2555916d6d8f164dc0557861a5d48969f401438db023a9dab64ac", func := "consignor/consignorlaw10.LedgerCrashes", spec := "ledgerCrashes", inPlace := ["internal/abi.NoEscape", "internal/bytealg.MakeNoZero", "internal/reflectlite.ValueOf", "(internal/reflectlite.Value).Type", "(internal/reflectlite.Value).IsNil", "internal/reflectlite.TypeOf", "(internal/reflectlite.Value).Elem", "(internal/reflectlite.Value).Set"], unfollowed := true, recurses := true, named := ["consignor/octet.errSize", "consignor/octet.errShort", "consignor/octet.errDigits", "errors.errorType"], apart := false, laid := [("errors.errorType", laid_errors_errorType), ("consignor/octet.errDigits", laid_consignor_octet_errDigits), ("consignor/octet.errShort", laid_consignor_octet_errShort), ("consignor/octet.errSize", laid_consignor_octet_errSize)] }
def LedgerCrashesSaid : Prop := ledgerCrashesRow.holds Tryz.pinned (OpenSpec.ofChange ledgerCrashesSpec)

/-- ITS FALSE NEIGHBOUR: 'it returns false'. Refute it at one input. -/
def ledgerCrashesWrong : ChangeSpec := { name := "ledgerCrashes", fn := fun _ => fun
  | [d1, d2, d3, d4, d5, d6] => { results := [.lit (.bool false)], args := [d1, d2, d3, d4, d5, d6] }
  | _ => none }
def LedgerCrashesWrongFalsely : Prop := ledgerCrashesRow.holds Tryz.pinned (OpenSpec.ofChange ledgerCrashesWrong)

/-- 'consignorlaw10.LedgerGoes': WHATEVER THE INPUT: true; the input reads as it did. -/
def ledgerGoesSpec : ChangeSpec := { name := "ledgerGoes", fn := fun _ => fun
  | [d1, d2, d3] => { results := [.lit (.bool true)], args := [d1, d2, d3] }
  | _ => none }
def ledgerGoesRow : OpenClaim := { program := "ytkplpodljmlanaagreatdoor", sum := "d8d89b19b9f2555916d6d8f164dc0557861a5d48969f401438db023a9dab64ac", func := "consignor/consignorlaw10.LedgerGoes", spec := "ledgerGoes", inPlace := ["internal/abi.NoEscape", "internal/bytealg.MakeNoZero", "internal/reflectlite.ValueOf", "(internal/reflectlite.Value).Type", "(internal/reflectlite.Value).IsNil", "internal/reflectlite.TypeOf", "(internal/reflectlite.Value).Elem", "(internal/reflectlite.Value).Set"], unfollowed := true, recurses := true, named := ["consignor/octet.errSize", "consignor/octet.errShort", "consignor/octet.errDigits", "errors.errorType"], apart := false, laid := [("errors.errorType", laid_errors_errorType), ("consignor/octet.errDigits", laid_consignor_octet_errDigits), ("consignor/octet.errShort", laid_consignor_octet_errShort), ("consignor/octet.errSize", laid_consignor_octet_errSize)] }
def LedgerGoesSaid : Prop := ledgerGoesRow.holds Tryz.pinned (OpenSpec.ofChange ledgerGoesSpec)

/-- ITS FALSE NEIGHBOUR: 'it returns false'. Refute it at one input. -/
def ledgerGoesWrong : ChangeSpec := { name := "ledgerGoes", fn := fun _ => fun
  | [d1, d2, d3] => { results := [.lit (.bool false)], args := [d1, d2, d3] }
  | _ => none }
def LedgerGoesWrongFalsely : Prop := ledgerGoesRow.holds Tryz.pinned (OpenSpec.ofChange ledgerGoesWrong)

/-- 'consignorlaw10.LedgerHalves': WHATEVER THE INPUT: true; the input reads as it did. -/
def ledgerHalvesSpec : ChangeSpec := { name := "ledgerHalves", fn := fun _ => fun
  | [d1, d2, d3, d4] => { results := [.lit (.bool true)], args := [d1, d2, d3, d4] }
  | _ => none }
def ledgerHalvesRow : OpenClaim := { program := "ytkplpodljmlanaagreatdoor", sum := "d8d89b19b9f2555916d6d8f164dc0557861a5d48969f401438db023a9dab64ac", func := "consignor/consignorlaw10.LedgerHalves", spec := "ledgerHalves", inPlace := ["internal/abi.NoEscape", "internal/bytealg.MakeNoZero", "internal/reflectlite.ValueOf", "(internal/reflectlite.Value).Type", "(internal/reflectlite.Value).IsNil", "internal/reflectlite.TypeOf", "(internal/reflectlite.Value).Elem", "(internal/reflectlite.Value).Set"], unfollowed := true, recurses := true, named := ["consignor/octet.errSize", "consignor/octet.errShort", "consignor/octet.errDigits", "errors.errorType"], apart := false, laid := [("errors.errorType", laid_errors_errorType), ("consignor/octet.errDigits", laid_consignor_octet_errDigits), ("consignor/octet.errShort", laid_consignor_octet_errShort), ("consignor/octet.errSize", laid_consignor_octet_errSize)] }
def LedgerHalvesSaid : Prop := ledgerHalvesRow.holds Tryz.pinned (OpenSpec.ofChange ledgerHalvesSpec)

/-- ITS FALSE NEIGHBOUR: 'it returns false'. Refute it at one input. -/
def ledgerHalvesWrong : ChangeSpec := { name := "ledgerHalves", fn := fun _ => fun
  | [d1, d2, d3, d4] => { results := [.lit (.bool false)], args := [d1, d2, d3, d4] }
  | _ => none }
def LedgerHalvesWrongFalsely : Prop := ledgerHalvesRow.holds Tryz.pinned (OpenSpec.ofChange ledgerHalvesWrong)

/-- 'consignorlaw10.LedgerFills': WHATEVER THE INPUT: true; the input reads as it did. -/
def ledgerFillsSpec : ChangeSpec := { name := "ledgerFills", fn := fun _ => fun
  | [d1, d2] => { results := [.lit (.bool true)], args := [d1, d2] }
  | _ => none }
def ledgerFillsRow : OpenClaim := { program := "ytkplpodljmlanaagreatdoor", sum := "d8d89b19b9f2555916d6d8f164dc0557861a5d48969f401438db023a9dab64ac", func := "consignor/consignorlaw10.LedgerFills", spec := "ledgerFills", inPlace := ["internal/abi.NoEscape", "internal/bytealg.MakeNoZero", "internal/reflectlite.ValueOf", "(internal/reflectlite.Value).Type", "(internal/reflectlite.Value).IsNil", "internal/reflectlite.TypeOf", "(internal/reflectlite.Value).Elem", "(internal/reflectlite.Value).Set"], unfollowed := true, recurses := true, named := ["consignor/octet.errSize", "consignor/octet.errShort", "consignor/octet.errDigits", "errors.errorType"], apart := false, laid := [("errors.errorType", laid_errors_errorType), ("consignor/octet.errDigits", laid_consignor_octet_errDigits), ("consignor/octet.errShort", laid_consignor_octet_errShort), ("consignor/octet.errSize", laid_consignor_octet_errSize)] }
def LedgerFillsSaid : Prop := ledgerFillsRow.holds Tryz.pinned (OpenSpec.ofChange ledgerFillsSpec)

/-- ITS FALSE NEIGHBOUR: 'it returns false'. Refute it at one input. -/
def ledgerFillsWrong : ChangeSpec := { name := "ledgerFills", fn := fun _ => fun
  | [d1, d2] => { results := [.lit (.bool false)], args := [d1, d2] }
  | _ => none }
def LedgerFillsWrongFalsely : Prop := ledgerFillsRow.holds Tryz.pinned (OpenSpec.ofChange ledgerFillsWrong)

/-- 'consignorlaw10.LedgerOrder': WHATEVER THE INPUT: true; the input reads as it did. -/
def ledgerOrderSpec : ChangeSpec := { name := "ledgerOrder", fn := fun _ => fun
  | [d1, d2, d3] => { results := [.lit (.bool true)], args := [d1, d2, d3] }
  | _ => none }
def ledgerOrderRow : OpenClaim := { program := "ytkplpodljmlanaagreatdoor", sum := "d8d89b19b9f2555916d6d8f164dc0557861a5d48969f401438db023a9dab64ac", func := "consignor/consignorlaw10.LedgerOrder", spec := "ledgerOrder", inPlace := ["internal/abi.NoEscape", "internal/bytealg.MakeNoZero", "internal/reflectlite.ValueOf", "(internal/reflectlite.Value).Type", "(internal/reflectlite.Value).IsNil", "internal/reflectlite.TypeOf", "(internal/reflectlite.Value).Elem", "(internal/reflectlite.Value).Set"], unfollowed := true, recurses := true, named := ["consignor/octet.errSize", "consignor/octet.errShort", "consignor/octet.errDigits", "errors.errorType"], apart := false, laid := [("errors.errorType", laid_errors_errorType), ("consignor/octet.errDigits", laid_consignor_octet_errDigits), ("consignor/octet.errShort", laid_consignor_octet_errShort), ("consignor/octet.errSize", laid_consignor_octet_errSize)] }
def LedgerOrderSaid : Prop := ledgerOrderRow.holds Tryz.pinned (OpenSpec.ofChange ledgerOrderSpec)

/-- ITS FALSE NEIGHBOUR: 'it returns false'. Refute it at one input. -/
def ledgerOrderWrong : ChangeSpec := { name := "ledgerOrder", fn := fun _ => fun
  | [d1, d2, d3] => { results := [.lit (.bool false)], args := [d1, d2, d3] }
  | _ => none }
def LedgerOrderWrongFalsely : Prop := ledgerOrderRow.holds Tryz.pinned (OpenSpec.ofChange ledgerOrderWrong)

/-- 'consignorlaw10.LedgerOther': WHATEVER THE INPUT: true; the input reads as it did. -/
def ledgerOtherSpec : ChangeSpec := { name := "ledgerOther", fn := fun _ => fun
  | [d1, d2, d3, d4, d5] => { results := [.lit (.bool true)], args := [d1, d2, d3, d4, d5] }
  | _ => none }
def ledgerOtherRow : OpenClaim := { program := "ytkplpodljmlanaagreatdoor", sum := "d8d89b19b9f2555916d6d8f164dc0557861a5d48969f401438db023a9dab64ac", func := "consignor/consignorlaw10.LedgerOther", spec := "ledgerOther", inPlace := ["internal/abi.NoEscape", "internal/bytealg.MakeNoZero", "internal/reflectlite.ValueOf", "(internal/reflectlite.Value).Type", "(internal/reflectlite.Value).IsNil", "internal/reflectlite.TypeOf", "(internal/reflectlite.Value).Elem", "(internal/reflectlite.Value).Set"], unfollowed := true, recurses := true, named := ["consignor/octet.errSize", "consignor/octet.errShort", "consignor/octet.errDigits", "errors.errorType"], apart := false, laid := [("errors.errorType", laid_errors_errorType), ("consignor/octet.errDigits", laid_consignor_octet_errDigits), ("consignor/octet.errShort", laid_consignor_octet_errShort), ("consignor/octet.errSize", laid_consignor_octet_errSize)] }
def LedgerOtherSaid : Prop := ledgerOtherRow.holds Tryz.pinned (OpenSpec.ofChange ledgerOtherSpec)

/-- ITS FALSE NEIGHBOUR: 'it returns false'. Refute it at one input. -/
def ledgerOtherWrong : ChangeSpec := { name := "ledgerOther", fn := fun _ => fun
  | [d1, d2, d3, d4, d5] => { results := [.lit (.bool false)], args := [d1, d2, d3, d4, d5] }
  | _ => none }
def LedgerOtherWrongFalsely : Prop := ledgerOtherRow.holds Tryz.pinned (OpenSpec.ofChange ledgerOtherWrong)

/- THE SECOND FORM. 'bulk': how many values and letters a reading holds, each counted each time it is reached (what is shared counts as often as it is met; a slice's spare places count too). A statement '..UptoSaid' is the law's where the arguments, and the package variables that the reading takes, are together of bulk at most 1048576: NARROWER than '..Said'. Prove '..Said' where nothing that the law and all that it calls make is longer than what came in: it says more and counts as full. Else prove '..UptoSaid'. A law counts once. -/
mutual
def uptoBulk {H : Type} : DataW H → Nat
  | .lit (.string bytes) => bytes.length + 1
  | .lit _ => 1
  | .nil => 1
  | .ptr d => uptoBulk d + 1
  | .slice elems spare => uptoBulkAll elems + uptoBulkAll spare + 1
  | .agg parts => uptoBulkAll parts + 1
  | .iface _ d => uptoBulk d + 1
  | .map entries => uptoBulkEntries entries + 1
  | .held _ => 1
def uptoBulkAll {H : Type} : List (DataW H) → Nat
  | [] => 0
  | d :: r => uptoBulk d + uptoBulkAll r
def uptoBulkEntries {H : Type} : List (Lit × DataW H) → Nat
  | [] => 0
  | x :: r => uptoBulkEntry x + uptoBulkEntries r
def uptoBulkEntry {H : Type} : Lit × DataW H → Nat
  | (.string bytes, d) => bytes.length + uptoBulk d + 1
  | (_, d) => uptoBulk d + 1
 end
def uptoSmall : (H : Type) → List (DataW H) → Bool := fun _ ds => decide (uptoBulkAll ds ≤ 1048576)
def OpenSpec.upto (s : _root_.Go.ChangeSpec) : _root_.Go.OpenSpec := { _root_.Go.OpenSpec.ofChange s with cond := some uptoSmall }

/-- 'consignorlaw10.LedgerOpens', WHERE WHAT IT READS IS OF BULK AT MOST 1048576: true; the input reads as it did. -/
def ledgerOpensUptoRow : OpenClaim := { program := "ytkplpodljmlanaagreatdoor", sum := "d8d89b19b9f2555916d6d8f164dc0557861a5d48969f401438db023a9dab64ac", func := "consignor/consignorlaw10.LedgerOpens", spec := "ledgerOpens", inPlace := ["internal/reflectlite.ValueOf", "(internal/reflectlite.Value).Type", "(internal/reflectlite.Value).IsNil", "internal/reflectlite.TypeOf", "(internal/reflectlite.Value).Elem", "(internal/reflectlite.Value).Set", "internal/abi.NoEscape", "internal/bytealg.MakeNoZero"], unfollowed := true, recurses := true, named := ["consignor/octet.errShort", "consignor/octet.errDigits", "errors.errorType", "consignor/octet.errSize"], apart := false, laid := [("errors.errorType", laid_errors_errorType), ("consignor/octet.errDigits", laid_consignor_octet_errDigits), ("consignor/octet.errShort", laid_consignor_octet_errShort), ("consignor/octet.errSize", laid_consignor_octet_errSize)], narrowed := true }
def LedgerOpensUptoSaid : Prop := ledgerOpensUptoRow.holds Tryz.pinned (OpenSpec.upto ledgerOpensSpec)

/-- 'consignorlaw10.LedgerSteps', WHERE WHAT IT READS IS OF BULK AT MOST 1048576: true; the input reads as it did. -/
def ledgerStepsUptoRow : OpenClaim := { program := "ytkplpodljmlanaagreatdoor", sum := "d8d89b19b9f2555916d6d8f164dc0557861a5d48969f401438db023a9dab64ac", func := "consignor/consignorlaw10.LedgerSteps", spec := "ledgerSteps", inPlace := ["internal/reflectlite.ValueOf", "(internal/reflectlite.Value).Type", "(internal/reflectlite.Value).IsNil", "internal/reflectlite.TypeOf", "(internal/reflectlite.Value).Elem", "(internal/reflectlite.Value).Set", "internal/abi.NoEscape", "internal/bytealg.MakeNoZero"], unfollowed := true, recurses := true, named := ["consignor/octet.errShort", "consignor/octet.errDigits", "errors.errorType", "consignor/octet.errSize"], apart := false, laid := [("errors.errorType", laid_errors_errorType), ("consignor/octet.errDigits", laid_consignor_octet_errDigits), ("consignor/octet.errShort", laid_consignor_octet_errShort), ("consignor/octet.errSize", laid_consignor_octet_errSize)], narrowed := true }
def LedgerStepsUptoSaid : Prop := ledgerStepsUptoRow.holds Tryz.pinned (OpenSpec.upto ledgerStepsSpec)

/-- 'consignorlaw10.LedgerCrashes', WHERE WHAT IT READS IS OF BULK AT MOST 1048576: true; the input reads as it did. -/
def ledgerCrashesUptoRow : OpenClaim := { program := "ytkplpodljmlanaagreatdoor", sum := "d8d89b19b9f2555916d6d8f164dc0557861a5d48969f401438db023a9dab64ac", func := "consignor/consignorlaw10.LedgerCrashes", spec := "ledgerCrashes", inPlace := ["internal/abi.NoEscape", "internal/bytealg.MakeNoZero", "internal/reflectlite.ValueOf", "(internal/reflectlite.Value).Type", "(internal/reflectlite.Value).IsNil", "internal/reflectlite.TypeOf", "(internal/reflectlite.Value).Elem", "(internal/reflectlite.Value).Set"], unfollowed := true, recurses := true, named := ["consignor/octet.errSize", "consignor/octet.errShort", "consignor/octet.errDigits", "errors.errorType"], apart := false, laid := [("errors.errorType", laid_errors_errorType), ("consignor/octet.errDigits", laid_consignor_octet_errDigits), ("consignor/octet.errShort", laid_consignor_octet_errShort), ("consignor/octet.errSize", laid_consignor_octet_errSize)], narrowed := true }
def LedgerCrashesUptoSaid : Prop := ledgerCrashesUptoRow.holds Tryz.pinned (OpenSpec.upto ledgerCrashesSpec)

/-- 'consignorlaw10.LedgerGoes', WHERE WHAT IT READS IS OF BULK AT MOST 1048576: true; the input reads as it did. -/
def ledgerGoesUptoRow : OpenClaim := { program := "ytkplpodljmlanaagreatdoor", sum := "d8d89b19b9f2555916d6d8f164dc0557861a5d48969f401438db023a9dab64ac", func := "consignor/consignorlaw10.LedgerGoes", spec := "ledgerGoes", inPlace := ["internal/abi.NoEscape", "internal/bytealg.MakeNoZero", "internal/reflectlite.ValueOf", "(internal/reflectlite.Value).Type", "(internal/reflectlite.Value).IsNil", "internal/reflectlite.TypeOf", "(internal/reflectlite.Value).Elem", "(internal/reflectlite.Value).Set"], unfollowed := true, recurses := true, named := ["consignor/octet.errSize", "consignor/octet.errShort", "consignor/octet.errDigits", "errors.errorType"], apart := false, laid := [("errors.errorType", laid_errors_errorType), ("consignor/octet.errDigits", laid_consignor_octet_errDigits), ("consignor/octet.errShort", laid_consignor_octet_errShort), ("consignor/octet.errSize", laid_consignor_octet_errSize)], narrowed := true }
def LedgerGoesUptoSaid : Prop := ledgerGoesUptoRow.holds Tryz.pinned (OpenSpec.upto ledgerGoesSpec)

/-- 'consignorlaw10.LedgerHalves', WHERE WHAT IT READS IS OF BULK AT MOST 1048576: true; the input reads as it did. -/
def ledgerHalvesUptoRow : OpenClaim := { program := "ytkplpodljmlanaagreatdoor", sum := "d8d89b19b9f2555916d6d8f164dc0557861a5d48969f401438db023a9dab64ac", func := "consignor/consignorlaw10.LedgerHalves", spec := "ledgerHalves", inPlace := ["internal/abi.NoEscape", "internal/bytealg.MakeNoZero", "internal/reflectlite.ValueOf", "(internal/reflectlite.Value).Type", "(internal/reflectlite.Value).IsNil", "internal/reflectlite.TypeOf", "(internal/reflectlite.Value).Elem", "(internal/reflectlite.Value).Set"], unfollowed := true, recurses := true, named := ["consignor/octet.errSize", "consignor/octet.errShort", "consignor/octet.errDigits", "errors.errorType"], apart := false, laid := [("errors.errorType", laid_errors_errorType), ("consignor/octet.errDigits", laid_consignor_octet_errDigits), ("consignor/octet.errShort", laid_consignor_octet_errShort), ("consignor/octet.errSize", laid_consignor_octet_errSize)], narrowed := true }
def LedgerHalvesUptoSaid : Prop := ledgerHalvesUptoRow.holds Tryz.pinned (OpenSpec.upto ledgerHalvesSpec)

/-- 'consignorlaw10.LedgerFills', WHERE WHAT IT READS IS OF BULK AT MOST 1048576: true; the input reads as it did. -/
def ledgerFillsUptoRow : OpenClaim := { program := "ytkplpodljmlanaagreatdoor", sum := "d8d89b19b9f2555916d6d8f164dc0557861a5d48969f401438db023a9dab64ac", func := "consignor/consignorlaw10.LedgerFills", spec := "ledgerFills", inPlace := ["internal/abi.NoEscape", "internal/bytealg.MakeNoZero", "internal/reflectlite.ValueOf", "(internal/reflectlite.Value).Type", "(internal/reflectlite.Value).IsNil", "internal/reflectlite.TypeOf", "(internal/reflectlite.Value).Elem", "(internal/reflectlite.Value).Set"], unfollowed := true, recurses := true, named := ["consignor/octet.errSize", "consignor/octet.errShort", "consignor/octet.errDigits", "errors.errorType"], apart := false, laid := [("errors.errorType", laid_errors_errorType), ("consignor/octet.errDigits", laid_consignor_octet_errDigits), ("consignor/octet.errShort", laid_consignor_octet_errShort), ("consignor/octet.errSize", laid_consignor_octet_errSize)], narrowed := true }
def LedgerFillsUptoSaid : Prop := ledgerFillsUptoRow.holds Tryz.pinned (OpenSpec.upto ledgerFillsSpec)

/-- 'consignorlaw10.LedgerOrder', WHERE WHAT IT READS IS OF BULK AT MOST 1048576: true; the input reads as it did. -/
def ledgerOrderUptoRow : OpenClaim := { program := "ytkplpodljmlanaagreatdoor", sum := "d8d89b19b9f2555916d6d8f164dc0557861a5d48969f401438db023a9dab64ac", func := "consignor/consignorlaw10.LedgerOrder", spec := "ledgerOrder", inPlace := ["internal/abi.NoEscape", "internal/bytealg.MakeNoZero", "internal/reflectlite.ValueOf", "(internal/reflectlite.Value).Type", "(internal/reflectlite.Value).IsNil", "internal/reflectlite.TypeOf", "(internal/reflectlite.Value).Elem", "(internal/reflectlite.Value).Set"], unfollowed := true, recurses := true, named := ["consignor/octet.errSize", "consignor/octet.errShort", "consignor/octet.errDigits", "errors.errorType"], apart := false, laid := [("errors.errorType", laid_errors_errorType), ("consignor/octet.errDigits", laid_consignor_octet_errDigits), ("consignor/octet.errShort", laid_consignor_octet_errShort), ("consignor/octet.errSize", laid_consignor_octet_errSize)], narrowed := true }
def LedgerOrderUptoSaid : Prop := ledgerOrderUptoRow.holds Tryz.pinned (OpenSpec.upto ledgerOrderSpec)

/-- 'consignorlaw10.LedgerOther', WHERE WHAT IT READS IS OF BULK AT MOST 1048576: true; the input reads as it did. -/
def ledgerOtherUptoRow : OpenClaim := { program := "ytkplpodljmlanaagreatdoor", sum := "d8d89b19b9f2555916d6d8f164dc0557861a5d48969f401438db023a9dab64ac", func := "consignor/consignorlaw10.LedgerOther", spec := "ledgerOther", inPlace := ["internal/abi.NoEscape", "internal/bytealg.MakeNoZero", "internal/reflectlite.ValueOf", "(internal/reflectlite.Value).Type", "(internal/reflectlite.Value).IsNil", "internal/reflectlite.TypeOf", "(internal/reflectlite.Value).Elem", "(internal/reflectlite.Value).Set"], unfollowed := true, recurses := true, named := ["consignor/octet.errSize", "consignor/octet.errShort", "consignor/octet.errDigits", "errors.errorType"], apart := false, laid := [("errors.errorType", laid_errors_errorType), ("consignor/octet.errDigits", laid_consignor_octet_errDigits), ("consignor/octet.errShort", laid_consignor_octet_errShort), ("consignor/octet.errSize", laid_consignor_octet_errSize)], narrowed := true }
def LedgerOtherUptoSaid : Prop := ledgerOtherUptoRow.holds Tryz.pinned (OpenSpec.upto ledgerOtherSpec)

end Rows
end Go.Proofs.YtkplpodljmlanaaGreatDoor
