/-
  NARROWER THAN 'FOR EVERY INPUT', by the rows' own cells (each row's printed sentence says how): OctetReads: laid · OctetBinds: laid · OctetBack: laid · OctetApart: laid · OctetLong: laid · OctetParts: laid.
  DERIVED. THE GIVEN ROWS OF THIS SEAT. 6 by the template 'for every input the law returns true; each argument reads behind the call as it read before'; 0 by the template 'total and deterministic' (their statements: YtibfpffoddhooaaDoorTotals.lean).
  GIVEN WITH THE SEED: the statements are not yours to turn. If you find one false, say at which input.
  Laid BY PROGRAM, IN A SANDBOX (cutbox-rows.mjs): the forced cells as the released guide's own fill.sh prints them over the translation e970eea047fb8c71… (all of the seat's roots in one cut). By AI agents, Wed Nov 11 2026. No macro, syntax, notation, axiom, sorry.
-/
import Derived.Test.YtibfpffoddhooaaDoorChecked
import GoSem.Claim
import GoSem.ClaimJoined
import GoSem.ClaimMapViews
import Derived.JoinedTies
import Derived.KernelRfl
namespace Go.Proofs.YtibfpffoddhooaaDoor
/- THE CELL 'sum', in the pinned program and in every row, IS THE sha256 OF THE DUMP (.gsa) THAT YtibfpffoddhooaaDoorProg.lean LOADS. Nothing in Lean hashes anything: it is a label: what it is worth is what the hold of that sum in a sandbox is worth. -/
noncomputable def Tryd.pinned : Pinned := { name := "ytibfpffoddhooaadoor", sum := "e970eea047fb8c71da6d8011cdd910b5010d0f0c7e65543c4f9cf81641b413fb", checked := Tryd.checked }
namespace Rows
def none {H : Type} : Left H := { results := [], args := [] }

/- WHAT THE LISTED PACKAGE-LEVEL VARIABLES READ AS WHEN THE CALL BEGINS. Each datum BY PROGRAM (the guide's laid-datum.mjs) off the statement by which the dump's own 'gosem.cut.vars' lays the variable. In a bare row this is a premise. The card (YtibfpffoddhooaaDoorCards.lean) ties it to the program's text. -/
def laid_errors_errorType {H : Type} : DataW H := .iface "internal/reflectlite.rtype" (.agg [.ptr (.lit (.string [101, 114, 114, 111, 114]))])
def laid_consignor_octet_errDigits {H : Type} : DataW H := .iface "*errors.errorString" (.ptr (.agg [.lit (.string [110, 111, 32, 100, 105, 103, 105, 116, 115, 32, 111, 102, 32, 98, 121, 116, 101, 115])]))
def laid_consignor_octet_errShort {H : Type} : DataW H := .iface "*errors.errorString" (.ptr (.agg [.lit (.string [102, 101, 119, 101, 114, 32, 98, 121, 116, 101, 115, 32, 116, 104, 97, 110, 32, 116, 111, 108, 100])]))
def laid_consignor_octet_errSize {H : Type} : DataW H := .iface "*errors.errorString" (.ptr (.agg [.lit (.string [97, 32, 115, 105, 122, 101, 32, 116, 104, 97, 116, 32, 109, 97, 121, 32, 110, 111, 116, 32, 98, 101])]))

/-- 'consignorlaw01.OctetReads': WHATEVER THE INPUT: true; the input reads as it did. -/
def octetReadsSpec : ChangeSpec := { name := "octetReads", fn := fun _ => fun
  | [d1, d2, d3] => { results := [.lit (.bool true)], args := [d1, d2, d3] }
  | _ => none }
def octetReadsRow : OpenClaim := { program := "ytibfpffoddhooaadoor", sum := "e970eea047fb8c71da6d8011cdd910b5010d0f0c7e65543c4f9cf81641b413fb", func := "consignor/consignorlaw01.OctetReads", spec := "octetReads", inPlace := ["internal/reflectlite.ValueOf", "(internal/reflectlite.Value).Type", "(internal/reflectlite.Value).IsNil", "internal/reflectlite.TypeOf", "(internal/reflectlite.Value).Elem", "(internal/reflectlite.Value).Set", "internal/abi.NoEscape", "internal/bytealg.MakeNoZero"], unfollowed := true, recurses := true, named := ["consignor/octet.errDigits", "consignor/octet.errShort", "errors.errorType", "consignor/octet.errSize"], apart := false, laid := [("errors.errorType", laid_errors_errorType), ("consignor/octet.errDigits", laid_consignor_octet_errDigits), ("consignor/octet.errShort", laid_consignor_octet_errShort), ("consignor/octet.errSize", laid_consignor_octet_errSize)] }
def OctetReadsSaid : Prop := octetReadsRow.holds Tryd.pinned (OpenSpec.ofChange octetReadsSpec)

/-- ITS FALSE NEIGHBOUR: 'it returns false'. Refute it at one input. -/
def octetReadsWrong : ChangeSpec := { name := "octetReads", fn := fun _ => fun
  | [d1, d2, d3] => { results := [.lit (.bool false)], args := [d1, d2, d3] }
  | _ => none }
def OctetReadsWrongFalsely : Prop := octetReadsRow.holds Tryd.pinned (OpenSpec.ofChange octetReadsWrong)

/-- 'consignorlaw01.OctetBinds': WHATEVER THE INPUT: true; the input reads as it did. -/
def octetBindsSpec : ChangeSpec := { name := "octetBinds", fn := fun _ => fun
  | [d1, d2] => { results := [.lit (.bool true)], args := [d1, d2] }
  | _ => none }
def octetBindsRow : OpenClaim := { program := "ytibfpffoddhooaadoor", sum := "e970eea047fb8c71da6d8011cdd910b5010d0f0c7e65543c4f9cf81641b413fb", func := "consignor/consignorlaw01.OctetBinds", spec := "octetBinds", inPlace := ["internal/abi.NoEscape", "internal/reflectlite.ValueOf", "(internal/reflectlite.Value).Type", "(internal/reflectlite.Value).IsNil", "internal/reflectlite.TypeOf", "(internal/reflectlite.Value).Elem", "(internal/reflectlite.Value).Set", "internal/bytealg.MakeNoZero"], unfollowed := true, recurses := true, named := ["consignor/octet.errSize", "consignor/octet.errShort", "consignor/octet.errDigits", "errors.errorType"], apart := false, laid := [("errors.errorType", laid_errors_errorType), ("consignor/octet.errDigits", laid_consignor_octet_errDigits), ("consignor/octet.errShort", laid_consignor_octet_errShort), ("consignor/octet.errSize", laid_consignor_octet_errSize)] }
def OctetBindsSaid : Prop := octetBindsRow.holds Tryd.pinned (OpenSpec.ofChange octetBindsSpec)

/-- ITS FALSE NEIGHBOUR: 'it returns false'. Refute it at one input. -/
def octetBindsWrong : ChangeSpec := { name := "octetBinds", fn := fun _ => fun
  | [d1, d2] => { results := [.lit (.bool false)], args := [d1, d2] }
  | _ => none }
def OctetBindsWrongFalsely : Prop := octetBindsRow.holds Tryd.pinned (OpenSpec.ofChange octetBindsWrong)

/-- 'consignorlaw01.OctetBack': WHATEVER THE INPUT: true; the input reads as it did. -/
def octetBackSpec : ChangeSpec := { name := "octetBack", fn := fun _ => fun
  | [d1, d2, d3] => { results := [.lit (.bool true)], args := [d1, d2, d3] }
  | _ => none }
def octetBackRow : OpenClaim := { program := "ytibfpffoddhooaadoor", sum := "e970eea047fb8c71da6d8011cdd910b5010d0f0c7e65543c4f9cf81641b413fb", func := "consignor/consignorlaw01.OctetBack", spec := "octetBack", inPlace := ["internal/abi.NoEscape", "internal/bytealg.MakeNoZero", "internal/reflectlite.ValueOf", "(internal/reflectlite.Value).Type", "(internal/reflectlite.Value).IsNil", "internal/reflectlite.TypeOf", "(internal/reflectlite.Value).Elem", "(internal/reflectlite.Value).Set"], unfollowed := true, recurses := true, named := ["consignor/octet.errDigits", "consignor/octet.errShort", "errors.errorType", "consignor/octet.errSize"], apart := false, laid := [("errors.errorType", laid_errors_errorType), ("consignor/octet.errDigits", laid_consignor_octet_errDigits), ("consignor/octet.errShort", laid_consignor_octet_errShort), ("consignor/octet.errSize", laid_consignor_octet_errSize)] }
def OctetBackSaid : Prop := octetBackRow.holds Tryd.pinned (OpenSpec.ofChange octetBackSpec)

/-- ITS FALSE NEIGHBOUR: 'it returns false'. Refute it at one input. -/
def octetBackWrong : ChangeSpec := { name := "octetBack", fn := fun _ => fun
  | [d1, d2, d3] => { results := [.lit (.bool false)], args := [d1, d2, d3] }
  | _ => none }
def OctetBackWrongFalsely : Prop := octetBackRow.holds Tryd.pinned (OpenSpec.ofChange octetBackWrong)

/-- 'consignorlaw01.OctetApart': WHATEVER THE INPUT: true; the input reads as it did. -/
def octetApartSpec : ChangeSpec := { name := "octetApart", fn := fun _ => fun
  | [d1, d2, d3] => { results := [.lit (.bool true)], args := [d1, d2, d3] }
  | _ => none }
def octetApartRow : OpenClaim := { program := "ytibfpffoddhooaadoor", sum := "e970eea047fb8c71da6d8011cdd910b5010d0f0c7e65543c4f9cf81641b413fb", func := "consignor/consignorlaw01.OctetApart", spec := "octetApart", inPlace := ["internal/abi.NoEscape", "internal/reflectlite.ValueOf", "(internal/reflectlite.Value).Type", "(internal/reflectlite.Value).IsNil", "internal/reflectlite.TypeOf", "(internal/reflectlite.Value).Elem", "(internal/reflectlite.Value).Set", "internal/bytealg.MakeNoZero"], unfollowed := true, recurses := true, named := ["consignor/octet.errSize", "consignor/octet.errShort", "consignor/octet.errDigits", "errors.errorType"], apart := false, laid := [("errors.errorType", laid_errors_errorType), ("consignor/octet.errDigits", laid_consignor_octet_errDigits), ("consignor/octet.errShort", laid_consignor_octet_errShort), ("consignor/octet.errSize", laid_consignor_octet_errSize)] }
def OctetApartSaid : Prop := octetApartRow.holds Tryd.pinned (OpenSpec.ofChange octetApartSpec)

/-- ITS FALSE NEIGHBOUR: 'it returns false'. Refute it at one input. -/
def octetApartWrong : ChangeSpec := { name := "octetApart", fn := fun _ => fun
  | [d1, d2, d3] => { results := [.lit (.bool false)], args := [d1, d2, d3] }
  | _ => none }
def OctetApartWrongFalsely : Prop := octetApartRow.holds Tryd.pinned (OpenSpec.ofChange octetApartWrong)

/-- 'consignorlaw01.OctetLong': WHATEVER THE INPUT: true; the input reads as it did. -/
def octetLongSpec : ChangeSpec := { name := "octetLong", fn := fun _ => fun
  | [d1, d2] => { results := [.lit (.bool true)], args := [d1, d2] }
  | _ => none }
def octetLongRow : OpenClaim := { program := "ytibfpffoddhooaadoor", sum := "e970eea047fb8c71da6d8011cdd910b5010d0f0c7e65543c4f9cf81641b413fb", func := "consignor/consignorlaw01.OctetLong", spec := "octetLong", inPlace := ["internal/abi.NoEscape", "internal/reflectlite.ValueOf", "(internal/reflectlite.Value).Type", "(internal/reflectlite.Value).IsNil", "internal/reflectlite.TypeOf", "(internal/reflectlite.Value).Elem", "(internal/reflectlite.Value).Set", "internal/bytealg.MakeNoZero"], unfollowed := true, recurses := true, named := ["consignor/octet.errSize", "consignor/octet.errShort", "consignor/octet.errDigits", "errors.errorType"], apart := false, laid := [("errors.errorType", laid_errors_errorType), ("consignor/octet.errDigits", laid_consignor_octet_errDigits), ("consignor/octet.errShort", laid_consignor_octet_errShort), ("consignor/octet.errSize", laid_consignor_octet_errSize)] }
def OctetLongSaid : Prop := octetLongRow.holds Tryd.pinned (OpenSpec.ofChange octetLongSpec)

/-- ITS FALSE NEIGHBOUR: 'it returns false'. Refute it at one input. -/
def octetLongWrong : ChangeSpec := { name := "octetLong", fn := fun _ => fun
  | [d1, d2] => { results := [.lit (.bool false)], args := [d1, d2] }
  | _ => none }
def OctetLongWrongFalsely : Prop := octetLongRow.holds Tryd.pinned (OpenSpec.ofChange octetLongWrong)

/-- 'consignorlaw01.OctetParts': WHATEVER THE INPUT: true; the input reads as it did. -/
def octetPartsSpec : ChangeSpec := { name := "octetParts", fn := fun _ => fun
  | [d1, d2, d3, d4] => { results := [.lit (.bool true)], args := [d1, d2, d3, d4] }
  | _ => none }
def octetPartsRow : OpenClaim := { program := "ytibfpffoddhooaadoor", sum := "e970eea047fb8c71da6d8011cdd910b5010d0f0c7e65543c4f9cf81641b413fb", func := "consignor/consignorlaw01.OctetParts", spec := "octetParts", inPlace := ["internal/reflectlite.ValueOf", "(internal/reflectlite.Value).Type", "(internal/reflectlite.Value).IsNil", "internal/reflectlite.TypeOf", "(internal/reflectlite.Value).Elem", "(internal/reflectlite.Value).Set", "internal/abi.NoEscape", "internal/bytealg.MakeNoZero"], unfollowed := true, recurses := true, named := ["consignor/octet.errSize", "consignor/octet.errShort", "consignor/octet.errDigits", "errors.errorType"], apart := false, laid := [("errors.errorType", laid_errors_errorType), ("consignor/octet.errDigits", laid_consignor_octet_errDigits), ("consignor/octet.errShort", laid_consignor_octet_errShort), ("consignor/octet.errSize", laid_consignor_octet_errSize)] }
def OctetPartsSaid : Prop := octetPartsRow.holds Tryd.pinned (OpenSpec.ofChange octetPartsSpec)

/-- ITS FALSE NEIGHBOUR: 'it returns false'. Refute it at one input. -/
def octetPartsWrong : ChangeSpec := { name := "octetParts", fn := fun _ => fun
  | [d1, d2, d3, d4] => { results := [.lit (.bool false)], args := [d1, d2, d3, d4] }
  | _ => none }
def OctetPartsWrongFalsely : Prop := octetPartsRow.holds Tryd.pinned (OpenSpec.ofChange octetPartsWrong)

/- THE SECOND FORM. 'bulk': how many values and letters a reading holds, each counted each time it is reached (what is shared counts as often as it is met; a slice's spare places count too). A statement '..UptoSaid' is the law's where the arguments, and the package variables that the reading takes, are together of bulk at most 1048576: NARROWER than '..Said'. Prove '..Said' where nothing that the law and all that it calls make is longer than what came in: it says more and counts as full. Else prove '..UptoSaid'. A law counts once. -/
mutual
def uptoBulk {H : Type} : DataW H → Nat
  | .lit (.string bytes) => bytes.length + 1
  | .lit _ => 1
  | .nil => 1
  | .ptr d => uptoBulk d + 1
  | .slice elems spare => uptoBulkAll elems + uptoBulkAll spare + 1
  | .agg parts => uptoBulkAll parts + 1
  | .iface _ d => uptoBulk d + 1
  | .map entries => uptoBulkEntries entries + 1
  | .held _ => 1
def uptoBulkAll {H : Type} : List (DataW H) → Nat
  | [] => 0
  | d :: r => uptoBulk d + uptoBulkAll r
def uptoBulkEntries {H : Type} : List (Lit × DataW H) → Nat
  | [] => 0
  | x :: r => uptoBulkEntry x + uptoBulkEntries r
def uptoBulkEntry {H : Type} : Lit × DataW H → Nat
  | (.string bytes, d) => bytes.length + uptoBulk d + 1
  | (_, d) => uptoBulk d + 1
 end
def uptoSmall : (H : Type) → List (DataW H) → Bool := fun _ ds => decide (uptoBulkAll ds ≤ 1048576)
def OpenSpec.upto (s : _root_.Go.ChangeSpec) : _root_.Go.OpenSpec := { _root_.Go.OpenSpec.ofChange s with cond := some uptoSmall }

/-- 'consignorlaw01.OctetReads', WHERE WHAT IT READS IS OF BULK AT MOST 1048576: true; the input reads as it did. -/
def octetReadsUptoRow : OpenClaim := { program := "ytibfpffoddhooaadoor", sum := "e970eea047fb8c71da6d8011cdd910b5010d0f0c7e65543c4f9cf81641b413fb", func := "consignor/consignorlaw01.OctetReads", spec := "octetReads", inPlace := ["internal/reflectlite.ValueOf", "(internal/reflectlite.Value).Type", "(internal/reflectlite.Value).IsNil", "internal/reflectlite.TypeOf", "(internal/reflectlite.Value).Elem", "(internal/reflectlite.Value).Set", "internal/abi.NoEscape", "internal/bytealg.MakeNoZero"], unfollowed := true, recurses := true, named := ["consignor/octet.errDigits", "consignor/octet.errShort", "errors.errorType", "consignor/octet.errSize"], apart := false, laid := [("errors.errorType", laid_errors_errorType), ("consignor/octet.errDigits", laid_consignor_octet_errDigits), ("consignor/octet.errShort", laid_consignor_octet_errShort), ("consignor/octet.errSize", laid_consignor_octet_errSize)], narrowed := true }
def OctetReadsUptoSaid : Prop := octetReadsUptoRow.holds Tryd.pinned (OpenSpec.upto octetReadsSpec)

/-- 'consignorlaw01.OctetBinds', WHERE WHAT IT READS IS OF BULK AT MOST 1048576: true; the input reads as it did. -/
def octetBindsUptoRow : OpenClaim := { program := "ytibfpffoddhooaadoor", sum := "e970eea047fb8c71da6d8011cdd910b5010d0f0c7e65543c4f9cf81641b413fb", func := "consignor/consignorlaw01.OctetBinds", spec := "octetBinds", inPlace := ["internal/abi.NoEscape", "internal/reflectlite.ValueOf", "(internal/reflectlite.Value).Type", "(internal/reflectlite.Value).IsNil", "internal/reflectlite.TypeOf", "(internal/reflectlite.Value).Elem", "(internal/reflectlite.Value).Set", "internal/bytealg.MakeNoZero"], unfollowed := true, recurses := true, named := ["consignor/octet.errSize", "consignor/octet.errShort", "consignor/octet.errDigits", "errors.errorType"], apart := false, laid := [("errors.errorType", laid_errors_errorType), ("consignor/octet.errDigits", laid_consignor_octet_errDigits), ("consignor/octet.errShort", laid_consignor_octet_errShort), ("consignor/octet.errSize", laid_consignor_octet_errSize)], narrowed := true }
def OctetBindsUptoSaid : Prop := octetBindsUptoRow.holds Tryd.pinned (OpenSpec.upto octetBindsSpec)

/-- 'consignorlaw01.OctetBack', WHERE WHAT IT READS IS OF BULK AT MOST 1048576: true; the input reads as it did. -/
def octetBackUptoRow : OpenClaim := { program := "ytibfpffoddhooaadoor", sum := "e970eea047fb8c71da6d8011cdd910b5010d0f0c7e65543c4f9cf81641b413fb", func := "consignor/consignorlaw01.OctetBack", spec := "octetBack", inPlace := ["internal/abi.NoEscape", "internal/bytealg.MakeNoZero", "internal/reflectlite.ValueOf", "(internal/reflectlite.Value).Type", "(internal/reflectlite.Value).IsNil", "internal/reflectlite.TypeOf", "(internal/reflectlite.Value).Elem", "(internal/reflectlite.Value).Set"], unfollowed := true, recurses := true, named := ["consignor/octet.errDigits", "consignor/octet.errShort", "errors.errorType", "consignor/octet.errSize"], apart := false, laid := [("errors.errorType", laid_errors_errorType), ("consignor/octet.errDigits", laid_consignor_octet_errDigits), ("consignor/octet.errShort", laid_consignor_octet_errShort), ("consignor/octet.errSize", laid_consignor_octet_errSize)], narrowed := true }
def OctetBackUptoSaid : Prop := octetBackUptoRow.holds Tryd.pinned (OpenSpec.upto octetBackSpec)

/-- 'consignorlaw01.OctetApart', WHERE WHAT IT READS IS OF BULK AT MOST 1048576: true; the input reads as it did. -/
def octetApartUptoRow : OpenClaim := { program := "ytibfpffoddhooaadoor", sum := "e970eea047fb8c71da6d8011cdd910b5010d0f0c7e65543c4f9cf81641b413fb", func := "consignor/consignorlaw01.OctetApart", spec := "octetApart", inPlace := ["internal/abi.NoEscape", "internal/reflectlite.ValueOf", "(internal/reflectlite.Value).Type", "(internal/reflectlite.Value).IsNil", "internal/reflectlite.TypeOf", "(internal/reflectlite.Value).Elem", "(internal/reflectlite.Value).Set", "internal/bytealg.MakeNoZero"], unfollowed := true, recurses := true, named := ["consignor/octet.errSize", "consignor/octet.errShort", "consignor/octet.errDigits", "errors.errorType"], apart := false, laid := [("errors.errorType", laid_errors_errorType), ("consignor/octet.errDigits", laid_consignor_octet_errDigits), ("consignor/octet.errShort", laid_consignor_octet_errShort), ("consignor/octet.errSize", laid_consignor_octet_errSize)], narrowed := true }
def OctetApartUptoSaid : Prop := octetApartUptoRow.holds Tryd.pinned (OpenSpec.upto octetApartSpec)

/-- 'consignorlaw01.OctetLong', WHERE WHAT IT READS IS OF BULK AT MOST 1048576: true; the input reads as it did. -/
def octetLongUptoRow : OpenClaim := { program := "ytibfpffoddhooaadoor", sum := "e970eea047fb8c71da6d8011cdd910b5010d0f0c7e65543c4f9cf81641b413fb", func := "consignor/consignorlaw01.OctetLong", spec := "octetLong", inPlace := ["internal/abi.NoEscape", "internal/reflectlite.ValueOf", "(internal/reflectlite.Value).Type", "(internal/reflectlite.Value).IsNil", "internal/reflectlite.TypeOf", "(internal/reflectlite.Value).Elem", "(internal/reflectlite.Value).Set", "internal/bytealg.MakeNoZero"], unfollowed := true, recurses := true, named := ["consignor/octet.errSize", "consignor/octet.errShort", "consignor/octet.errDigits", "errors.errorType"], apart := false, laid := [("errors.errorType", laid_errors_errorType), ("consignor/octet.errDigits", laid_consignor_octet_errDigits), ("consignor/octet.errShort", laid_consignor_octet_errShort), ("consignor/octet.errSize", laid_consignor_octet_errSize)], narrowed := true }
def OctetLongUptoSaid : Prop := octetLongUptoRow.holds Tryd.pinned (OpenSpec.upto octetLongSpec)

/-- 'consignorlaw01.OctetParts', WHERE WHAT IT READS IS OF BULK AT MOST 1048576: true; the input reads as it did. -/
def octetPartsUptoRow : OpenClaim := { program := "ytibfpffoddhooaadoor", sum := "e970eea047fb8c71da6d8011cdd910b5010d0f0c7e65543c4f9cf81641b413fb", func := "consignor/consignorlaw01.OctetParts", spec := "octetParts", inPlace := ["internal/reflectlite.ValueOf", "(internal/reflectlite.Value).Type", "(internal/reflectlite.Value).IsNil", "internal/reflectlite.TypeOf", "(internal/reflectlite.Value).Elem", "(internal/reflectlite.Value).Set", "internal/abi.NoEscape", "internal/bytealg.MakeNoZero"], unfollowed := true, recurses := true, named := ["consignor/octet.errSize", "consignor/octet.errShort", "consignor/octet.errDigits", "errors.errorType"], apart := false, laid := [("errors.errorType", laid_errors_errorType), ("consignor/octet.errDigits", laid_consignor_octet_errDigits), ("consignor/octet.errShort", laid_consignor_octet_errShort), ("consignor/octet.errSize", laid_consignor_octet_errSize)], narrowed := true }
def OctetPartsUptoSaid : Prop := octetPartsUptoRow.holds Tryd.pinned (OpenSpec.upto octetPartsSpec)

end Rows
end Go.Proofs.YtibfpffoddhooaaDoor
