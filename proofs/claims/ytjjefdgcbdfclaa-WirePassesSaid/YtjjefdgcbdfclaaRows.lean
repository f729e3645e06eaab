/-
  No cell of these rows narrows 'for every input' (looked for: loops, veiled, ifaces, maps, wideKeys, modest, calm, conditions, laid).
  DERIVED. THE GIVEN ROWS OF THIS SEAT. 4 by the template 'for every input the law returns true; each argument reads behind the call as it read before'; 0 by the template 'total and deterministic' (their statements: YtjjefdgcbdfclaaTotals.lean).
  GIVEN WITH THE SEED: the statements are not yours to turn. If you find one false, say at which input.
  Laid BY PROGRAM, IN A SANDBOX (cutbox-rows.mjs): the forced cells as the released guide's own fill.sh prints them over the translation 744362d8c4cbde96… (all of the seat's roots in one cut). By AI agents, Wed Nov 11 2026. No macro, syntax, notation, axiom, sorry.
-/
import Derived.Test.YtjjefdgcbdfclaaChecked
import GoSem.Claim
import GoSem.ClaimJoined
import GoSem.ClaimMapViews
import Derived.JoinedTies
import Derived.KernelRfl
namespace Go.Proofs.Ytjjefdgcbdfclaa
/- THE CELL 'sum', in the pinned program and in every row, IS THE sha256 OF THE DUMP (.gsa) THAT YtjjefdgcbdfclaaProg.lean LOADS. Nothing in Lean hashes anything: it is a label: what it is worth is what the hold of that sum in a sandbox is worth. -/
noncomputable def Try.pinned : Pinned := { name := "ytjjefdgcbdfclaa", sum := "744362d8c4cbde964bcbf9e00aea02d87f495f2297783e666d4f2c198f6b9fc5", checked := Try.checked }
namespace Rows
def none {H : Type} : Left H := { results := [], args := [] }

/-- 'consignorlaw13.WireCalls': WHATEVER THE INPUT: true; the input reads as it did. -/
def wireCallsSpec : ChangeSpec := { name := "wireCalls", fn := fun _ => fun
  | [d1, d2, d3, d4, d5] => { results := [.lit (.bool true)], args := [d1, d2, d3, d4, d5] }
  | _ => none }
def wireCallsRow : OpenClaim := { program := "ytjjefdgcbdfclaa", sum := "744362d8c4cbde964bcbf9e00aea02d87f495f2297783e666d4f2c198f6b9fc5", func := "consignor/consignorlaw13.WireCalls", spec := "wireCalls", apart := false }
def WireCallsSaid : Prop := wireCallsRow.holds Try.pinned (OpenSpec.ofChange wireCallsSpec)

/-- ITS FALSE NEIGHBOUR: 'it returns false'. Refute it at one input. -/
def wireCallsWrong : ChangeSpec := { name := "wireCalls", fn := fun _ => fun
  | [d1, d2, d3, d4, d5] => { results := [.lit (.bool false)], args := [d1, d2, d3, d4, d5] }
  | _ => none }
def WireCallsWrongFalsely : Prop := wireCallsRow.holds Try.pinned (OpenSpec.ofChange wireCallsWrong)

/-- 'consignorlaw13.WireOnce': WHATEVER THE INPUT: true; the input reads as it did. -/
def wireOnceSpec : ChangeSpec := { name := "wireOnce", fn := fun _ => fun
  | [d1, d2] => { results := [.lit (.bool true)], args := [d1, d2] }
  | _ => none }
def wireOnceRow : OpenClaim := { program := "ytjjefdgcbdfclaa", sum := "744362d8c4cbde964bcbf9e00aea02d87f495f2297783e666d4f2c198f6b9fc5", func := "consignor/consignorlaw13.WireOnce", spec := "wireOnce", apart := false }
def WireOnceSaid : Prop := wireOnceRow.holds Try.pinned (OpenSpec.ofChange wireOnceSpec)

/-- ITS FALSE NEIGHBOUR: 'it returns false'. Refute it at one input. -/
def wireOnceWrong : ChangeSpec := { name := "wireOnce", fn := fun _ => fun
  | [d1, d2] => { results := [.lit (.bool false)], args := [d1, d2] }
  | _ => none }
def WireOnceWrongFalsely : Prop := wireOnceRow.holds Try.pinned (OpenSpec.ofChange wireOnceWrong)

/-- 'consignorlaw13.WirePasses': WHATEVER THE INPUT: true; the input reads as it did. -/
def wirePassesSpec : ChangeSpec := { name := "wirePasses", fn := fun _ => fun
  | [d1, d2, d3] => { results := [.lit (.bool true)], args := [d1, d2, d3] }
  | _ => none }
def wirePassesRow : OpenClaim := { program := "ytjjefdgcbdfclaa", sum := "744362d8c4cbde964bcbf9e00aea02d87f495f2297783e666d4f2c198f6b9fc5", func := "consignor/consignorlaw13.WirePasses", spec := "wirePasses", apart := false }
def WirePassesSaid : Prop := wirePassesRow.holds Try.pinned (OpenSpec.ofChange wirePassesSpec)

/-- ITS FALSE NEIGHBOUR: 'it returns false'. Refute it at one input. -/
def wirePassesWrong : ChangeSpec := { name := "wirePasses", fn := fun _ => fun
  | [d1, d2, d3] => { results := [.lit (.bool false)], args := [d1, d2, d3] }
  | _ => none }
def WirePassesWrongFalsely : Prop := wirePassesRow.holds Try.pinned (OpenSpec.ofChange wirePassesWrong)

/-- 'consignorlaw13.WireTimes': WHATEVER THE INPUT: true; the input reads as it did. -/
def wireTimesSpec : ChangeSpec := { name := "wireTimes", fn := fun _ => fun
  | [d1, d2] => { results := [.lit (.bool true)], args := [d1, d2] }
  | _ => none }
def wireTimesRow : OpenClaim := { program := "ytjjefdgcbdfclaa", sum := "744362d8c4cbde964bcbf9e00aea02d87f495f2297783e666d4f2c198f6b9fc5", func := "consignor/consignorlaw13.WireTimes", spec := "wireTimes", apart := false }
def WireTimesSaid : Prop := wireTimesRow.holds Try.pinned (OpenSpec.ofChange wireTimesSpec)

/-- ITS FALSE NEIGHBOUR: 'it returns false'. Refute it at one input. -/
def wireTimesWrong : ChangeSpec := { name := "wireTimes", fn := fun _ => fun
  | [d1, d2] => { results := [.lit (.bool false)], args := [d1, d2] }
  | _ => none }
def WireTimesWrongFalsely : Prop := wireTimesRow.holds Try.pinned (OpenSpec.ofChange wireTimesWrong)

/- THE SECOND FORM. 'bulk': how many values and letters a reading holds, each counted each time it is reached (what is shared counts as often as it is met; a slice's spare places count too). A statement '..UptoSaid' is the law's where the arguments, and the package variables that the reading takes, are together of bulk at most 1048576: NARROWER than '..Said'. Prove '..Said' where nothing that the law and all that it calls make is longer than what came in: it says more and counts as full. Else prove '..UptoSaid'. A law counts once. -/
mutual
def uptoBulk {H : Type} : DataW H → Nat
  | .lit (.string bytes) => bytes.length + 1
  | .lit _ => 1
  | .nil => 1
  | .ptr d => uptoBulk d + 1
  | .slice elems spare => uptoBulkAll elems + uptoBulkAll spare + 1
  | .agg parts => uptoBulkAll parts + 1
  | .iface _ d => uptoBulk d + 1
  | .map entries => uptoBulkEntries entries + 1
  | .held _ => 1
def uptoBulkAll {H : Type} : List (DataW H) → Nat
  | [] => 0
  | d :: r => uptoBulk d + uptoBulkAll r
def uptoBulkEntries {H : Type} : List (Lit × DataW H) → Nat
  | [] => 0
  | x :: r => uptoBulkEntry x + uptoBulkEntries r
def uptoBulkEntry {H : Type} : Lit × DataW H → Nat
  | (.string bytes, d) => bytes.length + uptoBulk d + 1
  | (_, d) => uptoBulk d + 1
 end
def uptoSmall : (H : Type) → List (DataW H) → Bool := fun _ ds => decide (uptoBulkAll ds ≤ 1048576)
def OpenSpec.upto (s : _root_.Go.ChangeSpec) : _root_.Go.OpenSpec := { _root_.Go.OpenSpec.ofChange s with cond := some uptoSmall }

/-- 'consignorlaw13.WireCalls', WHERE WHAT IT READS IS OF BULK AT MOST 1048576: true; the input reads as it did. -/
def wireCallsUptoRow : OpenClaim := { program := "ytjjefdgcbdfclaa", sum := "744362d8c4cbde964bcbf9e00aea02d87f495f2297783e666d4f2c198f6b9fc5", func := "consignor/consignorlaw13.WireCalls", spec := "wireCalls", apart := false, narrowed := true }
def WireCallsUptoSaid : Prop := wireCallsUptoRow.holds Try.pinned (OpenSpec.upto wireCallsSpec)

/-- 'consignorlaw13.WireOnce', WHERE WHAT IT READS IS OF BULK AT MOST 1048576: true; the input reads as it did. -/
def wireOnceUptoRow : OpenClaim := { program := "ytjjefdgcbdfclaa", sum := "744362d8c4cbde964bcbf9e00aea02d87f495f2297783e666d4f2c198f6b9fc5", func := "consignor/consignorlaw13.WireOnce", spec := "wireOnce", apart := false, narrowed := true }
def WireOnceUptoSaid : Prop := wireOnceUptoRow.holds Try.pinned (OpenSpec.upto wireOnceSpec)

/-- 'consignorlaw13.WirePasses', WHERE WHAT IT READS IS OF BULK AT MOST 1048576: true; the input reads as it did. -/
def wirePassesUptoRow : OpenClaim := { program := "ytjjefdgcbdfclaa", sum := "744362d8c4cbde964bcbf9e00aea02d87f495f2297783e666d4f2c198f6b9fc5", func := "consignor/consignorlaw13.WirePasses", spec := "wirePasses", apart := false, narrowed := true }
def WirePassesUptoSaid : Prop := wirePassesUptoRow.holds Try.pinned (OpenSpec.upto wirePassesSpec)

/-- 'consignorlaw13.WireTimes', WHERE WHAT IT READS IS OF BULK AT MOST 1048576: true; the input reads as it did. -/
def wireTimesUptoRow : OpenClaim := { program := "ytjjefdgcbdfclaa", sum := "744362d8c4cbde964bcbf9e00aea02d87f495f2297783e666d4f2c198f6b9fc5", func := "consignor/consignorlaw13.WireTimes", spec := "wireTimes", apart := false, narrowed := true }
def WireTimesUptoSaid : Prop := wireTimesUptoRow.holds Try.pinned (OpenSpec.upto wireTimesSpec)

end Rows
end Go.Proofs.Ytjjefdgcbdfclaa
