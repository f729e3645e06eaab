/-
  From the laid package-level variables of the names' rows to where they lie; a world that has them. Conditions: none.
-/
import Derived.Test.YtcdibcogboaikaaDoorCards
import Derived.Test.YtcdibcogboaikaaDoorTie
import Derived.Test.YtcdibcogboaikaaDoorErr2
import Derived.Test.YtcdibcogboaikaaDoorNameLaws
import Derived.Shelf.Vars
import Derived.WalkKit
import Derived.ProofKit
import Derived.OpenShut
import Derived.Deep.DeepHandedRow
import Derived.Deep.DeepWitnessRowRef
import Derived.Lib.LaidTab
import Derived.LaidHandle
import Derived.Stop.LaidTwo
namespace Go.Proofs.YtcdibcogboaikaaDoor
open Go.ChangeShapes Go.WideShapes Go.ChangeAt Go.RowKit

theorem own : ownKnob Tryd.prog.godebug = none := by kernel_rfl
theorem et : Tryd.prog.globalNamed "errors.errorType" = some 5 := by kernel_rfl
theorem rt : (Tryd.prog.cutTypes.find? (·.1 == "internal/reflectlite.rtype")).map (·.2) = some 131 := by kernel_rfl
theorem oneRow : ((List.range 177).filter fun t => Tryd.prog.rowNamed t [101, 114, 114, 111, 114]) = [60] := by kernel_rfl
theorem tsize : Tryd.prog.types.size = 177 := by kernel_rfl
theorem star : "*" ++ "errors.errorString" = "*errors.errorString" := by decide
theorem rowES (u : TypeId) (h : Tryd.prog.typeName? 3 u = some "*errors.errorString") : u = 146 :=
  typeName_ptr_named (nm := "errors.errorString") (by rw [star]; kernel_rfl) (by kernel_rfl) (by decide) u (by rw [star]; exact h)
theorem gDn : Tryd.prog.globalNamed "consignor/octet.errDigits" = some 2 := by kernel_rfl
theorem gSn : Tryd.prog.globalNamed "consignor/octet.errShort" = some 3 := by kernel_rfl
theorem gDt : (Tryd.prog.globals[2]?).map (·.type) = some 60 := by kernel_rfl
theorem gSt : (Tryd.prog.globals[3]?).map (·.type) = some 60 := by kernel_rfl
theorem gQn : Tryd.prog.globalNamed "consignor/digest.squares" = some 0 := by kernel_rfl
theorem gCn : Tryd.prog.globalNamed "consignor/digest.cubes" = some 1 := by kernel_rfl
theorem gQt : (Tryd.prog.globals[0]?).map (·.type) = some 65 := by kernel_rfl
theorem gCt : (Tryd.prog.globals[1]?).map (·.type) = some 83 := by kernel_rfl
theorem cellsES : Tryd.prog.cellsOf 165 = 1 := by kernel_rfl
theorem cellsStr : Tryd.prog.cellsOf 9 = 1 := by kernel_rfl
theorem cellsU : Tryd.prog.cellsOf 64 = 1 := by kernel_rfl
theorem cellsQ : Tryd.prog.cellsOf 65 = 8 := by kernel_rfl
theorem cellsC : Tryd.prog.cellsOf 83 = 64 := by kernel_rfl

/-- The lists of the rows. -/
def laidTabs : List (String × DataW Unit) := [("consignor/digest.squares", Rows.laid_consignor_digest_squares), ("consignor/digest.cubes", Rows.laid_consignor_digest_cubes), ("unicode/utf8.first", Rows.laid_unicode_utf8_first)]
def laidAll : List (String × DataW Unit) := [("unicode/utf8.acceptRanges", Rows.laid_unicode_utf8_acceptRanges), ("errors.errorType", Rows.laid_errors_errorType), ("consignor/octet.errDigits", Rows.laid_consignor_octet_errDigits), ("consignor/octet.errShort", Rows.laid_consignor_octet_errShort), ("unicode/utf8.first", Rows.laid_unicode_utf8_first)]
def laidMore : List (String × DataW Unit) := [("unicode/utf8.acceptRanges", Rows.laid_unicode_utf8_acceptRanges), ("errors.errorType", Rows.laid_errors_errorType), ("consignor/octet.errDigits", Rows.laid_consignor_octet_errDigits), ("consignor/octet.errShort", Rows.laid_consignor_octet_errShort), ("consignor/digest.squares", Rows.laid_consignor_digest_squares), ("consignor/digest.cubes", Rows.laid_consignor_digest_cubes), ("unicode/utf8.first", Rows.laid_unicode_utf8_first)]

theorem handle_of {W : World} {hs : List (String × DataW Unit)} (h : handlesMet Tryd.prog hs W) (hm : ("errors.errorType", Rows.laid_errors_errorType) ∈ hs) : W.cell? ⟨5, 0, none⟩ = some (.iface 131 (.agg #[.pointer (some ⟨8, 60, none⟩)])) := by
  obtain ⟨name, u, ty, e1, e2, e3, e4, e5⟩ := h _ hm
  have en : name = [101, 114, 114, 111, 114] := (Option.some.inj e1).symm
  subst en
  obtain rfl := Option.some.inj (rt.symm.trans e2)
  have hm : ty ∈ (List.range 177).filter fun t => Tryd.prog.rowNamed t [101, 114, 114, 111, 114] := List.mem_filter.2 ⟨List.mem_range.2 (by rw [← tsize]; exact e3), e4⟩
  rw [oneRow] at hm
  obtain rfl := List.mem_singleton.1 hm
  have hh : typeHandle Tryd.prog 60 = .pointer (some ⟨8, 60, none⟩) := by kernel_rfl
  rw [hh] at e5
  simpa using World.var?_cell et e5 0

/-- What the two tables' part of a list gives. -/
theorem tabs_of {W : World} (h : laidMet Tryd.prog laidTabs W) : Tabs W := by
  have hq : Lib.TabIs Tryd.prog W "consignor/digest.squares" .u32 begins.toL := Lib.tabIs_of_head gQn gQt Tryd.underlying65 Tryd.underlying64 cellsU cellsQ h
  have hc : Lib.TabIs Tryd.prog W "consignor/digest.cubes" .u32 keysL := Lib.tabIs_of_head gCn gCt Tryd.underlying83 Tryd.underlying64 cellsU cellsC (laidMet.tail h)
  have h1 : 1 < W.heap.size := World.block_lt_of_cell? W (a := ⟨1, 0, none⟩) (hc.cell gCn 0 (by decide))
  have h2 : 0 < W.heap.size := World.block_lt_of_cell? W (a := ⟨0, 0, none⟩) (hq.cell gQn 0 (by decide))
  refine ⟨by omega, fun i hi => ?_, ?_⟩
  · exact hc.cell gCn i hi
  · unfold Lib.TabIs World.var? at hq
    rw [gQn] at hq
    simp only [Option.bind_some] at hq
    split at hq
    · rename_i cs t fr hx
      simp only [Option.some.injEq] at hq
      subst hq
      exact ⟨t, fr, hx⟩
    · cases hq
/-- An int where the library keeps one. -/
theorem max_of_shaped {W : World} (h : W.ShapedOpen Tryd.prog) : SomeMax W :=
  cell_of_shapedOpen_int (zero := #[.int .i64 0]) (t := 3) h (of_decide_eq_true (by kernel_rfl)) (by kernel_rfl) rfl (by kernel_rfl) (by kernel_rfl) Tryd.underlying3
theorem env_of_two {W : World} {r : List (String × DataW Unit)} (h1 : laidMet Tryd.prog (("consignor/octet.errDigits", Rows.laid_consignor_octet_errDigits) :: ("consignor/octet.errShort", Rows.laid_consignor_octet_errShort) :: r) W) (h2 : handlesMet Tryd.prog [("errors.errorType", Rows.laid_errors_errorType)] W) : ∃ aD aS aZ, Env W aD aS aZ := by
  have hT := handle_of h2 (List.mem_singleton.2 rfl)
  obtain ⟨a0, a1, s0, s1, c0, c1, t0, t1, v0, v1, -, -, -, -, -, -, n01, b0, b1⟩ := laid_sentinels2 h1 gDn gDt gSn gSt Tryd.underlying60 rowES Tryd.underlying146 Tryd.underlying165 rfl rfl Tryd.underlying9 cellsES cellsStr
  exact ⟨a0, a1, ⟨a0.block, a0.off + a1.off + 1, none⟩, ⟨hT, by simpa using World.var?_cell gDn v0 0, by simpa using World.var?_cell gSn v1 0, ⟨c0, t0, b0⟩, ⟨c1, t1, b1⟩, ⟨c0, t0, b0⟩, n01,
    fun e => by have := congrArg Addr.off e; simp at this; omega, fun e => by have := congrArg Addr.off e; simp at this; omega⟩⟩
/-- WHAT THE ROWS' LISTS GIVE: where octet's errors and the tables lie. -/
theorem env_of_laid {W : World} (h : laidMetH Tryd.prog laidAll W) (hs : W.ShapedOpen Tryd.prog) : ∃ aD aS aZ, NEnv W aD aS aZ := by
  have h' : laidMet Tryd.prog (("unicode/utf8.acceptRanges", Rows.laid_unicode_utf8_acceptRanges) :: ("consignor/octet.errDigits", Rows.laid_consignor_octet_errDigits) :: ("consignor/octet.errShort", Rows.laid_consignor_octet_errShort) :: [("unicode/utf8.first", Rows.laid_unicode_utf8_first)]) W ∧ handlesMet Tryd.prog [("errors.errorType", Rows.laid_errors_errorType)] W := h
  obtain ⟨aD, aS, aZ, he⟩ := env_of_two (laidMet.tail h'.1) h'.2
  exact ⟨aD, aS, aZ, he, max_of_shaped hs⟩
theorem env_of_more {W : World} (h : laidMetH Tryd.prog laidMore W) (hs : W.ShapedOpen Tryd.prog) : ∃ aD aS aZ, NEnv W aD aS aZ ∧ Tabs W := by
  have h' : laidMet Tryd.prog (("unicode/utf8.acceptRanges", Rows.laid_unicode_utf8_acceptRanges) :: ("consignor/octet.errDigits", Rows.laid_consignor_octet_errDigits) :: ("consignor/octet.errShort", Rows.laid_consignor_octet_errShort) :: laidTabs) W ∧ handlesMet Tryd.prog [("errors.errorType", Rows.laid_errors_errorType)] W := h
  obtain ⟨aD, aS, aZ, he⟩ := env_of_two (laidMet.tail h'.1) h'.2
  exact ⟨aD, aS, aZ, ⟨he, max_of_shaped hs⟩, tabs_of (laidMet.tail (laidMet.tail (laidMet.tail h'.1)))⟩

/-! ### A world that has them: the witness -/
abbrev txtD : ByteArray := { data := #[110, 111, 32, 100, 105, 103, 105, 116, 115, 32, 111, 102, 32, 98, 121, 116, 101, 115] }
abbrev txtS : ByteArray := { data := #[102, 101, 119, 101, 114, 32, 98, 121, 116, 101, 115, 32, 116, 104, 97, 110, 32, 116, 111, 108, 100] }
def acceptL : List Nat := [128, 191, 160, 191, 128, 159, 144, 191, 128, 143] ++ List.replicate 22 0
noncomputable def low : Nat := (World.holding Tryd.prog default ⟨#[], #[], []⟩).heap.size
noncomputable def laidWorld (os : Os) : World :=
  let w0 := World.holding Tryd.prog os ⟨#[.cells #[.string txtD] 165, .cells #[.string txtS] 165], #[], []⟩
  { w0 with heap := ((((((w0.heap.modify 2 fun
      | .cells _ t frozen => .cells #[.iface 146 (.pointer (some ⟨low, 0, none⟩))] t frozen
      | o => o).modify 3 fun
      | .cells _ t frozen => .cells #[.iface 146 (.pointer (some ⟨low + 1, 0, none⟩))] t frozen
      | o => o).modify 0 fun
      | .cells _ t frozen => .cells ((begins.toL.map (Value.int .u32)).toArray) t frozen
      | o => o).modify 1 fun
      | .cells _ t frozen => .cells ((keysL.map (Value.int .u32)).toArray) t frozen
      | o => o).modify 7 fun
      | .cells _ t frozen => .cells ((acceptL.map fun n : Nat => Value.int .u8 n).toArray) t frozen
      | o => o).modify 6 fun
      | .cells _ t frozen => .cells ((Go.Pinned.utf8FirstZ.map fun n : Nat => Value.int .u8 n).toArray) t frozen
      | o => o).modify 5 fun
      | .cells _ t frozen => .cells #[.iface 131 (.agg #[.pointer (some ⟨8, 60, none⟩)])] t frozen
      | o => o }
theorem laid_met (os : Os) (args : Array Value) : laidMetH Tryd.prog laidAll ((laidWorld os).forCall (fun _ _ => 0) ⟨#[], args, []⟩).memory :=
  laidMetH_of_parts (laidMet_of_run' 8 (by kernel_rfl) (by kernel_rfl)) (by kernel_rfl)
theorem laid_met_more (os : Os) (args : Array Value) : laidMetH Tryd.prog laidMore ((laidWorld os).forCall (fun _ _ => 0) ⟨#[], args, []⟩).memory :=
  laidMetH_of_parts (laidMet_of_run' 8 (by kernel_rfl) (by kernel_rfl)) (by kernel_rfl)
end Go.Proofs.YtcdibcogboaikaaDoor
