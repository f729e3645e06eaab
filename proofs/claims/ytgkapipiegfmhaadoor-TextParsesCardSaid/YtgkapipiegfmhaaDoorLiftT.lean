/-
  From the laid package-level variables of the texts' rows to where they lie; a world that has them. Conditions: none.
-/
import Derived.Test.YtgkapipiegfmhaaDoorCards
import Derived.Test.YtgkapipiegfmhaaDoorTie
import Derived.Test.YtgkapipiegfmhaaDoorTEnv
import Derived.Shelf.Vars
import Derived.WalkKit
import Derived.ProofKit
import Derived.OpenShut
import Derived.Deep.DeepHandedRow
import Derived.Deep.DeepWitnessRowRef
import Derived.Lib.LaidTab
import Derived.LaidHandle
import Derived.Stop.LaidTwo
namespace Go.Proofs.YtgkapipiegfmhaaDoor
open Go.ChangeShapes Go.WideShapes Go.ChangeAt Go.RowKit

theorem own : ownKnob Tryd.prog.godebug = none := by kernel_rfl
theorem star : "*" ++ "errors.errorString" = "*errors.errorString" := by decide
theorem rowES (u : TypeId) (h : Tryd.prog.typeName? 3 u = some "*errors.errorString") : u = 115 :=
  typeName_ptr_named (nm := "errors.errorString") (by rw [star]; kernel_rfl) (by kernel_rfl) (by decide) u (by rw [star]; exact h)
theorem gRn : Tryd.prog.globalNamed "strconv.ErrRange" = some 2 := by kernel_rfl
theorem gSn : Tryd.prog.globalNamed "strconv.ErrSyntax" = some 1 := by kernel_rfl
theorem gRt : (Tryd.prog.globals[2]?).map (·.type) = some 59 := by kernel_rfl
theorem gSt : (Tryd.prog.globals[1]?).map (·.type) = some 59 := by kernel_rfl
theorem gPn : Tryd.prog.globalNamed "internal/strconv.uint64pow10" = some 3 := by kernel_rfl
theorem gPt : (Tryd.prog.globals[3]?).map (·.type) = some 102 := by kernel_rfl
theorem cellsES : Tryd.prog.cellsOf 117 = 1 := by kernel_rfl
theorem cellsStr : Tryd.prog.cellsOf 9 = 1 := by kernel_rfl
theorem cellsU64 : Tryd.prog.cellsOf 87 = 1 := by kernel_rfl
theorem cellsP : Tryd.prog.cellsOf 102 = 20 := by kernel_rfl

/-- The list of the rows. -/
def laidAll : List (String × DataW Unit) := [("math/bits.deBruijn32tab", Rows.laid_math_bits_deBruijn32tab), ("math/bits.deBruijn64tab", Rows.laid_math_bits_deBruijn64tab), ("internal/strconv.uint64pow10", Rows.laid_internal_strconv_uint64pow10), ("unicode/utf8.acceptRanges", Rows.laid_unicode_utf8_acceptRanges), ("strconv.ErrRange", Rows.laid_strconv_ErrRange), ("strconv.ErrSyntax", Rows.laid_strconv_ErrSyntax), ("unicode/utf8.first", Rows.laid_unicode_utf8_first)]

theorem size_of_shaped {W : World} (h : W.ShapedOpen Tryd.prog) : 8 ≤ W.heap.size := by
  obtain ⟨o, o₀, ho, -⟩ := h.2 8 (of_decide_eq_true (by kernel_rfl)) (of_decide_eq_true (by kernel_rfl))
  exact Nat.le_of_lt (Array.getElem?_eq_some_iff.1 ho).1
/-- WHAT THE ROWS' LISTS GIVE. -/
theorem env_of_laid {W : World} (h : laidMetH Tryd.prog laidAll W) (hs : W.ShapedOpen Tryd.prog) : TEnv W := by
  have h' : laidMet Tryd.prog laidAll W := h
  have h2 := laidMet.tail (laidMet.tail h')
  have hp : Lib.TabIs Tryd.prog W "internal/strconv.uint64pow10" .u64 Lib.pow10Tab := Lib.tabIs_of_head gPn gPt Tryd.underlying102 Tryd.underlying87 cellsU64 cellsP h2
  have h4 := laidMet.tail (laidMet.tail h2)
  obtain ⟨aR, -, vR, -⟩ := laid_sentinel h4 gRn gRt Tryd.underlying59 rowES Tryd.underlying115 Tryd.underlying117 rfl rfl Tryd.underlying9 cellsES cellsStr
  obtain ⟨aS, -, vS, -⟩ := laid_sentinel (laidMet.tail h4) gSn gSt Tryd.underlying59 rowES Tryd.underlying115 Tryd.underlying117 rfl rfl Tryd.underlying9 cellsES cellsStr
  exact ⟨size_of_shaped hs, cell_of_shapedOpen_int (zero := #[.int .i64 0]) (t := 3) hs (of_decide_eq_true (by kernel_rfl)) (by kernel_rfl) rfl (by kernel_rfl) (by kernel_rfl) Tryd.underlying3, hp, ⟨_, _, vS⟩, ⟨_, _, vR⟩⟩

/-! ### A world that has them: the witness -/
abbrev txtR : ByteArray := { data := #[118, 97, 108, 117, 101, 32, 111, 117, 116, 32, 111, 102, 32, 114, 97, 110, 103, 101] }
abbrev txtS : ByteArray := { data := #[105, 110, 118, 97, 108, 105, 100, 32, 115, 121, 110, 116, 97, 120] }
def acceptL : List Nat := [128, 191, 160, 191, 128, 159, 144, 191, 128, 143] ++ List.replicate 22 0
def tab32 : List Nat := [0, 1, 28, 2, 29, 14, 24, 3, 30, 22, 20, 15, 25, 17, 4, 8, 31, 27, 13, 23, 21, 19, 16, 7, 26, 12, 18, 6, 11, 5, 10, 9]
def tab64 : List Nat := [0, 1, 56, 2, 57, 49, 28, 3, 61, 58, 42, 50, 38, 29, 17, 4, 62, 47, 59, 36, 45, 43, 51, 22, 53, 39, 33, 30, 24, 18, 12, 5, 63, 55, 48, 27, 60, 41, 37, 16, 46, 35, 44, 21, 52, 32, 23, 11, 54, 26, 40, 15, 34, 20, 31, 10, 25, 14, 19, 9, 13, 8, 7, 6]
noncomputable def low : Nat := (World.holding Tryd.prog default ⟨#[], #[], []⟩).heap.size
noncomputable def laidWorld (os : Os) : World :=
  let w0 := World.holding Tryd.prog os ⟨#[.cells #[.string txtR] 117, .cells #[.string txtS] 117], #[], []⟩
  { w0 with heap := ((((((w0.heap.modify 2 fun
      | .cells _ t frozen => .cells #[.iface 115 (.pointer (some ⟨low, 0, none⟩))] t frozen
      | o => o).modify 1 fun
      | .cells _ t frozen => .cells #[.iface 115 (.pointer (some ⟨low + 1, 0, none⟩))] t frozen
      | o => o).modify 3 fun
      | .cells _ t frozen => .cells ((Lib.pow10Tab.map (Value.int .u64)).toArray) t frozen
      | o => o).modify 6 fun
      | .cells _ t frozen => .cells ((tab32.map fun n : Nat => Value.int .u8 n).toArray) t frozen
      | o => o).modify 7 fun
      | .cells _ t frozen => .cells ((tab64.map fun n : Nat => Value.int .u8 n).toArray) t frozen
      | o => o).modify 5 fun
      | .cells _ t frozen => .cells ((acceptL.map fun n : Nat => Value.int .u8 n).toArray) t frozen
      | o => o).modify 4 fun
      | .cells _ t frozen => .cells ((Go.Pinned.utf8FirstZ.map fun n : Nat => Value.int .u8 n).toArray) t frozen
      | o => o }
theorem laid_met (os : Os) (args : Array Value) : laidMetH Tryd.prog laidAll ((laidWorld os).forCall (fun _ _ => 0) ⟨#[], args, []⟩).memory :=
  laidMetH_of_parts (laidMet_of_run' 8 (by kernel_rfl) (by kernel_rfl)) (by kernel_rfl)
end Go.Proofs.YtgkapipiegfmhaaDoor
