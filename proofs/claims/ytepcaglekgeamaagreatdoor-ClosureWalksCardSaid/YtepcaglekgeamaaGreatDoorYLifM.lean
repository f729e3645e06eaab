/-
  From the laid package-level variables of the manifests' rows to where they lie; a world that has them. Conditions: none.
  What every law's card shares: the answer is true, all arguments read as they did; a slice of strings opened. Conditions: none.
-/
import Derived.Test.YtepcaglekgeamaaGreatDoorCards
import Derived.Test.YtepcaglekgeamaaGreatDoorTie
import Derived.Test.YtepcaglekgeamaaGreatDoorYMan0
import Derived.Shelf.Vars
import Derived.WalkKit
import Derived.ProofKit
import Derived.OpenShut
import Derived.Deep.DeepHandedRow
import Derived.Deep.DeepWitnessRowRef
import Derived.Lib.LaidTab
import Derived.LaidHandle
import Derived.Stop.LaidTwo
import Derived.SliceStrings
import Derived.Carry
namespace Go.Proofs.YtepcaglekgeamaaGreatDoor
open Go.ChangeShapes Go.WideShapes Go.ChangeAt Go.RowKit

theorem own : ownKnob Tryz.prog.godebug = none := by kernel_rfl

theorem et : Tryz.prog.globalNamed "errors.errorType" = some 5 := by kernel_rfl

theorem rt : (Tryz.prog.cutTypes.find? (·.1 == "internal/reflectlite.rtype")).map (·.2) = some 198 := by kernel_rfl

theorem oneRow : ((List.range 282).filter fun t => Tryz.prog.rowNamed t [101, 114, 114, 111, 114]) = [110] := by kernel_rfl

theorem tsize : Tryz.prog.types.size = 282 := by kernel_rfl

theorem star : "*" ++ "errors.errorString" = "*errors.errorString" := by decide

theorem rowES (u : TypeId) (h : Tryz.prog.typeName? 3 u = some "*errors.errorString") : u = 253 :=
  typeName_ptr_named (nm := "errors.errorString") (by rw [star]; kernel_rfl) (by kernel_rfl) (by decide) u (by rw [star]; exact h)

theorem gRn : Tryz.prog.globalNamed "strconv.ErrRange" = some 10 := by kernel_rfl

theorem gEn : Tryz.prog.globalNamed "strconv.ErrSyntax" = some 9 := by kernel_rfl

theorem gRt : (Tryz.prog.globals[10]?).map (·.type) = some 110 := by kernel_rfl

theorem gEt : (Tryz.prog.globals[9]?).map (·.type) = some 110 := by kernel_rfl

theorem gPn : Tryz.prog.globalNamed "internal/strconv.uint64pow10" = some 6 := by kernel_rfl

theorem gPt : (Tryz.prog.globals[6]?).map (·.type) = some 193 := by kernel_rfl

theorem gDn : Tryz.prog.globalNamed "consignor/octet.errDigits" = some 2 := by kernel_rfl

theorem gSn : Tryz.prog.globalNamed "consignor/octet.errShort" = some 3 := by kernel_rfl

theorem gDt : (Tryz.prog.globals[2]?).map (·.type) = some 110 := by kernel_rfl

theorem gSt : (Tryz.prog.globals[3]?).map (·.type) = some 110 := by kernel_rfl

theorem gQn : Tryz.prog.globalNamed "consignor/digest.squares" = some 0 := by kernel_rfl

theorem gCn : Tryz.prog.globalNamed "consignor/digest.cubes" = some 1 := by kernel_rfl

theorem gQt : (Tryz.prog.globals[0]?).map (·.type) = some 113 := by kernel_rfl

theorem gCt : (Tryz.prog.globals[1]?).map (·.type) = some 131 := by kernel_rfl

theorem cellsES : Tryz.prog.cellsOf 255 = 1 := by kernel_rfl

theorem cellsStr : Tryz.prog.cellsOf 9 = 1 := by kernel_rfl

theorem cellsU64 : Tryz.prog.cellsOf 64 = 1 := by kernel_rfl

theorem cellsP : Tryz.prog.cellsOf 193 = 20 := by kernel_rfl

theorem cellsU : Tryz.prog.cellsOf 68 = 1 := by kernel_rfl

theorem cellsQ : Tryz.prog.cellsOf 113 = 8 := by kernel_rfl

theorem cellsC : Tryz.prog.cellsOf 131 = 64 := by kernel_rfl

def laidAll : List (String × DataW Unit) := [("math/bits.deBruijn32tab", Rows.laid_math_bits_deBruijn32tab), ("math/bits.deBruijn64tab", Rows.laid_math_bits_deBruijn64tab), ("internal/strconv.uint64pow10", Rows.laid_internal_strconv_uint64pow10), ("unicode/utf8.acceptRanges", Rows.laid_unicode_utf8_acceptRanges), ("errors.errorType", Rows.laid_errors_errorType), ("strconv.ErrRange", Rows.laid_strconv_ErrRange), ("strconv.ErrSyntax", Rows.laid_strconv_ErrSyntax), ("consignor/octet.errDigits", Rows.laid_consignor_octet_errDigits), ("consignor/octet.errShort", Rows.laid_consignor_octet_errShort), ("consignor/digest.squares", Rows.laid_consignor_digest_squares), ("consignor/digest.cubes", Rows.laid_consignor_digest_cubes), ("unicode/utf8.first", Rows.laid_unicode_utf8_first)]

def allL : List (String × DataW Unit) := [("math/bits.deBruijn32tab", Rows.laid_math_bits_deBruijn32tab), ("math/bits.deBruijn64tab", Rows.laid_math_bits_deBruijn64tab), ("internal/strconv.uint64pow10", Rows.laid_internal_strconv_uint64pow10), ("unicode/utf8.acceptRanges", Rows.laid_unicode_utf8_acceptRanges), ("strconv.ErrRange", Rows.laid_strconv_ErrRange), ("strconv.ErrSyntax", Rows.laid_strconv_ErrSyntax), ("consignor/octet.errDigits", Rows.laid_consignor_octet_errDigits), ("consignor/octet.errShort", Rows.laid_consignor_octet_errShort), ("consignor/digest.squares", Rows.laid_consignor_digest_squares), ("consignor/digest.cubes", Rows.laid_consignor_digest_cubes), ("unicode/utf8.first", Rows.laid_unicode_utf8_first)]

theorem size_of_shaped {W : World} (h : W.ShapedOpen Tryz.prog) : 13 ≤ W.heap.size := by
  obtain ⟨o, o₀, ho, -⟩ := h.2 13 (of_decide_eq_true (by kernel_rfl)) (of_decide_eq_true (by kernel_rfl))
  exact Nat.le_of_lt (Array.getElem?_eq_some_iff.1 ho).1

theorem max_of_shaped {W : World} (hs : W.ShapedOpen Tryz.prog) : ∃ m, W.cell? ⟨4, 0, none⟩ = some (.int .i64 m) :=
  cell_of_shapedOpen_int (zero := #[.int .i64 0]) (t := 3) hs (of_decide_eq_true (by kernel_rfl)) (by kernel_rfl) rfl (by kernel_rfl) (by kernel_rfl) Tryz.underlying3

theorem handle_of {W : World} {hs : List (String × DataW Unit)} (h : handlesMet Tryz.prog hs W) (hm : ("errors.errorType", Rows.laid_errors_errorType) ∈ hs) : W.cell? ⟨5, 0, none⟩ = some (.iface 198 (.agg #[.pointer (some ⟨13, 110, none⟩)])) := by
  obtain ⟨name, u, ty, e1, e2, e3, e4, e5⟩ := h _ hm
  have en : name = [101, 114, 114, 111, 114] := (Option.some.inj e1).symm
  subst en
  obtain rfl := Option.some.inj (rt.symm.trans e2)
  have hm : ty ∈ (List.range 282).filter fun t => Tryz.prog.rowNamed t [101, 114, 114, 111, 114] := List.mem_filter.2 ⟨List.mem_range.2 (by rw [← tsize]; exact e3), e4⟩
  rw [oneRow] at hm
  obtain rfl := List.mem_singleton.1 hm
  have hh : typeHandle Tryz.prog 110 = .pointer (some ⟨13, 110, none⟩) := by kernel_rfl
  rw [hh] at e5
  simpa using World.var?_cell et e5 0

theorem tabs_of {W : World} {l : List (String × DataW Unit)} (h : laidMet Tryz.prog (("consignor/digest.squares", Rows.laid_consignor_digest_squares) :: ("consignor/digest.cubes", Rows.laid_consignor_digest_cubes) :: l) W) : Tabs W := by
  have hq : Lib.TabIs Tryz.prog W "consignor/digest.squares" .u32 begins.toL := Lib.tabIs_of_head gQn gQt Tryz.underlying113 Tryz.underlying68 cellsU cellsQ h
  have hc : Lib.TabIs Tryz.prog W "consignor/digest.cubes" .u32 keysL := Lib.tabIs_of_head gCn gCt Tryz.underlying131 Tryz.underlying68 cellsU cellsC (laidMet.tail h)
  have h1 : 1 < W.heap.size := World.block_lt_of_cell? W (a := ⟨1, 0, none⟩) (hc.cell gCn 0 (by decide))
  have h2 : 0 < W.heap.size := World.block_lt_of_cell? W (a := ⟨0, 0, none⟩) (hq.cell gQn 0 (by decide))
  refine ⟨by omega, fun i hi => ?_, ?_⟩
  · exact hc.cell gCn i hi
  · unfold Lib.TabIs World.var? at hq
    rw [gQn] at hq
    simp only [Option.bind_some] at hq
    split at hq
    · rename_i cs t fr hx
      simp only [Option.some.injEq] at hq
      subst hq
      exact ⟨t, fr, hx⟩
    · cases hq

theorem env_of {W : World} {l hs : List (String × DataW Unit)} (h : laidMet Tryz.prog (("consignor/octet.errDigits", Rows.laid_consignor_octet_errDigits) :: ("consignor/octet.errShort", Rows.laid_consignor_octet_errShort) :: ("consignor/digest.squares", Rows.laid_consignor_digest_squares) :: ("consignor/digest.cubes", Rows.laid_consignor_digest_cubes) :: l) W)
    (hh : handlesMet Tryz.prog hs W) (hm : ("errors.errorType", Rows.laid_errors_errorType) ∈ hs) : (∃ aD aS aZ, Env W aD aS aZ) ∧ Tabs W := by
  have hT := handle_of hh hm
  obtain ⟨a0, a1, s0, s1, c0, c1, t0, t1, v0, v1, -, -, -, -, -, -, n01, b0, b1⟩ := laid_sentinels2 h gDn gDt gSn gSt Tryz.underlying110 rowES Tryz.underlying253 Tryz.underlying255 rfl rfl Tryz.underlying9 cellsES cellsStr
  exact ⟨⟨a0, a1, ⟨a0.block, a0.off + a1.off + 1, none⟩, ⟨hT, by simpa using World.var?_cell gDn v0 0, by simpa using World.var?_cell gSn v1 0, ⟨c0, t0, b0⟩, ⟨c1, t1, b1⟩, ⟨c0, t0, b0⟩, n01,
    fun e => by have := congrArg Addr.off e; simp at this; omega, fun e => by have := congrArg Addr.off e; simp at this; omega⟩⟩, tabs_of (laidMet.tail (laidMet.tail h))⟩

theorem env_of_laid {W : World} (h : laidMetH Tryz.prog laidAll W) (hs : W.ShapedOpen Tryz.prog) : MEnv W := by
  have h' : laidMet Tryz.prog allL W ∧ handlesMet Tryz.prog [("errors.errorType", Rows.laid_errors_errorType)] W := h
  have h2 := laidMet.tail (laidMet.tail h'.1)
  have hp : Lib.TabIs Tryz.prog W "internal/strconv.uint64pow10" .u64 Lib.pow10Tab := Lib.tabIs_of_head gPn gPt Tryz.underlying193 Tryz.underlying64 cellsU64 cellsP h2
  have h4 := laidMet.tail (laidMet.tail h2)
  obtain ⟨aR, -, vR, -⟩ := laid_sentinel h4 gRn gRt Tryz.underlying110 rowES Tryz.underlying253 Tryz.underlying255 rfl rfl Tryz.underlying9 cellsES cellsStr
  obtain ⟨aS, -, vS, -⟩ := laid_sentinel (laidMet.tail h4) gEn gEt Tryz.underlying110 rowES Tryz.underlying253 Tryz.underlying255 rfl rfl Tryz.underlying9 cellsES cellsStr
  obtain ⟨e1, e2⟩ := env_of (laidMet.tail (laidMet.tail h4)) h'.2 (List.mem_singleton.2 rfl)
  exact ⟨⟨⟨size_of_shaped hs, max_of_shaped hs, hp⟩, ⟨_, _, vS⟩, ⟨_, _, vR⟩⟩, e1, e2⟩

abbrev txtR : ByteArray := { data := #[118, 97, 108, 117, 101, 32, 111, 117, 116, 32, 111, 102, 32, 114, 97, 110, 103, 101] }

abbrev txtE : ByteArray := { data := #[105, 110, 118, 97, 108, 105, 100, 32, 115, 121, 110, 116, 97, 120] }

abbrev txtD : ByteArray := { data := #[110, 111, 32, 100, 105, 103, 105, 116, 115, 32, 111, 102, 32, 98, 121, 116, 101, 115] }

abbrev txtS : ByteArray := { data := #[102, 101, 119, 101, 114, 32, 98, 121, 116, 101, 115, 32, 116, 104, 97, 110, 32, 116, 111, 108, 100] }

def acceptL : List Nat := [128, 191, 160, 191, 128, 159, 144, 191, 128, 143] ++ List.replicate 22 0

def tab32 : List Nat := [0, 1, 28, 2, 29, 14, 24, 3, 30, 22, 20, 15, 25, 17, 4, 8, 31, 27, 13, 23, 21, 19, 16, 7, 26, 12, 18, 6, 11, 5, 10, 9]

def tab64 : List Nat := [0, 1, 56, 2, 57, 49, 28, 3, 61, 58, 42, 50, 38, 29, 17, 4, 62, 47, 59, 36, 45, 43, 51, 22, 53, 39, 33, 30, 24, 18, 12, 5, 63, 55, 48, 27, 60, 41, 37, 16, 46, 35, 44, 21, 52, 32, 23, 11, 54, 26, 40, 15, 34, 20, 31, 10, 25, 14, 19, 9, 13, 8, 7, 6]

noncomputable def low : Nat := (World.holding Tryz.prog default ⟨#[], #[], []⟩).heap.size

noncomputable def laidWorld (os : Os) : World :=
  let w0 := World.holding Tryz.prog os ⟨#[.cells #[.string txtR] 255, .cells #[.string txtE] 255, .cells #[.string txtD] 255, .cells #[.string txtS] 255], #[], []⟩
  { w0 with heap := (((((((((((w0.heap.modify 10 fun
      | .cells _ t frozen => .cells #[.iface 253 (.pointer (some ⟨low, 0, none⟩))] t frozen
      | o => o).modify 9 fun
      | .cells _ t frozen => .cells #[.iface 253 (.pointer (some ⟨low + 1, 0, none⟩))] t frozen
      | o => o).modify 6 fun
      | .cells _ t frozen => .cells ((Lib.pow10Tab.map (Value.int .u64)).toArray) t frozen
      | o => o).modify 7 fun
      | .cells _ t frozen => .cells ((tab32.map fun n : Nat => Value.int .u8 n).toArray) t frozen
      | o => o).modify 8 fun
      | .cells _ t frozen => .cells ((tab64.map fun n : Nat => Value.int .u8 n).toArray) t frozen
      | o => o).modify 12 fun
      | .cells _ t frozen => .cells ((acceptL.map fun n : Nat => Value.int .u8 n).toArray) t frozen
      | o => o).modify 11 fun
      | .cells _ t frozen => .cells ((Go.Pinned.utf8FirstZ.map fun n : Nat => Value.int .u8 n).toArray) t frozen
      | o => o).modify 2 fun
      | .cells _ t frozen => .cells #[.iface 253 (.pointer (some ⟨low + 2, 0, none⟩))] t frozen
      | o => o).modify 3 fun
      | .cells _ t frozen => .cells #[.iface 253 (.pointer (some ⟨low + 3, 0, none⟩))] t frozen
      | o => o).modify 0 fun
      | .cells _ t frozen => .cells ((begins.toL.map (Value.int .u32)).toArray) t frozen
      | o => o).modify 1 fun
      | .cells _ t frozen => .cells ((keysL.map (Value.int .u32)).toArray) t frozen
      | o => o).modify 5 fun
      | .cells _ t frozen => .cells #[.iface 198 (.agg #[.pointer (some ⟨13, 110, none⟩)])] t frozen
      | o => o }

theorem laid_met (os : Os) (args : Array Value) : laidMetH Tryz.prog laidAll ((laidWorld os).forCall (fun _ _ => 0) ⟨#[], args, []⟩).memory :=
  laidMetH_of_parts (laidMet_of_run' 8 (by kernel_rfl) (by kernel_rfl)) (by kernel_rfl)
end Go.Proofs.YtepcaglekgeamaaGreatDoor
namespace Go.Proofs.YtepcaglekgeamaaGreatDoor
open Go.ChangeShapes Go.WideShapes Go.ChangeAt Go.RowKit

theorem laidOut : laidOutB Tryz.prog = true := by kernel_rfl

theorem trodAll_below {H : Type} {enc : TypeId × Value → H} {W W' : World} (hb : Below W.heap.size W W') : ∀ (ts : List TypeId) (vs : List Value) (ds : List (DataW H)) (p : List MemPlace),
    (∀ t ∈ ts, (Tryz.prog.readableRec t && decide (t < Tryz.prog.types.size)) = true) → DataW.TrodAll enc Tryz.prog W 0 (fun _ => true) true ts vs ds p → (∀ x ∈ p, x.block < W.heap.size) →
    DataW.TrodAll enc Tryz.prog W' 0 (fun b => decide (b < W.heap.size)) true ts vs ds p
  | [], vs, ds, p, _, h, _ => by
    cases vs with
    | nil => cases ds with
      | nil => exact h
      | cons d r => exact h
    | cons v r => exact h
  | t :: ts, vs, ds, p, ht, h, hlt => by
    obtain ⟨v, vs0, d, ds0, p0, q0, rfl, rfl, rfl, h0, r0⟩ := trodAll_cons h
    have ht0 := ht t (by simp)
    rw [Bool.and_eq_true, decide_eq_true_eq] at ht0
    exact trodAll_cons_mk (Below.trod laidOut ht0.1 ht0.2 h0 hb (fun x hx => hlt x (by simp [hx]))) (trodAll_below hb ts vs0 ds0 q0 (fun u hu => ht u (by simp [hu])) r0 (fun x hx => hlt x (by simp [hx])))

theorem law_post {H : Type} {enc : TypeId × Value → H} {f : Func} {s : ChangeSpec} {W W' : World} {args : Array Value} {ds : List (DataW H)} {before p : List MemPlace}
    (hvars : s.vars = []) (hfn : s.fn H (ds ++ []) = { results := [.lit (.bool true)], args := ds }) (hres : f.resultTypes = #[4])
    (hts : ∀ t ∈ f.params.toList, (Tryz.prog.readableRec t && decide (t < Tryz.prog.types.size)) = true)
    (hW : DataW.Whole enc Tryz.prog f.params.toList s.vars false W args.toList ds [] before) (hA : DataW.TrodAll enc Tryz.prog W 0 (fun _ => true) true f.params.toList args.toList ds p) (hp : ∀ x ∈ p, x ∈ before) (hb : Below W.heap.size W W') :
    s.post enc Tryz.prog f false true false false W args (.bool true) W' := by
  refine ⟨ds, [], before, [], p, [], hW, ?_, ?_, ?_, hb.frame _, fun h => by cases h⟩
  · rw [hfn, hres]; exact trodAll_mk1 (shut_bool Tryz.underlying4 true)
  · rw [hfn]; exact trodAll_below hb _ _ _ _ hts hA (fun x hx => hW.lt x (hp x hx))
  · rw [hfn, hvars]; rfl
end Go.Proofs.YtepcaglekgeamaaGreatDoor
