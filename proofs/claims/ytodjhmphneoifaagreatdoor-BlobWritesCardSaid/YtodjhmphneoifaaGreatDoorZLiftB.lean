/-
  From the laid package-level variables of the digest's rows to where they lie; a world that has them. Conditions: none.
  What every law's card shares: the answer is true, all arguments read as they did; a slice of strings opened. Conditions: none.
-/
import Derived.Test.YtodjhmphneoifaaGreatDoorCards
import Derived.Test.YtodjhmphneoifaaGreatDoorTie
import Derived.Test.YtodjhmphneoifaaGreatDoorZOct1
import Derived.Test.YtodjhmphneoifaaGreatDoorZSha2
import Derived.WalkKit
import Derived.ProofKit
import Derived.OpenShut
import Derived.Deep.DeepHandedRow
import Derived.Deep.DeepWitnessRowRef
import Derived.Lib.LaidTab
import Derived.LaidHandle
import Derived.Stop.LaidTwo
import Derived.Test.YtodjhmphneoifaaGreatDoorZOct2
import Derived.Test.YtodjhmphneoifaaGreatDoorZBlb1
import Derived.Lib.SmallJoins
import Derived.SliceStrings
import Derived.Carry
/-! From the laid package-level variables of the digest's rows to where they lie; a world that has them. Conditions: none. -/
namespace Go.Proofs.YtodjhmphneoifaaGreatDoor
open Go.ChangeShapes Go.WideShapes Go.ChangeAt Go.RowKit

theorem own : ownKnob Tryz.prog.godebug = none := by kernel_rfl
theorem et : Tryz.prog.globalNamed "errors.errorType" = some 5 := by kernel_rfl
theorem rt : (Tryz.prog.cutTypes.find? (·.1 == "internal/reflectlite.rtype")).map (·.2) = some 143 := by kernel_rfl
theorem oneRow : ((List.range 189).filter fun t => Tryz.prog.rowNamed t [101, 114, 114, 111, 114]) = [90] := by kernel_rfl
theorem tsize : Tryz.prog.types.size = 189 := by kernel_rfl
theorem star : "*" ++ "errors.errorString" = "*errors.errorString" := by decide
theorem rowES (u : TypeId) (h : Tryz.prog.typeName? 3 u = some "*errors.errorString") : u = 158 :=
  typeName_ptr_named (nm := "errors.errorString") (by rw [star]; kernel_rfl) (by kernel_rfl) (by decide) u (by rw [star]; exact h)
theorem gDn : Tryz.prog.globalNamed "consignor/octet.errDigits" = some 2 := by kernel_rfl
theorem gSn : Tryz.prog.globalNamed "consignor/octet.errShort" = some 3 := by kernel_rfl
theorem gDt : (Tryz.prog.globals[2]?).map (·.type) = some 90 := by kernel_rfl
theorem gSt : (Tryz.prog.globals[3]?).map (·.type) = some 90 := by kernel_rfl
theorem gQn : Tryz.prog.globalNamed "consignor/digest.squares" = some 0 := by kernel_rfl
theorem gCn : Tryz.prog.globalNamed "consignor/digest.cubes" = some 1 := by kernel_rfl
theorem gQt : (Tryz.prog.globals[0]?).map (·.type) = some 95 := by kernel_rfl
theorem gCt : (Tryz.prog.globals[1]?).map (·.type) = some 108 := by kernel_rfl
theorem cellsES : Tryz.prog.cellsOf 177 = 1 := by kernel_rfl
theorem cellsStr : Tryz.prog.cellsOf 9 = 1 := by kernel_rfl
theorem cellsU : Tryz.prog.cellsOf 84 = 1 := by kernel_rfl
theorem cellsQ : Tryz.prog.cellsOf 95 = 8 := by kernel_rfl
theorem cellsC : Tryz.prog.cellsOf 108 = 64 := by kernel_rfl

/-- The lists of the rows. -/
def laidTabs : List (String × DataW Unit) := [("consignor/digest.squares", Rows.laid_consignor_digest_squares), ("consignor/digest.cubes", Rows.laid_consignor_digest_cubes)]
def laidAll : List (String × DataW Unit) := [("errors.errorType", Rows.laid_errors_errorType), ("consignor/octet.errDigits", Rows.laid_consignor_octet_errDigits), ("consignor/octet.errShort", Rows.laid_consignor_octet_errShort), ("consignor/digest.squares", Rows.laid_consignor_digest_squares), ("consignor/digest.cubes", Rows.laid_consignor_digest_cubes)]

theorem handle_of {W : World} {hs : List (String × DataW Unit)} (h : handlesMet Tryz.prog hs W) (hm : ("errors.errorType", Rows.laid_errors_errorType) ∈ hs) : W.cell? ⟨5, 0, none⟩ = some (.iface 143 (.agg #[.pointer (some ⟨6, 90, none⟩)])) := by
  obtain ⟨name, u, ty, e1, e2, e3, e4, e5⟩ := h _ hm
  have en : name = [101, 114, 114, 111, 114] := (Option.some.inj e1).symm
  subst en
  obtain rfl := Option.some.inj (rt.symm.trans e2)
  have hm : ty ∈ (List.range 189).filter fun t => Tryz.prog.rowNamed t [101, 114, 114, 111, 114] := List.mem_filter.2 ⟨List.mem_range.2 (by rw [← tsize]; exact e3), e4⟩
  rw [oneRow] at hm
  obtain rfl := List.mem_singleton.1 hm
  have hh : typeHandle Tryz.prog 90 = .pointer (some ⟨6, 90, none⟩) := by kernel_rfl
  rw [hh] at e5
  simpa using World.var?_cell et e5 0

/-- What the two tables' part of a list gives. -/
theorem tabs_of {W : World} (h : laidMet Tryz.prog laidTabs W) : Tabs W := by
  have hq : Lib.TabIs Tryz.prog W "consignor/digest.squares" .u32 begins.toL := Lib.tabIs_of_head gQn gQt Tryz.underlying95 Tryz.underlying84 cellsU cellsQ h
  have hc : Lib.TabIs Tryz.prog W "consignor/digest.cubes" .u32 keysL := Lib.tabIs_of_head gCn gCt Tryz.underlying108 Tryz.underlying84 cellsU cellsC (laidMet.tail h)
  have h1 : 1 < W.heap.size := World.block_lt_of_cell? W (a := ⟨1, 0, none⟩) (hc.cell gCn 0 (by decide))
  have h2 : 0 < W.heap.size := World.block_lt_of_cell? W (a := ⟨0, 0, none⟩) (hq.cell gQn 0 (by decide))
  refine ⟨by omega, fun i hi => ?_, ?_⟩
  · exact hc.cell gCn i hi
  · unfold Lib.TabIs World.var? at hq
    rw [gQn] at hq
    simp only [Option.bind_some] at hq
    split at hq
    · rename_i cs t fr hx
      simp only [Option.some.injEq] at hq
      subst hq
      exact ⟨t, fr, hx⟩
    · cases hq
/-- WHAT THE ROWS' LIST GIVES: where octet's errors and the tables lie. -/
theorem env_of_laid {W : World} (h : laidMetH Tryz.prog laidAll W) : ∃ aD aS aZ, Env W aD aS aZ ∧ Tabs W := by
  have h' : laidMet Tryz.prog (("consignor/octet.errDigits", Rows.laid_consignor_octet_errDigits) :: ("consignor/octet.errShort", Rows.laid_consignor_octet_errShort) :: laidTabs) W ∧ handlesMet Tryz.prog [("errors.errorType", Rows.laid_errors_errorType)] W := h
  have hT := handle_of h'.2 (List.mem_singleton.2 rfl)
  obtain ⟨a0, a1, s0, s1, c0, c1, t0, t1, v0, v1, -, -, -, -, -, -, n01, b0, b1⟩ := laid_sentinels2 h'.1 gDn gDt gSn gSt Tryz.underlying90 rowES Tryz.underlying158 Tryz.underlying177 rfl rfl Tryz.underlying9 cellsES cellsStr
  exact ⟨a0, a1, ⟨a0.block, a0.off + a1.off + 1, none⟩, ⟨hT, by simpa using World.var?_cell gDn v0 0, by simpa using World.var?_cell gSn v1 0, ⟨c0, t0, b0⟩, ⟨c1, t1, b1⟩, ⟨c0, t0, b0⟩, n01,
    fun e => by have := congrArg Addr.off e; simp at this; omega, fun e => by have := congrArg Addr.off e; simp at this; omega⟩, tabs_of (laidMet.tail (laidMet.tail h'.1))⟩

/-! ### A world that has them: the witness -/
abbrev txtD : ByteArray := { data := #[110, 111, 32, 100, 105, 103, 105, 116, 115, 32, 111, 102, 32, 98, 121, 116, 101, 115] }
abbrev txtS : ByteArray := { data := #[102, 101, 119, 101, 114, 32, 98, 121, 116, 101, 115, 32, 116, 104, 97, 110, 32, 116, 111, 108, 100] }
noncomputable def low : Nat := (World.holding Tryz.prog default ⟨#[], #[], []⟩).heap.size
noncomputable def laidWorld (os : Os) : World :=
  let w0 := World.holding Tryz.prog os ⟨#[.cells #[.string txtD] 177, .cells #[.string txtS] 177], #[], []⟩
  { w0 with heap := ((((w0.heap.modify 2 fun
      | .cells _ t frozen => .cells #[.iface 158 (.pointer (some ⟨low, 0, none⟩))] t frozen
      | o => o).modify 3 fun
      | .cells _ t frozen => .cells #[.iface 158 (.pointer (some ⟨low + 1, 0, none⟩))] t frozen
      | o => o).modify 0 fun
      | .cells _ t frozen => .cells ((begins.toL.map (Value.int .u32)).toArray) t frozen
      | o => o).modify 1 fun
      | .cells _ t frozen => .cells ((keysL.map (Value.int .u32)).toArray) t frozen
      | o => o).modify 5 fun
      | .cells _ t frozen => .cells #[.iface 143 (.agg #[.pointer (some ⟨6, 90, none⟩)])] t frozen
      | o => o }
theorem laid_met (os : Os) (args : Array Value) : laidMetH Tryz.prog laidAll ((laidWorld os).forCall (fun _ _ => 0) ⟨#[], args, []⟩).memory :=
  laidMetH_of_parts (laidMet_of_run' 8 (by kernel_rfl) (by kernel_rfl)) (by kernel_rfl)
theorem laid_met_tabs (os : Os) (args : Array Value) : laidMetH Tryz.prog laidTabs ((laidWorld os).forCall (fun _ _ => 0) ⟨#[], args, []⟩).memory :=
  laidMetH_of_parts (laidMet_of_run' 8 (by kernel_rfl) (by kernel_rfl)) (by kernel_rfl)
end Go.Proofs.YtodjhmphneoifaaGreatDoor
/-! What every law's card shares: the answer is true, all arguments read as they did; a slice of strings opened. Conditions: none. -/
namespace Go.Proofs.YtodjhmphneoifaaGreatDoor
open Go.ChangeShapes Go.WideShapes Go.ChangeAt Go.RowKit

theorem laidOut : laidOutB Tryz.prog = true := by kernel_rfl

/-- All arguments read behind the call as they did. -/
theorem trodAll_below {H : Type} {enc : TypeId × Value → H} {W W' : World} (hb : Below W.heap.size W W') : ∀ (ts : List TypeId) (vs : List Value) (ds : List (DataW H)) (p : List MemPlace),
    (∀ t ∈ ts, (Tryz.prog.readableRec t && decide (t < Tryz.prog.types.size)) = true) → DataW.TrodAll enc Tryz.prog W 0 (fun _ => true) true ts vs ds p → (∀ x ∈ p, x.block < W.heap.size) →
    DataW.TrodAll enc Tryz.prog W' 0 (fun b => decide (b < W.heap.size)) true ts vs ds p
  | [], vs, ds, p, _, h, _ => by
    cases vs with
    | nil => cases ds with
      | nil => exact h
      | cons d r => exact h
    | cons v r => exact h
  | t :: ts, vs, ds, p, ht, h, hlt => by
    obtain ⟨v, vs0, d, ds0, p0, q0, rfl, rfl, rfl, h0, r0⟩ := trodAll_cons h
    have ht0 := ht t (by simp)
    rw [Bool.and_eq_true, decide_eq_true_eq] at ht0
    exact trodAll_cons_mk (Below.trod laidOut ht0.1 ht0.2 h0 hb (fun x hx => hlt x (by simp [hx]))) (trodAll_below hb ts vs0 ds0 q0 (fun u hu => ht u (by simp [hu])) r0 (fun x hx => hlt x (by simp [hx])))

/-- The post of a law: it answers true, and every argument reads as it did. -/
theorem law_post {H : Type} {enc : TypeId × Value → H} {f : Func} {s : ChangeSpec} {W W' : World} {args : Array Value} {ds : List (DataW H)} {before p : List MemPlace}
    (hvars : s.vars = []) (hfn : s.fn H (ds ++ []) = { results := [.lit (.bool true)], args := ds }) (hres : f.resultTypes = #[4])
    (hts : ∀ t ∈ f.params.toList, (Tryz.prog.readableRec t && decide (t < Tryz.prog.types.size)) = true)
    (hW : DataW.Whole enc Tryz.prog f.params.toList s.vars false W args.toList ds [] before) (hA : DataW.TrodAll enc Tryz.prog W 0 (fun _ => true) true f.params.toList args.toList ds p) (hp : ∀ x ∈ p, x ∈ before) (hb : Below W.heap.size W W') :
    s.post enc Tryz.prog f false true false false W args (.bool true) W' := by
  refine ⟨ds, [], before, [], p, [], hW, ?_, ?_, ?_, hb.frame _, fun h => by cases h⟩
  · rw [hfn, hres]; exact trodAll_mk1 (shut_bool Tryz.underlying4 true)
  · rw [hfn]; exact trodAll_below hb _ _ _ _ hts hA (fun x hx => hW.lt x (hp x hx))
  · rw [hfn, hvars]; rfl

theorem cellsOfStr : Tryz.prog.cellsOf 9 = 1 := by kernel_rfl
set_option maxRecDepth 100000 in
/-- A slice of strings that came in. -/
theorem open_strs {H : Type} {enc : TypeId × Value → H} {W : World} {b0 : Nat} {v : Value} {d : DataW H} {p : List MemPlace}
    (hval : Value.okWide Tryz.prog W .any b0 94 v) (hj : DataW.Trod enc Tryz.prog W 0 (fun _ => true) true 94 v d p) : ∃ ss, StrRow W v ss ∧ ∀ s ∈ ss, s.size ≤ maxLen := by
  obtain ⟨a0, len, cap, rfl⟩ := okWide_slice Tryz.underlying94 hval
  obtain ⟨fuel, hf⟩ := hj
  have hcell : Cell.okWide Tryz.prog W .any b0 94 (.slice a0 len cap) := by
    unfold Value.okWide at hval
    simp only [Tryz.underlying94] at hval
    exact hval
  rcases open_strings Tryz.underlying94 Tryz.underlying9 cellsOfStr hf with ⟨hcs, _⟩ | ⟨a, len', cap', ss, hcs, _, hl, hm, hz, _, hc, hws⟩
  · have : Value.slice a0 len cap = .slice none 0 0 := by simpa [Value.cells] using hcs
    rw [this]
    exact ⟨[], Or.inl ⟨rfl, rfl⟩, by simp⟩
  · have e : Value.slice a0 len cap = .slice (some a) len' cap' := by simpa [Value.cells] using hcs
    rw [e] at hcell ⊢
    have hspot : a.spot = none := by
      unfold Cell.okWide at hcell
      simp only [Tryz.underlying94, Cell.ok] at hcell
      exact hcell.2.2.2.1
    obtain ⟨b, o, sp⟩ := a
    simp only at hspot
    subst hspot
    have hz' : ss.length = cap' := by simpa using hz
    have hlt : (ss.take len').length = len' := by rw [List.length_take, hz']; omega
    refine ⟨ss.take len', Or.inr ⟨b, o, cap', by rw [hlt], by rw [hlt]; exact hl, hm, fun i hi => ?_⟩, fun s hs => hws s (List.mem_of_mem_take hs)⟩
    rw [hlt] at hi
    have := hc i (by omega)
    rw [Go.WideShapes.add_plain] at this
    rw [this, List.getElem_take, List.getD, List.getElem?_eq_getElem (by omega)]
    rfl
end Go.Proofs.YtodjhmphneoifaaGreatDoor
