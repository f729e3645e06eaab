/-
  From the laid package-level errors of octet to where they lie; a world that has them. Conditions: none.
  What every law's card shares: the answer is true, all arguments read as they did; a slice of strings opened. Conditions: none.
-/
import Derived.Test.YtkplpodljmlanaaGreatDoorCards
import Derived.Test.YtkplpodljmlanaaGreatDoorTie
import Derived.Test.YtkplpodljmlanaaGreatDoorZOct1
import Derived.WalkKit
import Derived.ProofKit
import Derived.OpenShut
import Derived.Deep.DeepHandedRow
import Derived.Deep.DeepWitnessRowRef
import Derived.Lib.LaidTab
import Derived.LaidHandle
import Derived.Stop.LaidTwo
import Derived.Test.YtkplpodljmlanaaGreatDoorZOct2
import Derived.Test.YtkplpodljmlanaaGreatDoorZDsk1
import Derived.Lib.SmallJoins
import Derived.SliceStrings
import Derived.Carry
/-! From the laid package-level errors of octet to where they lie; a world that has them. Conditions: none. -/
namespace Go.Proofs.YtkplpodljmlanaaGreatDoor
open Go.ChangeShapes Go.WideShapes Go.ChangeAt Go.RowKit

/-- Three sentinels of one type: where they lie; they are different pointers. -/
theorem laid_sentinels3 {P : Program} {n0 n1 n2 nm : String} {text0 text1 text2 : List UInt8} {r : List (String × DataW Unit)} {W : World} {g0 g1 g2 : Nat} {ti tp te ts : TypeId} {ms : Array (String × TypeId)} {f : Field}
    (h : laidMet P ((n0, .iface nm (.ptr (.agg [.lit (.string text0)]))) :: (n1, .iface nm (.ptr (.agg [.lit (.string text1)]))) :: (n2, .iface nm (.ptr (.agg [.lit (.string text2)]))) :: r) W)
    (hg0 : P.globalNamed n0 = some g0) (ht0 : (P.globals[g0]?).map (·.type) = some ti) (hg1 : P.globalNamed n1 = some g1) (ht1 : (P.globals[g1]?).map (·.type) = some ti) (hg2 : P.globalNamed n2 = some g2) (ht2 : (P.globals[g2]?).map (·.type) = some ti)
    (hi : P.underlying ti = some (.interface ms)) (hrow : ∀ u, P.typeName? 3 u = some nm → u = tp)
    (hp : P.underlying tp = some (.pointer te)) (he : P.underlying te = some (.struct #[f])) (hft : f.type = ts) (hfo : f.offset = 0) (hs : P.underlying ts = some .string) (hc : P.cellsOf te = 1) (hcs : P.cellsOf ts = 1) :
    ∃ (a0 a1 a2 : Addr),
      W.cell? ⟨g0, 0, none⟩ = some (.iface tp (.pointer (some a0))) ∧ W.cell? ⟨g1, 0, none⟩ = some (.iface tp (.pointer (some a1))) ∧ W.cell? ⟨g2, 0, none⟩ = some (.iface tp (.pointer (some a2))) ∧
      a0 ≠ a1 ∧ a0 ≠ a2 ∧ a1 ≠ a2 ∧
      (∃ c t, W.heap[a0.block]? = some (.cells c t (0, 0))) ∧ (∃ c t, W.heap[a1.block]? = some (.cells c t (0, 0))) ∧ (∃ c t, W.heap[a2.block]? = some (.cells c t (0, 0))) := by
  obtain ⟨ps, ⟨g0', t0', cs0, f0, p0, q0, hg0', ht0', hv0, hd0, ⟨g1', t1', cs1, f1, p1, q1, hg1', ht1', hv1, hd1, ⟨g2', t2', cs2, f2, p2, q2, hg2', ht2', hv2, hd2, _, e2⟩, e1⟩, e0⟩, hnd, hrows⟩ := h
  obtain rfl := Option.some.inj (hg0.symm.trans hg0')
  obtain rfl := Option.some.inj (hg1.symm.trans hg1')
  obtain rfl := Option.some.inj (hg2.symm.trans hg2')
  obtain rfl := Option.some.inj (ht0.symm.trans ht0')
  obtain rfl := Option.some.inj (ht1.symm.trans ht1')
  obtain rfl := Option.some.inj (ht2.symm.trans ht2')
  subst e2
  subst e1
  subst e0
  obtain ⟨l0⟩ := cs0
  obtain ⟨l1⟩ := cs1
  obtain ⟨l2⟩ := cs2
  have ok0 : ∀ u v, l0 = [.iface u v] → Value.okWide P W .any 0 u v := fun u v e => by
    subst e
    exact (hrows g0 0 (by simp [MemPlace.row])).2 u v (by simpa using World.var?_cell hg0' hv0 0)
  have ok1 : ∀ u v, l1 = [.iface u v] → Value.okWide P W .any 0 u v := fun u v e => by
    subst e
    exact (hrows g1 0 (by simp [MemPlace.row])).2 u v (by simpa using World.var?_cell hg1' hv1 0)
  have ok2 : ∀ u v, l2 = [.iface u v] → Value.okWide P W .any 0 u v := fun u v e => by
    subst e
    exact (hrows g2 0 (by simp [MemPlace.row])).2 u v (by simpa using World.var?_cell hg2' hv2 0)
  obtain ⟨a0, s0, rfl, hc0, hs0, hz0, rfl⟩ := errorString_of_trod hi hrow hp he hft hfo hs hc hcs hd0 ok0
  obtain ⟨a1, s1, rfl, hc1, hs1, hz1, rfl⟩ := errorString_of_trod hi hrow hp he hft hfo hs hc hcs hd1 ok1
  obtain ⟨a2, s2, rfl, hc2, hs2, hz2, rfl⟩ := errorString_of_trod hi hrow hp he hft hfo hs hc hcs hd2 ok2
  refine ⟨a0, a1, a2, by simpa using World.var?_cell hg0' hv0 0, by simpa using World.var?_cell hg1' hv1 0, by simpa using World.var?_cell hg2' hv2 0, ?_, ?_, ?_, ?_, ?_, ?_⟩
  · rintro rfl
    simp [MemPlace.row] at hnd
  · rintro rfl
    simp [MemPlace.row] at hnd
  · rintro rfl
    simp [MemPlace.row] at hnd
  · exact (hrows a0.block a0.off (by simp [MemPlace.row])).1
  · exact (hrows a1.block a1.off (by simp [MemPlace.row])).1
  · exact (hrows a2.block a2.off (by simp [MemPlace.row])).1

theorem own : ownKnob Tryz.prog.godebug = none := by kernel_rfl
theorem et : Tryz.prog.globalNamed "errors.errorType" = some 3 := by kernel_rfl
theorem rt : (Tryz.prog.cutTypes.find? (·.1 == "internal/reflectlite.rtype")).map (·.2) = some 169 := by kernel_rfl
theorem oneRow : ((List.range 214).filter fun t => Tryz.prog.rowNamed t [101, 114, 114, 111, 114]) = [102] := by kernel_rfl
theorem tsize : Tryz.prog.types.size = 214 := by kernel_rfl
theorem star : "*" ++ "errors.errorString" = "*errors.errorString" := by decide
theorem rowES (u : TypeId) (h : Tryz.prog.typeName? 3 u = some "*errors.errorString") : u = 184 :=
  typeName_ptr_named (nm := "errors.errorString") (by rw [star]; kernel_rfl) (by kernel_rfl) (by decide) u (by rw [star]; exact h)
theorem gDn : Tryz.prog.globalNamed "consignor/octet.errDigits" = some 1 := by kernel_rfl
theorem gSn : Tryz.prog.globalNamed "consignor/octet.errShort" = some 0 := by kernel_rfl
theorem gZn : Tryz.prog.globalNamed "consignor/octet.errSize" = some 2 := by kernel_rfl
theorem gDt : (Tryz.prog.globals[1]?).map (·.type) = some 102 := by kernel_rfl
theorem gSt : (Tryz.prog.globals[0]?).map (·.type) = some 102 := by kernel_rfl
theorem gZt : (Tryz.prog.globals[2]?).map (·.type) = some 102 := by kernel_rfl
theorem cellsES : Tryz.prog.cellsOf 202 = 1 := by kernel_rfl
theorem cellsStr : Tryz.prog.cellsOf 9 = 1 := by kernel_rfl

/-- The list of the rows. -/
def laidAll : List (String × DataW Unit) := [("errors.errorType", Rows.laid_errors_errorType), ("consignor/octet.errDigits", Rows.laid_consignor_octet_errDigits), ("consignor/octet.errShort", Rows.laid_consignor_octet_errShort), ("consignor/octet.errSize", Rows.laid_consignor_octet_errSize)]

theorem handle_of {W : World} {hs : List (String × DataW Unit)} (h : handlesMet Tryz.prog hs W) (hm : ("errors.errorType", Rows.laid_errors_errorType) ∈ hs) : W.cell? ⟨3, 0, none⟩ = some (.iface 169 (.agg #[.pointer (some ⟨5, 102, none⟩)])) := by
  obtain ⟨name, u, ty, e1, e2, e3, e4, e5⟩ := h _ hm
  have en : name = [101, 114, 114, 111, 114] := (Option.some.inj e1).symm
  subst en
  obtain rfl := Option.some.inj (rt.symm.trans e2)
  have hm : ty ∈ (List.range 214).filter fun t => Tryz.prog.rowNamed t [101, 114, 114, 111, 114] := List.mem_filter.2 ⟨List.mem_range.2 (by rw [← tsize]; exact e3), e4⟩
  rw [oneRow] at hm
  obtain rfl := List.mem_singleton.1 hm
  have hh : typeHandle Tryz.prog 102 = .pointer (some ⟨5, 102, none⟩) := by kernel_rfl
  rw [hh] at e5
  simpa using World.var?_cell et e5 0

/-- WHAT THE ROWS' LIST GIVES: where octet's errors lie. -/
theorem env_of_laid {W : World} (h : laidMetH Tryz.prog laidAll W) : ∃ aD aS aZ, Env W aD aS aZ := by
  have h' : laidMet Tryz.prog [("consignor/octet.errDigits", Rows.laid_consignor_octet_errDigits), ("consignor/octet.errShort", Rows.laid_consignor_octet_errShort), ("consignor/octet.errSize", Rows.laid_consignor_octet_errSize)] W ∧ handlesMet Tryz.prog [("errors.errorType", Rows.laid_errors_errorType)] W := h
  have hT := handle_of h'.2 (List.mem_singleton.2 rfl)
  obtain ⟨a0, a1, a2, c0, c1, c2, n01, n02, n12, b0, b1, b2⟩ := laid_sentinels3 h'.1 gDn gDt gSn gSt gZn gZt Tryz.underlying102 rowES Tryz.underlying184 Tryz.underlying202 rfl rfl Tryz.underlying9 cellsES cellsStr
  exact ⟨a0, a1, a2, hT, c0, c1, c2, b0, b1, b2, n01, n02, n12⟩

/-! ### A world that has them: the witness -/
abbrev txtD : ByteArray := { data := #[110, 111, 32, 100, 105, 103, 105, 116, 115, 32, 111, 102, 32, 98, 121, 116, 101, 115] }
abbrev txtS : ByteArray := { data := #[102, 101, 119, 101, 114, 32, 98, 121, 116, 101, 115, 32, 116, 104, 97, 110, 32, 116, 111, 108, 100] }
abbrev txtZ : ByteArray := { data := #[97, 32, 115, 105, 122, 101, 32, 116, 104, 97, 116, 32, 109, 97, 121, 32, 110, 111, 116, 32, 98, 101] }
noncomputable def low : Nat := (World.holding Tryz.prog default ⟨#[], #[], []⟩).heap.size
noncomputable def laidWorld (os : Os) : World :=
  let w0 := World.holding Tryz.prog os ⟨#[.cells #[.string txtD] 202, .cells #[.string txtS] 202, .cells #[.string txtZ] 202], #[], []⟩
  { w0 with heap := (((w0.heap.modify 1 fun
      | .cells _ t frozen => .cells #[.iface 184 (.pointer (some ⟨low, 0, none⟩))] t frozen
      | o => o).modify 0 fun
      | .cells _ t frozen => .cells #[.iface 184 (.pointer (some ⟨low + 1, 0, none⟩))] t frozen
      | o => o).modify 2 fun
      | .cells _ t frozen => .cells #[.iface 184 (.pointer (some ⟨low + 2, 0, none⟩))] t frozen
      | o => o).modify 3 fun
      | .cells _ t frozen => .cells #[.iface 169 (.agg #[.pointer (some ⟨5, 102, none⟩)])] t frozen
      | o => o }
theorem laid_met (os : Os) (args : Array Value) : laidMetH Tryz.prog laidAll ((laidWorld os).forCall (fun _ _ => 0) ⟨#[], args, []⟩).memory :=
  laidMetH_of_parts (laidMet_of_run' 8 (by kernel_rfl) (by kernel_rfl)) (by kernel_rfl)
end Go.Proofs.YtkplpodljmlanaaGreatDoor
/-! What every law's card shares: the answer is true, all arguments read as they did; a slice of strings opened. Conditions: none. -/
namespace Go.Proofs.YtkplpodljmlanaaGreatDoor
open Go.ChangeShapes Go.WideShapes Go.ChangeAt Go.RowKit

theorem laidOut : laidOutB Tryz.prog = true := by kernel_rfl

/-- All arguments read behind the call as they did. -/
theorem trodAll_below {H : Type} {enc : TypeId × Value → H} {W W' : World} (hb : Below W.heap.size W W') : ∀ (ts : List TypeId) (vs : List Value) (ds : List (DataW H)) (p : List MemPlace),
    (∀ t ∈ ts, (Tryz.prog.readableRec t && decide (t < Tryz.prog.types.size)) = true) → DataW.TrodAll enc Tryz.prog W 0 (fun _ => true) true ts vs ds p → (∀ x ∈ p, x.block < W.heap.size) →
    DataW.TrodAll enc Tryz.prog W' 0 (fun b => decide (b < W.heap.size)) true ts vs ds p
  | [], vs, ds, p, _, h, _ => by
    cases vs with
    | nil => cases ds with
      | nil => exact h
      | cons d r => exact h
    | cons v r => exact h
  | t :: ts, vs, ds, p, ht, h, hlt => by
    obtain ⟨v, vs0, d, ds0, p0, q0, rfl, rfl, rfl, h0, r0⟩ := trodAll_cons h
    have ht0 := ht t (by simp)
    rw [Bool.and_eq_true, decide_eq_true_eq] at ht0
    exact trodAll_cons_mk (Below.trod laidOut ht0.1 ht0.2 h0 hb (fun x hx => hlt x (by simp [hx]))) (trodAll_below hb ts vs0 ds0 q0 (fun u hu => ht u (by simp [hu])) r0 (fun x hx => hlt x (by simp [hx])))

/-- The post of a law: it answers true, and every argument reads as it did. -/
theorem law_post {H : Type} {enc : TypeId × Value → H} {f : Func} {s : ChangeSpec} {W W' : World} {args : Array Value} {ds : List (DataW H)} {before p : List MemPlace}
    (hvars : s.vars = []) (hfn : s.fn H (ds ++ []) = { results := [.lit (.bool true)], args := ds }) (hres : f.resultTypes = #[4])
    (hts : ∀ t ∈ f.params.toList, (Tryz.prog.readableRec t && decide (t < Tryz.prog.types.size)) = true)
    (hW : DataW.Whole enc Tryz.prog f.params.toList s.vars false W args.toList ds [] before) (hA : DataW.TrodAll enc Tryz.prog W 0 (fun _ => true) true f.params.toList args.toList ds p) (hp : ∀ x ∈ p, x ∈ before) (hb : Below W.heap.size W W') :
    s.post enc Tryz.prog f false true false false W args (.bool true) W' := by
  refine ⟨ds, [], before, [], p, [], hW, ?_, ?_, ?_, hb.frame _, fun h => by cases h⟩
  · rw [hfn, hres]; exact trodAll_mk1 (shut_bool Tryz.underlying4 true)
  · rw [hfn]; exact trodAll_below hb _ _ _ _ hts hA (fun x hx => hW.lt x (hp x hx))
  · rw [hfn, hvars]; rfl

theorem cellsOfStr : Tryz.prog.cellsOf 9 = 1 := by kernel_rfl
set_option maxRecDepth 100000 in
/-- A slice of strings that came in. -/
theorem open_strs {H : Type} {enc : TypeId × Value → H} {W : World} {b0 : Nat} {v : Value} {d : DataW H} {p : List MemPlace}
    (hval : Value.okWide Tryz.prog W .any b0 22 v) (hj : DataW.Trod enc Tryz.prog W 0 (fun _ => true) true 22 v d p) : ∃ ss, StrRow W v ss ∧ ∀ s ∈ ss, s.size ≤ maxLen := by
  obtain ⟨a0, len, cap, rfl⟩ := okWide_slice Tryz.underlying22 hval
  obtain ⟨fuel, hf⟩ := hj
  have hcell : Cell.okWide Tryz.prog W .any b0 22 (.slice a0 len cap) := by
    unfold Value.okWide at hval
    simp only [Tryz.underlying22] at hval
    exact hval
  rcases open_strings Tryz.underlying22 Tryz.underlying9 cellsOfStr hf with ⟨hcs, _⟩ | ⟨a, len', cap', ss, hcs, _, hl, hm, hz, _, hc, hws⟩
  · have : Value.slice a0 len cap = .slice none 0 0 := by simpa [Value.cells] using hcs
    rw [this]
    exact ⟨[], Or.inl ⟨rfl, rfl⟩, by simp⟩
  · have e : Value.slice a0 len cap = .slice (some a) len' cap' := by simpa [Value.cells] using hcs
    rw [e] at hcell ⊢
    have hspot : a.spot = none := by
      unfold Cell.okWide at hcell
      simp only [Tryz.underlying22, Cell.ok] at hcell
      exact hcell.2.2.2.1
    obtain ⟨b, o, sp⟩ := a
    simp only at hspot
    subst hspot
    have hz' : ss.length = cap' := by simpa using hz
    have hlt : (ss.take len').length = len' := by rw [List.length_take, hz']; omega
    refine ⟨ss.take len', Or.inr ⟨b, o, cap', by rw [hlt], by rw [hlt]; exact hl, hm, fun i hi => ?_⟩, fun s hs => hws s (List.mem_of_mem_take hs)⟩
    rw [hlt] at hi
    have := hc i (by omega)
    rw [Go.WideShapes.add_plain] at this
    rw [this, List.getElem_take, List.getD, List.getElem?_eq_getElem (by omega)]
    rfl
end Go.Proofs.YtkplpodljmlanaaGreatDoor
