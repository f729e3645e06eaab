/-
  From the laid package-level variables of the schedules' rows to where they lie; a world that has them. Conditions: none.
-/
import Derived.Test.YtccobaohmbilpaaDoorCards
import Derived.Test.YtccobaohmbilpaaDoorTie
import Derived.Test.YtccobaohmbilpaaDoorCronEnv
import Derived.Shelf.Vars
import Derived.WalkKit
import Derived.ProofKit
import Derived.OpenShut
import Derived.Deep.DeepHandedRow
import Derived.Deep.DeepWitnessRowRef
import Derived.Lib.LaidTab
import Derived.LaidHandle
import Derived.Stop.LaidTwo
namespace Go.Proofs.YtccobaohmbilpaaDoor
open Go.ChangeShapes Go.WideShapes Go.ChangeAt Go.RowKit

/-- Three sentinels of one type: where they lie; they are different pointers. -/
theorem laid_sentinels3 {P : Program} {n0 n1 n2 nm : String} {text0 text1 text2 : List UInt8} {r : List (String × DataW Unit)} {W : World} {g0 g1 g2 : Nat} {ti tp te ts : TypeId} {ms : Array (String × TypeId)} {f : Field}
    (h : laidMet P ((n0, .iface nm (.ptr (.agg [.lit (.string text0)]))) :: (n1, .iface nm (.ptr (.agg [.lit (.string text1)]))) :: (n2, .iface nm (.ptr (.agg [.lit (.string text2)]))) :: r) W)
    (hg0 : P.globalNamed n0 = some g0) (ht0 : (P.globals[g0]?).map (·.type) = some ti) (hg1 : P.globalNamed n1 = some g1) (ht1 : (P.globals[g1]?).map (·.type) = some ti) (hg2 : P.globalNamed n2 = some g2) (ht2 : (P.globals[g2]?).map (·.type) = some ti)
    (hi : P.underlying ti = some (.interface ms)) (hrow : ∀ u, P.typeName? 3 u = some nm → u = tp)
    (hp : P.underlying tp = some (.pointer te)) (he : P.underlying te = some (.struct #[f])) (hft : f.type = ts) (hfo : f.offset = 0) (hs : P.underlying ts = some .string) (hc : P.cellsOf te = 1) (hcs : P.cellsOf ts = 1) :
    ∃ (a0 a1 a2 : Addr),
      W.cell? ⟨g0, 0, none⟩ = some (.iface tp (.pointer (some a0))) ∧ W.cell? ⟨g1, 0, none⟩ = some (.iface tp (.pointer (some a1))) ∧ W.cell? ⟨g2, 0, none⟩ = some (.iface tp (.pointer (some a2))) ∧
      a0 ≠ a1 ∧ a0 ≠ a2 ∧ a1 ≠ a2 ∧
      (∃ c t, W.heap[a0.block]? = some (.cells c t (0, 0))) ∧ (∃ c t, W.heap[a1.block]? = some (.cells c t (0, 0))) ∧ (∃ c t, W.heap[a2.block]? = some (.cells c t (0, 0))) := by
  obtain ⟨ps, ⟨g0', t0', cs0, f0, p0, q0, hg0', ht0', hv0, hd0, ⟨g1', t1', cs1, f1, p1, q1, hg1', ht1', hv1, hd1, ⟨g2', t2', cs2, f2, p2, q2, hg2', ht2', hv2, hd2, _, e2⟩, e1⟩, e0⟩, hnd, hrows⟩ := h
  obtain rfl := Option.some.inj (hg0.symm.trans hg0')
  obtain rfl := Option.some.inj (hg1.symm.trans hg1')
  obtain rfl := Option.some.inj (hg2.symm.trans hg2')
  obtain rfl := Option.some.inj (ht0.symm.trans ht0')
  obtain rfl := Option.some.inj (ht1.symm.trans ht1')
  obtain rfl := Option.some.inj (ht2.symm.trans ht2')
  subst e2
  subst e1
  subst e0
  obtain ⟨l0⟩ := cs0
  obtain ⟨l1⟩ := cs1
  obtain ⟨l2⟩ := cs2
  have ok0 : ∀ u v, l0 = [.iface u v] → Value.okWide P W .any 0 u v := fun u v e => by
    subst e
    exact (hrows g0 0 (by simp [MemPlace.row])).2 u v (by simpa using World.var?_cell hg0' hv0 0)
  have ok1 : ∀ u v, l1 = [.iface u v] → Value.okWide P W .any 0 u v := fun u v e => by
    subst e
    exact (hrows g1 0 (by simp [MemPlace.row])).2 u v (by simpa using World.var?_cell hg1' hv1 0)
  have ok2 : ∀ u v, l2 = [.iface u v] → Value.okWide P W .any 0 u v := fun u v e => by
    subst e
    exact (hrows g2 0 (by simp [MemPlace.row])).2 u v (by simpa using World.var?_cell hg2' hv2 0)
  obtain ⟨a0, s0, rfl, hc0, hs0, hz0, rfl⟩ := errorString_of_trod hi hrow hp he hft hfo hs hc hcs hd0 ok0
  obtain ⟨a1, s1, rfl, hc1, hs1, hz1, rfl⟩ := errorString_of_trod hi hrow hp he hft hfo hs hc hcs hd1 ok1
  obtain ⟨a2, s2, rfl, hc2, hs2, hz2, rfl⟩ := errorString_of_trod hi hrow hp he hft hfo hs hc hcs hd2 ok2
  refine ⟨a0, a1, a2, by simpa using World.var?_cell hg0' hv0 0, by simpa using World.var?_cell hg1' hv1 0, by simpa using World.var?_cell hg2' hv2 0, ?_, ?_, ?_, ?_, ?_, ?_⟩
  · rintro rfl
    simp [MemPlace.row] at hnd
  · rintro rfl
    simp [MemPlace.row] at hnd
  · rintro rfl
    simp [MemPlace.row] at hnd
  · exact (hrows a0.block a0.off (by simp [MemPlace.row])).1
  · exact (hrows a1.block a1.off (by simp [MemPlace.row])).1
  · exact (hrows a2.block a2.off (by simp [MemPlace.row])).1


theorem own : ownKnob Tryd.prog.godebug = none := by kernel_rfl
theorem star : "*" ++ "errors.errorString" = "*errors.errorString" := by decide
theorem rowES (u : TypeId) (h : Tryd.prog.typeName? 3 u = some "*errors.errorString") : u = 131 :=
  typeName_ptr_named (nm := "errors.errorString") (by rw [star]; kernel_rfl) (by kernel_rfl) (by decide) u (by rw [star]; exact h)
theorem gRn : Tryd.prog.globalNamed "strconv.ErrRange" = some 9 := by kernel_rfl
theorem gSn : Tryd.prog.globalNamed "strconv.ErrSyntax" = some 8 := by kernel_rfl
theorem gRt : (Tryd.prog.globals[9]?).map (·.type) = some 50 := by kernel_rfl
theorem gSt : (Tryd.prog.globals[8]?).map (·.type) = some 50 := by kernel_rfl
theorem gAn : Tryd.prog.globalNamed "consignor/cron.errAlone" = some 1 := by kernel_rfl
theorem gNn : Tryd.prog.globalNamed "consignor/cron.errNumber" = some 2 := by kernel_rfl
theorem gOn : Tryd.prog.globalNamed "consignor/cron.errOrder" = some 5 := by kernel_rfl
theorem gAt : (Tryd.prog.globals[1]?).map (·.type) = some 50 := by kernel_rfl
theorem gNt : (Tryd.prog.globals[2]?).map (·.type) = some 50 := by kernel_rfl
theorem gOt : (Tryd.prog.globals[5]?).map (·.type) = some 50 := by kernel_rfl
theorem gPn : Tryd.prog.globalNamed "internal/strconv.uint64pow10" = some 10 := by kernel_rfl
theorem gPt : (Tryd.prog.globals[10]?).map (·.type) = some 135 := by kernel_rfl
theorem gMn : Tryd.prog.globalNamed "consignor/cron.monthDays" = some 3 := by kernel_rfl
theorem gMt : (Tryd.prog.globals[3]?).map (·.type) = some 90 := by kernel_rfl
theorem gBn : Tryd.prog.globalNamed "consignor/cron.bounds" = some 0 := by kernel_rfl
theorem gBt : (Tryd.prog.globals[0]?).map (·.type) = some 54 := by kernel_rfl
theorem cellsES : Tryd.prog.cellsOf 133 = 1 := by kernel_rfl
theorem cellsStr : Tryd.prog.cellsOf 9 = 1 := by kernel_rfl
theorem cellsU64 : Tryd.prog.cellsOf 22 = 1 := by kernel_rfl
theorem cellsInt : Tryd.prog.cellsOf 3 = 1 := by kernel_rfl
theorem cellsP : Tryd.prog.cellsOf 135 = 20 := by kernel_rfl
theorem cellsM : Tryd.prog.cellsOf 90 = 13 := by kernel_rfl
theorem cellsB : Tryd.prog.cellsOf 54 = 12 := by kernel_rfl
theorem cellsT : Tryd.prog.cellsOf 53 = 2 := by kernel_rfl

/-- A pair of integers that reads as two numbers holds them. -/
theorem pair_of_trod {H : Type} {enc : TypeId × Value → H} {w : World} {base : Nat} {sp : Nat → Bool} {held : Bool} {fuel : Nat} {cs : List Value} {x : DataW H × List MemPlace} {a b : Int}
    (h : DataW.trod enc Tryd.prog w base sp held fuel 53 cs = some x) (hx : x.1 = .agg [.lit (.int .i64 a), .lit (.int .i64 b)]) : cs[0]? = some (.int .i64 a) ∧ cs[1]? = some (.int .i64 b) := by
  cases fuel with
  | zero => simp [DataW.trod] at h
  | succ fuel =>
    simp only [DataW.trod, Tryd.underlying53, cellsT] at h
    split at h
    · rename_i hl
      obtain ⟨xs, hm, rfl⟩ := Option.map_eq_some_iff.1 h
      simp only [DataW.agg.injEq] at hx
      obtain ⟨y0, hy0, h0⟩ := Lib.mapM_at hm 0 _ rfl
      obtain ⟨y1, hy1, h1⟩ := Lib.mapM_at hm 1 _ rfl
      simp only [cellsInt] at h0 h1
      obtain ⟨z0, hc0, rfl, -⟩ := DataW.trod_int Tryd.underlying3 h0
      obtain ⟨z1, hc1, rfl, -⟩ := DataW.trod_int Tryd.underlying3 h1
      have e0 := congrArg (·[0]?) hx
      have e1 := congrArg (·[1]?) hx
      simp [hy0] at e0
      simp [hy1] at e1
      have d0 := congrArg (·[0]?) hc0
      have d1 := congrArg (·[0]?) hc1
      simp at d0 d1
      exact ⟨by rw [d0, e0], by rw [d1, e1]⟩
    · cases h
/-- The table of bounds, cell by cell. -/
theorem cells_of_pairs {H : Type} {enc : TypeId × Value → H} {w : World} {base : Nat} {sp : Nat → Bool} {held : Bool} {fuel : Nat} {cs : List Value} {zs : List (Int × Int)} {p : List MemPlace} (hz : zs.length = 6)
    (h : DataW.trod enc Tryd.prog w base sp held fuel 54 cs = some (.agg (zs.map fun z => .agg [.lit (.int .i64 z.1), .lit (.int .i64 z.2)]), p)) :
    ∀ i (hi : i < 6), cs[2 * i]? = some (.int .i64 (zs[i]'(by omega)).1) ∧ cs[2 * i + 1]? = some (.int .i64 (zs[i]'(by omega)).2) := by
  intro i hi
  cases fuel with
  | zero => simp [DataW.trod] at h
  | succ fuel =>
    simp only [DataW.trod, Tryd.underlying54, cellsT, cellsB] at h
    split at h
    · rename_i hl
      obtain ⟨xs, hm, hx⟩ := Option.map_eq_some_iff.1 h
      have hxs := congrArg Prod.fst hx
      simp only [DataW.agg.injEq] at hxs
      obtain ⟨b, hb, hf⟩ := Lib.mapM_at hm i i (by simp [hi])
      have h2 := congrArg (·[i]?) hxs
      simp only [List.getElem?_map, hb, Option.map_some, List.getElem?_eq_getElem (show i < zs.length by omega), Option.some.injEq] at h2
      obtain ⟨c0, c1⟩ := pair_of_trod hf h2
      rw [List.getElem?_take, List.getElem?_drop] at c0 c1
      rw [if_pos (by decide)] at c0 c1
      refine ⟨?_, ?_⟩
      · rw [Nat.mul_comm]; exact c0
      · rw [Nat.mul_comm]; exact c1
    · cases h

/-- The list of the rows. -/
def laidAll : List (String × DataW Unit) := [("math/bits.deBruijn32tab", Rows.laid_math_bits_deBruijn32tab), ("math/bits.deBruijn64tab", Rows.laid_math_bits_deBruijn64tab), ("internal/strconv.uint64pow10", Rows.laid_internal_strconv_uint64pow10), ("unicode/utf8.acceptRanges", Rows.laid_unicode_utf8_acceptRanges), ("strconv.ErrRange", Rows.laid_strconv_ErrRange), ("strconv.ErrSyntax", Rows.laid_strconv_ErrSyntax), ("consignor/cron.monthDays", Rows.laid_consignor_cron_monthDays), ("consignor/cron.bounds", Rows.laid_consignor_cron_bounds), ("consignor/cron.errAlone", Rows.laid_consignor_cron_errAlone), ("consignor/cron.errNumber", Rows.laid_consignor_cron_errNumber), ("consignor/cron.errOrder", Rows.laid_consignor_cron_errOrder), ("unicode/utf8.first", Rows.laid_unicode_utf8_first)]
theorem size_of_shaped {W : World} (h : W.ShapedOpen Tryd.prog) : 13 ≤ W.heap.size := by
  obtain ⟨o, o₀, ho, -⟩ := h.2 13 (of_decide_eq_true (by kernel_rfl)) (of_decide_eq_true (by kernel_rfl))
  exact Nat.le_of_lt (Array.getElem?_eq_some_iff.1 ho).1
def monthZ : List Int := [0, 31, 28, 31, 30, 31, 30, 31, 31, 30, 31, 30, 31]
def boundZ : List (Int × Int) := [(0, 59), (0, 23), (1, 31), (1, 12), (0, 6), (1, 59)]
/-- WHAT THE ROWS' LISTS GIVE. -/
theorem env_of_laid {W : World} (h : laidMetH Tryd.prog laidAll W) (hs : W.ShapedOpen Tryd.prog) : ∃ aA aN aO, CEnv W aA aN aO := by
  have h' : laidMet Tryd.prog laidAll W := h
  have h2 := laidMet.tail (laidMet.tail h')
  have hp : Lib.TabIs Tryd.prog W "internal/strconv.uint64pow10" .u64 Lib.pow10Tab := Lib.tabIs_of_head gPn gPt Tryd.underlying135 Tryd.underlying22 cellsU64 cellsP h2
  have h4 := laidMet.tail (laidMet.tail h2)
  obtain ⟨aR, -, vR, -⟩ := laid_sentinel h4 gRn gRt Tryd.underlying50 rowES Tryd.underlying131 Tryd.underlying133 rfl rfl Tryd.underlying9 cellsES cellsStr
  obtain ⟨aS, -, vS, -⟩ := laid_sentinel (laidMet.tail h4) gSn gSt Tryd.underlying50 rowES Tryd.underlying131 Tryd.underlying133 rfl rfl Tryd.underlying9 cellsES cellsStr
  have h6 := laidMet.tail (laidMet.tail h4)
  have hm : Lib.TabIs Tryd.prog W "consignor/cron.monthDays" .i64 monthZ := Lib.tabIs_of_head gMn gMt Tryd.underlying90 Tryd.underlying3 cellsInt cellsM h6
  have h7 := laidMet.tail h6
  have h8 := laidMet.tail h7
  obtain ⟨a0, a1, a2, c0, c1, c2, n01, n02, n12, b0, b1, b2⟩ := laid_sentinels3 h8 gAn gAt gNn gNt gOn gOt Tryd.underlying50 rowES Tryd.underlying131 Tryd.underlying133 rfl rfl Tryd.underlying9 cellsES cellsStr
  have hb : ∀ i (hi : i ≤ 5), W.cell? ⟨0, 2 * i, none⟩ = some (.int .i64 (lowB i : Nat)) ∧ W.cell? ⟨0, 2 * i + 1, none⟩ = some (.int .i64 (highB i : Nat)) := by
    obtain ⟨ps, ⟨g', t', cs, fuel, p, q, hg', ht', hvar, hd, _, _⟩, _⟩ := h7
    obtain rfl := Option.some.inj (gBn.symm.trans hg')
    obtain rfl := Option.some.inj (gBt.symm.trans ht')
    intro i hi
    obtain ⟨k0, k1⟩ := cells_of_pairs (zs := boundZ) rfl hd i (by omega)
    have e := (show ∀ i (hi : i < 6), (boundZ[i]'hi).1 = ((lowB i : Nat) : Int) ∧ (boundZ[i]'hi).2 = ((highB i : Nat) : Int) by decide) i (by omega)
    refine ⟨?_, ?_⟩
    · rw [World.var?_cell hg' hvar, ← e.1]; exact (Array.getElem?_toList (xs := cs) (i := 2 * i)).symm.trans k0
    · rw [World.var?_cell hg' hvar, ← e.2]; exact (Array.getElem?_toList (xs := cs) (i := 2 * i + 1)).symm.trans k1
  refine ⟨a0, a1, a2, ⟨size_of_shaped hs, fun i hi => ?_⟩, cell_of_shapedOpen_int (zero := #[.int .i64 0]) (t := 3) hs (of_decide_eq_true (by kernel_rfl)) (by kernel_rfl) rfl (by kernel_rfl) (by kernel_rfl) Tryd.underlying3, hp, ⟨_, _, vS⟩, ⟨_, _, vR⟩, hb, c0, c1, c2, b0, b1, b2, n01.symm, n02.symm⟩
  have hc := hm.cell gMn i (by show i < 13; omega)
  rw [hc, (show ∀ i, i ≤ 12 → monthZ.getD i 0 = ((monthT.getD i 0 : Nat) : Int) by decide) i hi]

/-! ### A world that has them: the witness -/
abbrev txtR : ByteArray := { data := #[118, 97, 108, 117, 101, 32, 111, 117, 116, 32, 111, 102, 32, 114, 97, 110, 103, 101] }
abbrev txtS : ByteArray := { data := #[105, 110, 118, 97, 108, 105, 100, 32, 115, 121, 110, 116, 97, 120] }
abbrev txtA : ByteArray := { data := #[110, 101, 105, 116, 104, 101, 114, 32, 97, 32, 115, 116, 97, 114, 32, 110, 111, 114, 32, 116, 119, 111, 32, 110, 117, 109, 98, 101, 114, 115] }
abbrev txtN : ByteArray := { data := #[110, 111, 32, 110, 117, 109, 98, 101, 114, 32, 119, 105, 116, 104, 105, 110, 32, 116, 104, 101, 32, 98, 111, 117, 110, 100, 115] }
abbrev txtO : ByteArray := { data := #[116, 104, 101, 32, 102, 105, 114, 115, 116, 32, 110, 117, 109, 98, 101, 114, 32, 105, 115, 32, 97, 98, 111, 118, 101, 32, 116, 104, 101, 32, 115, 101, 99, 111, 110, 100] }
def acceptL : List Nat := [128, 191, 160, 191, 128, 159, 144, 191, 128, 143] ++ List.replicate 22 0
def tab32 : List Nat := [0, 1, 28, 2, 29, 14, 24, 3, 30, 22, 20, 15, 25, 17, 4, 8, 31, 27, 13, 23, 21, 19, 16, 7, 26, 12, 18, 6, 11, 5, 10, 9]
def tab64 : List Nat := [0, 1, 56, 2, 57, 49, 28, 3, 61, 58, 42, 50, 38, 29, 17, 4, 62, 47, 59, 36, 45, 43, 51, 22, 53, 39, 33, 30, 24, 18, 12, 5, 63, 55, 48, 27, 60, 41, 37, 16, 46, 35, 44, 21, 52, 32, 23, 11, 54, 26, 40, 15, 34, 20, 31, 10, 25, 14, 19, 9, 13, 8, 7, 6]
noncomputable def low : Nat := (World.holding Tryd.prog default ⟨#[], #[], []⟩).heap.size
noncomputable def laidWorld (os : Os) : World :=
  let w0 := World.holding Tryd.prog os ⟨#[.cells #[.string txtR] 133, .cells #[.string txtS] 133, .cells #[.string txtA] 133, .cells #[.string txtN] 133, .cells #[.string txtO] 133], #[], []⟩
  { w0 with heap := ((((((((((((w0.heap.modify 9 fun
      | .cells _ t frozen => .cells #[.iface 131 (.pointer (some ⟨low, 0, none⟩))] t frozen
      | o => o).modify 8 fun
      | .cells _ t frozen => .cells #[.iface 131 (.pointer (some ⟨low + 1, 0, none⟩))] t frozen
      | o => o).modify 1 fun
      | .cells _ t frozen => .cells #[.iface 131 (.pointer (some ⟨low + 2, 0, none⟩))] t frozen
      | o => o).modify 2 fun
      | .cells _ t frozen => .cells #[.iface 131 (.pointer (some ⟨low + 3, 0, none⟩))] t frozen
      | o => o).modify 5 fun
      | .cells _ t frozen => .cells #[.iface 131 (.pointer (some ⟨low + 4, 0, none⟩))] t frozen
      | o => o).modify 10 fun
      | .cells _ t frozen => .cells ((Lib.pow10Tab.map (Value.int .u64)).toArray) t frozen
      | o => o).modify 11 fun
      | .cells _ t frozen => .cells ((tab32.map fun n : Nat => Value.int .u8 n).toArray) t frozen
      | o => o).modify 12 fun
      | .cells _ t frozen => .cells ((tab64.map fun n : Nat => Value.int .u8 n).toArray) t frozen
      | o => o).modify 7 fun
      | .cells _ t frozen => .cells ((acceptL.map fun n : Nat => Value.int .u8 n).toArray) t frozen
      | o => o).modify 6 fun
      | .cells _ t frozen => .cells ((Go.Pinned.utf8FirstZ.map fun n : Nat => Value.int .u8 n).toArray) t frozen
      | o => o).modify 3 fun
      | .cells _ t frozen => .cells ((monthZ.map (Value.int .i64)).toArray) t frozen
      | o => o).modify 0 fun
      | .cells _ t frozen => .cells ((boundZ.flatMap fun z => [Value.int .i64 z.1, Value.int .i64 z.2]).toArray) t frozen
      | o => o) }
theorem laid_met (os : Os) (args : Array Value) : laidMetH Tryd.prog laidAll ((laidWorld os).forCall (fun _ _ => 0) ⟨#[], args, []⟩).memory :=
  laidMetH_of_parts (laidMet_of_run' 8 (by kernel_rfl) (by kernel_rfl)) (by kernel_rfl)
end Go.Proofs.YtccobaohmbilpaaDoor
