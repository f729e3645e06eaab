/-
  For LedgerFills: one text added, or renewed, by its size; and the law's own texts. Conditions: none.
-/
import Derived.Test.YtkplpodljmlanaaGreatDoorZLed5
import Derived.BigQuiet
/-! For LedgerFills: one text added, or renewed, by its size; and the law's own texts. Conditions: none. -/
namespace Go.Proofs.YtkplpodljmlanaaGreatDoor
open Go.RowKit Go.WideShapes

theorem clamp40 (s : Int) : ∃ (mx : Int) (n : Nat), max s 4 = mx ∧ min mx 40 = (n : Int) ∧ 4 ≤ n ∧ n ≤ 40 :=
  ⟨max s 4, (min (max s 4) 40).toNat, rfl, by omega, by omega, by omega⟩
theorem bindL_one (s : ByteArray) : (bindL [s]).length = 2 + s.size := by
  have e : bindL [s] = wideL s.size 2 ++ (s.data.toList ++ bindL []) := by simp [bindL]
  rw [e, List.length_append, List.length_append, wideL_length, toList_size]
  simp [bindL]
theorem may_one {s : ByteArray} (h : s.size ≤ 4096) : mayB [s] = true := mayB_true (fun t ht => by rw [List.mem_singleton.1 ht]; exact h) (by simp)
section
variable {d : Dsk} {n g u : Nat} {es : List ByteArray}
/-- One text that has room. -/
theorem one_goes (h : Opens d n g u es) (renew : Bool) {s : ByteArray} (hs : s.size ≤ 4096) (hf : (if renew then 0 else u) + 2 + s.size ≤ roomN d) (hg : gOf renew g ≤ 1099511627776) :
    Goes d n g u es renew [s] ∧ usedOf d n u renew [s] = (if renew then 0 else u) + 2 + s.size := by
  have hl := thereOf_len h renew
  have hb := bindL_one s
  refine ⟨⟨h, may_one hs, by rw [hl, hb]; omega, hg⟩, ?_⟩
  unfold usedOf
  rw [hl, hb]
  omega
/-- One text that has none. -/
theorem one_full (h : Opens d n g u es) (renew : Bool) {s : ByteArray} (hs : s.size ≤ 4096) (hf : roomN d < (if renew then 0 else u) + 2 + s.size) : addL ⟨d, n, g, u, es⟩ renew [s] = (nilLed, 13) := by
  have hl := thereOf_len h renew
  have hb := bindL_one s
  have h13 : stepsL ⟨d, n, g, u, es⟩ renew [s] = ([], 13) := by
    rw [stepsL_of h, if_pos (may_one hs)]
    unfold layL
    rw [if_pos (Or.inl (by rw [hl, hb]; omega))]
  rcases addL_no h (by rw [h13]; decide) with ⟨-, e⟩ | ⟨e, -⟩
  · rw [may_one hs] at e; cases e
  · exact e
end

set_option maxHeartbeats 4000000 in
/-- The law's text of so many bytes. -/
theorem text_t (n : Nat) (w : World) (hn : n ≤ 4096) : Calls Tryz.prog 33 #[.int .i64 n] w fun e w' => ∃ s : ByteArray, e = .returned (.string s) ∧ s.size = n ∧ Below w.heap.size w w' := by
  obtain ⟨i0, hi, hz0, hz1, hz2⟩ := info_parts infoByte
  go_enter Tryz.func33, Tryz.ntmps33
  go_upto_region 1 with fail
  go_wp2_with (at_make; refine wpList_make_full w rfl _ _ 63 rfl w.heap.size 5 i0 (.int .u8 0) 1 Tryz.underlying63 hi hz0 hz1 .i64 .i64 n n n rfl rfl rfl rfl ?c1 ?c2 ?c3 ?_)
  case c1 => rw [hz2]; omega
  case c2 => unfold maxLen; omega
  case c3 => exact Nat.le_refl _
  intro w1 hown hgrow
  have hz : (madeCells #[Value.int IntKind.u8 0] n).toList = Lib.byteCells (List.replicate n 0) := by
    rw [toList_madeCells_one]; simp [Lib.byteCells]
  rw [hz] at hown
  have hb1 : Below w.heap.size w w1 := (Below.refl _ _).grown hgrow (Nat.le_refl _) (fun _ e => by cases e)
  obtain ⟨L, hL⟩ : ∃ L, List.replicate n (0 : UInt8) = L := ⟨_, rfl⟩
  have hLn : L.length = n := by rw [← hL, List.length_replicate]
  rw [hL] at hown
  have hcv := run_convert_bytes_back (P := Tryz.prog) w1 63 9 5 ⟨w.heap.size, 0, none⟩ n L Tryz.underlying63 Tryz.underlying5 Tryz.underlying9 (fun i hi => by
    rw [hLn] at hi
    have := hown.cellAt i (by omega)
    rw [addr0_add, this, List.getElem?_eq_getElem (by rw [Lib.byteCells_length, hLn]; exact hi)]
    simp [Lib.byteCells])
  rw [hLn] at hcv
  have HD := Lib.hid (And.intro (show (⟨L.toArray⟩ : ByteArray).size = n by show L.toArray.size = n; rw [List.size_toArray, hLn]) hb1)
  obtain ⟨s, hs⟩ : ∃ s : ByteArray, (⟨L.toArray⟩ : ByteArray) = s := ⟨_, rfl⟩
  rw [hs] at hcv HD
  clear hown hgrow hz hL hb1 hs hLn hz0 hz1 hz2 hi
  go_wp2_with fail
  go_ret
  exact ⟨s, rfl, HD.out.1, HD.out.2⟩
theorem row_one (w : World) (s : ByteArray) (t : TypeId) : StrRow (w.alloc (.cells #[.string s] t)) (.slice (some ⟨w.heap.size, 0, none⟩) 1 1) [s] := by
  refine Or.inr ⟨w.heap.size, 0, 1, rfl, by simp, by decide, fun i hi => ?_⟩
  have : i = 0 := by simp at hi; omega
  subst this
  rw [World.cell?_alloc_at _ _ _ _ rfl]; rfl
/-- What comes of one text that has room: the numbers as ints too, as the walk has them. -/
def OneOut (n0 ne h g u : Nat) (lh lg lu : Int) (w : World) (e : Ending) (w' : World) : Prop :=
  ∃ (d : Dsk) (es : List ByteArray) (p1 : Option Addr) (k1 : Nat) (p2 : Option Addr) (k2 : Nat) (p3 : Option Addr) (k3 : Nat), e = .returned (.tuple #[.agg #[.slice p1 n0 k1, .slice p2 0 k2, .int .i64 lh, .int .i64 lg, .int .i64 lu, .slice p3 ne k3], .int .i64 0]) ∧
    LedAt w' (.agg #[.slice p1 n0 k1, .slice p2 0 k2, .int .i64 lh, .int .i64 lg, .int .i64 lu, .slice p3 ne k3]) ⟨d, lh, lg, lu, es⟩ ∧ Opens d h g u es ∧ d.secs.length = n0 ∧ es.length = ne ∧ Below w.heap.size w w'
theorem OneOut.mk {d : Dsk} {n g u n0 ne u' : Nat} {lh lg lu : Int} {es : List ByteArray} {renew : Bool} {s : ByteArray} (h : Opens d n g u es) (hn : d.secs.length = n0) (hs : s.size ≤ 4096) (hf : (if renew then 0 else u) + 2 + s.size ≤ roomN d) (hg : gOf renew g ≤ 1099511627776) (hu : (if renew then 0 else u) + 2 + s.size = u') (he : (esOf renew es [s]).length = ne)
    (e1 : ((mOf renew n : Nat) : Int) = lh) (e2 : ((gOf renew g : Nat) : Int) = lg) (e3 : (u' : Int) = lu)
    {w w' : World} {e : Ending} (H : LedOut (addL ⟨d, n, g, u, es⟩ renew [s]) w e w') : OneOut n0 ne (mOf renew n) (gOf renew g) u' lh lg lu w e w' := by
  obtain ⟨hgo, hus⟩ := one_goes h renew hs hf hg
  rw [addL_goes hgo, hus, hu, e1, e2, e3] at H
  obtain ⟨v, rfl, h1, h2⟩ := H
  have hnx := hgo.next
  rw [hus, hu] at hnx
  have hlen : (nextD d n g u renew [s]).secs.length = n0 := by rw [nextD_len]; exact hn
  obtain ⟨a, c, a', c', b, k, rfl⟩ := h1.boxed (n0 := n0) (n1 := 0) (ne := ne) hlen rfl he rfl rfl rfl
  exact ⟨_, _, a, c, a', c', b, k, rfl, h1, hnx, hlen, he, h2⟩
/-- A new variable that holds it. -/
def OneIn (n0 ne h g u : Nat) (lh lg lu : Int) (w0 : World) (xv fv : Value) (wx : World) : Prop :=
  ∃ B d es, xv = .pointer (some ⟨B, 0, none⟩) ∧ fv = .int .i64 0 ∧ LedIn wx B ⟨d, lh, lg, lu, es⟩ ∧ Opens d h g u es ∧ d.secs.length = n0 ∧ es.length = ne ∧ Below w0.heap.size w0 wx ∧ w0.heap.size ≤ B
section
variable {w0 wD : World} {n0 ne h g u : Nat} {lh lg lu : Int} {d : Dsk} {es : List ByteArray} {p1 p2 p3 : Option Addr} {k1 k2 k3 : Nat}
theorem oneNew_alloc (hop : Opens d h g u es) (hd : d.secs.length = n0) (he : es.length = ne)
    (hlD : LedAt wD (.agg #[.slice p1 n0 k1, .slice p2 0 k2, .int .i64 lh, .int .i64 lg, .int .i64 lu, .slice p3 ne k3]) ⟨d, lh, lg, lu, es⟩) (hbA : Below w0.heap.size w0 wD) :
    OneIn n0 ne h g u lh lg lu w0 (.pointer (some ⟨wD.heap.size, 0, none⟩)) (.int .i64 0) (wD.alloc (.cells #[.slice p1 n0 k1, .slice p2 0 k2, .int .i64 lh, .int .i64 lg, .int .i64 lu, .slice p3 ne k3] 27)) :=
  ⟨_, _, _, rfl, rfl, LedIn.new hlD, hop, hd, he, Below.then hbA (below_new _ _), hbA.size⟩
theorem oneNew_set {B : Nat} (hz : At6 27 wD B nilV nilV zeroV zeroV zeroV nilV) (hop : Opens d h g u es) (hd : d.secs.length = n0) (he : es.length = ne)
    (hlD : LedAt wD (.agg #[.slice p1 n0 k1, .slice p2 0 k2, .int .i64 lh, .int .i64 lg, .int .i64 lu, .slice p3 ne k3]) ⟨d, lh, lg, lu, es⟩) (hbA : Below w0.heap.size w0 wD) (hB : w0.heap.size ≤ B) :
    OneIn n0 ne h g u lh lg lu w0 (.pointer (some ⟨B, 0, none⟩)) (.int .i64 0) ((((((wD.setCell ⟨B, 0, none⟩ (.slice p1 n0 k1)).setCell ⟨B, 1, none⟩ (.slice p2 0 k2)).setCell ⟨B, 2, none⟩ (.int .i64 lh)).setCell ⟨B, 3, none⟩ (.int .i64 lg)).setCell ⟨B, 4, none⟩ (.int .i64 lu)).setCell ⟨B, 5, none⟩ (.slice p3 ne k3)) :=
  ⟨B, _, _, rfl, rfl, (LedIn.nil hz).set hlD hop.clean, hop, hd, he, set6_below hbA hB _ _ _ _ _ _, hB⟩
end
/-- A new variable that a refused call's ledger was put into. -/
def FullIn (w0 : World) (fv : Value) (wx : World) : Prop := fv = .int .i64 13 ∧ Below w0.heap.size w0 wx
theorem fullNew_alloc {w0 wD : World} {o : Obj} (hbA : Below w0.heap.size w0 wD) : FullIn w0 (.int .i64 13) (wD.alloc o) := ⟨rfl, Below.then hbA (below_new _ _)⟩
theorem fullNew_set {w0 wD : World} {B : Nat} {s d h g u e : Value} (hbA : Below w0.heap.size w0 wD) (hB : w0.heap.size ≤ B) :
    FullIn w0 (.int .i64 13) ((((((wD.setCell ⟨B, 0, none⟩ s).setCell ⟨B, 1, none⟩ d).setCell ⟨B, 2, none⟩ h).setCell ⟨B, 3, none⟩ g).setCell ⟨B, 4, none⟩ u).setCell ⟨B, 5, none⟩ e) := ⟨rfl, set6_below hbA hB _ _ _ _ _ _⟩
end Go.Proofs.YtkplpodljmlanaaGreatDoor
