/-
  Disks as plain data, and in memory: a row of sectors, a row of writes; what comes in reads as one. Conditions: none.
-/
import Derived.Test.YtcjngaapiomkbaaChecked
import Derived.Below
import Derived.RowKit
import Derived.Deep.Fields
import Derived.ChangeArms
import Derived.ChangeSame
import Derived.DataReads
import Derived.WideShapes
import Derived.OpenShut
import Derived.Lib.SmallJoins
namespace Go.Proofs.Ytcjngaapiomkbaa
open Go.ChangeShapes Go.WideShapes Go.RowKit Go.Deep

/-! ### Plain -/
/-- A disk: its sectors, and what was written and is not safe. -/
structure Dsk where
  secs : List ByteArray
  dirty : List (Int × ByteArray)
def wellB (n : Nat) (l : List (Int × ByteArray)) : Bool := l.all fun w => decide (0 ≤ w.1) && decide (w.1 < (n : Int)) && w.2.size == 128
def Dsk.right (d : Dsk) : Bool := d.secs.all (fun s => s.size == 128) && decide (4 ≤ d.secs.length) && decide (d.secs.length ≤ 64) && decide (d.dirty.length ≤ 200) && wellB d.secs.length d.dirty
/-- A sector after writes, one by one. -/
def standsL (k : Nat) : ByteArray → List (Int × ByteArray) → ByteArray
  | s, [] => s
  | s, w :: l => standsL k (if w.1 = (k : Int) then w.2 else s) l
def Dsk.stands (d : Dsk) (k : Nat) : ByteArray := standsL k (d.secs.getD k ⟨#[]⟩) d.dirty
/-- A sector behind a crash. -/
def tornB (s x : ByteArray) : ByteArray := x.extract 0 64 ++ s.extract 64 s.size
def leftL (k : Nat) : ByteArray → List (Int × ByteArray) → List Int → ByteArray
  | s, [], _ => s
  | s, _ :: _, [] => s
  | s, w :: l, f :: fs => leftL k (if w.1 = (k : Int) then (if f = 1 then w.2 else if f = 2 then tornB s w.2 else s) else s) l fs
def Dsk.left (d : Dsk) (k : Nat) (fates : List Int) : ByteArray := leftL k (d.secs.getD k ⟨#[]⟩) d.dirty fates
theorem standsL_snoc (k : Nat) (w : Int × ByteArray) : ∀ (l : List (Int × ByteArray)) (s : ByteArray), standsL k s (l ++ [w]) = if w.1 = (k : Int) then w.2 else standsL k s l
  | [], _ => rfl
  | _ :: l, _ => standsL_snoc k w l _

/-! ### In memory -/
theorem exists_list {α : Type} {P : Nat → α → Prop} : ∀ n : Nat, (∀ i, i < n → ∃ x, P i x) → ∃ l : List α, l.length = n ∧ ∀ (i : Nat) (h : i < l.length), P i l[i]
  | 0, _ => ⟨[], rfl, fun i h => absurd h (Nat.not_lt_zero _)⟩
  | n + 1, h => by
    obtain ⟨l, hl, hp⟩ := exists_list n fun i hi => h i (by omega)
    obtain ⟨x, hx⟩ := h n (by omega)
    refine ⟨l ++ [x], by simp [hl], fun i hi => ?_⟩
    by_cases e : i < l.length
    · rw [List.getElem_append_left e]; exact hp i e
    · have : i = n := by simp [hl] at hi; omega
      subst this
      rw [List.getElem_append_right (by omega)]
      simpa [hl] using hx

/-- The value v reads as the strings ss. -/
def StrsAt (w : World) (v : Value) (ss : List ByteArray) : Prop :=
  (ss = [] ∧ (v = .slice none 0 0 ∨ ∃ a cap, v = .slice (some a) 0 cap ∧ cap ≤ maxLen)) ∨
  ∃ b o cap, v = .slice (some ⟨b, o, none⟩) ss.length cap ∧ 0 < ss.length ∧ ss.length ≤ cap ∧ cap ≤ maxLen ∧ ∀ i (h : i < ss.length), w.cell? ⟨b, o + i, none⟩ = some (.string ss[i])
theorem StrsAt.keep {w w' : World} {v : Value} {ss : List ByteArray} (h : StrsAt w v ss) (hb : Below w.heap.size w w') : StrsAt w' v ss := by
  rcases h with h | ⟨b, o, cap, h1, h2, h3, h4, h5⟩
  · exact Or.inl h
  · exact Or.inr ⟨b, o, cap, h1, h2, h3, h4, fun i hi => (hb.cell (World.block_lt_of_cell? _ _ (h5 i hi))).trans (h5 i hi)⟩

theorem slice_cells {H : Type} {enc : TypeId × Value → H} {W : World} {fuel m : Nat} {t e : TypeId} {v : Value} {x : DataW H × List MemPlace} (ht : Try.prog.underlying t = some (.slice e)) (hm : Try.prog.cellsOf e = m) (hm0 : 0 < m)
    (h : DataW.trod enc Try.prog W 0 (fun _ => true) true fuel t [v] = some x) :
    (v = .slice none 0 0 ∨ ∃ a cap, v = .slice (some a) 0 cap ∧ cap ≤ maxLen) ∨
    ∃ (b o len cap : Nat), v = .slice (some ⟨b, o, none⟩) len cap ∧ 0 < len ∧ len ≤ cap ∧ cap ≤ maxLen ∧
      ∀ i, i < len → ∃ (cs : List Value) (n : Nat) (y : DataW H × List MemPlace), n < fuel ∧ cs.length = m ∧ (∀ j, j < m → W.cell? ⟨b, o + (i * m + j), none⟩ = cs[j]?) ∧ DataW.trod enc Try.prog W 0 (fun _ => true) true n e cs = some y := by
  rcases DataW.trod_slice ht h with ⟨h1, -⟩ | ⟨a, len, cap, elems, rest, n, hf, h1, -, -, hl, hc, hel, hat, -, -⟩
  · exact Or.inl (Or.inl (by simpa using h1))
  · have hv : v = .slice (some a) len cap := by simpa using h1
    subst hv
    rw [hm] at hat
    cases len with
    | zero => exact Or.inl (Or.inr ⟨a, cap, rfl, hc⟩)
    | succ len =>
      have hread : ∀ i, i < len + 1 → ∃ (cs : List Value) (y : DataW H × List MemPlace), W.cells? 0 (a.add (i * m)) m = some cs ∧ DataW.trod enc Try.prog W 0 (fun _ => true) true n e cs = some y := fun i hi => by
        have h2 := hat i hi
        have h3 : elems[i]? = some (elems[i]'(by omega)) := List.getElem?_eq_getElem (by omega)
        rw [h3, Option.bind_eq_some_iff] at h2
        obtain ⟨cs, h4, h5⟩ := h2
        exact ⟨cs, _, h4, h5⟩
      obtain ⟨b, o, sp⟩ := a
      have hsp : sp = none := by
        obtain ⟨cs, y, h4, -⟩ := hread 0 (by omega)
        obtain ⟨-, hcl, hca⟩ := World.cells?_some h4
        have h5 := hca 0 hm0
        rw [List.getElem?_eq_getElem (by omega)] at h5
        cases sp with
        | none => rfl
        | some q =>
          exfalso
          rw [Nat.zero_mul] at h5
          unfold Addr.add at h5
          simp only [if_true] at h5
          unfold World.cell? at h5
          split at h5 <;> simp at h5
      subst hsp
      refine Or.inr ⟨b, o, len + 1, cap, rfl, by omega, hl, hc, fun i hi => ?_⟩
      obtain ⟨cs, y, h4, h5⟩ := hread i hi
      obtain ⟨-, hcl, hca⟩ := World.cells?_some h4
      refine ⟨cs, n, y, by omega, hcl, fun j hj => ?_, h5⟩
      have := hca j hj
      rw [add_plain, add_plain, Nat.add_assoc] at this
      exact this


/-- A row of pairs of cells. -/
def PairsAt (w : World) (v : Value) (l : List (Value × Value)) : Prop :=
  (l = [] ∧ (v = .slice none 0 0 ∨ ∃ a cap, v = .slice (some a) 0 cap ∧ cap ≤ maxLen)) ∨
  ∃ b o cap, v = .slice (some ⟨b, o, none⟩) l.length cap ∧ 0 < l.length ∧ l.length ≤ cap ∧ cap ≤ maxLen ∧ ∀ i (h : i < l.length), w.cell? ⟨b, o + i * 2, none⟩ = some l[i].1 ∧ w.cell? ⟨b, o + i * 2 + 1, none⟩ = some l[i].2
theorem PairsAt.keep {w w' : World} {v : Value} {l : List (Value × Value)} (h : PairsAt w v l) (hb : Below w.heap.size w w') : PairsAt w' v l := by
  rcases h with h | ⟨b, o, cap, h1, h2, h3, h4, h5⟩
  · exact Or.inl h
  · have k : ∀ {p : Addr} {v : Value}, w.cell? p = some v → w'.cell? p = some v := fun hc => (hb.cell (World.block_lt_of_cell? _ _ hc)).trans hc
    exact Or.inr ⟨b, o, cap, h1, h2, h3, h4, fun i hi => ⟨k (h5 i hi).1, k (h5 i hi).2⟩⟩
theorem PairsAt.shape {w : World} {v : Value} {l : List (Value × Value)} (h : PairsAt w v l) : ∃ a cap, v = .slice a l.length cap ∧ cap ≤ maxLen ∧ l.length ≤ maxLen := by
  rcases h with ⟨rfl, rfl | ⟨a, cap, rfl, hc⟩⟩ | ⟨b, o, cap, rfl, h2, h3, h4, -⟩
  · exact ⟨none, 0, rfl, by decide, by decide⟩
  · exact ⟨_, _, rfl, hc, by decide⟩
  · exact ⟨_, _, rfl, h4, by omega⟩
def writeCell (l : Int × ByteArray) : Value × Value := (.int .i64 l.1, .string l.2)
/-- The value v reads as the disk d. -/
structure DskAt (w : World) (v : Value) (d : Dsk) : Prop where
  is : ∃ sv dv, v = .agg #[sv, dv] ∧ StrsAt w sv d.secs ∧ PairsAt w dv (d.dirty.map writeCell)
  secs : ∀ s ∈ d.secs, s.size ≤ maxLen
  sizes : ∀ l ∈ d.dirty, l.2.size ≤ maxLen ∧ -9223372036854775808 ≤ l.1 ∧ l.1 ≤ 9223372036854775807
theorem DskAt.keep {w w' : World} {v : Value} {d : Dsk} (h : DskAt w v d) (hb : Below w.heap.size w w') : DskAt w' v d := by
  obtain ⟨⟨sv, dv, e, h1, h2⟩, h3, h4⟩ := h
  exact ⟨⟨sv, dv, e, h1.keep hb, h2.keep hb⟩, h3, h4⟩

theorem dskFields : ∃ f0 f1 : Field, Try.prog.underlying 25 = some (.struct #[f0, f1]) ∧ f0.type = 22 ∧ f1.type = 23 ∧ oneCellFields Try.prog #[f0, f1] = true :=
  ⟨_, _, Try.underlying25, rfl, rfl, by kernel_rfl⟩
theorem writeFields : ∃ f0 f1 : Field, Try.prog.underlying 45 = some (.struct #[f0, f1]) ∧ f0.type = 3 ∧ f1.type = 9 ∧ oneCellFields Try.prog #[f0, f1] = true :=
  ⟨_, _, Try.underlying45, rfl, rfl, by kernel_rfl⟩
theorem writeCells : Try.prog.cellsOf 45 = 2 := by kernel_rfl
theorem dskCells : Try.prog.cellsOf 25 = 2 := by kernel_rfl

/-- A slice of strings that was read. -/
theorem strs_read {H : Type} {enc : TypeId × Value → H} {W : World} {fuel : Nat} {v : Value} {x : DataW H × List MemPlace}
    (h : DataW.trod enc Try.prog W 0 (fun _ => true) true fuel 22 [v] = some x) : ∃ names, StrsAt W v names ∧ ∀ x ∈ names, x.size ≤ maxLen := by
  rcases slice_cells Try.underlying22 (show Try.prog.cellsOf 9 = 1 by kernel_rfl) (by decide) h with h | ⟨b, o, len, cap, rfl, h1, h2, h3, h4⟩
  · exact ⟨[], Or.inl ⟨rfl, h⟩, by simp⟩
  · obtain ⟨l, hl, hp⟩ := exists_list (P := fun i (x : ByteArray) => W.cell? ⟨b, o + i, none⟩ = some (.string x) ∧ x.size ≤ maxLen) len fun i hi => by
      obtain ⟨cs, n', y, -, hcl, hca, hr⟩ := h4 i hi
      obtain ⟨x, rfl, -, hx⟩ := DataW.trod_string Try.underlying9 hr
      have := hca 0 (by decide)
      simp only [Nat.mul_one, Nat.add_zero] at this
      exact ⟨x, by rw [this]; rfl, hx⟩
    refine ⟨l, Or.inr ⟨b, o, cap, by rw [hl], by omega, by omega, h3, fun i hi => (hp i hi).1⟩, fun x hx => ?_⟩
    obtain ⟨i, hi, rfl⟩ := List.getElem_of_mem hx
    exact (hp i hi).2
/-- A slice of writes that was read. -/
theorem writes_read {H : Type} {enc : TypeId × Value → H} {W : World} {fuel : Nat} {v : Value} {x : DataW H × List MemPlace}
    (h : DataW.trod enc Try.prog W 0 (fun _ => true) true fuel 23 [v] = some x) : ∃ ls : List (Int × ByteArray), PairsAt W v (ls.map writeCell) ∧ ∀ l ∈ ls, l.2.size ≤ maxLen ∧ -9223372036854775808 ≤ l.1 ∧ l.1 ≤ 9223372036854775807 := by
  obtain ⟨f0, f1, hu, t0, t1, hone⟩ := writeFields
  obtain ⟨o0, k0⟩ := hone_of hone 0 f0 rfl
  obtain ⟨o1, k1⟩ := hone_of hone 1 f1 rfl
  rcases slice_cells Try.underlying23 writeCells (by decide) h with h | ⟨b, o, len, cap, rfl, h1, h2, h3, h4⟩
  · exact ⟨[], Or.inl ⟨rfl, h⟩, by simp⟩
  · obtain ⟨l, hl, hp⟩ := exists_list (P := fun i (x : Int × ByteArray) => W.cell? ⟨b, o + i * 2, none⟩ = some (.int .i64 x.1) ∧ W.cell? ⟨b, o + i * 2 + 1, none⟩ = some (.string x.2) ∧ x.2.size ≤ maxLen ∧ -9223372036854775808 ≤ x.1 ∧ x.1 ≤ 9223372036854775807) len fun i hi => by
      obtain ⟨cs, n', y, -, hcl, hca, hr⟩ := h4 i hi
      obtain ⟨c0, c1, rfl⟩ : ∃ c0 c1, cs = [c0, c1] := by
        match cs, hcl with
        | [a, b], _ => exact ⟨a, b, rfl⟩
      obtain ⟨xs, n, -, -, -, hxl, hg⟩ := DataW.trod_struct hu hr
      have g0 := hg 0 f0 rfl
      have g1 := hg 1 f1 rfl
      obtain ⟨y0, y1, rfl⟩ : ∃ y0 y1, xs = [y0, y1] := by
        match xs, (show xs.length = 2 from hxl) with
        | [a, b], _ => exact ⟨a, b, rfl⟩
      rw [o0, k0, t0] at g0
      rw [o1, k1, t1] at g1
      have g0 : DataW.trod enc Try.prog W 0 (fun _ => true) true n 3 [c0] = some y0 := g0
      have g1 : DataW.trod enc Try.prog W 0 (fun _ => true) true n 9 [c1] = some y1 := g1
      obtain ⟨num, e0, -, b1⟩ := DataW.trod_int Try.underlying3 g0
      obtain ⟨s, e1, -, hs⟩ := DataW.trod_string Try.underlying9 g1
      obtain rfl : c0 = .int .i64 num := by simpa using e0
      obtain rfl : c1 = .string s := by simpa using e1
      exact ⟨(num, s), hca 0 (by decide), hca 1 (by decide), hs, bounds_i64 b1⟩
    refine ⟨l, Or.inr ⟨b, o, cap, by rw [List.length_map, hl], by rw [List.length_map]; omega, by rw [List.length_map]; omega, h3, fun i hi => ?_⟩, fun x hx => ?_⟩
    · rw [List.length_map] at hi
      rw [List.getElem_map]
      exact ⟨(hp i hi).1, (hp i hi).2.1⟩
    · obtain ⟨i, hi, rfl⟩ := List.getElem_of_mem hx
      exact (hp i hi).2.2

set_option maxRecDepth 100000 in
/-- Writes that came in. -/
theorem open_writes {H : Type} {enc : TypeId × Value → H} {W : World} {b0 : Nat} {v : Value} {d : DataW H} {p : List MemPlace}
    (hval : Value.okWide Try.prog W .any b0 23 v) (hj : DataW.Trod enc Try.prog W 0 (fun _ => true) true 23 v d p) : ∃ ls : List (Int × ByteArray), PairsAt W v (ls.map writeCell) ∧ ∀ l ∈ ls, l.2.size ≤ maxLen ∧ -9223372036854775808 ≤ l.1 ∧ l.1 ≤ 9223372036854775807 := by
  obtain ⟨a0, len, cap, rfl⟩ := okWide_slice Try.underlying23 hval
  obtain ⟨fuel, hf⟩ := hj
  exact writes_read hf
set_option maxRecDepth 100000 in
/-- A disk that came in. -/
theorem open_dsk {H : Type} {enc : TypeId × Value → H} {W : World} {b0 : Nat} {v : Value} {d : DataW H} {p : List MemPlace}
    (hval : Value.okWide Try.prog W .any b0 25 v) (hj : DataW.Trod enc Try.prog W 0 (fun _ => true) true 25 v d p) : ∃ d, DskAt W v d := by
  obtain ⟨f0, f1, hu, t0, t1, hone⟩ := dskFields
  obtain ⟨v0, v1, y0, y1, n, rfl, -, -, h0, h1⟩ := Joins.open_agg2 hu hone dskCells hval hj
  rw [t0] at h0
  rw [t1] at h1
  obtain ⟨ss, hss, zs⟩ := strs_read h0
  obtain ⟨ls, hls, zl⟩ := writes_read h1
  exact ⟨⟨ss, ls⟩, ⟨v0, v1, rfl, hss, hls⟩, zs, zl⟩
end Go.Proofs.Ytcjngaapiomkbaa
