/-
  Disks as plain data, and in memory: a row of sectors, a row of writes; what comes in reads as one. Conditions: none.
  The document's own Well and Right of a disk, by contracts. Conditions: none.
  The document's own Right of a disk, by a contract. Conditions: none.
  The document's own Like of two disks, by a contract. Conditions: none.
  The document's own Left of a disk, by a contract: a sector behind a crash. Conditions: the disk may be.
  The program's isSector, mayHave, isPlace and left of a disk, by contracts. Conditions: strings no longer than one may be; left of sectors of 128 bytes.
  The program's allFit and Right of a disk, by contracts. Conditions: none but how long a slice and a string may be.
  Rows of strings and of writes that a call makes; what an append takes, nil or not; slices.Grow of nil and slices.Concat of two rows of writes, by contracts. Conditions: few writes.
  slices.Concat of two rows of writes, by a contract. Conditions: few writes.
-/
import Derived.Test.YtkplpodljmlanaaGreatDoorChecked
import Derived.Below
import Derived.RowKit
import Derived.Deep.Fields
import Derived.ChangeArms
import Derived.ChangeSame
import Derived.DataReads
import Derived.WideShapes
import Derived.OpenShut
import Derived.Lib.SmallJoins
import Derived.WalkKit
import Derived.WalkLawsBesides
import Derived.WalkSpells
import Derived.BigCall
import Derived.Lib.Hide
import Derived.Outline
import Derived.Lib.OthersKept
import Derived.BigQuiet
import Derived.Deep.Cut
import Derived.Deep.QuietTactic
import Derived.Test.YtkplpodljmlanaaGreatDoorZOct1
import Derived.OwnWalk
import Derived.Laws.AppendOwnNone
import Derived.Laws.AppendOwn
import Derived.Lib.AppendZeros
import Derived.Deep.OwnRows
/-! Disks as plain data, and in memory: a row of sectors, a row of writes; what comes in reads as one. Conditions: none. -/
namespace Go.Proofs.YtkplpodljmlanaaGreatDoor
open Go.ChangeShapes Go.WideShapes Go.RowKit Go.Deep

/-! ### Plain -/
/-- A disk: its sectors, and what was written and is not safe. -/
structure Dsk where
  secs : List ByteArray
  dirty : List (Int × ByteArray)
def wellB (n : Nat) (l : List (Int × ByteArray)) : Bool := l.all fun w => decide (0 ≤ w.1) && decide (w.1 < (n : Int)) && w.2.size == 128
def Dsk.right (d : Dsk) : Bool := d.secs.all (fun s => s.size == 128) && decide (4 ≤ d.secs.length) && decide (d.secs.length ≤ 64) && decide (d.dirty.length ≤ 200) && wellB d.secs.length d.dirty
/-- A sector after writes, one by one. -/
def standsL (k : Nat) : ByteArray → List (Int × ByteArray) → ByteArray
  | s, [] => s
  | s, w :: l => standsL k (if w.1 = (k : Int) then w.2 else s) l
def Dsk.stands (d : Dsk) (k : Nat) : ByteArray := standsL k (d.secs.getD k ⟨#[]⟩) d.dirty
/-- A sector behind a crash. -/
def tornB (s x : ByteArray) : ByteArray := x.extract 0 64 ++ s.extract 64 s.size
def leftL (k : Nat) : ByteArray → List (Int × ByteArray) → List Int → ByteArray
  | s, [], _ => s
  | s, _ :: _, [] => s
  | s, w :: l, f :: fs => leftL k (if w.1 = (k : Int) then (if f = 1 then w.2 else if f = 2 then tornB s w.2 else s) else s) l fs
def Dsk.left (d : Dsk) (k : Nat) (fates : List Int) : ByteArray := leftL k (d.secs.getD k ⟨#[]⟩) d.dirty fates
theorem standsL_snoc (k : Nat) (w : Int × ByteArray) : ∀ (l : List (Int × ByteArray)) (s : ByteArray), standsL k s (l ++ [w]) = if w.1 = (k : Int) then w.2 else standsL k s l
  | [], _ => rfl
  | _ :: l, _ => standsL_snoc k w l _

/-! ### In memory -/
theorem exists_list {α : Type} {P : Nat → α → Prop} : ∀ n : Nat, (∀ i, i < n → ∃ x, P i x) → ∃ l : List α, l.length = n ∧ ∀ (i : Nat) (h : i < l.length), P i l[i]
  | 0, _ => ⟨[], rfl, fun i h => absurd h (Nat.not_lt_zero _)⟩
  | n + 1, h => by
    obtain ⟨l, hl, hp⟩ := exists_list n fun i hi => h i (by omega)
    obtain ⟨x, hx⟩ := h n (by omega)
    refine ⟨l ++ [x], by simp [hl], fun i hi => ?_⟩
    by_cases e : i < l.length
    · rw [List.getElem_append_left e]; exact hp i e
    · have : i = n := by simp [hl] at hi; omega
      subst this
      rw [List.getElem_append_right (by omega)]
      simpa [hl] using hx

/-- The value v reads as the strings ss. -/
def StrsAt (w : World) (v : Value) (ss : List ByteArray) : Prop :=
  (ss = [] ∧ (v = .slice none 0 0 ∨ ∃ a cap, v = .slice (some a) 0 cap ∧ cap ≤ maxLen)) ∨
  ∃ b o cap, v = .slice (some ⟨b, o, none⟩) ss.length cap ∧ 0 < ss.length ∧ ss.length ≤ cap ∧ cap ≤ maxLen ∧ ∀ i (h : i < ss.length), w.cell? ⟨b, o + i, none⟩ = some (.string ss[i])
theorem StrsAt.keep {w w' : World} {v : Value} {ss : List ByteArray} (h : StrsAt w v ss) (hb : Below w.heap.size w w') : StrsAt w' v ss := by
  rcases h with h | ⟨b, o, cap, h1, h2, h3, h4, h5⟩
  · exact Or.inl h
  · exact Or.inr ⟨b, o, cap, h1, h2, h3, h4, fun i hi => (hb.cell (World.block_lt_of_cell? _ _ (h5 i hi))).trans (h5 i hi)⟩

theorem slice_cells {H : Type} {enc : TypeId × Value → H} {W : World} {fuel m : Nat} {t e : TypeId} {v : Value} {x : DataW H × List MemPlace} (ht : Tryz.prog.underlying t = some (.slice e)) (hm : Tryz.prog.cellsOf e = m) (hm0 : 0 < m)
    (h : DataW.trod enc Tryz.prog W 0 (fun _ => true) true fuel t [v] = some x) :
    (v = .slice none 0 0 ∨ ∃ a cap, v = .slice (some a) 0 cap ∧ cap ≤ maxLen) ∨
    ∃ (b o len cap : Nat), v = .slice (some ⟨b, o, none⟩) len cap ∧ 0 < len ∧ len ≤ cap ∧ cap ≤ maxLen ∧
      ∀ i, i < len → ∃ (cs : List Value) (n : Nat) (y : DataW H × List MemPlace), n < fuel ∧ cs.length = m ∧ (∀ j, j < m → W.cell? ⟨b, o + (i * m + j), none⟩ = cs[j]?) ∧ DataW.trod enc Tryz.prog W 0 (fun _ => true) true n e cs = some y := by
  rcases DataW.trod_slice ht h with ⟨h1, -⟩ | ⟨a, len, cap, elems, rest, n, hf, h1, -, -, hl, hc, hel, hat, -, -⟩
  · exact Or.inl (Or.inl (by simpa using h1))
  · have hv : v = .slice (some a) len cap := by simpa using h1
    subst hv
    rw [hm] at hat
    cases len with
    | zero => exact Or.inl (Or.inr ⟨a, cap, rfl, hc⟩)
    | succ len =>
      have hread : ∀ i, i < len + 1 → ∃ (cs : List Value) (y : DataW H × List MemPlace), W.cells? 0 (a.add (i * m)) m = some cs ∧ DataW.trod enc Tryz.prog W 0 (fun _ => true) true n e cs = some y := fun i hi => by
        have h2 := hat i hi
        have h3 : elems[i]? = some (elems[i]'(by omega)) := List.getElem?_eq_getElem (by omega)
        rw [h3, Option.bind_eq_some_iff] at h2
        obtain ⟨cs, h4, h5⟩ := h2
        exact ⟨cs, _, h4, h5⟩
      obtain ⟨b, o, sp⟩ := a
      have hsp : sp = none := by
        obtain ⟨cs, y, h4, -⟩ := hread 0 (by omega)
        obtain ⟨-, hcl, hca⟩ := World.cells?_some h4
        have h5 := hca 0 hm0
        rw [List.getElem?_eq_getElem (by omega)] at h5
        cases sp with
        | none => rfl
        | some q =>
          exfalso
          rw [Nat.zero_mul] at h5
          unfold Addr.add at h5
          simp only [if_true] at h5
          unfold World.cell? at h5
          split at h5 <;> simp at h5
      subst hsp
      refine Or.inr ⟨b, o, len + 1, cap, rfl, by omega, hl, hc, fun i hi => ?_⟩
      obtain ⟨cs, y, h4, h5⟩ := hread i hi
      obtain ⟨-, hcl, hca⟩ := World.cells?_some h4
      refine ⟨cs, n, y, by omega, hcl, fun j hj => ?_, h5⟩
      have := hca j hj
      rw [add_plain, add_plain, Nat.add_assoc] at this
      exact this


/-- A row of pairs of cells. -/
def PairsAt (w : World) (v : Value) (l : List (Value × Value)) : Prop :=
  (l = [] ∧ (v = .slice none 0 0 ∨ ∃ a cap, v = .slice (some a) 0 cap ∧ cap ≤ maxLen)) ∨
  ∃ b o cap, v = .slice (some ⟨b, o, none⟩) l.length cap ∧ 0 < l.length ∧ l.length ≤ cap ∧ cap ≤ maxLen ∧ ∀ i (h : i < l.length), w.cell? ⟨b, o + i * 2, none⟩ = some l[i].1 ∧ w.cell? ⟨b, o + i * 2 + 1, none⟩ = some l[i].2
theorem PairsAt.keep {w w' : World} {v : Value} {l : List (Value × Value)} (h : PairsAt w v l) (hb : Below w.heap.size w w') : PairsAt w' v l := by
  rcases h with h | ⟨b, o, cap, h1, h2, h3, h4, h5⟩
  · exact Or.inl h
  · have k : ∀ {p : Addr} {v : Value}, w.cell? p = some v → w'.cell? p = some v := fun hc => (hb.cell (World.block_lt_of_cell? _ _ hc)).trans hc
    exact Or.inr ⟨b, o, cap, h1, h2, h3, h4, fun i hi => ⟨k (h5 i hi).1, k (h5 i hi).2⟩⟩
theorem PairsAt.shape {w : World} {v : Value} {l : List (Value × Value)} (h : PairsAt w v l) : ∃ a cap, v = .slice a l.length cap ∧ cap ≤ maxLen ∧ l.length ≤ maxLen := by
  rcases h with ⟨rfl, rfl | ⟨a, cap, rfl, hc⟩⟩ | ⟨b, o, cap, rfl, h2, h3, h4, -⟩
  · exact ⟨none, 0, rfl, by decide, by decide⟩
  · exact ⟨_, _, rfl, hc, by decide⟩
  · exact ⟨_, _, rfl, h4, by omega⟩
def writeCell (l : Int × ByteArray) : Value × Value := (.int .i64 l.1, .string l.2)
/-- The value v reads as the disk d. -/
structure DskAt (w : World) (v : Value) (d : Dsk) : Prop where
  is : ∃ sv dv, v = .agg #[sv, dv] ∧ StrsAt w sv d.secs ∧ PairsAt w dv (d.dirty.map writeCell)
  secs : ∀ s ∈ d.secs, s.size ≤ maxLen
  sizes : ∀ l ∈ d.dirty, l.2.size ≤ maxLen ∧ -9223372036854775808 ≤ l.1 ∧ l.1 ≤ 9223372036854775807
theorem DskAt.keep {w w' : World} {v : Value} {d : Dsk} (h : DskAt w v d) (hb : Below w.heap.size w w') : DskAt w' v d := by
  obtain ⟨⟨sv, dv, e, h1, h2⟩, h3, h4⟩ := h
  exact ⟨⟨sv, dv, e, h1.keep hb, h2.keep hb⟩, h3, h4⟩

theorem dskFields : ∃ f0 f1 : Field, Tryz.prog.underlying 25 = some (.struct #[f0, f1]) ∧ f0.type = 22 ∧ f1.type = 23 ∧ oneCellFields Tryz.prog #[f0, f1] = true :=
  ⟨_, _, Tryz.underlying25, rfl, rfl, by kernel_rfl⟩
theorem writeFields : ∃ f0 f1 : Field, Tryz.prog.underlying 48 = some (.struct #[f0, f1]) ∧ f0.type = 3 ∧ f1.type = 9 ∧ oneCellFields Tryz.prog #[f0, f1] = true :=
  ⟨_, _, Tryz.underlying48, rfl, rfl, by kernel_rfl⟩
theorem writeCells : Tryz.prog.cellsOf 48 = 2 := by kernel_rfl
theorem dskCells : Tryz.prog.cellsOf 25 = 2 := by kernel_rfl

/-- A slice of strings that was read. -/
theorem strs_read {H : Type} {enc : TypeId × Value → H} {W : World} {fuel : Nat} {v : Value} {x : DataW H × List MemPlace}
    (h : DataW.trod enc Tryz.prog W 0 (fun _ => true) true fuel 22 [v] = some x) : ∃ names, StrsAt W v names ∧ ∀ x ∈ names, x.size ≤ maxLen := by
  rcases slice_cells Tryz.underlying22 (show Tryz.prog.cellsOf 9 = 1 by kernel_rfl) (by decide) h with h | ⟨b, o, len, cap, rfl, h1, h2, h3, h4⟩
  · exact ⟨[], Or.inl ⟨rfl, h⟩, by simp⟩
  · obtain ⟨l, hl, hp⟩ := exists_list (P := fun i (x : ByteArray) => W.cell? ⟨b, o + i, none⟩ = some (.string x) ∧ x.size ≤ maxLen) len fun i hi => by
      obtain ⟨cs, n', y, -, hcl, hca, hr⟩ := h4 i hi
      obtain ⟨x, rfl, -, hx⟩ := DataW.trod_string Tryz.underlying9 hr
      have := hca 0 (by decide)
      simp only [Nat.mul_one, Nat.add_zero] at this
      exact ⟨x, by rw [this]; rfl, hx⟩
    refine ⟨l, Or.inr ⟨b, o, cap, by rw [hl], by omega, by omega, h3, fun i hi => (hp i hi).1⟩, fun x hx => ?_⟩
    obtain ⟨i, hi, rfl⟩ := List.getElem_of_mem hx
    exact (hp i hi).2
/-- A slice of writes that was read. -/
theorem writes_read {H : Type} {enc : TypeId × Value → H} {W : World} {fuel : Nat} {v : Value} {x : DataW H × List MemPlace}
    (h : DataW.trod enc Tryz.prog W 0 (fun _ => true) true fuel 23 [v] = some x) : ∃ ls : List (Int × ByteArray), PairsAt W v (ls.map writeCell) ∧ ∀ l ∈ ls, l.2.size ≤ maxLen ∧ -9223372036854775808 ≤ l.1 ∧ l.1 ≤ 9223372036854775807 := by
  obtain ⟨f0, f1, hu, t0, t1, hone⟩ := writeFields
  obtain ⟨o0, k0⟩ := hone_of hone 0 f0 rfl
  obtain ⟨o1, k1⟩ := hone_of hone 1 f1 rfl
  rcases slice_cells Tryz.underlying23 writeCells (by decide) h with h | ⟨b, o, len, cap, rfl, h1, h2, h3, h4⟩
  · exact ⟨[], Or.inl ⟨rfl, h⟩, by simp⟩
  · obtain ⟨l, hl, hp⟩ := exists_list (P := fun i (x : Int × ByteArray) => W.cell? ⟨b, o + i * 2, none⟩ = some (.int .i64 x.1) ∧ W.cell? ⟨b, o + i * 2 + 1, none⟩ = some (.string x.2) ∧ x.2.size ≤ maxLen ∧ -9223372036854775808 ≤ x.1 ∧ x.1 ≤ 9223372036854775807) len fun i hi => by
      obtain ⟨cs, n', y, -, hcl, hca, hr⟩ := h4 i hi
      obtain ⟨c0, c1, rfl⟩ : ∃ c0 c1, cs = [c0, c1] := by
        match cs, hcl with
        | [a, b], _ => exact ⟨a, b, rfl⟩
      obtain ⟨xs, n, -, -, -, hxl, hg⟩ := DataW.trod_struct hu hr
      have g0 := hg 0 f0 rfl
      have g1 := hg 1 f1 rfl
      obtain ⟨y0, y1, rfl⟩ : ∃ y0 y1, xs = [y0, y1] := by
        match xs, (show xs.length = 2 from hxl) with
        | [a, b], _ => exact ⟨a, b, rfl⟩
      rw [o0, k0, t0] at g0
      rw [o1, k1, t1] at g1
      have g0 : DataW.trod enc Tryz.prog W 0 (fun _ => true) true n 3 [c0] = some y0 := g0
      have g1 : DataW.trod enc Tryz.prog W 0 (fun _ => true) true n 9 [c1] = some y1 := g1
      obtain ⟨num, e0, -, b1⟩ := DataW.trod_int Tryz.underlying3 g0
      obtain ⟨s, e1, -, hs⟩ := DataW.trod_string Tryz.underlying9 g1
      obtain rfl : c0 = .int .i64 num := by simpa using e0
      obtain rfl : c1 = .string s := by simpa using e1
      exact ⟨(num, s), hca 0 (by decide), hca 1 (by decide), hs, bounds_i64 b1⟩
    refine ⟨l, Or.inr ⟨b, o, cap, by rw [List.length_map, hl], by rw [List.length_map]; omega, by rw [List.length_map]; omega, h3, fun i hi => ?_⟩, fun x hx => ?_⟩
    · rw [List.length_map] at hi
      rw [List.getElem_map]
      exact ⟨(hp i hi).1, (hp i hi).2.1⟩
    · obtain ⟨i, hi, rfl⟩ := List.getElem_of_mem hx
      exact (hp i hi).2.2

set_option maxRecDepth 100000 in
/-- Writes that came in. -/
theorem open_writes {H : Type} {enc : TypeId × Value → H} {W : World} {b0 : Nat} {v : Value} {d : DataW H} {p : List MemPlace}
    (hval : Value.okWide Tryz.prog W .any b0 23 v) (hj : DataW.Trod enc Tryz.prog W 0 (fun _ => true) true 23 v d p) : ∃ ls : List (Int × ByteArray), PairsAt W v (ls.map writeCell) ∧ ∀ l ∈ ls, l.2.size ≤ maxLen ∧ -9223372036854775808 ≤ l.1 ∧ l.1 ≤ 9223372036854775807 := by
  obtain ⟨a0, len, cap, rfl⟩ := okWide_slice Tryz.underlying23 hval
  obtain ⟨fuel, hf⟩ := hj
  exact writes_read hf
set_option maxRecDepth 100000 in
/-- A disk that came in. -/
theorem open_dsk {H : Type} {enc : TypeId × Value → H} {W : World} {b0 : Nat} {v : Value} {d : DataW H} {p : List MemPlace}
    (hval : Value.okWide Tryz.prog W .any b0 25 v) (hj : DataW.Trod enc Tryz.prog W 0 (fun _ => true) true 25 v d p) : ∃ d, DskAt W v d := by
  obtain ⟨f0, f1, hu, t0, t1, hone⟩ := dskFields
  obtain ⟨v0, v1, y0, y1, n, rfl, -, -, h0, h1⟩ := Joins.open_agg2 hu hone dskCells hval hj
  rw [t0] at h0
  rw [t1] at h1
  obtain ⟨ss, hss, zs⟩ := strs_read h0
  obtain ⟨ls, hls, zl⟩ := writes_read h1
  exact ⟨⟨ss, ls⟩, ⟨v0, v1, rfl, hss, hls⟩, zs, zl⟩
end Go.Proofs.YtkplpodljmlanaaGreatDoor
/-! The document's own Well and Right of a disk, by contracts. Conditions: none. -/
namespace Go.Proofs.YtkplpodljmlanaaGreatDoor
open Go.RowKit

theorem below_new (w : World) (o : Obj) : Below w.heap.size w (w.alloc o) := (Below.refl _ _).alloc (Nat.le_refl _) _
theorem Below.then {w w1 w2 : World} (h : Below w.heap.size w w1) (h2 : Below w1.heap.size w1 w2) : Below w.heap.size w w2 := h.trans (h2.mono h.size)

/-- A row of two cells lies at B. -/
def At2 (t : TypeId) (w : World) (B : Nat) (a b : Value) : Prop := w.heap[B]? = some (.cells #[a, b] t (0, 0))
theorem At2.lt {t : TypeId} {w : World} {B : Nat} {a b : Value} (h : At2 t w B a b) : B < w.heap.size := (Array.getElem?_eq_some_iff.1 h).1
theorem At2.keep {t : TypeId} {w w' : World} {B : Nat} {a b : Value} (h : At2 t w B a b) (hb : Below w.heap.size w w') : At2 t w' B a b := (hb.block B h.lt).trans h
theorem At2.cells {t : TypeId} {w : World} {B : Nat} {a b : Value} (h : At2 t w B a b) : w.cell? ⟨B, 0, none⟩ = some a ∧ w.cell? ⟨B, 1, none⟩ = some b := by
  unfold At2 at h
  refine ⟨?_, ?_⟩ <;> simp [World.cell?, h]
theorem At2.new (t : TypeId) (w : World) (a b : Value) : At2 t (w.alloc (.cells #[a, b] t)) w.heap.size a b := heap_alloc_new w _

theorem write_getElem (ls : List (Int × ByteArray)) (k : Nat) (h : k < ls.length) : (ls.map writeCell)[k]'(by rw [List.length_map]; exact h) = (.int .i64 ls[k].1, .string ls[k].2) := by
  rw [List.getElem_map]; rfl
theorem StrsAt.rows {w : World} {v : Value} {l : List ByteArray} (h : StrsAt w v l) (h0 : 0 < l.length) : ∃ b o cap, v = .slice (some ⟨b, o, none⟩) l.length cap ∧ 0 < l.length ∧ l.length ≤ cap ∧ cap ≤ maxLen ∧ ∀ i (h : i < l.length), w.cell? ⟨b, o + i, none⟩ = some (.string l[i]) := by
  rcases h with ⟨rfl, -⟩ | h
  · simp at h0
  · exact h
theorem PairsAt.at {w : World} {a : Option Addr} {n cap : Nat} {l : List (Value × Value)} (h : PairsAt w (.slice a n cap) l) (i : Nat) (hi : i < l.length) : ∃ b o, a = some ⟨b, o, none⟩ ∧ w.cell? ⟨b, o + i * 2, none⟩ = some l[i].1 ∧ w.cell? ⟨b, o + i * 2 + 1, none⟩ = some l[i].2 := by
  rcases h with ⟨h0, -⟩ | ⟨b, o, c, e, -, -, -, hc⟩
  · rw [h0] at hi; simp at hi
  · simp only [Value.slice.injEq] at e
    exact ⟨b, o, e.1, (hc i hi).1, (hc i hi).2⟩
theorem StrsAt.shape {w : World} {v : Value} {l : List ByteArray} (h : StrsAt w v l) : ∃ a cap, v = .slice a l.length cap ∧ cap ≤ maxLen ∧ l.length ≤ maxLen := by
  rcases h with ⟨rfl, rfl | ⟨a, cap, rfl, hc⟩⟩ | ⟨b, o, cap, rfl, h2, h3, h4, -⟩
  · exact ⟨none, 0, rfl, by decide, by decide⟩
  · exact ⟨_, _, rfl, hc, by decide⟩
  · exact ⟨_, _, rfl, h4, by omega⟩
theorem StrsAt.at {w : World} {a : Option Addr} {n cap : Nat} {l : List ByteArray} (h : StrsAt w (.slice a n cap) l) (i : Nat) (hi : i < l.length) : ∃ b o, a = some ⟨b, o, none⟩ ∧ w.cell? ⟨b, o + i, none⟩ = some (.string l[i]) := by
  rcases h with ⟨h0, -⟩ | ⟨b, o, c, e, -, -, -, hc⟩
  · rw [h0] at hi; simp at hi
  · simp only [Value.slice.injEq] at e
    exact ⟨b, o, e.1, hc i hi⟩
def okWrite (n : Nat) (w : Int × ByteArray) : Bool := decide (0 ≤ w.1) && decide (w.1 < (n : Int)) && w.2.size == 128
theorem wellB_eq (n : Nat) (l : List (Int × ByteArray)) : wellB n l = l.all (okWrite n) := rfl
set_option maxRecDepth 100000 in
set_option maxHeartbeats 2000000 in
theorem refWell_t (v : Value) (ls : List (Int × ByteArray)) (n : Nat) (w : World) (h : PairsAt w v (ls.map writeCell)) (hz : ∀ l ∈ ls, l.2.size ≤ maxLen) :
    Calls Tryz.prog 64 #[v, .int .i64 n] w fun e w' => e = .returned (.bool (wellB n ls)) ∧ Below w.heap.size w w' := by
  obtain ⟨a, cap, rfl, -, hl⟩ := h.shape
  unfold maxLen at hl
  rw [List.length_map] at hl h ⊢
  rcases h with ⟨h0, -⟩ | ⟨b, o, cap', e, h2, -, -, h5⟩
  · have h0' : ls = [] := List.map_eq_nil_iff.1 h0
    subst h0'
    clear hz h0
    go_enter Tryz.func64, Tryz.ntmps64
    go_wp2_with fail
    refine wp_loop_rounds 1 ?_
    rw [rounds_succ]
    go_wp2_with fail
    go_ret
    exact ⟨by simp [wellB], Below.refl _ _⟩
  · rw [List.length_map] at e h2
    simp only [Value.slice.injEq] at e
    obtain ⟨rfl, -, rfl⟩ := e
    have H5 := Lib.hid (fun (i : Nat) (h : i < ls.length) => h5 i (by rw [List.length_map]; exact h))
    have HZ := Lib.hid hz
    clear h5 hz
    go_enter Tryz.func64, Tryz.ntmps64
    go_wp2_with fail
    go_loopw [9] (fun iv wr => ∃ k : Nat, k ≤ ls.length ∧ iv = .int .i64 k ∧ (ls.take k).all (okWrite n) = true ∧ Below w.heap.size w wr) (fun i _ => ls.length - (intOf i).toNat)
    case atStart => exact ⟨0, Nat.zero_le _, rfl, by simp, Below.refl _ _⟩
    case round =>
      obtain ⟨k, hk, rfl, hall, hb⟩ := hrel
      have HA := Lib.hid hall
      have HB := Lib.hid hb
      clear hall hb
      by_cases hlt : k < ls.length
      · obtain ⟨e0, e1⟩ := H5.out k hlt
        rw [write_getElem ls k hlt] at e0 e1
        have hts := Lib.hid (List.take_succ_eq_append_getElem hlt)
        have HM := Lib.hid (List.getElem_mem hlt)
        have hzz := HZ.out _ HM.out
        unfold maxLen at hzz
        obtain ⟨⟨ax, x⟩, hx⟩ : ∃ x, ls[k] = x := ⟨_, rfl⟩
        rw [hx] at e0 e1 hts HM hzz
        have kc : ∀ {p : Addr} {v : Value}, w.cell? p = some v → wr.cell? p = some v := fun h => HB.out.cell (World.block_lt_of_cell? _ _ h) |>.trans h
        have v0 := kc e0
        have v1 := kc e1
        clear e0 e1 kc hx
        obtain ⟨W1, hW1⟩ : ∃ W1, wr.alloc (.cells #[.int .i64 ax, .string x] 48) = W1 := ⟨_, rfl⟩
        have hb1 : Below w.heap.size w W1 := by rw [← hW1]; exact Below.then HB.out (below_new _ _)
        have hA : At2 48 W1 wr.heap.size (.int .i64 ax) (.string x) := by rw [← hW1]; exact At2.new _ _ _ _
        have HB1 := Lib.hid hb1
        have HW1 := Lib.hid hW1
        obtain ⟨a0, a1⟩ := hA.cells
        clear hA hb1 hW1
        go_upto_region 4 with fail
        rw [HW1.out]
        by_cases h0 : ax < 0
        · have HO := Lib.hid (show ls.all (okWrite n) = false from List.all_eq_false.2 ⟨(ax, x), HM.out, by simp [okWrite]; omega⟩)
          go_wp2_with fail
          go_ret
          exact ⟨by rw [wellB_eq, HO.out]; rfl, HB1.out⟩
        · by_cases h1 : ax < (n : Int)
          rotate_left
          · have HO := Lib.hid (show ls.all (okWrite n) = false from List.all_eq_false.2 ⟨(ax, x), HM.out, by simp [okWrite]; omega⟩)
            go_wp2_with fail
            go_ret
            exact ⟨by rw [wellB_eq, HO.out]; rfl, HB1.out⟩
          · by_cases h2 : x.size = 128
            · have HN := Lib.hid (show (ls.take (k + 1)).all (okWrite n) = true by
                rw [hts.out, List.all_append, HA.out, List.all_cons, List.all_nil]; simp [okWrite, h1, h2]; omega)
              have q : ((x.size : Int) != 128) = false := by rw [h2]; rfl
              go_wp2_with fail
              go_roundw
              case rel => exact ⟨k + 1, by omega, by go_num, HN.out, HB1.out⟩
              case measure => simp [intOf]; omega
            · have HO := Lib.hid (show ls.all (okWrite n) = false from List.all_eq_false.2 ⟨(ax, x), HM.out, by simp [okWrite, h2]⟩)
              have q : ((x.size : Int) != 128) = true := bne_iff_ne.2 (by omega)
              go_wp2_with fail
              go_ret
              exact ⟨by rw [wellB_eq, HO.out]; rfl, HB1.out⟩
      · have HO := Lib.hid (show ls.all (okWrite n) = true by
          have := HA.out
          rwa [List.take_of_length_le (by omega)] at this)
        go_wp2_with fail
        go_ret
        exact ⟨by rw [wellB_eq, HO.out]; rfl, HB.out⟩

end Go.Proofs.YtkplpodljmlanaaGreatDoor
/-! The document's own Right of a disk, by a contract. Conditions: none. -/
namespace Go.Proofs.YtkplpodljmlanaaGreatDoor
open Go.RowKit

set_option maxRecDepth 100000 in
set_option maxHeartbeats 4000000 in
/-- May a disk be: the document's own. -/
theorem refRight_t (v : Value) (d : Dsk) (w : World) (h : DskAt w v d) :
    Calls Tryz.prog 40 #[v] w fun e w' => e = .returned (.bool d.right) ∧ Below w.heap.size w w' := by
  obtain ⟨ss, ls⟩ := d
  obtain ⟨⟨sv, dv, rfl, hs, hd⟩, hz, hy⟩ := h
  simp only at hs hd hz hy
  obtain ⟨sa, sc, rfl, hsc, hsl⟩ := hs.shape
  obtain ⟨da, dc, rfl, -, hl⟩ := hd.shape
  unfold maxLen at hl hsl
  rw [List.length_map] at hl hd ⊢
  obtain ⟨W, hW⟩ : ∃ W, w.alloc (.cells #[.slice sa ss.length sc, .slice da ls.length dc] 25) = W := ⟨_, rfl⟩
  have hb0 : Below w.heap.size w W := by rw [← hW]; exact below_new _ _
  have hA : At2 25 W w.heap.size (.slice sa ss.length sc) (.slice da ls.length dc) := by rw [← hW]; exact At2.new _ _ _ _
  obtain ⟨a0, a1⟩ := hA.cells
  have HB0 := Lib.hid hb0
  have HA := Lib.hid hA
  have HW := Lib.hid hW
  have HD := Lib.hid hd
  have HS := Lib.hid hs
  have HZ := Lib.hid hz
  have HY := Lib.hid (fun l hl => (hy l hl).1)
  have HE := Lib.hid (show (Dsk.mk ss ls).right = (ss.all (fun s => s.size == 128) && decide (4 ≤ ss.length) && decide (ss.length ≤ 64) && decide (ls.length ≤ 200) && wellB ss.length ls) from rfl)
  clear hb0 hA hW hs hd hz hy
  go_enter Tryz.func40, Tryz.ntmps40
  go_upto_region 1 with fail
  rw [HW.out]
  go_wp2_with fail
  go_loopw [8] (fun iv wr => ∃ k : Nat, k ≤ ss.length ∧ iv = .int .i64 k ∧ (ss.take k).all (fun s => s.size == 128) = true ∧ W = wr) (fun i _ => ss.length - (intOf i).toNat)
  case atStart => exact ⟨0, Nat.zero_le _, rfl, by simp, rfl⟩
  case round =>
    obtain ⟨k, hk, rfl, hall, rfl⟩ := hrel
    have HL := Lib.hid hall
    clear hall
    by_cases hlt : k < ss.length
    · obtain ⟨b, o, rfl, e0⟩ := HS.out.at k hlt
      have hts := Lib.hid (List.take_succ_eq_append_getElem hlt)
      have HM := Lib.hid (List.getElem_mem hlt)
      have hzz := HZ.out _ HM.out
      unfold maxLen at hzz
      obtain ⟨x, hx⟩ : ∃ x, ss[k] = x := ⟨_, rfl⟩
      rw [hx] at e0 hts HM hzz
      have v0 := (HB0.out.cell (World.block_lt_of_cell? _ _ e0)).trans e0
      clear e0 hx
      by_cases hq : x.size = 128
      · have HN := Lib.hid (show (ss.take (k + 1)).all (fun s => s.size == 128) = true by
          rw [hts.out, List.all_append, HL.out, List.all_cons, List.all_nil]; simp [hq])
        have q : ((x.size : Int) != 128) = false := by rw [hq]; rfl
        go_wp2_with fail
        go_roundw
        case rel => exact ⟨k + 1, by omega, by go_num, HN.out, trivial⟩
        case measure => simp [intOf]; omega
      · have HO := Lib.hid (show ss.all (fun s => s.size == 128) = false from List.all_eq_false.2 ⟨x, HM.out, by simp [hq]⟩)
        have q : ((x.size : Int) != 128) = true := bne_iff_ne.2 (by omega)
        go_wp2_with fail
        go_ret
        exact ⟨by rw [HE.out, HO.out]; rfl, HB0.out⟩
    · have HO := Lib.hid (show ss.all (fun s => s.size == 128) = true by
        have := HL.out
        rwa [List.take_of_length_le (by omega)] at this)
      by_cases h4 : 4 ≤ ss.length
      rotate_left
      · have HF := Lib.hid (show (Dsk.mk ss ls).right = false by rw [HE.out, decide_eq_false h4]; simp)
        go_wp2_with fail
        go_ret
        exact ⟨by rw [HF.out]; rfl, HB0.out⟩
      by_cases h64 : ss.length ≤ 64
      rotate_left
      · have HF := Lib.hid (show (Dsk.mk ss ls).right = false by rw [HE.out, decide_eq_false h64]; simp)
        go_wp2_with fail
        go_ret
        exact ⟨by rw [HF.out]; rfl, HB0.out⟩
      by_cases h200 : ls.length ≤ 200
      rotate_left
      · have HF := Lib.hid (show (Dsk.mk ss ls).right = false by rw [HE.out, decide_eq_false h200]; simp)
        go_wp2_with fail
        go_ret
        exact ⟨by rw [HF.out]; rfl, HB0.out⟩
      have HF := Lib.hid (show (Dsk.mk ss ls).right = wellB ss.length ls by rw [HE.out, HO.out, decide_eq_true h4, decide_eq_true h64, decide_eq_true h200]; rfl)
      have D := Lib.hid (refWell_t (.slice da ls.length dc) ls ss.length W (HD.out.keep HB0.out) HY.out)
      go_wp2_with fail
      refine D.out.mono ?_
      rintro e w1 ⟨rfl, hb⟩
      have HB := Lib.hid (Below.then HB0.out hb)
      obtain ⟨q, hq⟩ : ∃ q, wellB ss.length ls = q := ⟨_, rfl⟩
      rw [hq] at HF ⊢
      clear hb hq
      cases q <;>
      · go_wp2_with fail
        go_ret
        exact ⟨by rw [HF.out]; rfl, HB.out⟩
end Go.Proofs.YtkplpodljmlanaaGreatDoor
/-! The document's own Like of two disks, by a contract. Conditions: none. -/
namespace Go.Proofs.YtkplpodljmlanaaGreatDoor
open Go.RowKit

/-- How Like ends. -/
def LikeEnds (a b : Dsk) (w : World) (e : Ending) (w' : World) : Prop :=
  ∃ r : Bool, e = .returned (.bool r) ∧ (r = true ↔ a = b) ∧ Below w.heap.size w w'
theorem LikeEnds.no {a b : Dsk} {w w' : World} (h : a ≠ b) (hb : Below w.heap.size w w') : LikeEnds a b w (.returned (.bool false)) w' := ⟨false, rfl, ⟨fun h => (by cases h), fun e => absurd e h⟩, hb⟩
theorem LikeEnds.yes {a b : Dsk} {w w' : World} (h : a = b) (hb : Below w.heap.size w w') : LikeEnds a b w (.returned (.bool true)) w' := ⟨true, rfl, ⟨fun _ => h, fun _ => rfl⟩, hb⟩
theorem beqB (a b : ByteArray) : (a.toList == b.toList) = decide (a = b) := by
  rw [Bool.eq_iff_iff, beq_iff_eq, decide_eq_true_eq, Lib.toList_data, Lib.toList_data]
  exact ⟨fun h => ByteArray.ext (Array.ext' h), fun h => by rw [h]⟩

set_option maxRecDepth 100000 in
set_option maxHeartbeats 8000000 in
theorem refLike_t (a b : Dsk) (va vb : Value) (w : World) (ha : DskAt w va a) (hb : DskAt w vb b) :
    Calls Tryz.prog 29 #[va, vb] w (LikeEnds a b w) := by
  obtain ⟨ss, ls⟩ := a
  obtain ⟨ss', ls'⟩ := b
  obtain ⟨⟨sv, lv, rfl, hs, hl⟩, -, -⟩ := ha
  obtain ⟨⟨sv', lv', rfl, hs', hl'⟩, -, -⟩ := hb
  simp only at hs hl hs' hl'
  obtain ⟨sa, sc, rfl, -, hsl⟩ := hs.shape
  obtain ⟨sa', sc', rfl, -, hsl'⟩ := hs'.shape
  obtain ⟨la, lc, rfl, -, hll⟩ := hl.shape
  obtain ⟨la', lc', rfl, -, hll'⟩ := hl'.shape
  rw [List.length_map] at hll hll' hl hl' ⊢
  rw [List.length_map]
  unfold maxLen at hsl hsl' hll hll'
  have HL := Lib.hid hl
  have HL' := Lib.hid hl'
  have HS0 := Lib.hid hs
  have HS0' := Lib.hid hs'
  obtain ⟨nl, hnl⟩ : ∃ n, ls.length = n := ⟨_, rfl⟩
  obtain ⟨ns, hns⟩ : ∃ n, ss.length = n := ⟨_, rfl⟩
  obtain ⟨nl', hnl'⟩ : ∃ n, ls'.length = n := ⟨_, rfl⟩
  obtain ⟨ns', hns'⟩ : ∃ n, ss'.length = n := ⟨_, rfl⟩
  rw [hnl, hns, hnl', hns']
  rw [hnl] at hll
  rw [hnl'] at hll'
  rw [hns] at hsl
  rw [hns'] at hsl'
  have HNL := Lib.hid hnl
  have HNS := Lib.hid hns
  have HNL' := Lib.hid hnl'
  have HNS' := Lib.hid hns'
  obtain ⟨W, hW⟩ : ∃ W, (w.alloc (.cells #[.slice sa ns sc, .slice la nl lc] 25)).alloc (.cells #[.slice sa' ns' sc', .slice la' nl' lc'] 25) = W := ⟨_, rfl⟩
  have hs1 : ∀ o, (w.alloc o).heap.size = w.heap.size + 1 := fun o => by simp
  have hb0 : Below w.heap.size w W := by rw [← hW]; exact Below.then (below_new _ _) (below_new _ _)
  have hA : At2 25 W w.heap.size (.slice sa ns sc) (.slice la nl lc) := by rw [← hW]; exact (At2.new _ _ _ _).keep (below_new _ _)
  have hB : At2 25 W (w.heap.size + 1) (.slice sa' ns' sc') (.slice la' nl' lc') := by
    rw [← hW]
    have e := At2.new 25 (w.alloc (.cells #[.slice sa ns sc, .slice la nl lc] 25)) (.slice sa' ns' sc') (.slice la' nl' lc')
    rwa [hs1] at e
  have HA := Lib.hid hA
  have HB := Lib.hid hB
  have HB0 := Lib.hid hb0
  have HW := Lib.hid hW
  obtain ⟨a0, a1⟩ := hA.cells
  obtain ⟨b0, b1⟩ := hB.cells
  have HNE := Lib.hid (fun (h : (⟨ss, ls⟩ : Dsk) ≠ ⟨ss', ls'⟩) w' (hb : Below w.heap.size w w') => LikeEnds.no h hb)
  clear hl hl' hs hs' hA hB hb0 hW hs1 hnl hns hnl' hns'
  by_cases hn : ns = ns'
  rotate_left
  · have HO := Lib.hid (HNE.out (fun e => hn (by rw [← HNS.out, ← HNS'.out]; injection e with e _; rw [e])) W HB0.out)
    have q : ((ns : Int) != (ns' : Int)) = true := bne_iff_ne.2 (by omega)
    clear hn
    go_enter Tryz.func29, Tryz.ntmps29
    go_upto_region 1 with fail
    rw [HW.out]
    go_wp2_with fail
    go_ret
    exact HO.out
  subst hn
  have q3 : ((ns : Int) != (ns : Int)) = false := by rw [bne_self_eq_false]
  by_cases hn : nl = nl'
  rotate_left
  · have HO := Lib.hid (HNE.out (fun e => hn (by rw [← HNL.out, ← HNL'.out]; injection e with _ e; rw [e])) W HB0.out)
    have q : ((nl : Int) != (nl' : Int)) = true := bne_iff_ne.2 (by omega)
    clear hn
    go_enter Tryz.func29, Tryz.ntmps29
    go_upto_region 1 with fail
    rw [HW.out]
    go_wp2_with fail
    go_ret
    exact HO.out
  subst hn
  have q4 : ((nl : Int) != (nl : Int)) = false := by rw [bne_self_eq_false]
  go_enter Tryz.func29, Tryz.ntmps29
  go_upto_region 1 with fail
  rw [HW.out]
  go_wp2_with fail
  go_loopw [26] (fun iv wr => ∃ k : Nat, k ≤ ns ∧ iv = .int .i64 k ∧ ss.take k = ss'.take k ∧ Below W.heap.size W wr) (fun i _ => ns - (intOf i).toNat)
  case atStart => exact ⟨0, Nat.zero_le _, rfl, rfl, Below.refl _ _⟩
  case round =>
    obtain ⟨k, hk, rfl, htk, hb⟩ := hrel
    have HT := Lib.hid htk
    have HBR := Lib.hid hb
    have HWR := Lib.hid (Below.then HB0.out hb)
    clear htk hb
    by_cases hlt : k < ns
    · have h1 : k < ss.length := by rw [HNS.out]; exact hlt
      have h2 : k < ss'.length := by rw [HNS'.out]; exact hlt
      obtain ⟨lb, lo, rfl, e0⟩ := HS0.out.at k h1
      obtain ⟨lb', lo', rfl, g0⟩ := HS0'.out.at k h2
      have hts := Lib.hid (List.take_succ_eq_append_getElem h1)
      have hts' := Lib.hid (List.take_succ_eq_append_getElem h2)
      have HD := Lib.hid (show ss[k] ≠ ss'[k] → (⟨ss, ls⟩ : Dsk) ≠ ⟨ss', ls'⟩ from fun h e => h (by injection e with e _; simp only [e]))
      obtain ⟨x, hx⟩ : ∃ x, ss[k] = x := ⟨_, rfl⟩
      obtain ⟨y, hy⟩ : ∃ x, ss'[k] = x := ⟨_, rfl⟩
      rw [hx] at e0 hts HD
      rw [hy] at g0 hts' HD
      have v0 := (HWR.out.cell (World.block_lt_of_cell? _ _ e0)).trans e0
      have u0 := (HWR.out.cell (World.block_lt_of_cell? _ _ g0)).trans g0
      obtain ⟨p0, p1⟩ := (HA.out.keep HBR.out).cells
      obtain ⟨r0, r1⟩ := (HB.out.keep HBR.out).cells
      clear e0 g0 hx hy a0 a1 b0 b1
      by_cases hxy : x = y
      · subst hxy
        have s1 : (x.toList == x.toList) = true := by simp
        have HS := Lib.hid (show ss.take (k + 1) = ss'.take (k + 1) by rw [hts.out, hts'.out, HT.out])
        go_wp2_with fail
        go_quiet (fail)
        go_wp2_with fail
        go_roundw
        case rel => exact ⟨k + 1, by omega, by go_num, HS.out, below_drewN HBR.out _⟩
        case measure => simp [intOf]; omega
      · have s1 : (x.toList == y.toList) = false := by rw [beqB]; exact decide_eq_false hxy
        have HO := Lib.hid (fun w' hb => HNE.out (HD.out hxy) w' hb)
        clear hxy
        go_wp2_with fail
        go_quiet (fail)
        go_wp2_with fail
        go_ret
        exact HO.out _ (below_drewN HWR.out _)
    · have hss : ss = ss' := by
        have := HT.out
        rwa [List.take_of_length_le (by rw [HNS.out]; omega), List.take_of_length_le (by rw [HNS'.out]; omega)] at this
      subst hss
      obtain ⟨p0, p1⟩ := (HA.out.keep HBR.out).cells
      obtain ⟨wo, rfl⟩ : ∃ wo : World, wo = wr := ⟨_, rfl⟩
      have HWO := Lib.hid HBR.out
      clear a0 a1 b0 b1 HBR HWR HT
      go_wp2_with fail
      go_loopw [44] (fun iv wr => ∃ k : Nat, k ≤ nl ∧ iv = .int .i64 k ∧ ls.take k = ls'.take k ∧ Below W.heap.size W wr) (fun i _ => nl - (intOf i).toNat)
      case atStart => exact ⟨0, Nat.zero_le _, rfl, rfl, HWO.out⟩
      case round =>
        obtain ⟨k, hk, rfl, htk, hb⟩ := hrel
        have HT := Lib.hid htk
        have HBR := Lib.hid hb
        have HWR := Lib.hid (Below.then HB0.out hb)
        clear htk hb p0 p1
        by_cases hlt : k < nl
        · have h1 : k < ls.length := by rw [HNL.out]; exact hlt
          have h2 : k < ls'.length := by rw [HNL'.out]; exact hlt
          obtain ⟨lb, lo, rfl, e0, e1⟩ := HL.out.at k (by rw [List.length_map]; exact h1)
          obtain ⟨lb', lo', rfl, g0, g1⟩ := HL'.out.at k (by rw [List.length_map]; exact h2)
          rw [write_getElem ls k h1] at e0 e1
          rw [write_getElem ls' k h2] at g0 g1
          have hts := Lib.hid (List.take_succ_eq_append_getElem h1)
          have hts' := Lib.hid (List.take_succ_eq_append_getElem h2)
          have HD := Lib.hid (show ls[k] ≠ ls'[k] → (⟨ss, ls⟩ : Dsk) ≠ ⟨ss, ls'⟩ from fun h e => h (by injection e with _ e; simp only [e]))
          obtain ⟨⟨n, x⟩, hx⟩ : ∃ x, ls[k] = x := ⟨_, rfl⟩
          obtain ⟨⟨m, y⟩, hy⟩ : ∃ x, ls'[k] = x := ⟨_, rfl⟩
          rw [hx] at e0 e1 hts HD
          rw [hy] at g0 g1 hts' HD
          have kc2 : ∀ {p : Addr} {v : Value}, w.cell? p = some v → wr.cell? p = some v := fun h => HWR.out.cell (World.block_lt_of_cell? _ _ h) |>.trans h
          have v0 := kc2 e0
          have v1 := kc2 e1
          have u0 := kc2 g0
          have u1 := kc2 g1
          obtain ⟨p0, p1⟩ := (HA.out.keep HBR.out).cells
          obtain ⟨r0, r1⟩ := (HB.out.keep HBR.out).cells
          clear e0 e1 g0 g1 kc2 hx hy
          by_cases hnm : n = m
          · subst hnm
            have s2 : (n == n) = true := by simp
            by_cases hxy : x = y
            · subst hxy
              have s1 : (x.toList == x.toList) = true := by simp
              have HS := Lib.hid (show ls.take (k + 1) = ls'.take (k + 1) by rw [hts.out, hts'.out, HT.out])
              rcases Nat.eq_zero_or_pos k with rfl | hk0
              · have v0' : wr.cell? ⟨lb, lo, none⟩ = some (.int .i64 n) := by simpa using v0
                have v1' : wr.cell? ⟨lb, lo + 1, none⟩ = some (.string x) := by simpa using v1
                have u0' : wr.cell? ⟨lb', lo', none⟩ = some (.int .i64 n) := by simpa using u0
                have u1' : wr.cell? ⟨lb', lo' + 1, none⟩ = some (.string x) := by simpa using u1
                go_wp2_with fail
                go_quiet (fail)
                go_wp2_with fail
                go_roundw
                case rel => exact ⟨0 + 1, by omega, by go_num, HS.out, below_drewN HBR.out _⟩
                case measure => simp [intOf]; omega
              · go_wp2_with fail
                go_quiet (fail)
                go_wp2_with fail
                go_roundw
                case rel => exact ⟨k + 1, by omega, by go_num, HS.out, below_drewN HBR.out _⟩
                case measure => simp [intOf]; omega
            · have s1 : (x.toList == y.toList) = false := by rw [beqB]; exact decide_eq_false hxy
              have HO := Lib.hid (fun w' hb => HNE.out (HD.out (fun e => hxy (by injection e))) w' hb)
              clear hxy
              rcases Nat.eq_zero_or_pos k with rfl | hk0
              · have v0' : wr.cell? ⟨lb, lo, none⟩ = some (.int .i64 n) := by simpa using v0
                have v1' : wr.cell? ⟨lb, lo + 1, none⟩ = some (.string x) := by simpa using v1
                have u0' : wr.cell? ⟨lb', lo', none⟩ = some (.int .i64 n) := by simpa using u0
                have u1' : wr.cell? ⟨lb', lo' + 1, none⟩ = some (.string y) := by simpa using u1
                go_wp2_with fail
                go_quiet (fail)
                go_wp2_with fail
                go_ret
                exact HO.out _ (below_drewN HWR.out _)
              · go_wp2_with fail
                go_quiet (fail)
                go_wp2_with fail
                go_ret
                exact HO.out _ (below_drewN HWR.out _)
          · have s2 : (n == m) = false := beq_eq_false_iff_ne.2 hnm
            have HO := Lib.hid (fun w' hb => HNE.out (HD.out (fun e => hnm (by injection e))) w' hb)
            clear hnm
            rcases Nat.eq_zero_or_pos k with rfl | hk0
            · have v0' : wr.cell? ⟨lb, lo, none⟩ = some (.int .i64 n) := by simpa using v0
              have v1' : wr.cell? ⟨lb, lo + 1, none⟩ = some (.string x) := by simpa using v1
              have u0' : wr.cell? ⟨lb', lo', none⟩ = some (.int .i64 m) := by simpa using u0
              have u1' : wr.cell? ⟨lb', lo' + 1, none⟩ = some (.string y) := by simpa using u1
              go_wp2_with fail
              go_quiet (fail)
              go_wp2_with fail
              go_ret
              exact HO.out _ (below_drewN HWR.out _)
            · go_wp2_with fail
              go_quiet (fail)
              go_wp2_with fail
              go_ret
              exact HO.out _ (below_drewN HWR.out _)
        · have hls : ls = ls' := by
            have := HT.out
            rwa [List.take_of_length_le (by rw [HNL.out]; omega), List.take_of_length_le (by rw [HNL'.out]; omega)] at this
          have HO := Lib.hid (LikeEnds.yes (a := ⟨ss, ls⟩) (b := ⟨ss, ls'⟩) (by rw [hls]) HWR.out)
          clear hls
          go_wp2_with fail
          go_ret
          exact HO.out
end Go.Proofs.YtkplpodljmlanaaGreatDoor
/-! The document's own Left of a disk, by a contract: a sector behind a crash. Conditions: the disk may be. -/
namespace Go.Proofs.YtkplpodljmlanaaGreatDoor
open Go.RowKit Go.WideShapes

/-- The value v reads as the numbers fs. -/
def IntsAt (w : World) (v : Value) (fs : List Int) : Prop :=
  (fs = [] ∧ (v = .slice none 0 0 ∨ ∃ a cap, v = .slice (some a) 0 cap ∧ cap ≤ maxLen)) ∨
  ∃ b o cap, v = .slice (some ⟨b, o, none⟩) fs.length cap ∧ 0 < fs.length ∧ fs.length ≤ cap ∧ cap ≤ maxLen ∧ ∀ i (h : i < fs.length), w.cell? ⟨b, o + i, none⟩ = some (.int .i64 fs[i])
theorem IntsAt.keep {w w' : World} {v : Value} {fs : List Int} (h : IntsAt w v fs) (hb : Below w.heap.size w w') : IntsAt w' v fs := by
  rcases h with h | ⟨b, o, cap, h1, h2, h3, h4, h5⟩
  · exact Or.inl h
  · exact Or.inr ⟨b, o, cap, h1, h2, h3, h4, fun i hi => (hb.cell (World.block_lt_of_cell? _ _ (h5 i hi))).trans (h5 i hi)⟩
theorem IntsAt.shape {w : World} {v : Value} {l : List Int} (h : IntsAt w v l) : ∃ a cap, v = .slice a l.length cap ∧ cap ≤ maxLen ∧ l.length ≤ maxLen := by
  rcases h with ⟨rfl, rfl | ⟨a, cap, rfl, hc⟩⟩ | ⟨b, o, cap, rfl, h2, h3, h4, -⟩
  · exact ⟨none, 0, rfl, by decide, by decide⟩
  · exact ⟨_, _, rfl, hc, by decide⟩
  · exact ⟨_, _, rfl, h4, by omega⟩
theorem IntsAt.at {w : World} {a : Option Addr} {n cap : Nat} {l : List Int} (h : IntsAt w (.slice a n cap) l) (i : Nat) (hi : i < l.length) : ∃ b o, a = some ⟨b, o, none⟩ ∧ w.cell? ⟨b, o + i, none⟩ = some (.int .i64 l[i]) := by
  rcases h with ⟨h0, -⟩ | ⟨b, o, c, e, -, -, -, hc⟩
  · rw [h0] at hi; simp at hi
  · simp only [Value.slice.injEq] at e
    exact ⟨b, o, e.1, hc i hi⟩

/-- A slice of numbers that was read. -/
theorem ints_read {H : Type} {enc : TypeId × Value → H} {W : World} {fuel : Nat} {v : Value} {x : DataW H × List MemPlace}
    (h : DataW.trod enc Tryz.prog W 0 (fun _ => true) true fuel 56 [v] = some x) : ∃ fs, IntsAt W v fs ∧ ∀ x ∈ fs, -9223372036854775808 ≤ x ∧ x ≤ 9223372036854775807 := by
  rcases slice_cells Tryz.underlying56 (show Tryz.prog.cellsOf 3 = 1 by kernel_rfl) (by decide) h with h | ⟨b, o, len, cap, rfl, h1, h2, h3, h4⟩
  · exact ⟨[], Or.inl ⟨rfl, h⟩, by simp⟩
  · obtain ⟨l, hl, hp⟩ := exists_list (P := fun i (x : Int) => W.cell? ⟨b, o + i, none⟩ = some (.int .i64 x) ∧ -9223372036854775808 ≤ x ∧ x ≤ 9223372036854775807) len fun i hi => by
      obtain ⟨cs, n', y, -, hcl, hca, hr⟩ := h4 i hi
      obtain ⟨c0, rfl⟩ : ∃ c0, cs = [c0] := by
        match cs, hcl with
        | [a], _ => exact ⟨a, rfl⟩
      obtain ⟨num, e0, -, b1⟩ := DataW.trod_int Tryz.underlying3 hr
      obtain rfl : c0 = .int .i64 num := by simpa using e0
      have := hca 0 (by decide)
      simp only [Nat.mul_one, Nat.add_zero] at this
      exact ⟨num, by rw [this]; rfl, bounds_i64 b1⟩
    refine ⟨l, Or.inr ⟨b, o, cap, by rw [hl], by omega, by omega, h3, fun i hi => (hp i hi).1⟩, fun x hx => ?_⟩
    obtain ⟨i, hi, rfl⟩ := List.getElem_of_mem hx
    exact (hp i hi).2
set_option maxRecDepth 100000 in
/-- Numbers that came in. -/
theorem open_ints {H : Type} {enc : TypeId × Value → H} {W : World} {b0 : Nat} {v : Value} {d : DataW H} {p : List MemPlace}
    (hval : Value.okWide Tryz.prog W .any b0 56 v) (hj : DataW.Trod enc Tryz.prog W 0 (fun _ => true) true 56 v d p) : ∃ fs, IntsAt W v fs ∧ ∀ x ∈ fs, -9223372036854775808 ≤ x ∧ x ≤ 9223372036854775807 := by
  obtain ⟨a0, len, cap, rfl⟩ := okWide_slice Tryz.underlying56 hval
  obtain ⟨fuel, hf⟩ := hj
  exact ints_read hf

/-- What one write makes of a sector behind a crash. -/
def stepL (k : Nat) (s : ByteArray) (w : Int × ByteArray) (f : Int) : ByteArray := if w.1 = (k : Int) then (if f = 1 then w.2 else if f = 2 then tornB s w.2 else s) else s
theorem leftL_snoc (k : Nat) (w : Int × ByteArray) : ∀ (l : List (Int × ByteArray)) (s : ByteArray) (fs : List Int), leftL k s (l ++ [w]) fs = if h : l.length < fs.length then stepL k (leftL k s l fs) w fs[l.length] else leftL k s l fs
  | [], s, [] => rfl
  | [], s, f :: fs => rfl
  | x :: l, s, [] => rfl
  | x :: l, s, f :: fs => by
    show leftL k _ (l ++ [w]) fs = _
    rw [leftL_snoc k w l _ fs]
    by_cases h : l.length < fs.length
    · rw [dif_pos h, dif_pos (by simpa using h)]; rfl
    · rw [dif_neg h, dif_neg (by simpa using h)]; rfl
theorem torn_size {s x : ByteArray} (h : s.size = 128) (hx : x.size = 128) : (tornB s x).size = 128 := by
  simp [tornB, ByteArray.size_append, ByteArray.size_extract, h, hx]
theorem left_size (k : Nat) : ∀ (l : List (Int × ByteArray)) (s : ByteArray) (fs : List Int), s.size = 128 → (∀ w ∈ l, w.2.size = 128) → (leftL k s l fs).size = 128
  | [], s, fs, h, _ => h
  | _ :: _, s, [], h, _ => h
  | w :: l, s, f :: fs, h, hw => by
    refine left_size k l _ fs ?_ fun x hx => hw x (List.mem_cons_of_mem _ hx)
    have := hw w (List.mem_cons_self ..)
    split
    · split
      · exact this
      · split
        · exact torn_size h this
        · exact h
    · exact h
theorem left_most (k : Nat) (s : ByteArray) (l : List (Int × ByteArray)) (fs : List Int) : ∀ j, fs.length ≤ j → leftL k s (l.take j) fs = leftL k s l fs := by
  induction l generalizing s fs with
  | nil => intro j _; simp
  | cons w l ih =>
    intro j hj
    cases fs with
    | nil => cases j <;> rfl
    | cons f fs =>
      obtain ⟨j, rfl⟩ : ∃ i, j = i + 1 := ⟨j - 1, by simp at hj; omega⟩
      exact ih _ fs j (by simpa using hj)

end Go.Proofs.YtkplpodljmlanaaGreatDoor
/-! The program's isSector, mayHave, isPlace and left of a disk, by contracts. Conditions: strings no longer than one may be; left of sectors of 128 bytes. -/
namespace Go.Proofs.YtkplpodljmlanaaGreatDoor
open Go.RowKit

set_option maxRecDepth 100000 in
set_option maxHeartbeats 1000000 in
theorem isSector_t (s : ByteArray) (w : World) :
    Calls Tryz.prog 57 #[.string s] w fun e w' => e = .returned (.bool (s.size == 128)) ∧ w' = w := by
  by_cases h : s.size = 128
  · have q : ((s.size : Int) == 128) = true := beq_iff_eq.2 (by omega)
    have HO := Lib.hid (show (s.size == 128) = true from beq_iff_eq.2 h)
    clear h
    go_enter Tryz.func57, Tryz.ntmps57
    go_wp2_with fail
    go_ret
    exact ⟨by rw [HO.out]; rfl, rfl⟩
  · have q : ((s.size : Int) == 128) = false := beq_eq_false_iff_ne.2 (by omega)
    have HO := Lib.hid (show (s.size == 128) = false from beq_eq_false_iff_ne.2 h)
    clear h
    go_enter Tryz.func57, Tryz.ntmps57
    go_wp2_with fail
    go_ret
    exact ⟨by rw [HO.out]; rfl, rfl⟩

def haveB (n : Int) : Bool := decide (4 ≤ n) && decide (n ≤ 64)
set_option maxRecDepth 100000 in
set_option maxHeartbeats 1000000 in
theorem mayHave_t (n : Int) (w : World) :
    Calls Tryz.prog 56 #[.int .i64 n] w fun e w' => e = .returned (.bool (haveB n)) ∧ w' = w := by
  by_cases h4 : 4 ≤ n
  · by_cases h64 : n ≤ 64
    · have HO := Lib.hid (show haveB n = true by simp [haveB, h4, h64])
      go_enter Tryz.func56, Tryz.ntmps56
      go_wp2_with fail
      go_ret
      exact ⟨by rw [HO.out]; rfl, rfl⟩
    · have HO := Lib.hid (show haveB n = false by simp [haveB, h64])
      go_enter Tryz.func56, Tryz.ntmps56
      go_wp2_with fail
      go_ret
      exact ⟨by rw [HO.out]; rfl, rfl⟩
  · have HO := Lib.hid (show haveB n = false by simp [haveB, h4])
    go_enter Tryz.func56, Tryz.ntmps56
    go_wp2_with fail
    go_ret
    exact ⟨by rw [HO.out]; rfl, rfl⟩

def placeB (n : Nat) (at' : Int) : Bool := decide (0 ≤ at') && decide (at' < (n : Int))
set_option maxRecDepth 100000 in
set_option maxHeartbeats 1000000 in
theorem isPlace_t (a a2 : Option Addr) (n c n2 c2 : Nat) (at' : Int) (w : World) :
    Calls Tryz.prog 71 #[.agg #[.slice a n c, .slice a2 n2 c2], .int .i64 at'] w fun e w' => e = .returned (.bool (placeB n at')) ∧ Below w.heap.size w w' := by
  obtain ⟨W, hW⟩ : ∃ W, w.alloc (.cells #[.slice a n c, .slice a2 n2 c2] 25) = W := ⟨_, rfl⟩
  have HB0 := Lib.hid (show Below w.heap.size w W by rw [← hW]; exact below_new _ _)
  have hA : At2 25 W w.heap.size (.slice a n c) (.slice a2 n2 c2) := by rw [← hW]; exact At2.new _ _ _ _
  obtain ⟨a0, a1⟩ := hA.cells
  have HW := Lib.hid hW
  clear hA hW
  by_cases h0 : 0 ≤ at'
  · by_cases h1 : at' < (n : Int)
    · have HO := Lib.hid (show placeB n at' = true by simp [placeB, h0, h1])
      go_enter Tryz.func71, Tryz.ntmps71
      go_upto_region 1 with fail
      rw [HW.out]
      go_wp2_with fail
      go_ret
      exact ⟨by rw [HO.out]; rfl, HB0.out⟩
    · have HO := Lib.hid (show placeB n at' = false by simp [placeB, h1])
      go_enter Tryz.func71, Tryz.ntmps71
      go_upto_region 1 with fail
      rw [HW.out]
      go_wp2_with fail
      go_ret
      exact ⟨by rw [HO.out]; rfl, HB0.out⟩
  · have HO := Lib.hid (show placeB n at' = false by simp [placeB, h0])
    go_enter Tryz.func71, Tryz.ntmps71
    go_upto_region 1 with fail
    rw [HW.out]
    go_wp2_with fail
    go_ret
    exact ⟨by rw [HO.out]; rfl, HB0.out⟩

/-- What a fate makes of a sector. -/
def fateB (f : Int) (s x : ByteArray) : ByteArray := if f = 1 then x else if f = 2 then tornB s x else s
theorem whole_halves (s : ByteArray) (h : s.size = 128) : s.extract 0 128 = s := by
  apply ByteArray.ext
  rw [ByteArray.data_extract]
  exact Array.extract_eq_self_of_le (by have : s.data.size = 128 := h; omega)
set_option maxRecDepth 100000 in
set_option maxHeartbeats 2000000 in
theorem left_t (f : Int) (s x : ByteArray) (w : World) (hs : s.size = 128) (hx : x.size = 128) :
    Calls Tryz.prog 55 #[.int .i64 f, .string s, .string x] w fun e w' => e = .returned (.string (fateB f s x)) ∧ Below w.heap.size w w' := by
  have HT := Lib.hid (show tornB s x = x.extract 0 64 ++ s.extract 64 128 by rw [tornB, hs])
  have HS := Lib.hid (whole_halves s hs)
  have HX := Lib.hid (whole_halves x hx)
  by_cases h1 : f = 1
  · have HO := Lib.hid (show fateB f s x = x.extract 0 128 by rw [HX.out]; simp [fateB, h1])
    subst h1
    go_enter Tryz.func55, Tryz.ntmps55
    go_upto_region 1 with fail
    go_quiet (fail)
    go_wp2_with fail
    go_ret
    exact ⟨by rw [HO.out]; rfl, below_drewN (Below.refl _ _) _⟩
  · have q1 : (f == 1) = false := beq_eq_false_iff_ne.2 h1
    by_cases h2 : f = 2
    · have HO := Lib.hid (show fateB f s x = x.extract 0 64 ++ s.extract 64 128 by rw [← HT.out]; simp [fateB, h2])
      subst h2
      go_enter Tryz.func55, Tryz.ntmps55
      go_upto_region 1 with fail
      go_quiet (fail)
      go_wp2_with fail
      go_ret
      exact ⟨by rw [HO.out]; rfl, below_drewN (Below.refl _ _) _⟩
    · have q2 : (f == 2) = false := beq_eq_false_iff_ne.2 h2
      have HO := Lib.hid (show fateB f s x = s.extract 0 128 by rw [HS.out]; simp [fateB, h1, h2])
      clear h1 h2
      go_enter Tryz.func55, Tryz.ntmps55
      go_upto_region 1 with fail
      go_quiet (fail)
      go_wp2_with fail
      go_ret
      exact ⟨by rw [HO.out]; rfl, below_drewN (Below.refl _ _) _⟩
end Go.Proofs.YtkplpodljmlanaaGreatDoor
/-! The program's allFit and Right of a disk, by contracts. Conditions: none but how long a slice and a string may be. -/
namespace Go.Proofs.YtkplpodljmlanaaGreatDoor
open Go.RowKit

theorem okWrite_eq (n : Nat) (ax : Int) (x : ByteArray) : okWrite n (ax, x) = (placeB n ax && (x.size == 128)) := rfl
set_option maxRecDepth 100000 in
set_option maxHeartbeats 2000000 in
theorem allFit_t (v lv : Value) (d : Dsk) (ls : List (Int × ByteArray)) (w : World) (h : DskAt w v d) (hl : PairsAt w lv (ls.map writeCell)) :
    Calls Tryz.prog 52 #[v, lv] w fun e w' => e = .returned (.bool (wellB d.secs.length ls)) ∧ Below w.heap.size w w' := by
  obtain ⟨ss, ds⟩ := d
  obtain ⟨⟨sv, dv, rfl, hs, hd⟩, -, -⟩ := h
  simp only at hs hd ⊢
  obtain ⟨sa, sc, rfl, -, hsl⟩ := hs.shape
  obtain ⟨da, dc, rfl, -, -⟩ := hd.shape
  obtain ⟨la, lc, rfl, -, hll⟩ := hl.shape
  unfold maxLen at hsl hll
  rw [List.length_map] at hll hl ⊢
  rw [List.length_map]
  obtain ⟨nd, hnd⟩ : ∃ n, ds.length = n := ⟨_, rfl⟩
  obtain ⟨n, hn⟩ : ∃ n, ss.length = n := ⟨_, rfl⟩
  rw [hnd, hn]
  rw [hn] at hsl
  have P := Lib.hid (fun (at' : Int) (w : World) => isPlace_t sa da n sc nd dc at' w)
  obtain ⟨W, hW⟩ : ∃ W, w.alloc (.cells #[.slice sa n sc, .slice da nd dc] 25) = W := ⟨_, rfl⟩
  have HB0 := Lib.hid (show Below w.heap.size w W by rw [← hW]; exact below_new _ _)
  have HA := Lib.hid (show At2 25 W w.heap.size (.slice sa n sc) (.slice da nd dc) by rw [← hW]; exact At2.new _ _ _ _)
  have HW := Lib.hid hW
  have HL := Lib.hid hl
  clear hW hl hs hd hn hnd
  go_enter Tryz.func52, Tryz.ntmps52
  go_upto_region 1 with fail
  rw [HW.out]
  go_wp2_with fail
  go_loopw [9] (fun iv wr => ∃ k : Nat, k ≤ ls.length ∧ iv = .int .i64 k ∧ (ls.take k).all (okWrite n) = true ∧ Below W.heap.size W wr) (fun i _ => ls.length - (intOf i).toNat)
  case atStart => exact ⟨0, Nat.zero_le _, rfl, by simp, Below.refl _ _⟩
  case round =>
    obtain ⟨k, hk, rfl, hall, hb⟩ := hrel
    have HT := Lib.hid hall
    have HB := Lib.hid hb
    have HWR := Lib.hid (Below.then HB0.out hb)
    clear hall hb
    by_cases hlt : k < ls.length
    · obtain ⟨b, o, rfl, e0, e1⟩ := HL.out.at k (by rw [List.length_map]; exact hlt)
      rw [write_getElem ls k hlt] at e0 e1
      have hts := Lib.hid (List.take_succ_eq_append_getElem hlt)
      have HM := Lib.hid (List.getElem_mem hlt)
      obtain ⟨⟨ax, x⟩, hx⟩ : ∃ x, ls[k] = x := ⟨_, rfl⟩
      rw [hx] at e0 e1 hts HM
      have kc : ∀ {p : Addr} {v : Value}, w.cell? p = some v → wr.cell? p = some v := fun h => HWR.out.cell (World.block_lt_of_cell? _ _ h) |>.trans h
      have v0 := kc e0
      have v1 := kc e1
      clear e0 e1 kc hx
      obtain ⟨W1, hW1⟩ : ∃ W1, wr.alloc (.cells #[.int .i64 ax, .string x] 48) = W1 := ⟨_, rfl⟩
      have hb1 : Below wr.heap.size wr W1 := by rw [← hW1]; exact below_new _ _
      have HX := Lib.hid (show At2 48 W1 wr.heap.size (.int .i64 ax) (.string x) by rw [← hW1]; exact At2.new _ _ _ _)
      have HB1 := Lib.hid (Below.then HB.out hb1)
      have HB1' := Lib.hid (Below.then HWR.out hb1)
      have HW1 := Lib.hid hW1
      obtain ⟨x0, x1⟩ := HX.out.cells
      obtain ⟨r0, r1⟩ := (HA.out.keep HB1.out).cells
      clear hb1 hW1
      go_upto_region 4 with fail
      rw [HW1.out]
      have P1 := Lib.hid (P.out ax W1)
      obtain ⟨p, hp⟩ : ∃ p, placeB n ax = p := ⟨_, rfl⟩
      rw [hp] at P1
      have HP := Lib.hid hp
      clear hp
      go_wp2_with fail
      refine P1.out.mono ?_
      rintro e w2 ⟨rfl, hb2⟩
      have HB2 := Lib.hid (Below.then HB1.out hb2)
      have HB2' := Lib.hid (Below.then HB1'.out hb2)
      obtain ⟨y0, y1⟩ := (HX.out.keep hb2).cells
      have S := Lib.hid (isSector_t x w2)
      obtain ⟨q, hq⟩ : ∃ q, (x.size == 128) = q := ⟨_, rfl⟩
      rw [hq] at S
      have HQ := Lib.hid hq
      clear hq hb2 x0 x1 r0 r1 v0 v1 P1
      cases p
      · have HO := Lib.hid (show ls.all (okWrite n) = false from List.all_eq_false.2 ⟨(ax, x), HM.out, by rw [okWrite_eq, HP.out]; simp⟩)
        go_wp2_with fail
        go_ret
        exact ⟨by rw [wellB_eq, HO.out]; rfl, HB2'.out⟩
      · go_wp2_with fail
        refine S.out.mono ?_
        rintro e w3 ⟨rfl, rfl⟩
        cases q
        · have HO := Lib.hid (show ls.all (okWrite n) = false from List.all_eq_false.2 ⟨(ax, x), HM.out, by rw [okWrite_eq, HP.out, HQ.out]; simp⟩)
          go_wp2_with fail
          go_ret
          exact ⟨by rw [wellB_eq, HO.out]; rfl, HB2'.out⟩
        · have HN := Lib.hid (show (ls.take (k + 1)).all (okWrite n) = true by
            rw [hts.out, List.all_append, HT.out, List.all_cons, List.all_nil, okWrite_eq, HP.out, HQ.out]; rfl)
          go_wp2_with fail
          go_roundw
          case rel => exact ⟨k + 1, by omega, by go_num, HN.out, HB2.out⟩
          case measure => simp [intOf]; omega
    · have HO := Lib.hid (show ls.all (okWrite n) = true by
        have := HT.out
        rwa [List.take_of_length_le (by omega)] at this)
      go_wp2_with fail
      go_ret
      exact ⟨by rw [wellB_eq, HO.out]; rfl, HWR.out⟩

set_option maxRecDepth 100000 in
set_option maxHeartbeats 4000000 in
/-- May a disk be. -/
theorem Right_t (v : Value) (d : Dsk) (w : World) (h : DskAt w v d) :
    Calls Tryz.prog 34 #[v] w fun e w' => e = .returned (.bool d.right) ∧ Below w.heap.size w w' := by
  have H0 := Lib.hid h
  obtain ⟨ss, ls⟩ := d
  obtain ⟨⟨sv, dv, rfl, hs, hd⟩, hz, hy⟩ := h
  simp only at hs hd hz hy
  obtain ⟨sa, sc, rfl, hsc, hsl⟩ := hs.shape
  obtain ⟨da, dc, rfl, -, hl⟩ := hd.shape
  unfold maxLen at hl hsl
  rw [List.length_map] at hl hd H0 ⊢
  obtain ⟨W, hW⟩ : ∃ W, w.alloc (.cells #[.slice sa ss.length sc, .slice da ls.length dc] 25) = W := ⟨_, rfl⟩
  have hb0 : Below w.heap.size w W := by rw [← hW]; exact below_new _ _
  have hA : At2 25 W w.heap.size (.slice sa ss.length sc) (.slice da ls.length dc) := by rw [← hW]; exact At2.new _ _ _ _
  obtain ⟨a0, a1⟩ := hA.cells
  have HB0 := Lib.hid hb0
  have HA := Lib.hid hA
  have HW := Lib.hid hW
  have HD := Lib.hid hd
  have HS := Lib.hid hs
  have HE := Lib.hid (show (Dsk.mk ss ls).right = (ss.all (fun s => s.size == 128) && decide (4 ≤ ss.length) && decide (ss.length ≤ 64) && decide (ls.length ≤ 200) && wellB ss.length ls) from rfl)
  have M := Lib.hid (mayHave_t (ss.length : Int) W)
  have F := Lib.hid (allFit_t (.agg #[.slice sa ss.length sc, .slice da ls.length dc]) (.slice da ls.length dc) ⟨ss, ls⟩ ls W (H0.out.keep hb0) (hd.keep hb0))
  obtain ⟨ns, hns⟩ : ∃ n, ss.length = n := ⟨_, rfl⟩
  obtain ⟨nl, hnl⟩ : ∃ n, ls.length = n := ⟨_, rfl⟩
  simp only at F
  rw [hns] at a0 HA HW HE M F hsl HS H0 ⊢
  rw [hnl] at a1 HA HW HE F hl HD H0 ⊢
  have HNS := Lib.hid hns
  have HNL := Lib.hid hnl
  clear hb0 hA hW hs hd hz hy H0 hns hnl
  obtain ⟨mb, hm⟩ : ∃ m, haveB (ns : Int) = m := ⟨_, rfl⟩
  rw [hm] at M
  have HM := Lib.hid hm
  clear hm
  go_enter Tryz.func34, Tryz.ntmps34
  go_upto_region 1 with fail
  rw [HW.out]
  go_wp2_with fail
  refine M.out.mono ?_
  rintro e w1 ⟨rfl, rfl⟩
  cases mb
  · have HF := Lib.hid (show (Dsk.mk ss ls).right = false by
      have := HM.out
      rw [HE.out]
      simp only [haveB, Bool.and_eq_false_iff, decide_eq_false_iff_not] at this
      simp only [Bool.and_eq_false_iff, decide_eq_false_iff_not]
      omega)
    go_wp2_with fail
    go_ret
    exact ⟨by rw [HF.out]; rfl, HB0.out⟩
  have HME := Lib.hid (show decide (4 ≤ ns) = true ∧ decide (ns ≤ 64) = true by
    have := HM.out
    simp only [haveB, Bool.and_eq_true, decide_eq_true_eq] at this
    exact ⟨decide_eq_true (by omega), decide_eq_true (by omega)⟩)
  by_cases h200 : nl ≤ 200
  rotate_left
  · have HF := Lib.hid (show (Dsk.mk ss ls).right = false by rw [HE.out, decide_eq_false h200]; simp)
    go_wp2_with fail
    go_ret
    exact ⟨by rw [HF.out]; rfl, HB0.out⟩
  go_wp2_with fail
  go_loopw [19] (fun iv wr => ∃ k : Nat, k ≤ ns ∧ iv = .int .i64 k ∧ (ss.take k).all (fun s => s.size == 128) = true ∧ w1 = wr) (fun i _ => ns - (intOf i).toNat)
  case atStart => exact ⟨0, Nat.zero_le _, rfl, by simp, rfl⟩
  case round =>
    obtain ⟨k, hk, rfl, hall, rfl⟩ := hrel
    have HL := Lib.hid hall
    clear hall
    by_cases hlt : k < ns
    · have hlt' : k < ss.length := by rw [HNS.out]; exact hlt
      obtain ⟨b, o, rfl, e0⟩ := HS.out.at k hlt'
      have hts := Lib.hid (List.take_succ_eq_append_getElem hlt')
      have HM := Lib.hid (List.getElem_mem hlt')
      obtain ⟨x, hx⟩ : ∃ x, ss[k] = x := ⟨_, rfl⟩
      rw [hx] at e0 hts HM
      have v0 := (HB0.out.cell (World.block_lt_of_cell? _ _ e0)).trans e0
      clear e0 hx
      have S := Lib.hid (isSector_t x w1)
      obtain ⟨q, hq⟩ : ∃ q, (x.size == 128) = q := ⟨_, rfl⟩
      rw [hq] at S
      have HQ := Lib.hid hq
      clear hq
      go_wp2_with fail
      refine S.out.mono ?_
      rintro e w3 ⟨rfl, rfl⟩
      cases q
      · have HO := Lib.hid (show ss.all (fun s => s.size == 128) = false from List.all_eq_false.2 ⟨x, HM.out, by rw [HQ.out]; simp⟩)
        go_wp2_with fail
        go_ret
        exact ⟨by rw [HE.out, HO.out]; rfl, HB0.out⟩
      · have HN := Lib.hid (show (ss.take (k + 1)).all (fun s => s.size == 128) = true by
          rw [hts.out, List.all_append, HL.out, List.all_cons, List.all_nil, HQ.out]; rfl)
        go_wp2_with fail
        go_roundw
        case rel => exact ⟨k + 1, by omega, by go_num, HN.out, trivial⟩
        case measure => simp [intOf]; omega
    · have HO := Lib.hid (show ss.all (fun s => s.size == 128) = true by
        have := HL.out
        rwa [List.take_of_length_le (by rw [HNS.out]; omega)] at this)
      have HF := Lib.hid (show (Dsk.mk ss ls).right = wellB ns ls by rw [HE.out, HO.out, HME.out.1, HME.out.2, decide_eq_true h200]; rfl)
      go_wp2_with fail
      refine F.out.mono ?_
      rintro e w2 ⟨rfl, hb⟩
      have HB := Lib.hid (Below.then HB0.out hb)
      clear hb
      go_wp2_with fail
      go_ret
      exact ⟨by rw [HF.out]; rfl, HB.out⟩
end Go.Proofs.YtkplpodljmlanaaGreatDoor
/-! Rows of strings and of writes that a call makes; what an append takes, nil or not; slices.Grow of nil and slices.Concat of two rows of writes, by contracts. Conditions: few writes. -/
namespace Go.Proofs.YtkplpodljmlanaaGreatDoor
open Go.RowKit Go.WideShapes

theorem infoWrite : (Tryz.prog.info? 48).map (fun i => (i.zero, i.size, i.bytes)) = some (some (.agg #[.int .i64 0, .string ⟨#[]⟩]), 2, 24) := by kernel_rfl
theorem infoInt : (Tryz.prog.info? 3).map (fun i => (i.zero, i.size, i.bytes)) = some (some (.int .i64 0), 1, 8) := by kernel_rfl

/-! ### The cells of pairs -/
def cellsL (l : List (Value × Value)) : List Value := l.flatMap fun p => [p.1, p.2]
theorem cellsL_cons (p : Value × Value) (l : List (Value × Value)) : cellsL (p :: l) = p.1 :: p.2 :: cellsL l := by simp [cellsL]
theorem cellsL_append (l l' : List (Value × Value)) : cellsL (l ++ l') = cellsL l ++ cellsL l' := by simp [cellsL]
theorem cellsL_length (l : List (Value × Value)) : (cellsL l).length = l.length * 2 := by
  induction l with
  | nil => rfl
  | cons p l ih => rw [cellsL_cons, List.length_cons, List.length_cons, List.length_cons, ih]; omega
theorem cellsL_at (l : List (Value × Value)) (i : Nat) (h : i < l.length) : (cellsL l)[i * 2]? = some l[i].1 ∧ (cellsL l)[i * 2 + 1]? = some l[i].2 := by
  induction l generalizing i with
  | nil => simp at h
  | cons p l ih =>
    rw [cellsL_cons]
    cases i with
    | zero => exact ⟨rfl, rfl⟩
    | succ i =>
      have := ih i (by simpa using h)
      rw [show (i + 1) * 2 = i * 2 + 1 + 1 by omega]
      simpa using this

/-! ### What an append takes -/
def SrcOf (size : Nat) (w : World) (x : Value) (m : Nat) (news : List Value) : Prop :=
  (x = .slice none 0 0 ∧ news = [] ∧ m = 0) ∨ ∃ ad c, x = .slice (some ad) m c ∧ news.length = m * size ∧ ∀ j u, news[j]? = some u → w.cell? (ad.add j) = some u
theorem PairsAt.src {w : World} {v : Value} {l : List (Value × Value)} (h : PairsAt w v l) : SrcOf 2 w v l.length (cellsL l) := by
  rcases h with ⟨rfl, rfl | ⟨a, cap, rfl, -⟩⟩ | ⟨b, o, cap, rfl, -, -, -, h5⟩
  · exact Or.inl ⟨rfl, rfl, rfl⟩
  · exact Or.inr ⟨a, cap, rfl, rfl, fun j u hj => by simp [cellsL] at hj⟩
  · refine Or.inr ⟨_, _, rfl, cellsL_length l, fun j u hj => ?_⟩
    have hj' : j < l.length * 2 := by rw [← cellsL_length]; exact (List.getElem?_eq_some_iff.1 hj).1
    rw [add_plain]
    have h6 := h5 (j / 2) (by omega)
    have h7 := cellsL_at l (j / 2) (by omega)
    rcases Nat.mod_two_eq_zero_or_one j with e | e
    · have e2 : j / 2 * 2 = j := by omega
      rw [e2] at h6 h7
      rw [h7.1] at hj
      rw [h6.1, hj]
    · have e2 : j / 2 * 2 + 1 = j := by omega
      rw [Nat.add_assoc, e2] at h6
      rw [e2] at h7
      rw [h7.2] at hj
      rw [h6.2, hj]
theorem StrsAt.src {w : World} {v : Value} {l : List ByteArray} (h : StrsAt w v l) : SrcOf 1 w v l.length (l.map Value.string) := by
  rcases h with ⟨rfl, rfl | ⟨a, cap, rfl, -⟩⟩ | ⟨b, o, cap, rfl, -, -, -, h5⟩
  · exact Or.inl ⟨rfl, rfl, rfl⟩
  · exact Or.inr ⟨a, cap, rfl, rfl, fun j u hj => by simp at hj⟩
  · refine Or.inr ⟨_, _, rfl, by simp, fun j u hj => ?_⟩
    have hj' : j < l.length := by have := (List.getElem?_eq_some_iff.1 hj).1; simpa using this
    rw [add_plain, h5 j hj']
    simpa [hj'] using hj
theorem SrcOf.keep {size m : Nat} {w w' : World} {x : Value} {news : List Value} (h : SrcOf size w x m news) (hb : Below w.heap.size w w') : SrcOf size w' x m news := by
  rcases h with h | ⟨ad, c, h1, h2, h3⟩
  · exact Or.inl h
  · exact Or.inr ⟨ad, c, h1, h2, fun j u hj => (hb.cell (World.block_lt_of_cell? _ _ (h3 j u hj))).trans (h3 j u hj)⟩
theorem wpList_append_src {P : Program} (w : World) {ops : Array Oper} {rest : List Oper} {o : Oper} {a : Act} {Q : Exit → Act → World → Prop} (hgd : o.guard = none) (s x : Operand) (t : TypeId)
    (ho : o.op = .call { callee := .builtin .append, args := #[s, x], argTypes := #[t, t] })
    (base : Nat) (e : TypeId) (i : TypeInfo) (z : Value) (size bytes : Nat) (ht : P.underlying t = some (.slice e)) (hi : P.info? e = some i) (hz : i.zero = some z)
    (hsize : i.size = size) (hby : i.bytes = bytes) (hzs : z.cells.size = size) (hsz : 0 < size)
    (v : Value) (n : Nat) (xs : List Value) (hs : a.eval s = v) (hown : w.ownsRow base e size v n xs)
    (xv : Value) (m : Nat) (news : List Value) (hx : a.eval x = xv) (hsrc : SrcOf size w xv m news) (h1 : ∀ u ∈ news, u.oneCell' = true)
    (h63 : n + m ≤ maxLen) (hbytes : (n + m) * bytes ≤ 140737488355328) (hbase : base ≤ w.heap.size)
    (h : ∀ v' w', w'.ownsRow base e size v' (n + m) (xs ++ news) → w.grownBy w' v.ownBlock → wpList P ops Q rest (a.put o.dst v') w') : wpList P ops Q (o :: rest) a w := by
  rcases hsrc with ⟨rfl, rfl, rfl⟩ | ⟨ad, c, rfl, hl, hnews⟩
  · exact wpList_append_own_none hgd s x t ho base e i size ht hi v n xs hs hown hx (h v w (by simpa using hown) (World.grownBy.refl w _))
  · exact wpList_append_own w hgd s x t ho base e i z size bytes ht hi hz hsize hby hzs hsz v n xs hs hown ad m c news hx hl hnews h1 h63 hbytes hbase fun v' w' h2 h3 _ => h v' w' h2 h3

/-! ### What a call made -/
theorem PairsAt.of_own {w : World} {B n : Nat} {v : Value} {l : List (Value × Value)} (h : w.ownsRow B 48 2 v n (cellsL l)) (hn : l.length = n) : PairsAt w v l := by
  subst hn
  rcases h.2 with ⟨rfl, h0⟩ | ⟨g, cap, cur, rfl, hb, hg, h1, h2, h3, h4⟩
  · exact Or.inl ⟨List.length_eq_zero_iff.1 h0, Or.inl rfl⟩
  · rcases Nat.eq_zero_or_pos l.length with h0 | hp
    · refine Or.inl ⟨List.length_eq_zero_iff.1 h0, Or.inr ⟨_, cap, by rw [h0], h2⟩⟩
    · refine Or.inr ⟨g, 0, cap, rfl, hp, h1, h2, fun i hi => ?_⟩
      have k1 := h.cells (g := g) rfl (i * 2) _ (cellsL_at l i hi).1
      have k2 := h.cells (g := g) rfl (i * 2 + 1) _ (cellsL_at l i hi).2
      rw [add_plain] at k1 k2
      rw [← Nat.add_assoc] at k2
      exact ⟨k1, k2⟩
theorem StrsAt.of_own {w : World} {B n : Nat} {v : Value} {l : List ByteArray} (h : w.ownsRow B 9 1 v n (l.map Value.string)) (hn : l.length = n) : StrsAt w v l := by
  subst hn
  rcases h.2 with ⟨rfl, h0⟩ | ⟨g, cap, cur, rfl, hb, hg, h1, h2, h3, h4⟩
  · exact Or.inl ⟨List.length_eq_zero_iff.1 h0, Or.inl rfl⟩
  · rcases Nat.eq_zero_or_pos l.length with h0 | hp
    · refine Or.inl ⟨List.length_eq_zero_iff.1 h0, Or.inr ⟨_, cap, by rw [h0], h2⟩⟩
    · refine Or.inr ⟨g, 0, cap, rfl, hp, h1, h2, fun i hi => ?_⟩
      have k1 := h.cells (g := g) rfl i (.string l[i]) (by simp [hi])
      rw [add_plain] at k1
      exact k1

theorem one_writes (l : List (Int × ByteArray)) : ∀ u ∈ cellsL (l.map writeCell), u.oneCell' = true := by
  intro u hu
  simp only [cellsL, List.mem_flatMap, List.mem_map] at hu
  obtain ⟨p, ⟨x, -, rfl⟩, hp⟩ := hu
  simp [writeCell] at hp
  rcases hp with rfl | rfl <;> rfl

set_option maxRecDepth 100000 in
set_option maxHeartbeats 2000000 in
/-- slices.Grow of nil. -/
theorem Grow_t (n : Nat) (w : World) (hn : n ≤ 400) :
    Calls Tryz.prog 72 #[.slice none 0 0, .int .i64 n] w fun e w' => ∃ v, e = .returned v ∧ w'.ownsRow w.heap.size 48 2 v 0 [] ∧ Below w.heap.size w w' := by
  obtain ⟨i0, hi, hz0, hz1, hz2⟩ := info_parts infoWrite
  rcases Nat.eq_zero_or_pos n with rfl | hp
  · go_enter Tryz.func72, Tryz.ntmps72
    go_wp2_with fail
    go_ret
    exact ⟨_, rfl, World.ownsRow_nil _ _ _ _, Below.refl _ _⟩
  · have hrz : ∀ ty, (Builtin.append_ #[23, 3] ty #[.slice none 0 0, .int .i64 n]).run Tryz.prog w = _ := fun ty => Lib.run_append_nil_zeros w 23 3 ty 48 i0 _ .i64 .i64 Tryz.underlying23 Tryz.underlying3 hi hz0 n hp (by omega) (by omega) (by rw [hz2]; omega)
    have hG : n ≤ grownCap w n 0 48 := grownCap_ge w _ _ _
    have hG2 := grownCap_le_maxLen w n 0 48 (by unfold maxLen; omega)
    obtain ⟨G, hGe⟩ : ∃ G, grownCap w n 0 48 = G := ⟨_, rfl⟩
    rw [hGe] at hrz hG hG2
    have HZ : (Builtin.zeroCells (Value.agg #[.int .i64 0, .string ⟨#[]⟩]).cells n ++ Builtin.zeroCells (Value.agg #[.int .i64 0, .string ⟨#[]⟩]).cells (G - n)).size = G * 2 := by
      rw [Array.size_append]
      simp [Builtin.zeroCells, Value.cells]
      omega
    obtain ⟨cur, hcur⟩ : ∃ c, (Builtin.zeroCells (Value.agg #[.int .i64 0, .string ⟨#[]⟩]).cells n ++ Builtin.zeroCells (Value.agg #[.int .i64 0, .string ⟨#[]⟩]).cells (G - n)) = c := ⟨_, rfl⟩
    rw [hcur] at hrz HZ
    have hown := Lib.hid (World.ownsRow_made (e := 48) (base := w.heap.size) (size := 2) w.drew cur G (Nat.le_refl _) hG2 HZ)
    unfold maxLen at hG2
    clear hcur HZ hGe
    go_enter Tryz.func72, Tryz.ntmps72
    go_wp2_with (at_builtin; refine Lib.wpList_append_run _ rfl _ _ _ _ rfl _ _ rfl rfl _ _ (hrz _) ?_)
    all_goals (go_ret; exact ⟨_, rfl, hown.out, (below_drewN (Below.refl _ _) 1).alloc (Nat.le_refl _) _⟩)
end Go.Proofs.YtkplpodljmlanaaGreatDoor
/-! slices.Concat of two rows of writes, by a contract. Conditions: few writes. -/
namespace Go.Proofs.YtkplpodljmlanaaGreatDoor
open Go.RowKit Go.WideShapes

/-- The first k of two. -/
def partL (k : Nat) (l1 l2 : List (Int × ByteArray)) : List (Int × ByteArray) := if k = 0 then [] else if k = 1 then l1 else l1 ++ l2
set_option maxRecDepth 100000 in
set_option maxHeartbeats 4000000 in
theorem Concat_t (b o c : Nat) (v1 v2 : Value) (l1 l2 : List (Int × ByteArray)) (w : World) (h1 : PairsAt w v1 (l1.map writeCell)) (h2 : PairsAt w v2 (l2.map writeCell)) (hlen : l1.length + l2.length ≤ 400)
    (c1 : w.cell? ⟨b, o, none⟩ = some v1) (c2 : w.cell? ⟨b, o + 1, none⟩ = some v2) :
    Calls Tryz.prog 53 #[.slice (some ⟨b, o, none⟩) 2 c] w fun e w' => ∃ v, e = .returned v ∧ PairsAt w' v ((l1 ++ l2).map writeCell) ∧ Below w.heap.size w w' := by
  obtain ⟨i0, hi, hz0, hz1, hz2⟩ := info_parts infoWrite
  have S1 := Lib.hid h1.src
  have S2 := Lib.hid h2.src
  obtain ⟨a1, k1, rfl, -, -⟩ := h1.shape
  obtain ⟨a2, k2, rfl, -, -⟩ := h2.shape
  rw [List.length_map] at S1 S2 c1 c2
  have HP1 := Lib.hid (show partL 1 l1 l2 = l1 from rfl)
  have HP2 := Lib.hid (show partL 2 l1 l2 = l1 ++ l2 from rfl)
  have HO1 := Lib.hid (one_writes l1)
  have HO2 := Lib.hid (one_writes l2)
  obtain ⟨n1, hn1⟩ : ∃ n, l1.length = n := ⟨_, rfl⟩
  obtain ⟨n2, hn2⟩ : ∃ n, l2.length = n := ⟨_, rfl⟩
  rw [hn1] at S1 c1 hlen
  rw [hn2] at S2 c2 hlen
  have HN := Lib.hid (And.intro hn1 hn2)
  have HC := Lib.hid (And.intro c1 c2)
  clear h1 h2 hn1 hn2 c1 c2
  go_enter Tryz.func53, Tryz.ntmps53
  go_wp2_with fail
  go_loopw [3, 11] (fun sv iv wr => ∃ k : Nat, k ≤ 2 ∧ iv = .int .i64 k ∧ sv = .int .i64 ((if k = 0 then 0 else if k = 1 then n1 else n1 + n2 : Nat) : Int) ∧ w = wr) (fun _ i _ => 2 - (intOf i).toNat)
  case atStart => exact ⟨0, by omega, rfl, rfl, rfl⟩
  case round =>
    obtain ⟨k, hk, rfl, rfl, rfl⟩ := hrel
    rcases (show k = 0 ∨ k = 1 ∨ k = 2 by omega) with rfl | rfl | rfl
    · have hc := HC.out.1
      have hc' : w.cell? ⟨b, o + 0, none⟩ = some (.slice a1 n1 k1) := hc
      go_wp2_with fail
      go_roundw
      case rel => exact ⟨1, by omega, rfl, by simp, trivial⟩
      case measure => simp [intOf]
    · have hc := HC.out.2
      go_wp2_with fail
      go_roundw
      case rel => exact ⟨2, by omega, rfl, by simp, trivial⟩
      case measure => simp [intOf]
    · have G := Lib.hid (Grow_t (n1 + n2) w hlen)
      go_wp2_with fail
      refine G.out.mono ?_
      rintro e w1 ⟨gv, rfl, hown, hb⟩
      obtain ⟨w1', hw1⟩ : ∃ x, x = w1 := ⟨_, rfl⟩
      have HO := Lib.hid hown
      have HB := Lib.hid hb
      clear hown hb
      go_wp2_with fail
      go_loopw [6, 27] (fun gv iv wr => ∃ k : Nat, k ≤ 2 ∧ iv = .int .i64 k ∧ wr.ownsRow w.heap.size 48 2 gv (partL k l1 l2).length (cellsL ((partL k l1 l2).map writeCell)) ∧ Below w.heap.size w wr) (fun _ i _ => 2 - (intOf i).toNat)
      case atStart => exact ⟨0, by omega, rfl, HO.out, HB.out⟩
      case round =>
        obtain ⟨k, hk, rfl, hown, hb⟩ := hrel
        rcases (show k = 0 ∨ k = 1 ∨ k = 2 by omega) with rfl | rfl | rfl
        · have hc := (hb.cell (World.block_lt_of_cell? _ _ HC.out.1)).trans HC.out.1
          have hc' : wr.cell? ⟨b, o + 0, none⟩ = some (.slice a1 n1 k1) := hc
          have T := Lib.hid (S1.out.keep hb)
          have HB2 := Lib.hid hb
          have HO2 := Lib.hid hown
          clear hb hown
          go_wp2_with (at_builtin; refine wpList_append_src _ rfl _ _ 23 rfl w.heap.size 48 i0 (.agg #[.int .i64 0, .string ⟨#[]⟩]) 2 24 Tryz.underlying23 hi hz0 hz1 hz2 rfl (by decide) _ _ _ rfl HO2.out _ n1 _ rfl T.out HO1.out (by unfold maxLen; simp [partL]; omega) (by simp [partL]; omega) HB2.out.size ?_; intro v' w2 hown' hgrow)
          have HO3 := Lib.hid (show w2.ownsRow w.heap.size 48 2 v' (partL 1 l1 l2).length (cellsL ((partL 1 l1 l2).map writeCell)) by
            rw [HP1.out, HN.out.1]
            simpa [partL, cellsL] using hown')
          have HB3 := Lib.hid (HB2.out.grown hgrow HB2.out.size (fun k hk => (HO2.out.lt k hk).1))
          clear hown' hgrow
          go_wp2_with fail
          go_roundw
          case rel => exact ⟨1, by omega, rfl, HO3.out, HB3.out⟩
          case measure => simp [intOf]
        · have hc := (hb.cell (World.block_lt_of_cell? _ _ HC.out.2)).trans HC.out.2
          have T := Lib.hid (S2.out.keep hb)
          have HB2 := Lib.hid hb
          rw [HP1.out, HN.out.1] at hown
          have HO2' := Lib.hid hown
          clear hb hown
          go_wp2_with (at_builtin; refine wpList_append_src _ rfl _ _ 23 rfl w.heap.size 48 i0 (.agg #[.int .i64 0, .string ⟨#[]⟩]) 2 24 Tryz.underlying23 hi hz0 hz1 hz2 rfl (by decide) _ n1 _ rfl HO2'.out _ n2 _ rfl T.out HO2.out (by unfold maxLen; omega) (by omega) HB2.out.size ?_; intro v' w2 hown' hgrow)
          have HO3 := Lib.hid (show w2.ownsRow w.heap.size 48 2 v' (partL 2 l1 l2).length (cellsL ((partL 2 l1 l2).map writeCell)) by
            rw [HP2.out, List.length_append, HN.out.1, HN.out.2, List.map_append, cellsL_append]
            exact hown')
          have HB3 := Lib.hid (HB2.out.grown hgrow HB2.out.size (fun k hk => (HO2'.out.lt k hk).1))
          clear hown' hgrow
          go_wp2_with fail
          go_roundw
          case rel => exact ⟨2, by omega, rfl, HO3.out, HB3.out⟩
          case measure => simp [intOf]
        · rw [HP2.out] at hown
          have HR := Lib.hid (PairsAt.of_own hown (by rw [List.length_map]))
          have HB2 := Lib.hid hb
          clear hb hown
          go_wp2_with fail
          go_ret
          exact ⟨_, rfl, HR.out, HB2.out⟩
end Go.Proofs.YtkplpodljmlanaaGreatDoor
