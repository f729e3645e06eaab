/-
  Blobs as plain data, and in memory: a row of objects, a row of uploads; what comes in reads as some. Conditions: none.
  Blobs as plain data: where an object, or an upload, is; how many bytes there are. Conditions: none.
-/
import Derived.Test.YtodjhmphneoifaaGreatDoorChecked
import Derived.Below
import Derived.RowKit
import Derived.Deep.Fields
import Derived.ChangeArms
import Derived.ChangeSame
import Derived.DataReads
import Derived.WideShapes
import Derived.OpenShut
import Derived.Lib.SmallJoins
import Derived.WalkKit
import Derived.WalkLawsBesides
import Derived.WalkSpells
import Derived.BigCall
import Derived.Lib.Hide
import Derived.Outline
import Derived.Lib.OthersKept
import Derived.BigQuiet
import Derived.Deep.Cut
import Derived.Deep.QuietTactic
/-! Blobs as plain data, and in memory: a row of objects, a row of uploads; what comes in reads as some. Conditions: none. -/
namespace Go.Proofs.YtodjhmphneoifaaGreatDoor
open Go.ChangeShapes Go.WideShapes Go.RowKit Go.Deep

/-! ### Plain -/
/-- Objects by their digests, how many bytes they may have, uploads by their numbers, the last number. -/
structure Blb where
  objs : List (ByteArray × ByteArray)
  quota : Int
  ups : List (Int × ByteArray)
  last : Int

/-! ### In memory -/
theorem exists_list {α : Type} {P : Nat → α → Prop} : ∀ n : Nat, (∀ i, i < n → ∃ x, P i x) → ∃ l : List α, l.length = n ∧ ∀ (i : Nat) (h : i < l.length), P i l[i]
  | 0, _ => ⟨[], rfl, fun i h => absurd h (Nat.not_lt_zero _)⟩
  | n + 1, h => by
    obtain ⟨l, hl, hp⟩ := exists_list n fun i hi => h i (by omega)
    obtain ⟨x, hx⟩ := h n (by omega)
    refine ⟨l ++ [x], by simp [hl], fun i hi => ?_⟩
    by_cases e : i < l.length
    · rw [List.getElem_append_left e]; exact hp i e
    · have : i = n := by simp [hl] at hi; omega
      subst this
      rw [List.getElem_append_right (by omega)]
      simpa [hl] using hx

theorem slice_cells {H : Type} {enc : TypeId × Value → H} {W : World} {fuel m : Nat} {t e : TypeId} {v : Value} {x : DataW H × List MemPlace} (ht : Tryz.prog.underlying t = some (.slice e)) (hm : Tryz.prog.cellsOf e = m) (hm0 : 0 < m)
    (h : DataW.trod enc Tryz.prog W 0 (fun _ => true) true fuel t [v] = some x) :
    (v = .slice none 0 0 ∨ ∃ a cap, v = .slice (some a) 0 cap ∧ cap ≤ maxLen) ∨
    ∃ (b o len cap : Nat), v = .slice (some ⟨b, o, none⟩) len cap ∧ 0 < len ∧ len ≤ cap ∧ cap ≤ maxLen ∧
      ∀ i, i < len → ∃ (cs : List Value) (n : Nat) (y : DataW H × List MemPlace), n < fuel ∧ cs.length = m ∧ (∀ j, j < m → W.cell? ⟨b, o + (i * m + j), none⟩ = cs[j]?) ∧ DataW.trod enc Tryz.prog W 0 (fun _ => true) true n e cs = some y := by
  rcases DataW.trod_slice ht h with ⟨h1, -⟩ | ⟨a, len, cap, elems, rest, n, hf, h1, -, -, hl, hc, hel, hat, -, -⟩
  · exact Or.inl (Or.inl (by simpa using h1))
  · have hv : v = .slice (some a) len cap := by simpa using h1
    subst hv
    rw [hm] at hat
    cases len with
    | zero => exact Or.inl (Or.inr ⟨a, cap, rfl, hc⟩)
    | succ len =>
      have hread : ∀ i, i < len + 1 → ∃ (cs : List Value) (y : DataW H × List MemPlace), W.cells? 0 (a.add (i * m)) m = some cs ∧ DataW.trod enc Tryz.prog W 0 (fun _ => true) true n e cs = some y := fun i hi => by
        have h2 := hat i hi
        have h3 : elems[i]? = some (elems[i]'(by omega)) := List.getElem?_eq_getElem (by omega)
        rw [h3, Option.bind_eq_some_iff] at h2
        obtain ⟨cs, h4, h5⟩ := h2
        exact ⟨cs, _, h4, h5⟩
      obtain ⟨b, o, sp⟩ := a
      have hsp : sp = none := by
        obtain ⟨cs, y, h4, -⟩ := hread 0 (by omega)
        obtain ⟨-, hcl, hca⟩ := World.cells?_some h4
        have h5 := hca 0 hm0
        rw [List.getElem?_eq_getElem (by omega)] at h5
        cases sp with
        | none => rfl
        | some q =>
          exfalso
          rw [Nat.zero_mul] at h5
          unfold Addr.add at h5
          simp only [if_true] at h5
          unfold World.cell? at h5
          split at h5 <;> simp at h5
      subst hsp
      refine Or.inr ⟨b, o, len + 1, cap, rfl, by omega, hl, hc, fun i hi => ?_⟩
      obtain ⟨cs, y, h4, h5⟩ := hread i hi
      obtain ⟨-, hcl, hca⟩ := World.cells?_some h4
      refine ⟨cs, n, y, by omega, hcl, fun j hj => ?_, h5⟩
      have := hca j hj
      rw [add_plain, add_plain, Nat.add_assoc] at this
      exact this


/-- A row of pairs of cells. -/
def PairsAt (w : World) (v : Value) (l : List (Value × Value)) : Prop :=
  (l = [] ∧ (v = .slice none 0 0 ∨ ∃ a cap, v = .slice (some a) 0 cap ∧ cap ≤ maxLen)) ∨
  ∃ b o cap, v = .slice (some ⟨b, o, none⟩) l.length cap ∧ 0 < l.length ∧ l.length ≤ cap ∧ cap ≤ maxLen ∧ ∀ i (h : i < l.length), w.cell? ⟨b, o + i * 2, none⟩ = some l[i].1 ∧ w.cell? ⟨b, o + i * 2 + 1, none⟩ = some l[i].2
theorem PairsAt.keep {w w' : World} {v : Value} {l : List (Value × Value)} (h : PairsAt w v l) (hb : Below w.heap.size w w') : PairsAt w' v l := by
  rcases h with h | ⟨b, o, cap, h1, h2, h3, h4, h5⟩
  · exact Or.inl h
  · have k : ∀ {p : Addr} {v : Value}, w.cell? p = some v → w'.cell? p = some v := fun hc => (hb.cell (World.block_lt_of_cell? _ _ hc)).trans hc
    exact Or.inr ⟨b, o, cap, h1, h2, h3, h4, fun i hi => ⟨k (h5 i hi).1, k (h5 i hi).2⟩⟩
theorem PairsAt.shape {w : World} {v : Value} {l : List (Value × Value)} (h : PairsAt w v l) : ∃ a cap, v = .slice a l.length cap ∧ cap ≤ maxLen ∧ l.length ≤ maxLen := by
  rcases h with ⟨rfl, rfl | ⟨a, cap, rfl, hc⟩⟩ | ⟨b, o, cap, rfl, h2, h3, h4, -⟩
  · exact ⟨none, 0, rfl, by decide, by decide⟩
  · exact ⟨_, _, rfl, hc, by decide⟩
  · exact ⟨_, _, rfl, h4, by omega⟩
theorem below_new (w : World) (o : Obj) : Below w.heap.size w (w.alloc o) := (Below.refl _ _).alloc (Nat.le_refl _) _
theorem Below.then {w w1 w2 : World} (h : Below w.heap.size w w1) (h2 : Below w1.heap.size w1 w2) : Below w.heap.size w w2 := h.trans (h2.mono h.size)

/-- A row of two cells lies at B. -/
def At2 (t : TypeId) (w : World) (B : Nat) (a b : Value) : Prop := w.heap[B]? = some (.cells #[a, b] t (0, 0))
theorem At2.lt {t : TypeId} {w : World} {B : Nat} {a b : Value} (h : At2 t w B a b) : B < w.heap.size := (Array.getElem?_eq_some_iff.1 h).1
theorem At2.keep {t : TypeId} {w w' : World} {B : Nat} {a b : Value} (h : At2 t w B a b) (hb : Below w.heap.size w w') : At2 t w' B a b := (hb.block B h.lt).trans h
theorem At2.cells {t : TypeId} {w : World} {B : Nat} {a b : Value} (h : At2 t w B a b) : w.cell? ⟨B, 0, none⟩ = some a ∧ w.cell? ⟨B, 1, none⟩ = some b := by
  unfold At2 at h
  refine ⟨?_, ?_⟩ <;> simp [World.cell?, h]
theorem At2.new (t : TypeId) (w : World) (a b : Value) : At2 t (w.alloc (.cells #[a, b] t)) w.heap.size a b := heap_alloc_new w _
theorem At2.free {t : TypeId} {w : World} {B : Nat} {a b : Value} (h : At2 t w B a b) : w.frozen? ⟨B, 0, none⟩ = false ∧ w.frozen? ⟨B, 1, none⟩ = false := by
  unfold At2 at h
  refine ⟨?_, ?_⟩ <;> simp [World.frozen?, h]

/-! ### A disk -/
abbrev nilV : Value := .slice none 0 0
theorem Below.keepc {w w' : World} {p : Addr} {v : Value} (h : Below w.heap.size w w') (hc : w.cell? p = some v) : w'.cell? p = some v := (h.cell (World.block_lt_of_cell? _ _ hc)).trans hc
theorem PairsAt.at {w : World} {a : Option Addr} {n cap : Nat} {l : List (Value × Value)} (h : PairsAt w (.slice a n cap) l) (i : Nat) (hi : i < l.length) : ∃ b o, a = some ⟨b, o, none⟩ ∧ w.cell? ⟨b, o + i * 2, none⟩ = some l[i].1 ∧ w.cell? ⟨b, o + i * 2 + 1, none⟩ = some l[i].2 := by
  rcases h with ⟨h0, -⟩ | ⟨b, o, c, e, -, -, -, hc⟩
  · rw [h0] at hi; simp at hi
  · simp only [Value.slice.injEq] at e
    exact ⟨b, o, e.1, (hc i hi).1, (hc i hi).2⟩
theorem beqB (a b : ByteArray) : (a.toList == b.toList) = decide (a = b) := by
  rw [Bool.eq_iff_iff, beq_iff_eq, decide_eq_true_eq, ByteArray.toList_eq, ByteArray.toList_eq]
  exact ⟨fun h => ByteArray.ext (Array.ext' h), fun h => by rw [h]⟩
def objCell (o : ByteArray × ByteArray) : Value × Value := (.string o.1, .string o.2)
def upCell (l : Int × ByteArray) : Value × Value := (.int .i64 l.1, .string l.2)
theorem obj_getElem (ls : List (ByteArray × ByteArray)) (k : Nat) (h : k < ls.length) : (ls.map objCell)[k]'(by rw [List.length_map]; exact h) = (.string ls[k].1, .string ls[k].2) := by
  rw [List.getElem_map]; rfl
theorem up_getElem (ls : List (Int × ByteArray)) (k : Nat) (h : k < ls.length) : (ls.map upCell)[k]'(by rw [List.length_map]; exact h) = (.int .i64 ls[k].1, .string ls[k].2) := by
  rw [List.getElem_map]; rfl
/-- The value v reads as the blobs b. -/
structure BlbAt (w : World) (v : Value) (b : Blb) : Prop where
  is : ∃ ov uv, v = .agg #[ov, .int .i64 b.quota, uv, .int .i64 b.last] ∧ PairsAt w ov (b.objs.map objCell) ∧ PairsAt w uv (b.ups.map upCell)
  objs : ∀ o ∈ b.objs, o.1.size ≤ maxLen ∧ o.2.size ≤ maxLen
  ups : ∀ u ∈ b.ups, u.2.size ≤ maxLen ∧ -9223372036854775808 ≤ u.1 ∧ u.1 ≤ 9223372036854775807
  quota : -9223372036854775808 ≤ b.quota ∧ b.quota ≤ 9223372036854775807
  last : -9223372036854775808 ≤ b.last ∧ b.last ≤ 9223372036854775807
theorem BlbAt.keep {w w' : World} {v : Value} {b : Blb} (h : BlbAt w v b) (hb : Below w.heap.size w w') : BlbAt w' v b := by
  obtain ⟨⟨ov, uv, e, h1, h2⟩, h3, h4, h5, h6⟩ := h
  exact ⟨⟨ov, uv, e, h1.keep hb, h2.keep hb⟩, h3, h4, h5, h6⟩
theorem BlbAt.shape {w : World} {v : Value} {b : Blb} (h : BlbAt w v b) : ∃ a c a' c', v = .agg #[.slice a b.objs.length c, .int .i64 b.quota, .slice a' b.ups.length c', .int .i64 b.last] ∧ b.objs.length ≤ 9223372036854775807 ∧ b.ups.length ≤ 9223372036854775807 := by
  obtain ⟨⟨ov, uv, rfl, h1, h2⟩, -⟩ := h
  obtain ⟨a, c, rfl, -, k1⟩ := h1.shape
  obtain ⟨a', c', rfl, -, k2⟩ := h2.shape
  rw [List.length_map] at k1 k2 ⊢
  rw [List.length_map]
  unfold maxLen at k1 k2
  exact ⟨a, c, a', c', rfl, by omega, by omega⟩
theorem BlbAt.parts {w : World} {o q u l : Value} {b : Blb} (H : BlbAt w (.agg #[o, q, u, l]) b) : PairsAt w o (b.objs.map objCell) ∧ PairsAt w u (b.ups.map upCell) ∧ q = .int .i64 b.quota ∧ l = .int .i64 b.last := by
  obtain ⟨⟨ov, uv, e, h1, h2⟩, -⟩ := H
  simp only [Value.agg.injEq, Array.mk.injEq, List.cons.injEq, and_true] at e
  obtain ⟨rfl, rfl, rfl, rfl⟩ := e
  exact ⟨h1, h2, rfl, rfl⟩

/-! ### What comes in -/
theorem objFields : ∃ f0 f1 : Field, Tryz.prog.underlying 43 = some (.struct #[f0, f1]) ∧ f0.type = 9 ∧ f1.type = 9 ∧ oneCellFields Tryz.prog #[f0, f1] = true :=
  ⟨_, _, Tryz.underlying43, rfl, rfl, by kernel_rfl⟩
theorem upFields : ∃ f0 f1 : Field, Tryz.prog.underlying 40 = some (.struct #[f0, f1]) ∧ f0.type = 3 ∧ f1.type = 9 ∧ oneCellFields Tryz.prog #[f0, f1] = true :=
  ⟨_, _, Tryz.underlying40, rfl, rfl, by kernel_rfl⟩
theorem objCells : Tryz.prog.cellsOf 43 = 2 := by kernel_rfl
theorem upCells : Tryz.prog.cellsOf 40 = 2 := by kernel_rfl
theorem blbCells : Tryz.prog.cellsOf 25 = 4 := by kernel_rfl
/-- A slice of uploads that was read. -/
theorem ups_read {H : Type} {enc : TypeId × Value → H} {W : World} {fuel : Nat} {v : Value} {x : DataW H × List MemPlace}
    (h : DataW.trod enc Tryz.prog W 0 (fun _ => true) true fuel 23 [v] = some x) : ∃ ls : List (Int × ByteArray), PairsAt W v (ls.map upCell) ∧ ∀ l ∈ ls, l.2.size ≤ maxLen ∧ -9223372036854775808 ≤ l.1 ∧ l.1 ≤ 9223372036854775807 := by
  obtain ⟨f0, f1, hu, t0, t1, hone⟩ := upFields
  obtain ⟨o0, k0⟩ := hone_of hone 0 f0 rfl
  obtain ⟨o1, k1⟩ := hone_of hone 1 f1 rfl
  rcases slice_cells Tryz.underlying23 upCells (by decide) h with h | ⟨b, o, len, cap, rfl, h1, h2, h3, h4⟩
  · exact ⟨[], Or.inl ⟨rfl, h⟩, by simp⟩
  · obtain ⟨l, hl, hp⟩ := exists_list (P := fun i (x : Int × ByteArray) => W.cell? ⟨b, o + i * 2, none⟩ = some (.int .i64 x.1) ∧ W.cell? ⟨b, o + i * 2 + 1, none⟩ = some (.string x.2) ∧ x.2.size ≤ maxLen ∧ -9223372036854775808 ≤ x.1 ∧ x.1 ≤ 9223372036854775807) len fun i hi => by
      obtain ⟨cs, n', y, -, hcl, hca, hr⟩ := h4 i hi
      obtain ⟨c0, c1, rfl⟩ : ∃ c0 c1, cs = [c0, c1] := by
        match cs, hcl with
        | [a, b], _ => exact ⟨a, b, rfl⟩
      obtain ⟨xs, n, -, -, -, hxl, hg⟩ := DataW.trod_struct hu hr
      have g0 := hg 0 f0 rfl
      have g1 := hg 1 f1 rfl
      obtain ⟨y0, y1, rfl⟩ : ∃ y0 y1, xs = [y0, y1] := by
        match xs, (show xs.length = 2 from hxl) with
        | [a, b], _ => exact ⟨a, b, rfl⟩
      rw [o0, k0, t0] at g0
      rw [o1, k1, t1] at g1
      have g0 : DataW.trod enc Tryz.prog W 0 (fun _ => true) true n 3 [c0] = some y0 := g0
      have g1 : DataW.trod enc Tryz.prog W 0 (fun _ => true) true n 9 [c1] = some y1 := g1
      obtain ⟨num, e0, -, b1⟩ := DataW.trod_int Tryz.underlying3 g0
      obtain ⟨s, e1, -, hs⟩ := DataW.trod_string Tryz.underlying9 g1
      obtain rfl : c0 = .int .i64 num := by simpa using e0
      obtain rfl : c1 = .string s := by simpa using e1
      exact ⟨(num, s), hca 0 (by decide), hca 1 (by decide), hs, bounds_i64 b1⟩
    refine ⟨l, Or.inr ⟨b, o, cap, by rw [List.length_map, hl], by rw [List.length_map]; omega, by rw [List.length_map]; omega, h3, fun i hi => ?_⟩, fun x hx => ?_⟩
    · rw [List.length_map] at hi
      rw [List.getElem_map]
      exact ⟨(hp i hi).1, (hp i hi).2.1⟩
    · obtain ⟨i, hi, rfl⟩ := List.getElem_of_mem hx
      exact (hp i hi).2.2

/-- A slice of objects that was read. -/
theorem objs_read {H : Type} {enc : TypeId × Value → H} {W : World} {fuel : Nat} {v : Value} {x : DataW H × List MemPlace}
    (h : DataW.trod enc Tryz.prog W 0 (fun _ => true) true fuel 22 [v] = some x) : ∃ ls : List (ByteArray × ByteArray), PairsAt W v (ls.map objCell) ∧ ∀ l ∈ ls, l.1.size ≤ maxLen ∧ l.2.size ≤ maxLen := by
  obtain ⟨f0, f1, hu, t0, t1, hone⟩ := objFields
  obtain ⟨o0, k0⟩ := hone_of hone 0 f0 rfl
  obtain ⟨o1, k1⟩ := hone_of hone 1 f1 rfl
  rcases slice_cells Tryz.underlying22 objCells (by decide) h with h | ⟨b, o, len, cap, rfl, h1, h2, h3, h4⟩
  · exact ⟨[], Or.inl ⟨rfl, h⟩, by simp⟩
  · obtain ⟨l, hl, hp⟩ := exists_list (P := fun i (x : ByteArray × ByteArray) => W.cell? ⟨b, o + i * 2, none⟩ = some (.string x.1) ∧ W.cell? ⟨b, o + i * 2 + 1, none⟩ = some (.string x.2) ∧ x.1.size ≤ maxLen ∧ x.2.size ≤ maxLen) len fun i hi => by
      obtain ⟨cs, n', y, -, hcl, hca, hr⟩ := h4 i hi
      obtain ⟨c0, c1, rfl⟩ : ∃ c0 c1, cs = [c0, c1] := by
        match cs, hcl with
        | [a, b], _ => exact ⟨a, b, rfl⟩
      obtain ⟨xs, n, -, -, -, hxl, hg⟩ := DataW.trod_struct hu hr
      have g0 := hg 0 f0 rfl
      have g1 := hg 1 f1 rfl
      obtain ⟨y0, y1, rfl⟩ : ∃ y0 y1, xs = [y0, y1] := by
        match xs, (show xs.length = 2 from hxl) with
        | [a, b], _ => exact ⟨a, b, rfl⟩
      rw [o0, k0, t0] at g0
      rw [o1, k1, t1] at g1
      have g0 : DataW.trod enc Tryz.prog W 0 (fun _ => true) true n 9 [c0] = some y0 := g0
      have g1 : DataW.trod enc Tryz.prog W 0 (fun _ => true) true n 9 [c1] = some y1 := g1
      obtain ⟨s0, e0, -, hs0⟩ := DataW.trod_string Tryz.underlying9 g0
      obtain ⟨s, e1, -, hs⟩ := DataW.trod_string Tryz.underlying9 g1
      obtain rfl : c0 = .string s0 := by simpa using e0
      obtain rfl : c1 = .string s := by simpa using e1
      exact ⟨(s0, s), hca 0 (by decide), hca 1 (by decide), hs0, hs⟩
    refine ⟨l, Or.inr ⟨b, o, cap, by rw [List.length_map, hl], by rw [List.length_map]; omega, by rw [List.length_map]; omega, h3, fun i hi => ?_⟩, fun x hx => ?_⟩
    · rw [List.length_map] at hi
      rw [List.getElem_map]
      exact ⟨(hp i hi).1, (hp i hi).2.1⟩
    · obtain ⟨i, hi, rfl⟩ := List.getElem_of_mem hx
      exact (hp i hi).2.2

/-! ### A row of four cells -/
def At4 (t : TypeId) (w : World) (B : Nat) (a b c d : Value) : Prop := w.heap[B]? = some (.cells #[a, b, c, d] t (0, 0))
theorem At4.lt {t : TypeId} {w : World} {B : Nat} {a b c d : Value} (h : At4 t w B a b c d) : B < w.heap.size := (Array.getElem?_eq_some_iff.1 h).1
theorem At4.keep {t : TypeId} {w w' : World} {B : Nat} {a b c d : Value} (h : At4 t w B a b c d) (hb : Below w.heap.size w w') : At4 t w' B a b c d := (hb.block B h.lt).trans h
theorem At4.cells {t : TypeId} {w : World} {B : Nat} {a b c d : Value} (h : At4 t w B a b c d) : w.cell? ⟨B, 0, none⟩ = some a ∧ w.cell? ⟨B, 1, none⟩ = some b ∧ w.cell? ⟨B, 2, none⟩ = some c ∧ w.cell? ⟨B, 3, none⟩ = some d := by
  unfold At4 at h
  refine ⟨?_, ?_, ?_, ?_⟩ <;> simp [World.cell?, h]
theorem At4.free {t : TypeId} {w : World} {B : Nat} {a b c d : Value} (h : At4 t w B a b c d) : w.frozen? ⟨B, 0, none⟩ = false ∧ w.frozen? ⟨B, 1, none⟩ = false ∧ w.frozen? ⟨B, 2, none⟩ = false ∧ w.frozen? ⟨B, 3, none⟩ = false := by
  unfold At4 at h
  refine ⟨?_, ?_, ?_, ?_⟩ <;> simp [World.frozen?, h]
theorem At4.new (t : TypeId) (w : World) (a b c d : Value) : At4 t (w.alloc (.cells #[a, b, c, d] t)) w.heap.size a b c d := heap_alloc_new w _
def set4 (w : World) (B : Nat) (a b c d : Value) : World := (((w.setCell ⟨B, 0, none⟩ a).setCell ⟨B, 1, none⟩ b).setCell ⟨B, 2, none⟩ c).setCell ⟨B, 3, none⟩ d
theorem At4.set {t : TypeId} {w : World} {B : Nat} {a b c d : Value} (h : At4 t w B a b c d) (a' b' c' d' : Value) : At4 t (set4 w B a' b' c' d') B a' b' c' d' := by
  have h0 : (w.setCell ⟨B, 0, none⟩ a').heap[B]? = some (.cells #[a', b, c, d] t (0, 0)) := by rw [heap_setCell_same _ _ _ _ _ _ h]; rfl
  have h1 : ((w.setCell ⟨B, 0, none⟩ a').setCell ⟨B, 1, none⟩ b').heap[B]? = some (.cells #[a', b', c, d] t (0, 0)) := by rw [heap_setCell_same _ _ _ _ _ _ h0]; rfl
  have h2 : (((w.setCell ⟨B, 0, none⟩ a').setCell ⟨B, 1, none⟩ b').setCell ⟨B, 2, none⟩ c').heap[B]? = some (.cells #[a', b', c', d] t (0, 0)) := by rw [heap_setCell_same _ _ _ _ _ _ h1]; rfl
  unfold set4 At4
  rw [heap_setCell_same _ _ _ _ _ _ h2]; rfl
theorem set4_below {B B0 : Nat} {w0 w : World} (h : Below B0 w0 w) (hB : B0 ≤ B) (a b c d : Value) : Below B0 w0 (set4 w B a b c d) :=
  (((h.setCell (p := ⟨B, 0, none⟩) hB _).setCell (p := ⟨B, 1, none⟩) hB _).setCell (p := ⟨B, 2, none⟩) hB _).setCell (p := ⟨B, 3, none⟩) hB _
theorem set4_block (w : World) (B k : Nat) (a b c d : Value) (hne : k ≠ B) : (set4 w B a b c d).heap[k]? = w.heap[k]? := by
  unfold set4
  rw [Below.heap_setCell _ _ _ _ hne, Below.heap_setCell _ _ _ _ hne, Below.heap_setCell _ _ _ _ hne, Below.heap_setCell _ _ _ _ hne]
theorem infoBlb : (Tryz.prog.info? 25).map (·.size) = some 4 := by kernel_rfl
set_option maxRecDepth 100000 in
/-- Blobs that came in. -/
theorem open_blb {H : Type} {enc : TypeId × Value → H} {W : World} {b0 : Nat} {v : Value} {d : DataW H} {p : List MemPlace}
    (hval : Value.okWide Tryz.prog W .any b0 25 v) (hj : DataW.Trod enc Tryz.prog W 0 (fun _ => true) true 25 v d p) : ∃ b, BlbAt W v b := by
  obtain ⟨v0, v1, v2, v3, y0, y1, y2, y3, n, rfl, -, -, h0, h1, h2, h3⟩ := Joins.open_agg4 Tryz.underlying25 (by kernel_rfl) blbCells hval hj
  obtain ⟨os, hos, zo⟩ := objs_read h0
  obtain ⟨q, e1, -, w1⟩ := DataW.trod_int Tryz.underlying3 h1
  obtain ⟨us, hus, zu⟩ := ups_read h2
  obtain ⟨l, e3, -, w3⟩ := DataW.trod_int Tryz.underlying3 h3
  obtain rfl : v1 = .int .i64 q := by simpa using e1
  obtain rfl : v3 = .int .i64 l := by simpa using e3
  exact ⟨⟨os, q, us, l⟩, ⟨v0, v2, rfl, hos, hus⟩, zo, zu, bounds_i64 w1, bounds_i64 w3⟩
end Go.Proofs.YtodjhmphneoifaaGreatDoor
/-! Blobs as plain data: where an object, or an upload, is; how many bytes there are. Conditions: none. -/
namespace Go.Proofs.YtodjhmphneoifaaGreatDoor

/-! ### The first place at which something holds; -1: there is none -/
def findF {α : Type} (p : α → Bool) : Nat → List α → Int
  | _, [] => -1
  | k, x :: r => if p x then (k : Int) else findF p (k + 1) r
def findL {α : Type} (p : α → Bool) (l : List α) : Int := findF p 0 l
theorem findF_step {α : Type} (p : α → Bool) (l : List α) (k : Nat) (h : k < l.length) : findF p k (l.drop k) = if p l[k] then (k : Int) else findF p (k + 1) (l.drop (k + 1)) := by
  rw [List.drop_eq_getElem_cons h]; rfl
theorem findF_end {α : Type} (p : α → Bool) (l : List α) (k : Nat) (h : l.length ≤ k) : findF p k (l.drop k) = -1 := by
  rw [List.drop_of_length_le h]; rfl
theorem findF_cases {α : Type} (p : α → Bool) : ∀ (l : List α) (k : Nat), (findF p k l = -1 ∧ ∀ x ∈ l, p x = false) ∨ ∃ j, ∃ h : j < l.length, findF p k l = ((k + j : Nat) : Int) ∧ p l[j] = true ∧ ∀ i (hi : i < j), p (l[i]'(by omega)) = false
  | [], _ => Or.inl ⟨rfl, by simp⟩
  | x :: r, k => by
    by_cases hx : p x = true
    · refine Or.inr ⟨0, by simp, ?_, by simpa using hx, fun i hi => absurd hi (Nat.not_lt_zero _)⟩
      show (if p x then (k : Int) else _) = _
      rw [if_pos hx]; rfl
    · have hx' : p x = false := by simpa using hx
      have e : findF p k (x :: r) = findF p (k + 1) r := by
        show (if p x then (k : Int) else _) = _
        rw [if_neg hx]
      rcases findF_cases p r (k + 1) with ⟨h1, h2⟩ | ⟨j, hj, h1, h2, h3⟩
      · exact Or.inl ⟨by rw [e, h1], fun y hy => (List.mem_cons.1 hy).elim (fun h => by rw [h]; exact hx') (h2 y)⟩
      · refine Or.inr ⟨j + 1, by simp; exact hj, by rw [e, h1]; omega, by simpa using h2, fun i hi => ?_⟩
        cases i with
        | zero => simpa using hx'
        | succ i => simpa using h3 i (by omega)
theorem findL_cases {α : Type} (p : α → Bool) (l : List α) : (findL p l = -1 ∧ ∀ x ∈ l, p x = false) ∨ ∃ j, ∃ h : j < l.length, findL p l = (j : Int) ∧ p l[j] = true ∧ ∀ i (hi : i < j), p (l[i]'(by omega)) = false := by
  rcases findF_cases p l 0 with h | ⟨j, hj, h1, h2⟩
  · exact Or.inl h
  · exact Or.inr ⟨j, hj, by unfold findL; rw [h1, Nat.zero_add], h2⟩
def atL (l : List (ByteArray × ByteArray)) (d : ByteArray) : Int := findL (fun o => decide (o.1 = d)) l
def upL (l : List (Int × ByteArray)) (id : Int) : Int := findL (fun u => u.1 == id) l

/-! ### How many bytes -/
def usedL (l : List (ByteArray × ByteArray)) : Nat := (l.map fun o => o.2.size).sum
theorem usedL_snoc (l : List (ByteArray × ByteArray)) (o : ByteArray × ByteArray) : usedL (l ++ [o]) = usedL l + o.2.size := by simp [usedL]
theorem usedL_take (l : List (ByteArray × ByteArray)) (k : Nat) (h : k < l.length) : usedL (l.take (k + 1)) = usedL (l.take k) + l[k].2.size := by
  rw [List.take_succ_eq_append_getElem h, usedL_snoc]
theorem usedL_le (M : Nat) : ∀ l : List (ByteArray × ByteArray), (∀ o ∈ l, o.2.size ≤ M) → usedL l ≤ l.length * M
  | [], _ => by simp [usedL]
  | o :: r, h => by
    have h1 := h o (by simp)
    have h2 := usedL_le M r fun x hx => h x (by simp [hx])
    have e : usedL (o :: r) = o.2.size + usedL r := by simp [usedL]
    rw [e, List.length_cons, Nat.succ_mul]
    omega

/-! ### Few -/
/-- What the walks need of blobs ahead of knowing that they may be. -/
structure FewIs (b : Blb) : Prop where
  objs : b.objs.length ≤ 100
  data : ∀ o ∈ b.objs, o.2.size ≤ 5000
theorem FewIs.used {b : Blb} (h : FewIs b) (k : Nat) : usedL (b.objs.take k) ≤ 500000 := by
  have h1 := usedL_le 5000 (b.objs.take k) fun o ho => h.data o (List.mem_of_mem_take ho)
  have h2 := h.objs
  have h3 : (b.objs.take k).length ≤ 100 := by rw [List.length_take]; omega
  have h4 := Nat.mul_le_mul_right 5000 h3
  omega

end Go.Proofs.YtodjhmphneoifaaGreatDoor
