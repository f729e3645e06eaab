/-
  Values of a text as trees; what lies in memory reads as a tree. Conditions: none.
-/
import Derived.Test.YtgkapipiegfmhaaDoorChecked
import Derived.Below
import Derived.RowKit
import Derived.Deep.Fields
import Derived.ChangeArms
import Derived.ChangeSame
import Derived.DataReads
import Derived.WideShapes
import Derived.OpenShut
namespace Go.Proofs.YtgkapipiegfmhaaDoor
open Go.ChangeShapes Go.WideShapes Go.RowKit Go.Deep

/-- A value of a text: kind, number, word, items, names. -/
inductive Val where
  | mk (kind n : Int) (s : ByteArray) (items : List Val) (names : List ByteArray)
def Val.kind : Val → Int | .mk k _ _ _ _ => k
def Val.num : Val → Int | .mk _ n _ _ _ => n
def Val.word : Val → ByteArray | .mk _ _ s _ _ => s
def Val.items : Val → List Val | .mk _ _ _ l _ => l
def Val.names : Val → List ByteArray | .mk _ _ _ _ l => l

/-- The value v is a slice that reads as the strings ss (where there is none, wherever it points). -/
def StrsAt (w : World) (v : Value) (ss : List ByteArray) : Prop :=
  (ss = [] ∧ (v = .slice none 0 0 ∨ ∃ a cap, v = .slice (some a) 0 cap ∧ cap ≤ maxLen)) ∨
  ∃ b o cap, v = .slice (some ⟨b, o, none⟩) ss.length cap ∧ 0 < ss.length ∧ ss.length ≤ cap ∧ cap ≤ maxLen ∧ ∀ i (h : i < ss.length), w.cell? ⟨b, o + i, none⟩ = some (.string ss[i])
theorem StrsAt.keep {w w' : World} {v : Value} {ss : List ByteArray} (h : StrsAt w v ss) (hb : Below w.heap.size w w') : StrsAt w' v ss := by
  rcases h with h | ⟨b, o, cap, h1, h2, h3, h4, h5⟩
  · exact Or.inl h
  · exact Or.inr ⟨b, o, cap, h1, h2, h3, h4, fun i hi => (hb.cell (World.block_lt_of_cell? _ _ (h5 i hi))).trans (h5 i hi)⟩

/-- A row of n values of five cells each, which are ev 0, ev 1, .. -/
def Fives (w : World) (iv : Value) (n : Nat) (ev : Nat → Value) : Prop :=
  (n = 0 ∧ (iv = .slice none 0 0 ∨ ∃ a cap, iv = .slice (some a) 0 cap ∧ cap ≤ maxLen)) ∨
  ∃ b o cap, iv = .slice (some ⟨b, o, none⟩) n cap ∧ 0 < n ∧ n ≤ cap ∧ cap ≤ maxLen ∧
    ∀ i, i < n → ∃ c0 c1 c2 c3 c4, ev i = .agg #[c0, c1, c2, c3, c4] ∧ w.cell? ⟨b, o + i * 5, none⟩ = some c0 ∧ w.cell? ⟨b, o + i * 5 + 1, none⟩ = some c1 ∧ w.cell? ⟨b, o + i * 5 + 2, none⟩ = some c2 ∧ w.cell? ⟨b, o + i * 5 + 3, none⟩ = some c3 ∧ w.cell? ⟨b, o + i * 5 + 4, none⟩ = some c4
theorem Fives.keep {w w' : World} {iv : Value} {n : Nat} {ev : Nat → Value} (h : Fives w iv n ev) (hb : Below w.heap.size w w') : Fives w' iv n ev := by
  rcases h with h | ⟨b, o, cap, h1, h2, h3, h4, h5⟩
  · exact Or.inl h
  · refine Or.inr ⟨b, o, cap, h1, h2, h3, h4, fun i hi => ?_⟩
    obtain ⟨c0, c1, c2, c3, c4, e, k0, k1, k2, k3, k4⟩ := h5 i hi
    have k : ∀ {p : Addr} {v : Value}, w.cell? p = some v → w'.cell? p = some v := fun hc => (hb.cell (World.block_lt_of_cell? _ _ hc)).trans hc
    exact ⟨c0, c1, c2, c3, c4, e, k k0, k k1, k k2, k k3, k k4⟩

/-- The value v reads as the tree T. -/
inductive IsVal (w : World) : Value → Val → Prop where
  | mk (kind n : Int) (s : ByteArray) (iv nv : Value) (items : List Val) (names : List ByteArray) (ev : Nat → Value)
      (hk : -9223372036854775808 ≤ kind ∧ kind ≤ 9223372036854775807) (hn : -9223372036854775808 ≤ n ∧ n ≤ 9223372036854775807) (hs : s.size ≤ maxLen)
      (hN : StrsAt w nv names) (hz : ∀ x ∈ names, x.size ≤ maxLen) (hI : Fives w iv items.length ev)
      (hsub : ∀ (i : Nat) (h : i < items.length), IsVal w (ev i) items[i]) :
      IsVal w (.agg #[.int .i64 kind, .int .i64 n, .string s, iv, nv]) (.mk kind n s items names)
theorem IsVal.keep {w w' : World} (hb : Below w.heap.size w w') : ∀ {v : Value} {T : Val}, IsVal w v T → IsVal w' v T := by
  intro v T h
  induction h with
  | mk kind n s iv nv items names ev hk hn hs hN hz hI _ ih => exact .mk kind n s iv nv items names ev hk hn hs (hN.keep hb) hz (hI.keep hb) ih

/-! ### What comes in -/
theorem exists_list {α : Type} {P : Nat → α → Prop} : ∀ n : Nat, (∀ i, i < n → ∃ x, P i x) → ∃ l : List α, l.length = n ∧ ∀ (i : Nat) (h : i < l.length), P i l[i]
  | 0, _ => ⟨[], rfl, fun i h => absurd h (Nat.not_lt_zero _)⟩
  | n + 1, h => by
    obtain ⟨l, hl, hp⟩ := exists_list n fun i hi => h i (by omega)
    obtain ⟨x, hx⟩ := h n (by omega)
    refine ⟨l ++ [x], by simp [hl], fun i hi => ?_⟩
    by_cases e : i < l.length
    · rw [List.getElem_append_left e]; exact hp i e
    · have : i = n := by simp [hl] at hi; omega
      subst this
      rw [List.getElem_append_right (by omega)]
      simpa [hl] using hx
theorem valFields : ∃ f0 f1 f2 f3 f4 : Field, Tryd.prog.underlying 25 = some (.struct #[f0, f1, f2, f3, f4]) ∧ f0.type = 3 ∧ f1.type = 3 ∧ f2.type = 9 ∧ f3.type = 22 ∧ f4.type = 23 ∧ oneCellFields Tryd.prog #[f0, f1, f2, f3, f4] = true :=
  ⟨_, _, _, _, _, Tryd.underlying25, rfl, rfl, rfl, rfl, rfl, by kernel_rfl⟩
theorem valCells : Tryd.prog.cellsOf 25 = 5 := by kernel_rfl

theorem five_list {α : Type} {l : List α} (h : l.length = 5) : ∃ a b c d e, l = [a, b, c, d, e] := by
  match l, h with
  | [a, b, c, d, e], _ => exact ⟨a, b, c, d, e, rfl⟩

/-- A slice that was read: its elements' cells, one by one. -/
theorem slice_cells {H : Type} {enc : TypeId × Value → H} {W : World} {fuel m : Nat} {t e : TypeId} {v : Value} {x : DataW H × List MemPlace} (ht : Tryd.prog.underlying t = some (.slice e)) (hm : Tryd.prog.cellsOf e = m) (hm0 : 0 < m)
    (h : DataW.trod enc Tryd.prog W 0 (fun _ => true) true fuel t [v] = some x) :
    (v = .slice none 0 0 ∨ ∃ a cap, v = .slice (some a) 0 cap ∧ cap ≤ maxLen) ∨
    ∃ (b o len cap : Nat), v = .slice (some ⟨b, o, none⟩) len cap ∧ 0 < len ∧ len ≤ cap ∧ cap ≤ maxLen ∧
      ∀ i, i < len → ∃ (cs : List Value) (n : Nat) (y : DataW H × List MemPlace), n < fuel ∧ cs.length = m ∧ (∀ j, j < m → W.cell? ⟨b, o + (i * m + j), none⟩ = cs[j]?) ∧ DataW.trod enc Tryd.prog W 0 (fun _ => true) true n e cs = some y := by
  rcases DataW.trod_slice ht h with ⟨h1, -⟩ | ⟨a, len, cap, elems, rest, n, hf, h1, -, -, hl, hc, hel, hat, -, -⟩
  · exact Or.inl (Or.inl (by simpa using h1))
  · have hv : v = .slice (some a) len cap := by simpa using h1
    subst hv
    rw [hm] at hat
    cases len with
    | zero => exact Or.inl (Or.inr ⟨a, cap, rfl, hc⟩)
    | succ len =>
      have hread : ∀ i, i < len + 1 → ∃ (cs : List Value) (y : DataW H × List MemPlace), W.cells? 0 (a.add (i * m)) m = some cs ∧ DataW.trod enc Tryd.prog W 0 (fun _ => true) true n e cs = some y := fun i hi => by
        have h2 := hat i hi
        have h3 : elems[i]? = some (elems[i]'(by omega)) := List.getElem?_eq_getElem (by omega)
        rw [h3, Option.bind_eq_some_iff] at h2
        obtain ⟨cs, h4, h5⟩ := h2
        exact ⟨cs, _, h4, h5⟩
      obtain ⟨b, o, sp⟩ := a
      have hsp : sp = none := by
        obtain ⟨cs, y, h4, -⟩ := hread 0 (by omega)
        obtain ⟨-, hcl, hca⟩ := World.cells?_some h4
        have h5 := hca 0 hm0
        rw [List.getElem?_eq_getElem (by omega)] at h5
        cases sp with
        | none => rfl
        | some q =>
          exfalso
          rw [Nat.zero_mul] at h5
          unfold Addr.add at h5
          simp only [if_true] at h5
          unfold World.cell? at h5
          split at h5 <;> simp at h5
      subst hsp
      refine Or.inr ⟨b, o, len + 1, cap, rfl, by omega, hl, hc, fun i hi => ?_⟩
      obtain ⟨cs, y, h4, h5⟩ := hread i hi
      obtain ⟨-, hcl, hca⟩ := World.cells?_some h4
      refine ⟨cs, n, y, by omega, hcl, fun j hj => ?_, h5⟩
      have := hca j hj
      rw [add_plain, add_plain, Nat.add_assoc] at this
      exact this

theorem open_val {H : Type} {enc : TypeId × Value → H} {W : World} : ∀ (fuel : Nat) (cs : List Value) (x : DataW H × List MemPlace),
    DataW.trod enc Tryd.prog W 0 (fun _ => true) true fuel 25 cs = some x → ∃ T, IsVal W (.agg cs.toArray) T := by
  intro fuel
  induction fuel using Nat.strongRecOn with
  | _ fuel ih =>
    intro cs x h
    obtain ⟨f0, f1, f2, f3, f4, hu, t0, t1, t2, t3, t4, hone⟩ := valFields
    obtain ⟨xs, n, hn, -, hlen, hxl, hg⟩ := DataW.trod_struct hu h
    rw [valCells] at hlen
    obtain ⟨c0, c1, c2, c3, c4, rfl⟩ := five_list hlen
    obtain ⟨o0, k0⟩ := hone_of hone 0 f0 rfl
    obtain ⟨o1, k1⟩ := hone_of hone 1 f1 rfl
    obtain ⟨o2, k2⟩ := hone_of hone 2 f2 rfl
    obtain ⟨o3, k3⟩ := hone_of hone 3 f3 rfl
    obtain ⟨o4, k4⟩ := hone_of hone 4 f4 rfl
    have g0 := hg 0 f0 rfl
    have g1 := hg 1 f1 rfl
    have g2 := hg 2 f2 rfl
    have g3 := hg 3 f3 rfl
    have g4 := hg 4 f4 rfl
    obtain ⟨y0, y1, y2, y3, y4, rfl⟩ := five_list (show xs.length = 5 from hxl)
    rw [o0, k0, t0] at g0
    rw [o1, k1, t1] at g1
    rw [o2, k2, t2] at g2
    rw [o3, k3, t3] at g3
    rw [o4, k4, t4] at g4
    have g0 : DataW.trod enc Tryd.prog W 0 (fun _ => true) true n 3 [c0] = some y0 := g0
    have g1 : DataW.trod enc Tryd.prog W 0 (fun _ => true) true n 3 [c1] = some y1 := g1
    have g2 : DataW.trod enc Tryd.prog W 0 (fun _ => true) true n 9 [c2] = some y2 := g2
    have g3 : DataW.trod enc Tryd.prog W 0 (fun _ => true) true n 22 [c3] = some y3 := g3
    have g4 : DataW.trod enc Tryd.prog W 0 (fun _ => true) true n 23 [c4] = some y4 := g4
    obtain ⟨kind, e0, -, b0⟩ := DataW.trod_int Tryd.underlying3 g0
    obtain ⟨num, e1, -, b1⟩ := DataW.trod_int Tryd.underlying3 g1
    obtain ⟨s, e2, -, hs⟩ := DataW.trod_string Tryd.underlying9 g2
    obtain rfl : c0 = .int .i64 kind := by simpa using e0
    obtain rfl : c1 = .int .i64 num := by simpa using e1
    obtain rfl : c2 = .string s := by simpa using e2
    have hN : ∃ names, StrsAt W c4 names ∧ ∀ x ∈ names, x.size ≤ maxLen := by
      rcases slice_cells Tryd.underlying23 (show Tryd.prog.cellsOf 9 = 1 by kernel_rfl) (by decide) g4 with h | ⟨b, o, len, cap, rfl, h1, h2, h3, h4⟩
      · exact ⟨[], Or.inl ⟨rfl, h⟩, by simp⟩
      · obtain ⟨l, hl, hp⟩ := exists_list (P := fun i (x : ByteArray) => W.cell? ⟨b, o + i, none⟩ = some (.string x) ∧ x.size ≤ maxLen) len fun i hi => by
          obtain ⟨cs, n', y, -, hcl, hca, hr⟩ := h4 i hi
          obtain ⟨x, rfl, -, hx⟩ := DataW.trod_string Tryd.underlying9 hr
          have := hca 0 (by decide)
          simp only [Nat.mul_one, Nat.add_zero] at this
          exact ⟨x, by rw [this]; rfl, hx⟩
        refine ⟨l, Or.inr ⟨b, o, cap, by rw [hl], by omega, by omega, h3, fun i hi => (hp i hi).1⟩, fun x hx => ?_⟩
        obtain ⟨i, hi, rfl⟩ := List.getElem_of_mem hx
        exact (hp i hi).2
    obtain ⟨names, hN, hz⟩ := hN
    have hI : ∃ (items : List Val) (ev : Nat → Value), Fives W c3 items.length ev ∧ ∀ (i : Nat) (h : i < items.length), IsVal W (ev i) items[i] := by
      rcases slice_cells Tryd.underlying22 valCells (by decide) g3 with h | ⟨b, o, len, cap, rfl, h1, h2, h3, h4⟩
      · exact ⟨[], fun _ => undef, Or.inl ⟨rfl, h⟩, fun i h => absurd h (Nat.not_lt_zero _)⟩
      · obtain ⟨l, hl, hp⟩ := exists_list (P := fun i (p : Value × Val) => (∃ a0 a1 a2 a3 a4, p.1 = .agg #[a0, a1, a2, a3, a4] ∧ W.cell? ⟨b, o + i * 5, none⟩ = some a0 ∧ W.cell? ⟨b, o + i * 5 + 1, none⟩ = some a1 ∧ W.cell? ⟨b, o + i * 5 + 2, none⟩ = some a2 ∧ W.cell? ⟨b, o + i * 5 + 3, none⟩ = some a3 ∧ W.cell? ⟨b, o + i * 5 + 4, none⟩ = some a4) ∧ IsVal W p.1 p.2) len fun i hi => by
          obtain ⟨cs, n', y, hn', hcl, hca, hr⟩ := h4 i hi
          obtain ⟨T, hT⟩ := ih n' (by omega) cs y hr
          obtain ⟨a0, a1, a2, a3, a4, rfl⟩ := five_list hcl
          exact ⟨(.agg #[a0, a1, a2, a3, a4], T), ⟨a0, a1, a2, a3, a4, rfl, hca 0 (by decide), hca 1 (by decide), hca 2 (by decide), hca 3 (by decide), hca 4 (by decide)⟩, hT⟩
        refine ⟨l.map (·.2), fun i => if h : i < l.length then (l[i]).1 else undef, Or.inr ⟨b, o, cap, by rw [List.length_map, hl], by rw [List.length_map]; omega, by rw [List.length_map]; omega, h3, fun i hi => ?_⟩, fun i hi => ?_⟩
        · rw [List.length_map] at hi
          simp only [dif_pos hi]
          exact (hp i hi).1
        · rw [List.length_map] at hi
          simp only [dif_pos hi, List.getElem_map]
          exact (hp i hi).2
    obtain ⟨items, ev, hI, hsub⟩ := hI
    exact ⟨.mk kind num s items names, .mk kind num s c3 c4 items names ev (bounds_i64 b0) (bounds_i64 b1) hs hN hz hI hsub⟩
end Go.Proofs.YtgkapipiegfmhaaDoor
