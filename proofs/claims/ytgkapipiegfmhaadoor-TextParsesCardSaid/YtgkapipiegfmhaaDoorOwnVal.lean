/-
  Values that the reader makes: trees that lie in blocks of a set, and rows of them that are being made. Conditions: none.
-/
import Derived.Test.YtgkapipiegfmhaaDoorRd2
import Derived.Deep.AppendLies
namespace Go.Proofs.YtgkapipiegfmhaaDoor
open Go.RowKit

/-- A slice's block, where it has elements, is one of S. -/
def InS (S : Nat → Prop) (v : Value) (n : Nat) : Prop := 0 < n → ∃ b o k c, v = .slice (some ⟨b, o, none⟩) k c ∧ S b
/-- The value v reads as the tree T, in blocks of S. -/
inductive ValIn (S : Nat → Prop) (w : World) : Value → Val → Prop where
  | mk (kind n : Int) (s : ByteArray) (iv nv : Value) (items : List Val) (names : List ByteArray) (ev : Nat → Value)
      (hk : -9223372036854775808 ≤ kind ∧ kind ≤ 9223372036854775807) (hn : -9223372036854775808 ≤ n ∧ n ≤ 9223372036854775807) (hs : s.size ≤ maxLen)
      (hN : StrsAt w nv names) (hNS : InS S nv names.length) (hz : ∀ x ∈ names, x.size ≤ maxLen) (hI : Fives w iv items.length ev) (hIS : InS S iv items.length)
      (hsub : ∀ (i : Nat) (h : i < items.length), ValIn S w (ev i) items[i]) :
      ValIn S w (.agg #[.int .i64 kind, .int .i64 n, .string s, iv, nv]) (.mk kind n s items names)
theorem ValIn.isVal {S : Nat → Prop} {w : World} : ∀ {v : Value} {T : Val}, ValIn S w v T → IsVal w v T := by
  intro v T h
  induction h with
  | mk kind n s iv nv items names ev hk hn hs hN _ hz hI _ _ ih => exact .mk kind n s iv nv items names ev hk hn hs hN hz hI ih
theorem StrsAt.keepB {w w' : World} {v : Value} {ss : List ByteArray} (h : StrsAt w v ss) (hb : ∀ b o k c, v = .slice (some ⟨b, o, none⟩) k c → 0 < ss.length → b < w.heap.size → w'.heap[b]? = w.heap[b]?) : StrsAt w' v ss := by
  rcases h with h | ⟨b, o, cap, h1, h2, h3, h4, h5⟩
  · exact Or.inl h
  · refine Or.inr ⟨b, o, cap, h1, h2, h3, h4, fun i hi => ?_⟩
    exact (World.cell?_of_block (a := ⟨b, o + i, none⟩) (hb b o _ _ h1 h2 (World.block_lt_of_cell? _ _ (h5 i hi)))).trans (h5 i hi)
theorem Fives.keepB {w w' : World} {iv : Value} {n : Nat} {ev : Nat → Value} (h : Fives w iv n ev) (hb : ∀ b o k c, iv = .slice (some ⟨b, o, none⟩) k c → 0 < n → b < w.heap.size → w'.heap[b]? = w.heap[b]?) : Fives w' iv n ev := by
  rcases h with h | ⟨b, o, cap, h1, h2, h3, h4, h5⟩
  · exact Or.inl h
  · refine Or.inr ⟨b, o, cap, h1, h2, h3, h4, fun i hi => ?_⟩
    obtain ⟨c0, c1, c2, c3, c4, e, k0, k1, k2, k3, k4⟩ := h5 i hi
    have hbb := hb b o _ _ h1 h2 (World.block_lt_of_cell? _ _ k0)
    have k : ∀ {j : Nat} {v : Value}, w.cell? ⟨b, j, none⟩ = some v → w'.cell? ⟨b, j, none⟩ = some v := fun {j _} hc => (World.cell?_of_block (a := ⟨b, j, none⟩) hbb).trans hc
    exact ⟨c0, c1, c2, c3, c4, e, k k0, k k1, k k2, k k3, k k4⟩
theorem StrsAt.lt {w : World} {ss : List ByteArray} {b o k c : Nat} (h : StrsAt w (.slice (some ⟨b, o, none⟩) k c) ss) (h0 : 0 < ss.length) : b < w.heap.size := by
  rcases h with ⟨rfl, _⟩ | ⟨b', o', cap, h1, h2, h3, h4, h5⟩
  · simp at h0
  · simp only [Value.slice.injEq, Option.some.injEq, Addr.mk.injEq] at h1
    obtain ⟨⟨rfl, _⟩, _⟩ := h1
    exact World.block_lt_of_cell? _ _ (h5 0 h0)
theorem Fives.lt {w : World} {n : Nat} {ev : Nat → Value} {b o k c : Nat} (h : Fives w (.slice (some ⟨b, o, none⟩) k c) n ev) (h0 : 0 < n) : b < w.heap.size := by
  rcases h with ⟨rfl, _⟩ | ⟨b', o', cap, h1, h2, h3, h4, h5⟩
  · omega
  · simp only [Value.slice.injEq, Option.some.injEq, Addr.mk.injEq] at h1
    obtain ⟨⟨rfl, _⟩, _⟩ := h1
    obtain ⟨c0, c1, c2, c3, c4, e, k0, _⟩ := h5 0 h0
    exact World.block_lt_of_cell? _ _ k0
theorem ValIn.keep {S S' : Nat → Prop} {w w' : World} (hb : ∀ b, S b → b < w.heap.size → w'.heap[b]? = w.heap[b]? ∧ S' b) : ∀ {v : Value} {T : Val}, ValIn S w v T → ValIn S' w' v T := by
  intro v T h
  induction h with
  | mk kind n s iv nv items names ev hk hn hs hN hNS hz hI hIS _ ih =>
    refine .mk kind n s iv nv items names ev hk hn hs (hN.keepB ?_) ?_ hz (hI.keepB ?_) ?_ ih
    · intro b o k c e h0 hlt
      obtain ⟨b', o', k', c', e', hS⟩ := hNS h0
      rw [e'] at e
      simp only [Value.slice.injEq, Option.some.injEq, Addr.mk.injEq] at e
      obtain ⟨⟨rfl, _⟩, _⟩ := e
      exact (hb _ hS hlt).1
    · intro h0
      obtain ⟨b', o', k', c', rfl, hS⟩ := hNS h0
      exact ⟨b', o', k', c', rfl, (hb _ hS (hN.lt h0)).2⟩
    · intro b o k c e h0 hlt
      obtain ⟨b', o', k', c', e', hS⟩ := hIS h0
      rw [e'] at e
      simp only [Value.slice.injEq, Option.some.injEq, Addr.mk.injEq] at e
      obtain ⟨⟨rfl, _⟩, _⟩ := e
      exact (hb _ hS hlt).1
    · intro h0
      obtain ⟨b', o', k', c', rfl, hS⟩ := hIS h0
      exact ⟨b', o', k', c', rfl, (hb _ hS (hI.lt h0)).2⟩
theorem ValIn.plain (S : Nat → Prop) (w : World) (kind n : Int) (s : ByteArray) (hk : -9223372036854775808 ≤ kind ∧ kind ≤ 9223372036854775807) (hn : -9223372036854775808 ≤ n ∧ n ≤ 9223372036854775807) (hs : s.size ≤ maxLen) :
    ValIn S w (.agg #[.int .i64 kind, .int .i64 n, .string s, .slice none 0 0, .slice none 0 0]) (.mk kind n s [] []) :=
  .mk kind n s _ _ [] [] (fun _ => undef) hk hn hs (Or.inl ⟨rfl, Or.inl rfl⟩) (fun h => absurd h (by simp)) (by simp) (Or.inl ⟨rfl, Or.inl rfl⟩) (fun h => absurd h (by simp)) (fun i h => absurd h (by simp))

/-- Five cells of a row. -/
def FiveAt (xs : List Value) (i : Nat) (c0 c1 c2 c3 c4 : Value) : Prop := xs[i * 5]? = some c0 ∧ xs[i * 5 + 1]? = some c1 ∧ xs[i * 5 + 2]? = some c2 ∧ xs[i * 5 + 3]? = some c3 ∧ xs[i * 5 + 4]? = some c4
/-- The slice hv owns the cells xs: the values ts, which lie in other blocks from base on, and not in block nb. -/
structure RowOf (base : Nat) (w : World) (hv : Value) (nb : Option Nat) (ts : List Val) (xs : List Value) : Prop where
  own : w.ownsRow base 25 5 hv ts.length xs
  apart : ∀ k, hv.ownBlock = some k → nb ≠ some k
  sub : ∀ (i : Nat) (h : i < ts.length), ∃ c0 c1 c2 c3 c4, FiveAt xs i c0 c1 c2 c3 c4 ∧ ValIn (fun b => base ≤ b ∧ some b ≠ hv.ownBlock ∧ some b ≠ nb) w (.agg #[c0, c1, c2, c3, c4]) ts[i]
theorem RowOf.start (base : Nat) (w : World) (nb : Option Nat) : RowOf base w (.slice none 0 0) nb [] [] := ⟨World.ownsRow_nil _ _ _ _, (fun k h => by cases h), fun i h => absurd h (by simp)⟩
theorem RowOf.keep {base : Nat} {w w' : World} {hv : Value} {nb nb' : Option Nat} {ts : List Val} {xs : List Value} (h : RowOf base w hv nb ts xs) (hg : ∀ k, base ≤ k → k < w.heap.size → nb ≠ some k → w'.heap[k]? = w.heap[k]?) (hnb : nb' = nb ∨ ∀ k, nb' = some k → w.heap.size ≤ k) : RowOf base w' hv nb' ts xs := by
  refine ⟨?_, fun k hk e => ?_, fun i hi => ?_⟩
  · obtain ⟨h1, h2⟩ := h.own
    refine ⟨h1, ?_⟩
    rcases h2 with h2 | ⟨g, cap, cur, e, hb, hc, r⟩
    · exact Or.inl h2
    · exact Or.inr ⟨g, cap, cur, e, hb, (hg g hb (Array.getElem?_eq_some_iff.1 hc).1 (h.apart g (by rw [e]; rfl))).trans hc, r⟩
  · have hlt := (h.own.lt k hk).2
    rcases hnb with rfl | hnb
    · exact h.apart k hk e
    · have := hnb k e; omega
  · obtain ⟨c0, c1, c2, c3, c4, hf, hv⟩ := h.sub i hi
    refine ⟨c0, c1, c2, c3, c4, hf, hv.keep fun b hS hlt => ⟨hg b hS.1 hlt (fun e => hS.2.2 e.symm), hS.1, hS.2.1, fun e => ?_⟩⟩
    rcases hnb with rfl | hnb
    · exact hS.2.2 e
    · have := hnb b e.symm; omega
theorem FiveAt.left {xs ys : List Value} {i : Nat} {c0 c1 c2 c3 c4 : Value} (h : FiveAt xs i c0 c1 c2 c3 c4) : FiveAt (xs ++ ys) i c0 c1 c2 c3 c4 := by
  obtain ⟨h0, h1, h2, h3, h4⟩ := h
  have k : ∀ {j : Nat} {u : Value}, xs[j]? = some u → (xs ++ ys)[j]? = some u := fun {j u} h => by
    rw [List.getElem?_append_left (List.getElem?_eq_some_iff.1 h).1]; exact h
  exact ⟨k h0, k h1, k h2, k h3, k h4⟩
theorem FiveAt.last (xs : List Value) (n : Nat) (hx : xs.length = n * 5) (c0 c1 c2 c3 c4 : Value) : FiveAt (xs ++ [c0, c1, c2, c3, c4]) n c0 c1 c2 c3 c4 := by
  have k : ∀ j, (xs ++ [c0, c1, c2, c3, c4])[n * 5 + j]? = [c0, c1, c2, c3, c4][j]? := fun j => by
    rw [List.getElem?_append_right (by omega)]; congr 1; omega
  exact ⟨k 0, k 1, k 2, k 3, k 4⟩
/-- One value more: w2 is behind the value's making, w4 behind the append and the store. -/
theorem RowOf.push {base n0 : Nat} {w2 w4 : World} {hv : Value} {ts : List Val} {xs : List Value} {nb : Option Nat} {g cap : Nat} {c0 c1 c2 c3 c4 : Value} {T : Val} (h : RowOf base w2 hv nb ts xs) (hn0 : base ≤ n0) (hn2 : n0 ≤ w2.heap.size) (hnb : ∀ k, nb = some k → k < n0)
    (hold : ∀ k, hv.ownBlock = some k → k < n0) (hT : ValIn (fun b => n0 ≤ b) w2 (.agg #[c0, c1, c2, c3, c4]) T)
    (hown : w4.ownsRow base 25 5 (.slice (some ⟨g, 0, none⟩) (ts.length + 1) cap) (ts.length + 1) (xs ++ [c0, c1, c2, c3, c4]))
    (hat : hv.ownBlock = some g ∨ w2.heap.size ≤ g) (hb : ∀ k, base ≤ k → k < w2.heap.size → k ≠ g → some k ≠ hv.ownBlock → w4.heap[k]? = w2.heap[k]?) :
    RowOf base w4 (.slice (some ⟨g, 0, none⟩) (ts.length + 1) cap) nb (ts ++ [T]) (xs ++ [c0, c1, c2, c3, c4]) := by
  refine ⟨by rw [List.length_append]; exact hown, fun k hk e => ?_, fun i hi => ?_⟩
  · obtain rfl : g = k := Option.some.inj hk
    rcases hat with h1 | h1
    · exact h.apart g h1 e
    · have := hnb g e; omega
  have hx := h.own.1
  by_cases hlt : i < ts.length
  · obtain ⟨d0, d1, d2, d3, d4, hf, hd⟩ := h.sub i hlt
    rw [List.getElem_append_left hlt]
    refine ⟨d0, d1, d2, d3, d4, hf.left, hd.keep fun b hS hl => ?_⟩
    have hbg : b ≠ g := fun e => by
      rcases hat with h | h
      · exact hS.2.1 (by rw [h, e])
      · omega
    exact ⟨hb b hS.1 hl hbg hS.2.1, hS.1, by show some b ≠ some g; exact fun e => hbg (Option.some.inj e), hS.2.2⟩
  · obtain rfl : i = ts.length := by simp at hi; omega
    refine ⟨c0, c1, c2, c3, c4, FiveAt.last xs ts.length hx .., ?_⟩
    rw [List.getElem_append_right (Nat.le_refl _)]
    simp only [Nat.sub_self, List.getElem_cons_zero]
    refine hT.keep fun b hS hl => ?_
    have hbo : some b ≠ hv.ownBlock := fun e => by have := hold b e.symm; omega
    have hbg : b ≠ g := fun e => by
      rcases hat with h | h
      · exact hbo (by rw [h, e])
      · omega
    exact ⟨hb b (Nat.le_trans hn0 hS) hl hbg hbo, Nat.le_trans hn0 hS, by show some b ≠ some g; exact fun e => hbg (Option.some.inj e), fun e => by have := hnb b e.symm; omega⟩
/-- A row that is whole reads as a row of five cells each. -/
theorem RowOf.fives {base : Nat} {w : World} {hv : Value} {nb : Option Nat} {ts : List Val} {xs : List Value} (h : RowOf base w hv nb ts xs) :
    ∃ ev, Fives w hv ts.length ev ∧ InS (fun b => base ≤ b) hv ts.length ∧ ∀ (i : Nat) (hi : i < ts.length), ValIn (fun b => base ≤ b) w (ev i) ts[i] := by
  refine ⟨fun i => .agg #[xs.getD (i * 5) undef, xs.getD (i * 5 + 1) undef, xs.getD (i * 5 + 2) undef, xs.getD (i * 5 + 3) undef, xs.getD (i * 5 + 4) undef], ?_, ?_, ?_⟩
  · obtain ⟨hl, h2⟩ := h.own
    rcases h2 with ⟨rfl, h0⟩ | ⟨g, cap, cur, rfl, hb, hc, h3, h4, h5, h6⟩
    · exact Or.inl ⟨h0, Or.inl rfl⟩
    · by_cases h0 : ts.length = 0
      · exact Or.inl ⟨h0, Or.inr ⟨⟨g, 0, none⟩, cap, by rw [h0], h4⟩⟩
      · refine Or.inr ⟨g, 0, cap, rfl, by omega, h3, h4, fun i hi => ?_⟩
        have k : ∀ j, j < 5 → w.cell? ⟨g, 0 + i * 5 + j, none⟩ = some (xs.getD (i * 5 + j) undef) := fun j hj => by
          have := h.own.cellAt (i * 5 + j) (by omega)
          rw [show 0 + i * 5 + j = i * 5 + j by omega, this, List.getD_eq_getElem?_getD, List.getElem?_eq_getElem (by omega)]
          rfl
        exact ⟨_, _, _, _, _, rfl, k 0 (by omega), k 1 (by omega), k 2 (by omega), k 3 (by omega), k 4 (by omega)⟩
  · intro h0
    obtain ⟨hl, h2⟩ := h.own
    rcases h2 with ⟨rfl, h1⟩ | ⟨g, cap, cur, rfl, hb, _⟩
    · omega
    · exact ⟨g, 0, _, cap, rfl, hb⟩
  · intro i hi
    obtain ⟨c0, c1, c2, c3, c4, ⟨f0, f1, f2, f3, f4⟩, hv⟩ := h.sub i hi
    have e : ∀ {j : Nat} {u : Value}, xs[j]? = some u → xs.getD j undef = u := fun {j u} h => by rw [List.getD_eq_getElem?_getD, h]; rfl
    show ValIn _ w (.agg #[xs.getD (i * 5) undef, xs.getD (i * 5 + 1) undef, xs.getD (i * 5 + 2) undef, xs.getD (i * 5 + 3) undef, xs.getD (i * 5 + 4) undef]) _
    rw [e f0, e f1, e f2, e f3, e f4]
    exact hv.keep fun b hS _ => ⟨rfl, hS.1⟩
end Go.Proofs.YtgkapipiegfmhaaDoor
