/-
  The laws' own 'few': a value of few items, not too deep. Conditions: what comes in reads as a tree.
-/
import Derived.Test.YtlhnefeeihghgaaDoorParse3
namespace Go.Proofs.YtlhnefeeihghgaaDoor
open Go.RowKit

/-- A value cut to few items, at most so deep. -/
def fewV : Nat → Val → Val
  | 0, .mk k n s _ ns => .mk k n (s.extract 0 (min s.size 210)) [] (ns.take 18)
  | d + 1, .mk k n s l ns => .mk k n (s.extract 0 (min s.size 210)) ((l.take 18).map (fewV d)) (ns.take 18)
theorem IsVal.inside {w : World} : ∀ {v : Value} {T : Val}, IsVal w v T → ValIn (fun b => b < w.heap.size) w v T := by
  intro v T h
  induction h with
  | mk kind n s iv nv items names ev hk hn hs hN hz hI _ ih =>
    refine .mk kind n s iv nv items names ev hk hn hs hN (fun h0 => ?_) hz hI (fun h0 => ?_) ih
    · rcases hN with ⟨rfl, _⟩ | ⟨b, o, cap, rfl, h1, h2, h3, h4⟩
      · simp at h0
      · exact ⟨b, o, _, cap, rfl, World.block_lt_of_cell? _ _ (h4 0 h1)⟩
    · rcases hI with ⟨h1, _⟩ | ⟨b, o, cap, rfl, h1, h2, h3, h4⟩
      · omega
      · obtain ⟨c0, c1, c2, c3, c4, e, k0, _⟩ := h4 0 h1
        exact ⟨b, o, _, cap, rfl, World.block_lt_of_cell? _ _ k0⟩
theorem StrsAt.take {w : World} {a : Option Addr} {n cap : Nat} {ss : List ByteArray} (h : StrsAt w (.slice a n cap) ss) (m : Nat) (q : Nat) (hq : (ss.take m).length = q) : StrsAt w (.slice a q cap) (ss.take m) := by
  rcases h with ⟨rfl, h⟩ | ⟨b, o, c, e, h1, h2, h3, h4⟩
  · obtain rfl : q = 0 := by rw [← hq]; simp
    refine Or.inl ⟨by simp, ?_⟩
    rcases h with h | ⟨a', c', h, hc⟩
    · simp only [Value.slice.injEq] at h
      obtain ⟨rfl, -, rfl⟩ := h
      exact Or.inl rfl
    · simp only [Value.slice.injEq] at h
      obtain ⟨rfl, -, rfl⟩ := h
      exact Or.inr ⟨_, _, rfl, hc⟩
  · simp only [Value.slice.injEq] at e
    obtain ⟨rfl, rfl, rfl⟩ := e
    by_cases h0 : q = 0
    · subst h0
      exact Or.inl ⟨List.length_eq_zero_iff.1 hq, Or.inr ⟨_, _, rfl, h3⟩⟩
    · have hl : q ≤ ss.length := by rw [← hq, List.length_take]; omega
      refine Or.inr ⟨b, o, cap, by rw [hq], by omega, by omega, h3, fun i hi => ?_⟩
      rw [List.getElem_take]
      exact h4 i (by rw [hq] at hi; omega)
theorem Fives.low {w : World} {a : Option Addr} {n cap : Nat} {ev : Nat → Value} (h : Fives w (.slice a n cap) n ev) : n ≤ cap ∧ cap ≤ maxLen := by
  rcases h with ⟨rfl, h | ⟨a', c', h, hc⟩⟩ | ⟨b, o, c, e, h1, h2, h3, _⟩
  · simp only [Value.slice.injEq] at h; exact ⟨Nat.zero_le _, by rw [h.2.2]; unfold maxLen; omega⟩
  · simp only [Value.slice.injEq] at h; exact ⟨Nat.zero_le _, by rw [h.2.2]; exact hc⟩
  · simp only [Value.slice.injEq] at e; exact ⟨by omega, by rw [e.2.2]; exact h3⟩
theorem StrsAt.low {w : World} {a : Option Addr} {n cap : Nat} {ss : List ByteArray} (h : StrsAt w (.slice a n cap) ss) : n ≤ cap ∧ cap ≤ maxLen := by
  rcases h with ⟨rfl, h | ⟨a', c', h, hc⟩⟩ | ⟨b, o, c, e, h1, h2, h3, _⟩
  · simp only [Value.slice.injEq] at h; exact ⟨by rw [h.2.1]; exact Nat.zero_le _, by rw [h.2.2]; unfold maxLen; omega⟩
  · simp only [Value.slice.injEq] at h; exact ⟨by rw [h.2.1]; exact Nat.zero_le _, by rw [h.2.2]; exact hc⟩
  · simp only [Value.slice.injEq] at e; exact ⟨by omega, by rw [e.2.2]; exact h3⟩

/-- The slice hv owns the cells xs: the values ts, which lie in blocks below N, or from base on and in another one. -/
structure RowG (N base : Nat) (w : World) (hv : Value) (ts : List Val) (xs : List Value) : Prop where
  own : w.ownsRow base 25 5 hv ts.length xs
  sub : ∀ (i : Nat) (h : i < ts.length), ∃ c0 c1 c2 c3 c4, FiveAt xs i c0 c1 c2 c3 c4 ∧ ValIn (fun b => b < N ∨ (base ≤ b ∧ some b ≠ hv.ownBlock)) w (.agg #[c0, c1, c2, c3, c4]) ts[i]
theorem RowG.start (N base : Nat) (w : World) : RowG N base w (.slice none 0 0) [] [] := ⟨World.ownsRow_nil _ _ _ _, fun i h => absurd h (by simp)⟩
theorem RowG.keep {N base : Nat} {w w' : World} {hv : Value} {ts : List Val} {xs : List Value} (h : RowG N base w hv ts xs) (hg : ∀ k, k < w.heap.size → (k < N ∨ base ≤ k) → w'.heap[k]? = w.heap[k]?) : RowG N base w' hv ts xs := by
  refine ⟨?_, fun i hi => ?_⟩
  · obtain ⟨h1, h2⟩ := h.own
    refine ⟨h1, ?_⟩
    rcases h2 with h2 | ⟨g, cap, cur, e, hb, hc, r⟩
    · exact Or.inl h2
    · exact Or.inr ⟨g, cap, cur, e, hb, (hg g (Array.getElem?_eq_some_iff.1 hc).1 (Or.inr hb)).trans hc, r⟩
  · obtain ⟨c0, c1, c2, c3, c4, hf, hv⟩ := h.sub i hi
    exact ⟨c0, c1, c2, c3, c4, hf, hv.keep fun b hS hlt => ⟨hg b hlt (hS.imp id And.left), hS⟩⟩
theorem RowG.push {N base n1 : Nat} {w2 w4 : World} {hv : Value} {ts : List Val} {xs : List Value} {g cap : Nat} {c0 c1 c2 c3 c4 : Value} {T : Val} (h : RowG N base w2 hv ts xs) (hN : N ≤ base) (hn1 : base ≤ n1)
    (hold : ∀ k, hv.ownBlock = some k → k < n1) (hT : ValIn (fun b => b < N ∨ n1 ≤ b) w2 (.agg #[c0, c1, c2, c3, c4]) T)
    (hown : w4.ownsRow base 25 5 (.slice (some ⟨g, 0, none⟩) (ts.length + 1) cap) (ts.length + 1) (xs ++ [c0, c1, c2, c3, c4])) (hgb : base ≤ g)
    (hat : hv.ownBlock = some g ∨ w2.heap.size ≤ g) (hb : ∀ k, (k < N ∨ base ≤ k) → k < w2.heap.size → k ≠ g → some k ≠ hv.ownBlock → w4.heap[k]? = w2.heap[k]?) :
    RowG N base w4 (.slice (some ⟨g, 0, none⟩) (ts.length + 1) cap) (ts ++ [T]) (xs ++ [c0, c1, c2, c3, c4]) := by
  have hob : ∀ k, hv.ownBlock = some k → base ≤ k ∧ k < w2.heap.size := h.own.lt
  have hx := h.own.1
  refine ⟨by rw [List.length_append]; exact hown, fun i hi => ?_⟩
  by_cases hlt : i < ts.length
  · obtain ⟨d0, d1, d2, d3, d4, hf, hd⟩ := h.sub i hlt
    rw [List.getElem_append_left hlt]
    refine ⟨d0, d1, d2, d3, d4, hf.left, hd.keep fun b hS hl => ?_⟩
    have hbg : b ≠ g := fun e => by
      rcases hS with hS | hS
      · omega
      · rcases hat with h | h
        · exact hS.2 (by rw [h, e])
        · omega
    have hbo : some b ≠ hv.ownBlock := fun e => by
      rcases hS with hS | hS
      · have := (hob b e.symm).1; omega
      · exact hS.2 e
    exact ⟨hb b (hS.imp id And.left) hl hbg hbo, hS.imp id fun h => ⟨h.1, by show some b ≠ some g; exact fun e => hbg (Option.some.inj e)⟩⟩
  · obtain rfl : i = ts.length := by simp at hi; omega
    refine ⟨c0, c1, c2, c3, c4, FiveAt.last xs ts.length hx .., ?_⟩
    rw [List.getElem_append_right (Nat.le_refl _)]
    simp only [Nat.sub_self, List.getElem_cons_zero]
    refine hT.keep fun b hS hl => ?_
    have hbo : some b ≠ hv.ownBlock := fun e => by
      have h1 := hold b e.symm
      have h2 := (hob b e.symm).1
      rcases hS with hS | hS <;> omega
    have hbg : b ≠ g := fun e => by
      rcases hat with h | h
      · exact hbo (by rw [h, e])
      · omega
    have hS' : b < N ∨ base ≤ b := hS.imp id fun h => Nat.le_trans hn1 h
    exact ⟨hb b hS' hl hbg hbo, hS'.imp id fun h => ⟨h, by show some b ≠ some g; exact fun e => hbg (Option.some.inj e)⟩⟩
theorem RowG.fives {N base : Nat} {w : World} {hv : Value} {ts : List Val} {xs : List Value} (h : RowG N base w hv ts xs) :
    ∃ ev, Fives w hv ts.length ev ∧ InS (fun b => b < N ∨ base ≤ b) hv ts.length ∧ ∀ (i : Nat) (hi : i < ts.length), ValIn (fun b => b < N ∨ base ≤ b) w (ev i) ts[i] := by
  refine ⟨fun i => .agg #[xs.getD (i * 5) undef, xs.getD (i * 5 + 1) undef, xs.getD (i * 5 + 2) undef, xs.getD (i * 5 + 3) undef, xs.getD (i * 5 + 4) undef], ?_, ?_, ?_⟩
  · obtain ⟨hl, h2⟩ := h.own
    rcases h2 with ⟨rfl, h0⟩ | ⟨g, cap, cur, rfl, hb, hc, h3, h4, h5, h6⟩
    · exact Or.inl ⟨h0, Or.inl rfl⟩
    · by_cases h0 : ts.length = 0
      · exact Or.inl ⟨h0, Or.inr ⟨⟨g, 0, none⟩, cap, by rw [h0], h4⟩⟩
      · refine Or.inr ⟨g, 0, cap, rfl, by omega, h3, h4, fun i hi => ?_⟩
        have k : ∀ j, j < 5 → w.cell? ⟨g, 0 + i * 5 + j, none⟩ = some (xs.getD (i * 5 + j) undef) := fun j hj => by
          have := h.own.cellAt (i * 5 + j) (by omega)
          rw [show 0 + i * 5 + j = i * 5 + j by omega, this, List.getD_eq_getElem?_getD, List.getElem?_eq_getElem (by omega)]
          rfl
        exact ⟨_, _, _, _, _, rfl, k 0 (by omega), k 1 (by omega), k 2 (by omega), k 3 (by omega), k 4 (by omega)⟩
  · intro h0
    obtain ⟨hl, h2⟩ := h.own
    rcases h2 with ⟨rfl, h1⟩ | ⟨g, cap, cur, rfl, hb, _⟩
    · omega
    · exact ⟨g, 0, _, cap, rfl, Or.inr hb⟩
  · intro i hi
    obtain ⟨c0, c1, c2, c3, c4, ⟨f0, f1, f2, f3, f4⟩, hv⟩ := h.sub i hi
    have e : ∀ {j : Nat} {u : Value}, xs[j]? = some u → xs.getD j undef = u := fun {j u} h => by rw [List.getD_eq_getElem?_getD, h]; rfl
    show ValIn _ w (.agg #[xs.getD (i * 5) undef, xs.getD (i * 5 + 1) undef, xs.getD (i * 5 + 2) undef, xs.getD (i * 5 + 3) undef, xs.getD (i * 5 + 4) undef]) _
    rw [e f0, e f1, e f2, e f3, e f4]
    exact hv.keep fun b hS _ => ⟨rfl, hS.imp id And.left⟩
/-- The state of the loop of 'few'. -/
structure StF (N : Nat) (k n : Int) (s' : ByteArray) (nv : Value) (w0 : World) (ts : List Val) (w : World) : Prop where
  below : Below w0.heap.size w0 w
  size : w0.heap.size + 2 ≤ w.heap.size
  zero : At5 w (w0.heap.size + 1) (.int .i64 0) (.int .i64 0) (.string ⟨#[]⟩) (.slice none 0 0) (.slice none 0 0)
  row : ∃ hv xs, At5 w w0.heap.size (.int .i64 k) (.int .i64 n) (.string s') hv nv ∧ RowG N (w0.heap.size + 2) w hv ts xs
theorem StF.next {N : Nat} {k n : Int} {s' : ByteArray} {nv : Value} {w0 : World} {ts : List Val} {w w' : World} (h : StF N k n s' nv w0 ts w) (hb : Below w.heap.size w w') : StF N k n s' nv w0 ts w' := by
  obtain ⟨hv, xs, h5, hr⟩ := h.row
  have hs := h.size
  exact ⟨h.below.trans (hb.mono (by omega)), Nat.le_trans h.size hb.size, (hb.block _ (by omega)).trans h.zero, hv, xs, h5.keep hb, hr.keep fun k hk _ => hb.block k hk⟩
/-- One item more: w1 is behind the item's copy, w2 behind the call, w3 behind the append. -/
theorem few_done {N : Nat} {k n : Int} {s' : ByteArray} {nv hv : Value} {w0 w w1 w2 w3 : World} {ts : List Val} {xs : List Value} {T : Val} {c0 c1 c2 c3 c4 : Value} {g cap m : Nat} {o : Obj} (hN : N ≤ w0.heap.size) (h : StF N k n s' nv w0 ts w)
    (h5 : At5 w w0.heap.size (.int .i64 k) (.int .i64 n) (.string s') hv nv) (hr : RowG N (w0.heap.size + 2) w hv ts xs) (hm : ts.length = m) (hb1 : Below w.heap.size w w1) (hb2 : Below w1.heap.size w1 w2)
    (hT : ValIn (fun b => b < N ∨ w1.heap.size ≤ b) w2 (.agg #[c0, c1, c2, c3, c4]) T)
    (hown : w3.ownsRow (w0.heap.size + 2) 25 5 (.slice (some ⟨g, 0, none⟩) (m + 1) cap) (m + 1) (xs ++ [c0, c1, c2, c3, c4])) (hg3 : (w2.alloc o).grownBy w3 hv.ownBlock) (hat : hv.ownBlock = some g ∨ g = w2.heap.size + 1) :
    StF N k n s' nv w0 (ts ++ [T]) (w3.setCell ⟨w0.heap.size, 3, none⟩ (.slice (some ⟨g, 0, none⟩) (m + 1) cap)) := by
  have hb : Below w.heap.size w w2 := hb1.trans (hb2.mono hb1.size)
  have hst := h.next hb
  have h52 := h5.keep hb
  have hr2 : RowG N (w0.heap.size + 2) w2 hv ts xs := hr.keep fun k hk _ => hb.block k hk
  have hob : ∀ k, hv.ownBlock = some k → w0.heap.size + 2 ≤ k ∧ k < w.heap.size := hr.own.lt
  have hgb : w0.heap.size + 2 ≤ g := by
    rcases hat with h | h
    · exact (hob g h).1
    · have := hst.size; omega
  have h3 : ∀ k, k < w2.heap.size → some k ≠ hv.ownBlock → w3.heap[k]? = w2.heap[k]? := fun k hk h2 => (hg3.block k (by simp; omega) h2).trans (Below.heap_alloc _ _ _ hk)
  have hs3 : w2.heap.size ≤ w3.heap.size := Nat.le_trans (by simp) hg3.size
  have hno : ∀ k, k < w0.heap.size + 2 → some k ≠ hv.ownBlock := fun k hk e => by have := (hob k e.symm).1; omega
  have hsz := hst.size
  subst hm
  refine ⟨⟨hg3.os.trans hst.below.os, hg3.tape.trans hst.below.tape, hg3.output.trans hst.below.output, ?_, fun k hk => ?_⟩, ?_, ?_, _, xs ++ [c0, c1, c2, c3, c4], At5.set3 ((h3 _ (by omega) (hno _ (by omega))).trans h52) _, ?_⟩
  · rw [setCell_size]; exact Nat.le_trans hst.below.size hs3
  · rw [Below.heap_setCell _ _ _ _ (by show k ≠ w0.heap.size; omega), h3 k (by omega) (hno k (by omega))]
    exact hst.below.block k hk
  · rw [setCell_size]; omega
  · refine (Below.heap_setCell _ _ _ _ (by show w0.heap.size + 1 ≠ w0.heap.size; omega)).trans ?_
    exact (h3 _ (by omega) (hno _ (by omega))).trans hst.zero
  · have hw1 : w0.heap.size + 2 ≤ w1.heap.size := by have := h.size; have := hb1.size; omega
    refine RowG.push (n1 := w1.heap.size) hr2 (by omega) hw1 (fun k e => by have := (hob k e).2; have := hb1.size; omega) hT (own_far hown _ 3 (by omega) _) hgb ?_ fun k h0 hk h1 h2 => ?_
    · rcases hat with h | h
      · exact Or.inl h
      · exact Or.inr (by omega)
    · rw [Below.heap_setCell _ _ _ _ (by show k ≠ w0.heap.size; omega)]
      exact h3 k hk h2

/-- How 'few' ends. -/
structure FewEnds (N d : Nat) (T : Val) (w : World) (e : Ending) (w' : World) : Prop where
  below : Below w.heap.size w w'
  is : ∃ v, e = .returned v ∧ ValIn (fun b => b < N ∨ w.heap.size ≤ b) w' v (fewV d T)
theorem grown_frozen {w2 w3 : World} {V : Nat} {a b c d e : Value} {o : Obj} {row : Option Nat} (hg : (w2.alloc o).grownBy w3 row) (h : At5 w2 V a b c d e) (hne : some V ≠ row) : w3.frozen? ⟨V, 3, none⟩ = false := by
  have e := (hg.block V (by have := h.lt; simp; omega) hne).trans ((Below.heap_alloc _ _ _ h.lt).trans h)
  simp [World.frozen?, e]
theorem few_fin {N : Nat} {k n : Int} {s' : ByteArray} {nv hv : Value} {names : List ByteArray} {w0 w : World} {ts : List Val} {xs : List Value} (hN : N ≤ w0.heap.size) (h : StF N k n s' nv w0 ts w) (hr : RowG N (w0.heap.size + 2) w hv ts xs)
    (hk : -9223372036854775808 ≤ k ∧ k ≤ 9223372036854775807) (hn : -9223372036854775808 ≤ n ∧ n ≤ 9223372036854775807) (hs : s'.size ≤ maxLen) (hS : StrsAt w0 nv names) (hIn : InS (fun b => b < N) nv names.length) (hz : ∀ x ∈ names, x.size ≤ maxLen) :
    Below w0.heap.size w0 (set5 w (w0.heap.size + 1) 0 (.int .i64 k) (.int .i64 n) (.string s') hv nv) ∧ ValIn (fun b => b < N ∨ w0.heap.size ≤ b) (set5 w (w0.heap.size + 1) 0 (.int .i64 k) (.int .i64 n) (.string s') hv nv) (.agg #[.int .i64 k, .int .i64 n, .string s', hv, nv]) (.mk k n s' ts names) := by
  obtain ⟨s1, s2, s3⟩ := set5_rest w (w0.heap.size + 1) 0 (.int .i64 k) (.int .i64 n) (.string s') hv nv
  have hb := h.below
  refine ⟨⟨s1.trans hb.os, s2.trans hb.tape, s3.trans hb.output, by rw [set5_size]; exact hb.size, fun j hj => (set5_block _ _ _ _ _ _ _ _ j (by omega)).trans (hb.block j hj)⟩, ?_⟩
  obtain ⟨ev, hf5, hin, hsub⟩ := hr.fives
  have hv : ValIn (fun b => b < N ∨ w0.heap.size + 2 ≤ b) w (.agg #[.int .i64 k, .int .i64 n, .string s', hv, nv]) (.mk k n s' ts names) :=
    .mk k n s' hv nv ts names ev hk hn hs (hS.keep hb) (fun h0 => by obtain ⟨b, o, c, d, e, hlt⟩ := hIn h0; exact ⟨b, o, c, d, e, Or.inl hlt⟩) hz hf5 hin hsub
  exact hv.keep fun b hS _ => ⟨set5_block _ _ _ _ _ _ _ _ b (by omega), hS.imp id fun h => by omega⟩

set_option maxRecDepth 100000 in
set_option maxHeartbeats 16000000 in
theorem few_step (d : Nat) (dk : Int) (hd : d ≤ 100) (hdk : dk = d) (N : Nat) (T : Val) (v : Value) (w : World) (hN : N ≤ w.heap.size) (hv : ValIn (fun b => b < N) w v T)
    (IH : d = 0 ∨ ∃ d', d = d' + 1 ∧ ∀ (T : Val) (v : Value) (w : World), N ≤ w.heap.size → ValIn (fun b => b < N) w v T → Calls Tryd.prog 13 #[v, .int .i64 (dk - 1)] w (FewEnds N d' T w)) :
    Calls Tryd.prog 13 #[v, .int .i64 dk] w fun e w' => FewEnds N d T w e w' := by
  cases hv with
  | mk k n s iv nv items names ev hk hn hs hS hSN hz hI hIN hsub =>
  obtain ⟨na, nc, rfl, hnc⟩ := hS.shape
  obtain ⟨ia, ic, rfl, hic, hil⟩ := hI.shape
  obtain ⟨nn, hnn⟩ : ∃ x, names.length = x := ⟨_, rfl⟩
  obtain ⟨li, hli⟩ : ∃ x, items.length = x := ⟨_, rfl⟩
  have hlo1 := hI.low
  have hlo2 := hS.low
  rw [hnn] at hS hlo2 ⊢
  rw [hli] at hI hil hlo1 ⊢
  obtain ⟨p, hp⟩ : ∃ p, min li 18 = p := ⟨_, rfl⟩
  obtain ⟨q, hq⟩ : ∃ q, min nn 18 = q := ⟨_, rfl⟩
  obtain ⟨r, hr⟩ : ∃ r, min s.size 210 = r := ⟨_, rfl⟩
  have hpi : min (li : Int) 18 = (p : Int) := by omega
  have hqi : min (nn : Int) 18 = (q : Int) := by omega
  have hri : min (s.size : Int) 210 = (r : Int) := by omega
  have hpm : max (p : Int) 0 = (p : Int) := by omega
  have hpc : (p : Int) ≤ (ic : Int) := by omega
  have hqc : (q : Int) ≤ (nc : Int) := by omega
  have hrs : (r : Int) ≤ (s.size : Int) := by omega
  have hp0 : (0 : Int) ≤ (p : Int) := by omega
  have hq0 : (0 : Int) ≤ (q : Int) := by omega
  have hr0 : (0 : Int) ≤ (r : Int) := by omega
  have HTQ := Lib.hid (show (names.take 18).length = q by rw [List.length_take]; omega)
  have HTP := Lib.hid (show (items.take 18).length = p by rw [List.length_take]; omega)
  have HSX := Lib.hid (show (s.extract 0 r).size ≤ maxLen by rw [ByteArray.size_extract]; omega)
  have HST := Lib.hid (show StF N k n (s.extract 0 r) (.slice na q nc) w [] ((w.alloc (.cells #[.int .i64 k, .int .i64 n, .string (s.extract 0 r), .slice none 0 0, .slice na q nc] 25)).alloc (.cells #[.int .i64 0, .int .i64 0, .string ⟨#[]⟩, .slice none 0 0, .slice none 0 0] 25)) from by
    have hq1 : ∀ o, (w.alloc o).heap.size = w.heap.size + 1 := fun o => by simp
    refine ⟨((Below.refl _ _).alloc (Nat.le_refl _) _).alloc (by simp) _, by simp, ?_, .slice none 0 0, [], (Below.heap_alloc _ _ _ (by rw [hq1]; omega)).trans (At5.new w _ _ _ _ _), RowG.start _ _ _⟩
    have e := At5.new (w.alloc (.cells #[.int .i64 k, .int .i64 n, .string (s.extract 0 r), .slice none 0 0, .slice na q nc] 25)) (.int .i64 0) (.int .i64 0) (.string ⟨#[]⟩) (.slice none 0 0) (.slice none 0 0)
    rw [hq1] at e
    exact e)
  have HSN := Lib.hid (hS.take 18 q (by rw [List.length_take]; omega))
  have HIN := Lib.hid (show InS (fun b => b < N) (.slice na q nc) (names.take 18).length from fun h0 => by
    obtain ⟨b, o, c', cc, e, hlt⟩ := hSN (by rw [List.length_take] at h0; omega)
    simp only [Value.slice.injEq] at e
    exact ⟨b, o, q, nc, by rw [e.1], hlt⟩)
  have HZ := Lib.hid (show ∀ x ∈ names.take 18, x.size ≤ maxLen from fun x hx => hz x (List.mem_of_mem_take hx))
  have HFV := Lib.hid (show fewV d (.mk k n s items names) = .mk k n (s.extract 0 r) (if d = 0 then [] else (items.take 18).map (fewV (d - 1))) (names.take 18) by
    rw [← hr]
    cases d with
    | zero => rw [fewV]; rfl
    | succ d => rw [fewV, if_neg (by omega)]; rfl)
  have HK := Lib.hid hk
  have HNN := Lib.hid hn
  have HN := Lib.hid hN
  have HS := Lib.hid hsub
  have HIH := Lib.hid IH
  have HLI := Lib.hid hli
  have HPL := Lib.hid (show p ≤ li ∧ p ≤ 18 by omega)
  unfold maxLen at hs hil hnc hic
  have hdl : dk ≤ 100 := by omega
  have hdg : (0 ≤ dk) := by omega
  have HDK := Lib.hid hdk
  have HD := Lib.hid hd
  clear hk hn hN hsub IH hli hnn hS hSN hz hIN hlo1 hlo2 hp hq hr hdk hd
  rcases hI with ⟨h0, -⟩ | ⟨pb, po, cap, he, -, -, -, hcs⟩
  · have HP0 := Lib.hid (show p = 0 by have := HPL.out; omega)
    clear h0
    go_enter Tryd.func13, Tryd.ntmps13
    go_wp2_with fail
    go_loopw [34] (fun iv wr => ∃ j : Nat, j ≤ p ∧ iv = .int .i64 j ∧ StF N k n (s.extract 0 r) (.slice na q nc) w (if d = 0 then [] else ((items.take 18).take j).map (fewV (d - 1))) wr) (fun i _ => p - (intOf i).toNat)
    case atStart => exact ⟨0, Nat.zero_le _, rfl, by have := HST.out; by_cases h : d = 0 <;> simpa [h] using this⟩
    case round =>
      obtain ⟨j, hj, rfl, hst⟩ := hrel
      have HT := Lib.hid hst
      have hlt : ¬ j < p := by have := HP0.out; omega
      have HJ := Lib.hid (show j = p by omega)
      obtain ⟨hv, xs, h5, hrow⟩ := hst.row
      obtain ⟨ha, hc, hhv⟩ : ∃ ha hc, hv = .slice ha (if d = 0 then [] else ((items.take 18).take j).map (fewV (d - 1))).length hc := by
        rcases hrow.own.2 with ⟨e, h0⟩ | ⟨g, cap, cur, e, -⟩
        · exact ⟨none, 0, by rw [e, h0]⟩
        · exact ⟨_, _, e⟩
      obtain ⟨m, hm⟩ : ∃ m, (if d = 0 then [] else ((items.take 18).take j).map (fewV (d - 1))).length = m := ⟨_, rfl⟩
      rw [hm] at hhv
      subst hhv
      have HR := Lib.hid hrow
      have HZ5 := Lib.hid hst.zero
      obtain ⟨a0, a1, a2, a3, a4⟩ := h5.cells
      have hz5 := hst.zero
      obtain ⟨z0, z1, z2, z3, z4⟩ := hz5.cells
      have f0 := hz5.frozen 0
      have f1 := hz5.frozen 1
      have f2 := hz5.frozen 2
      have f3 := hz5.frozen 3
      have f4 := hz5.frozen 4
      clear hst hrow h5 hz5 hm
      go_wp2_with fail
      refine bodyPost_ret (results_cell_row (p := 4) rfl _ _ (w.heap.size + 1) 25 _ (0, 0) _ rfl (set5_five0 HZ5.out _ _ _ _ _) Tryd.underlying25 rfl valSize) rfl ?_
      obtain ⟨g1, g2⟩ := few_fin HN.out HT.out HR.out HK.out HNN.out HSX.out HSN.out HIN.out HZ.out
      refine ⟨g1, _, rfl, ?_⟩
      rw [HFV.out]
      have hp2 : (items.take 18).take j = items.take 18 := List.take_of_length_le (by rw [HTP.out, HJ.out]; exact Nat.le_refl _)
      rw [hp2] at g2
      exact g2
  · simp only [Value.slice.injEq] at he
    obtain ⟨rfl, -, rfl⟩ := he
    have HCS := Lib.hid hcs
    clear hcs
    go_enter Tryd.func13, Tryd.ntmps13
    go_wp2_with fail
    go_loopw [34] (fun iv wr => ∃ j : Nat, j ≤ p ∧ iv = .int .i64 j ∧ StF N k n (s.extract 0 r) (.slice na q nc) w (if d = 0 then [] else ((items.take 18).take j).map (fewV (d - 1))) wr) (fun i _ => p - (intOf i).toNat)
    case atStart => exact ⟨0, Nat.zero_le _, rfl, by have := HST.out; by_cases h : d = 0 <;> simpa [h] using this⟩
    case round =>
      obtain ⟨j, hj, rfl, hst⟩ := hrel
      have HT := Lib.hid hst
      by_cases hlt : j < p
      · have hjl : j < items.length := by have := HPL.out; have := HLI.out; omega
        have hpl := HPL.out
        obtain ⟨c0, c1, c2, c3, c4, hev, e0, e1, e2, e3, e4⟩ := HCS.out j (by omega)
        have kc : ∀ {p : Addr} {v : Value}, w.cell? p = some v → wr.cell? p = some v := fun h => hst.below.cell (World.block_lt_of_cell? _ _ h) |>.trans h
        have v0 := kc e0
        have v1 := kc e1
        have v2 := kc e2
        have v3 := kc e3
        have v4 := kc e4
        have hs1 := HS.out j hjl
        rw [hev] at hs1
        obtain ⟨xk, xn, xs', xia, xna, xli, xic, xnn, xnc, hsh⟩ := hs1.isVal.shape
        simp only [Value.agg.injEq, Array.mk.injEq, List.cons.injEq, and_true] at hsh
        obtain ⟨rfl, rfl, rfl, rfl, rfl⟩ := hsh
        have HB1 := Lib.hid (below_new wr (.cells #[.int .i64 xk, .int .i64 xn, .string xs', .slice xia xli xic, .slice xna xnn xnc] 25))
        by_cases hd0 : dk = 0
        · have hdn : ¬ 0 < dk := by omega
          have HN1 := Lib.hid (show StF N k n (s.extract 0 r) (.slice na q nc) w (if d = 0 then [] else ((items.take 18).take (j + 1)).map (fewV (d - 1))) (wr.alloc (.cells #[.int .i64 xk, .int .i64 xn, .string xs', .slice xia xli xic, .slice xna xnn xnc] 25)) from by
            have h0 : d = 0 := by have := HDK.out; omega
            have := hst.next HB1.out
            rw [if_pos h0] at this ⊢
            exact this)
          clear e0 e1 e2 e3 e4 hev hs1 kc hst hd0
          rcases Nat.eq_zero_or_pos j with rfl | hj0
          · have u0 : wr.cell? ⟨pb, po, none⟩ = some (.int .i64 xk) := by simpa using v0
            have u1 : wr.cell? ⟨pb, po + 1, none⟩ = some (.int .i64 xn) := by simpa using v1
            have u2 : wr.cell? ⟨pb, po + 2, none⟩ = some (.string xs') := by simpa using v2
            have u3 : wr.cell? ⟨pb, po + 3, none⟩ = some (.slice xia xli xic) := by simpa using v3
            have u4 : wr.cell? ⟨pb, po + 4, none⟩ = some (.slice xna xnn xnc) := by simpa using v4
            go_wp2_with fail
            go_roundw
            case rel => exact ⟨1, by omega, by go_num, HN1.out⟩
            case measure => simp [intOf]; omega
          · go_wp2_with fail
            go_roundw
            case rel => exact ⟨j + 1, by omega, by go_num, HN1.out⟩
            case measure => simp [intOf]; omega
        · have hdp : 0 < dk := by omega
          obtain ⟨d', rfl, IHd⟩ := HIH.out.resolve_left (fun h => hd0 (by have := HDK.out; omega))
          obtain ⟨hv, xs, h5, hrow⟩ := hst.row
          obtain ⟨ha, hc, hhv⟩ : ∃ ha hc, hv = .slice ha (if d' + 1 = 0 then [] else ((items.take 18).take j).map (fewV (d' + 1 - 1))).length hc := by
            rcases hrow.own.2 with ⟨e, h0⟩ | ⟨g, cap, cur, e, -⟩
            · exact ⟨none, 0, by rw [e, h0]⟩
            · exact ⟨_, _, e⟩
          obtain ⟨m, hm⟩ : ∃ m, (if d' + 1 = 0 then [] else ((items.take 18).take j).map (fewV (d' + 1 - 1))).length = m := ⟨_, rfl⟩
          have hm18 : m ≤ 18 := by rw [← hm, if_neg (by omega), List.length_map, List.length_take]; omega
          rw [hm] at hhv
          subst hhv
          have HM := Lib.hid hm
          have H5 := Lib.hid h5
          have HROW := Lib.hid hrow
          have HX := Lib.hid (show (wr.alloc (.cells #[.int .i64 xk, .int .i64 xn, .string xs', .slice xia xli xic, .slice xna xnn xnc] 25)).heap.size = wr.heap.size + 1 by simp)
          have hwr : IntKind.i64.wrap (dk - 1) = dk - 1 := by rw [IntKind.wrap_i64]; omega
          have CF := Lib.hid (show Calls Tryd.prog 13 #[.agg #[.int .i64 xk, .int .i64 xn, .string xs', .slice xia xli xic, .slice xna xnn xnc], .int .i64 (IntKind.i64.wrap (dk - 1))] (wr.alloc (.cells #[.int .i64 xk, .int .i64 xn, .string xs', .slice xia xli xic, .slice xna xnn xnc] 25)).drew fun e w2 =>
              ∃ (yk yn : Int) (ys : ByteArray) (yia yna : Option Addr) (yli yic ynn ync : Nat), e = .returned (.agg #[.int .i64 yk, .int .i64 yn, .string ys, .slice yia yli yic, .slice yna ynn ync]) ∧ Below wr.heap.size wr w2 ∧
                Below (wr.alloc (.cells #[.int .i64 xk, .int .i64 xn, .string xs', .slice xia xli xic, .slice xna xnn xnc] 25)).drew.heap.size (wr.alloc (.cells #[.int .i64 xk, .int .i64 xn, .string xs', .slice xia xli xic, .slice xna xnn xnc] 25)).drew w2 ∧
                ValIn (fun b => b < N ∨ (wr.alloc (.cells #[.int .i64 xk, .int .i64 xn, .string xs', .slice xia xli xic, .slice xna xnn xnc] 25)).drew.heap.size ≤ b) w2 (.agg #[.int .i64 yk, .int .i64 yn, .string ys, .slice yia yli yic, .slice yna ynn ync]) (fewV d' (items[j]'hjl)) from by
            rw [hwr]
            exact (IHd (items[j]'hjl) _ (wr.alloc (.cells #[.int .i64 xk, .int .i64 xn, .string xs', .slice xia xli xic, .slice xna xnn xnc] 25)).drew (Nat.le_trans HN.out (Nat.le_trans hst.below.size HB1.out.drew.size)) (hs1.keep fun b hS hl => ⟨(HB1.out.drew.block b (Nat.lt_of_lt_of_le hl hst.below.size)).trans (hst.below.block b hl), hS⟩)).mono fun e w2 h => by
              obtain ⟨v, rfl, hv⟩ := h.is
              obtain ⟨yk, yn, ys, yia, yna, yli, yic, ynn, ync, rfl⟩ := hv.isVal.shape
              exact ⟨yk, yn, ys, yia, yna, yli, yic, ynn, ync, rfl, HB1.out.drew.trans (h.below.mono (by show wr.heap.size ≤ (wr.alloc _).heap.size; simp)), h.below, hv⟩)
          obtain ⟨-, -, -, q3, -⟩ := h5.cells
          have q3a : ∀ o, (wr.alloc o).cell? ⟨w.heap.size, 3, none⟩ = some (.slice ha m hc) := fun o => ((below_new wr o).cell (World.block_lt_of_cell? _ _ q3)).trans q3
          obtain ⟨i0, hi, hz0, hz1, hz2⟩ := info_parts valInfo
          have hszw := hst.size
          have HTS := Lib.hid (show (if d' + 1 = 0 then [] else ((items.take 18).take (j + 1)).map (fewV (d' + 1 - 1))) = (if d' + 1 = 0 then [] else ((items.take 18).take j).map (fewV (d' + 1 - 1))) ++ [fewV d' (items[j]'hjl)] by
            rw [if_neg (by omega), if_neg (by omega), List.take_succ_eq_append_getElem (by rw [HTP.out]; exact hlt), List.map_append, List.getElem_take]; rfl)
          have HAN := Lib.hid (show ∀ w2, Below wr.heap.size wr w2 → w2.ownsRow (w.heap.size + 2) 25 5 (.slice ha m hc) m xs ∧ w2.cell? ⟨w.heap.size, 3, none⟩ = some (.slice ha m hc) ∧ w.heap.size + 2 ≤ w2.heap.size from fun w2 h =>
            ⟨by have := (hrow.keep (w' := w2) fun k hk _ => h.block k hk).own; rwa [hm] at this, (h.cell (World.block_lt_of_cell? _ _ q3)).trans q3, Nat.le_trans hszw h.size⟩)
          clear e0 e1 e2 e3 e4 hev hs1 kc hst hd0 h5 hrow hm IHd hwr
          rcases Nat.eq_zero_or_pos j with rfl | hj0
          · have u0 : wr.cell? ⟨pb, po, none⟩ = some (.int .i64 xk) := by simpa using v0
            have u1 : wr.cell? ⟨pb, po + 1, none⟩ = some (.int .i64 xn) := by simpa using v1
            have u2 : wr.cell? ⟨pb, po + 2, none⟩ = some (.string xs') := by simpa using v2
            have u3 : wr.cell? ⟨pb, po + 3, none⟩ = some (.slice xia xli xic) := by simpa using v3
            have u4 : wr.cell? ⟨pb, po + 4, none⟩ = some (.slice xna xnn xnc) := by simpa using v4
            go_wp2_with fail
            go_region_law (first
              | (go_simp; go_at_call 13; refine CF.out.mono ?_; rintro e w2 ⟨yk, yn, ys, yia, yna, yli, yic, ynn, ync, rfl, hbw, hbd, hY⟩; obtain ⟨hO2, c3v, hs2⟩ := HAN.out w2 hbw; have c3a : ∀ o, (w2.alloc o).cell? ⟨w.heap.size, 3, none⟩ = some (.slice ha m hc) := (fun o => ((below_new w2 o).cell (World.block_lt_of_cell? _ _ c3v)).trans c3v))
              | (refine step_append_lies _ (by rfl) (.tmp 41) (.tmp 46) 22 (by rfl) (w.heap.size + 2) 25 i0 _ 5 80 Tryd.underlying22 hi hz0 hz1 hz2 rfl (by decide) _ m xs (by rfl) (hO2.alloc _) ⟨w2.heap.size, 0, none⟩ 1 1 [.int .i64 yk, .int .i64 yn, .string ys, .slice yia yli yic, .slice yna ynn ync] (by rfl) (by rfl) (World.news_of_block (heap_alloc_new w2 _)) (by simp [Value.oneCell']) (by decide) (by unfold maxLen; omega) (by omega) (Nat.le_trans hs2 (below_new w2 _).size) (w2.heap.size + 1) (by simp) ?_; intro g3 c3 w3 hown3 hgrow3 hat3 hlt3; have u4' : w3.cell? ⟨w.heap.size, 3, none⟩ = some (.slice ha m hc) := hgrow3.cell (c3a _) (fun e => own_not hO2 (Nat.lt_add_of_pos_right (by decide)) e); have uf : w3.frozen? ⟨w.heap.size, 3, none⟩ = false := grown_frozen hgrow3 ((H5.out).keep hbw) (fun e => own_not hO2 (Nat.lt_add_of_pos_right (by decide)) e)))
            all_goals
              have HDONE := Lib.hid (few_done HN.out HT.out H5.out HROW.out HM.out HB1.out.drew hbd hY hown3 hgrow3 hat3)
              clear hown3 hgrow3 hat3 hlt3 u4' uf hY hbd hbw hO2 c3a c3v hs2 hi hz0 hz1 hz2 q3a
              go_wp2_with fail
              go_roundw
              case rel => exact ⟨1, by omega, by go_num, by have e := HDONE.out; rw [← HTS.out, if_neg (by omega)] at e; exact e⟩
              case measure => simp [intOf]; omega
          · go_wp2_with fail
            go_region_law (first
              | (go_simp; go_at_call 13; refine CF.out.mono ?_; rintro e w2 ⟨yk, yn, ys, yia, yna, yli, yic, ynn, ync, rfl, hbw, hbd, hY⟩; obtain ⟨hO2, c3v, hs2⟩ := HAN.out w2 hbw; have c3a : ∀ o, (w2.alloc o).cell? ⟨w.heap.size, 3, none⟩ = some (.slice ha m hc) := (fun o => ((below_new w2 o).cell (World.block_lt_of_cell? _ _ c3v)).trans c3v))
              | (refine step_append_lies _ (by rfl) (.tmp 41) (.tmp 46) 22 (by rfl) (w.heap.size + 2) 25 i0 _ 5 80 Tryd.underlying22 hi hz0 hz1 hz2 rfl (by decide) _ m xs (by rfl) (hO2.alloc _) ⟨w2.heap.size, 0, none⟩ 1 1 [.int .i64 yk, .int .i64 yn, .string ys, .slice yia yli yic, .slice yna ynn ync] (by rfl) (by rfl) (World.news_of_block (heap_alloc_new w2 _)) (by simp [Value.oneCell']) (by decide) (by unfold maxLen; omega) (by omega) (Nat.le_trans hs2 (below_new w2 _).size) (w2.heap.size + 1) (by simp) ?_; intro g3 c3 w3 hown3 hgrow3 hat3 hlt3; have u4' : w3.cell? ⟨w.heap.size, 3, none⟩ = some (.slice ha m hc) := hgrow3.cell (c3a _) (fun e => own_not hO2 (Nat.lt_add_of_pos_right (by decide)) e); have uf : w3.frozen? ⟨w.heap.size, 3, none⟩ = false := grown_frozen hgrow3 ((H5.out).keep hbw) (fun e => own_not hO2 (Nat.lt_add_of_pos_right (by decide)) e)))
            all_goals
              have HDONE := Lib.hid (few_done HN.out HT.out H5.out HROW.out HM.out HB1.out.drew hbd hY hown3 hgrow3 hat3)
              clear hown3 hgrow3 hat3 hlt3 u4' uf hY hbd hbw hO2 c3a c3v hs2 hi hz0 hz1 hz2 q3a
              go_wp2_with fail
              go_roundw
              case rel => exact ⟨j + 1, by omega, by go_num, by have e := HDONE.out; rw [← HTS.out, if_neg (by omega)] at e; exact e⟩
              case measure => simp [intOf]; omega
      · have HJ := Lib.hid (show j = p by omega)
        obtain ⟨hv, xs, h5, hrow⟩ := hst.row
        obtain ⟨ha, hc, hhv⟩ : ∃ ha hc, hv = .slice ha (if d = 0 then [] else ((items.take 18).take j).map (fewV (d - 1))).length hc := by
          rcases hrow.own.2 with ⟨e, h0⟩ | ⟨g, cap, cur, e, -⟩
          · exact ⟨none, 0, by rw [e, h0]⟩
          · exact ⟨_, _, e⟩
        obtain ⟨m, hm⟩ : ∃ m, (if d = 0 then [] else ((items.take 18).take j).map (fewV (d - 1))).length = m := ⟨_, rfl⟩
        rw [hm] at hhv
        subst hhv
        have HR := Lib.hid hrow
        have HZ5 := Lib.hid hst.zero
        obtain ⟨a0, a1, a2, a3, a4⟩ := h5.cells
        have hz5 := hst.zero
        obtain ⟨z0, z1, z2, z3, z4⟩ := hz5.cells
        have f0 := hz5.frozen 0
        have f1 := hz5.frozen 1
        have f2 := hz5.frozen 2
        have f3 := hz5.frozen 3
        have f4 := hz5.frozen 4
        clear hst hrow h5 hz5 hm
        go_wp2_with fail
        refine bodyPost_ret (results_cell_row (p := 4) rfl _ _ (w.heap.size + 1) 25 _ (0, 0) _ rfl (set5_five0 HZ5.out _ _ _ _ _) Tryd.underlying25 rfl valSize) rfl ?_
        obtain ⟨g1, g2⟩ := few_fin HN.out HT.out HR.out HK.out HNN.out HSX.out HSN.out HIN.out HZ.out
        refine ⟨g1, _, rfl, ?_⟩
        rw [HFV.out]
        have hp2 : (items.take 18).take j = items.take 18 := List.take_of_length_le (by rw [HTP.out, HJ.out]; exact Nat.le_refl _)
        rw [hp2] at g2
        exact g2
end Go.Proofs.YtlhnefeeihghgaaDoor
