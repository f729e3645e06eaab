/-
  Rows of words that a call makes: begun, kept, read, grown by one; what an append takes, nil or not. Conditions: none.
-/
import Derived.Test.YtepcaglekgeamaaGreatDoorYMan0
import Derived.Test.YtepcaglekgeamaaGreatDoorYOct1
import Derived.OwnWalk
import Derived.Laws.AppendOwnNone
import Derived.Laws.AppendOwn
import Derived.Deep.AppendLies
namespace Go.Proofs.YtepcaglekgeamaaGreatDoor
open Go.RowKit Go.WideShapes

structure OwnS (w : World) (B : Nat) (v : Value) (n : Nat) (l : List ByteArray) : Prop where
  len : l.length = n
  own : w.ownsRow B 9 1 v n (l.map Value.string)

theorem OwnS.nil (w : World) (B : Nat) : OwnS w B (.slice none 0 0) 0 [] := ⟨rfl, World.ownsRow_nil _ _ _ _⟩

theorem OwnS.lit {w : World} {B C : Nat} (l : List ByteArray) (n : Nat) (cs : Array Value) (hn : l.length = n) (hb : w.heap[C]? = some (.cells cs 9 (0, 0))) (hcs : cs.toList = l.map Value.string) (hB : B ≤ C) (hm : n ≤ maxLen) : OwnS w B (.slice (some ⟨C, 0, none⟩) n n) n l := by
  have hz : cs.size = n := by rw [← Array.length_toList, hcs, List.length_map, hn]
  refine ⟨hn, by rw [List.length_map, hn]; omega, Or.inr ⟨C, n, cs, rfl, hB, hb, Nat.le_refl _, hm, by rw [hz]; omega, ?_⟩⟩
  rw [hcs, List.take_of_length_le (by rw [List.length_map, hn]; omega)]

theorem OwnS.keep {w w' : World} {B : Nat} {v : Value} {n : Nat} {l : List ByteArray} (h : OwnS w B v n l) (hb : Below w.heap.size w w') : OwnS w' B v n l :=
  ⟨h.len, h.own.kept (row := none) ⟨hb.os, hb.tape, hb.output, hb.size, fun k hk _ => hb.block k hk⟩ (by cases v.ownBlock <;> simp)⟩

theorem OwnS.grown {w w' : World} {B : Nat} {v : Value} {n : Nat} {l : List ByteArray} {row : Option Nat} (h : OwnS w B v n l) (hg : w.grownBy w' row) (hne : v.ownBlock = none ∨ v.ownBlock ≠ row) : OwnS w' B v n l := ⟨h.len, h.own.kept hg hne⟩

theorem OwnS.base {w : World} {B B' : Nat} {v : Value} {n : Nat} {l : List ByteArray} (h : OwnS w B v n l) (hB : B' ≤ B) : OwnS w B' v n l := by
  refine ⟨h.len, h.own.1, ?_⟩
  rcases h.own.2 with h0 | ⟨g, cap, cur, h1, h2, h3⟩
  · exact Or.inl h0
  · exact Or.inr ⟨g, cap, cur, h1, Nat.le_trans hB h2, h3⟩

theorem OwnS.shape {w : World} {B : Nat} {v : Value} {n : Nat} {l : List ByteArray} (h : OwnS w B v n l) : ∃ a c, v = .slice a n c ∧ n ≤ c ∧ c ≤ maxLen := by
  rcases h.own.2 with ⟨rfl, rfl⟩ | ⟨g, cap, cur, rfl, h2, h3, h4, h5, -⟩
  · exact ⟨none, 0, rfl, Nat.le_refl _, by decide⟩
  · exact ⟨_, _, rfl, h4, h5⟩

theorem OwnS.strs {w : World} {B : Nat} {v : Value} {n : Nat} {l : List ByteArray} (h : OwnS w B v n l) : StrsAt w v l := by
  obtain ⟨hn, h⟩ := h
  subst hn
  rcases h.2 with ⟨rfl, h0⟩ | ⟨g, cap, cur, rfl, hb, hg, h1, h2, h3, h4⟩
  · exact Or.inl ⟨List.length_eq_zero_iff.1 h0, Or.inl rfl⟩
  · rcases Nat.eq_zero_or_pos l.length with h0 | hp
    · refine Or.inl ⟨List.length_eq_zero_iff.1 h0, Or.inr ⟨_, cap, by rw [h0], h2⟩⟩
    · refine Or.inr ⟨g, 0, cap, rfl, hp, h1, h2, fun i hi => ?_⟩
      have k1 := h.cells (g := g) rfl i (.string l[i]) (by simp [hi])
      rw [add_plain] at k1
      exact k1

theorem OwnS.lt {w : World} {B : Nat} {v : Value} {n : Nat} {l : List ByteArray} (h : OwnS w B v n l) : ∀ k, v.ownBlock = some k → B ≤ k ∧ k < w.heap.size := h.own.lt

theorem wpList_push (w : World) {ops : Array Oper} {rest : List Oper} {o : Oper} {a : Act} {Q : Exit → Act → World → Prop} (hgd : o.guard = none) (s x : Operand)
    (ho : o.op = .call { callee := .builtin .append, args := #[s, x], argTypes := #[27, 27] })
    (B : Nat) (v : Value) (n : Nat) (l : List ByteArray) (hs : a.eval s = v) (hown : OwnS w B v n l) (p : ByteArray) (C : Nat) (hx : a.eval x = .slice (some ⟨C, 0, none⟩) 1 1) (hC : w.heap[C]? = some (.cells #[.string p] 9 (0, 0)))
    (hn : n < 1099511627776) (hB : B ≤ w.heap.size) (H : Nat) (hH : w.heap.size = H)
    (h : ∀ g cap w', OwnS w' B (.slice (some ⟨g, 0, none⟩) (n + 1) cap) (n + 1) (l ++ [p]) → w.grownBy w' v.ownBlock → (v.ownBlock = some g ∨ g = H) → g < w'.heap.size → wpList Tryz.prog ops Q rest (a.put o.dst (.slice (some ⟨g, 0, none⟩) (n + 1) cap)) w') : wpList Tryz.prog ops Q (o :: rest) a w := by
  obtain ⟨i0, hi, hz0, hz1, hz2⟩ := info_parts infoStr
  refine wpList_append_lies w hgd s x 27 ho B 9 i0 (.string ⟨#[]⟩) 1 16 Tryz.underlying27 hi hz0 hz1 hz2 rfl (by decide) v n (l.map Value.string) hs hown.own ⟨C, 0, none⟩ 1 1 [.string p] hx rfl (World.news_of_block hC) (fun u hu => by rw [List.mem_singleton.1 hu]; rfl) (by decide) (by unfold maxLen; omega) (by omega) hB H hH fun g cap w' h1 h2 h3 h4 => ?_
  refine h g cap w' ⟨by rw [List.length_append, hown.len]; rfl, ?_⟩ h2 h3 h4
  rw [List.map_append]
  exact h1

theorem below_push {w w' : World} {B B' : Nat} {v : Value} {n : Nat} {l : List ByteArray} (h : OwnS w B v n l) (hg : w.grownBy w' v.ownBlock) (hB : B' ≤ B) (hw : B' ≤ w.heap.size) : Below B' w w' :=
  ⟨hg.os, hg.tape, hg.output, hg.size, fun k hk => hg.block k (by omega) fun e => by have := (h.lt k e.symm).1; omega⟩

def cellsL (l : List (Value × Value)) : List Value := l.flatMap fun p => [p.1, p.2]

theorem cellsL_cons (p : Value × Value) (l : List (Value × Value)) : cellsL (p :: l) = p.1 :: p.2 :: cellsL l := by simp [cellsL]

theorem cellsL_append (l l' : List (Value × Value)) : cellsL (l ++ l') = cellsL l ++ cellsL l' := by simp [cellsL]

theorem cellsL_length (l : List (Value × Value)) : (cellsL l).length = l.length * 2 := by
  induction l with
  | nil => rfl
  | cons p l ih => rw [cellsL_cons, List.length_cons, List.length_cons, List.length_cons, ih]; omega

theorem cellsL_at (l : List (Value × Value)) (i : Nat) (h : i < l.length) : (cellsL l)[i * 2]? = some l[i].1 ∧ (cellsL l)[i * 2 + 1]? = some l[i].2 := by
  induction l generalizing i with
  | nil => simp at h
  | cons p l ih =>
    rw [cellsL_cons]
    cases i with
    | zero => exact ⟨rfl, rfl⟩
    | succ i =>
      have := ih i (by simpa using h)
      rw [show (i + 1) * 2 = i * 2 + 1 + 1 by omega]
      simpa using this

def SrcOf (size : Nat) (w : World) (x : Value) (m : Nat) (news : List Value) : Prop :=
  (x = .slice none 0 0 ∧ news = [] ∧ m = 0) ∨ ∃ ad c, x = .slice (some ad) m c ∧ news.length = m * size ∧ ∀ j u, news[j]? = some u → w.cell? (ad.add j) = some u

theorem PairsAt.src {w : World} {v : Value} {l : List (Value × Value)} (h : PairsAt w v l) : SrcOf 2 w v l.length (cellsL l) := by
  rcases h with ⟨rfl, rfl | ⟨a, cap, rfl, -⟩⟩ | ⟨b, o, cap, rfl, -, -, -, h5⟩
  · exact Or.inl ⟨rfl, rfl, rfl⟩
  · exact Or.inr ⟨a, cap, rfl, rfl, fun j u hj => by simp [cellsL] at hj⟩
  · refine Or.inr ⟨_, _, rfl, cellsL_length l, fun j u hj => ?_⟩
    have hj' : j < l.length * 2 := by rw [← cellsL_length]; exact (List.getElem?_eq_some_iff.1 hj).1
    rw [add_plain]
    have h6 := h5 (j / 2) (by omega)
    have h7 := cellsL_at l (j / 2) (by omega)
    rcases Nat.mod_two_eq_zero_or_one j with e | e
    · have e2 : j / 2 * 2 = j := by omega
      rw [e2] at h6 h7
      rw [h7.1] at hj
      rw [h6.1, hj]
    · have e2 : j / 2 * 2 + 1 = j := by omega
      rw [Nat.add_assoc, e2] at h6
      rw [e2] at h7
      rw [h7.2] at hj
      rw [h6.2, hj]

theorem StrsAt.src {w : World} {v : Value} {l : List ByteArray} (h : StrsAt w v l) : SrcOf 1 w v l.length (l.map Value.string) := by
  rcases h with ⟨rfl, rfl | ⟨a, cap, rfl, -⟩⟩ | ⟨b, o, cap, rfl, -, -, -, h5⟩
  · exact Or.inl ⟨rfl, rfl, rfl⟩
  · exact Or.inr ⟨a, cap, rfl, rfl, fun j u hj => by simp at hj⟩
  · refine Or.inr ⟨_, _, rfl, by simp, fun j u hj => ?_⟩
    have hj' : j < l.length := by have := (List.getElem?_eq_some_iff.1 hj).1; simpa using this
    rw [add_plain, h5 j hj']
    simpa [hj'] using hj

theorem SrcOf.keep {size m : Nat} {w w' : World} {x : Value} {news : List Value} (h : SrcOf size w x m news) (hb : Below w.heap.size w w') : SrcOf size w' x m news := by
  rcases h with h | ⟨ad, c, h1, h2, h3⟩
  · exact Or.inl h
  · exact Or.inr ⟨ad, c, h1, h2, fun j u hj => (hb.cell (World.block_lt_of_cell? _ _ (h3 j u hj))).trans (h3 j u hj)⟩

theorem wpList_append_src {P : Program} (w : World) {ops : Array Oper} {rest : List Oper} {o : Oper} {a : Act} {Q : Exit → Act → World → Prop} (hgd : o.guard = none) (s x : Operand) (t : TypeId)
    (ho : o.op = .call { callee := .builtin .append, args := #[s, x], argTypes := #[t, t] })
    (base : Nat) (e : TypeId) (i : TypeInfo) (z : Value) (size bytes : Nat) (ht : P.underlying t = some (.slice e)) (hi : P.info? e = some i) (hz : i.zero = some z)
    (hsize : i.size = size) (hby : i.bytes = bytes) (hzs : z.cells.size = size) (hsz : 0 < size)
    (v : Value) (n : Nat) (xs : List Value) (hs : a.eval s = v) (hown : w.ownsRow base e size v n xs)
    (xv : Value) (m : Nat) (news : List Value) (hx : a.eval x = xv) (hsrc : SrcOf size w xv m news) (h1 : ∀ u ∈ news, u.oneCell' = true)
    (h63 : n + m ≤ maxLen) (hbytes : (n + m) * bytes ≤ 140737488355328) (hbase : base ≤ w.heap.size)
    (h : ∀ v' w', w'.ownsRow base e size v' (n + m) (xs ++ news) → w.grownBy w' v.ownBlock → wpList P ops Q rest (a.put o.dst v') w') : wpList P ops Q (o :: rest) a w := by
  rcases hsrc with ⟨rfl, rfl, rfl⟩ | ⟨ad, c, rfl, hl, hnews⟩
  · exact wpList_append_own_none hgd s x t ho base e i size ht hi v n xs hs hown hx (h v w (by simpa using hown) (World.grownBy.refl w _))
  · exact wpList_append_own w hgd s x t ho base e i z size bytes ht hi hz hsize hby hzs hsz v n xs hs hown ad m c news hx hl hnews h1 h63 hbytes hbase fun v' w' h2 h3 _ => h v' w' h2 h3

theorem PairsAt.of_own {w : World} {B n : Nat} {e : TypeId} {v : Value} {l : List (Value × Value)} (h : w.ownsRow B e 2 v n (cellsL l)) (hn : l.length = n) : PairsAt w v l := by
  subst hn
  rcases h.2 with ⟨rfl, h0⟩ | ⟨g, cap, cur, rfl, hb, hg, h1, h2, h3, h4⟩
  · exact Or.inl ⟨List.length_eq_zero_iff.1 h0, Or.inl rfl⟩
  · rcases Nat.eq_zero_or_pos l.length with h0 | hp
    · refine Or.inl ⟨List.length_eq_zero_iff.1 h0, Or.inr ⟨_, cap, by rw [h0], h2⟩⟩
    · refine Or.inr ⟨g, 0, cap, rfl, hp, h1, h2, fun i hi => ?_⟩
      have k1 := h.cells (g := g) rfl (i * 2) _ (cellsL_at l i hi).1
      have k2 := h.cells (g := g) rfl (i * 2 + 1) _ (cellsL_at l i hi).2
      rw [add_plain] at k1 k2
      rw [← Nat.add_assoc] at k2
      exact ⟨k1, k2⟩

theorem own_block {w w' : World} {base : Nat} {e : TypeId} {size n : Nat} {v : Value} {xs : List Value} (h : w.ownsRow base e size v n xs) (hb : ∀ g, v.ownBlock = some g → w'.heap[g]? = w.heap[g]?) : w'.ownsRow base e size v n xs := by
  refine ⟨h.1, ?_⟩
  rcases h.2 with h2 | ⟨g, cap, cur, rfl, hb2, hg, h3⟩
  · exact Or.inl h2
  · exact Or.inr ⟨g, cap, cur, rfl, hb2, by rw [hb g rfl]; exact hg, h3⟩

theorem own_keep {w w' : World} {base : Nat} {e : TypeId} {size n : Nat} {v : Value} {xs : List Value} (h : w.ownsRow base e size v n xs) (hb : Below w.heap.size w w') : w'.ownsRow base e size v n xs :=
  own_block h fun g hg => hb.block g (h.lt g hg).2

theorem own_base {w : World} {base base' : Nat} {e : TypeId} {size n : Nat} {v : Value} {xs : List Value} (h : w.ownsRow base e size v n xs) (hb : base' ≤ base) : w.ownsRow base' e size v n xs := by
  refine ⟨h.1, ?_⟩
  rcases h.2 with h2 | ⟨g, cap, cur, rfl, hb2, hg, h3⟩
  · exact Or.inl h2
  · exact Or.inr ⟨g, cap, cur, rfl, Nat.le_trans hb hb2, hg, h3⟩

theorem own_apart {w : World} {base base' : Nat} {e e' : TypeId} {size size' n n' : Nat} {v v' : Value} {xs xs' : List Value} (h : w.ownsRow base e size v n xs) (h' : w.ownsRow base' e' size' v' n' xs') (hne : e ≠ e') : ∀ g, v.ownBlock = some g → v'.ownBlock ≠ some g := by
  intro g hg hg'
  rcases h.2 with ⟨rfl, -⟩ | ⟨g1, c1, cur1, rfl, -, h1, -⟩
  · cases hg
  · rcases h'.2 with ⟨rfl, -⟩ | ⟨g2, c2, cur2, rfl, -, h2, -⟩
    · cases hg'
    · cases hg
      cases hg'
      rw [h1] at h2
      simp only [Option.some.injEq, Obj.cells.injEq] at h2
      exact hne h2.2.1

theorem own_grown {w w' : World} {base base' : Nat} {e e' : TypeId} {size size' n n' : Nat} {v v' : Value} {xs xs' : List Value} (h : w.ownsRow base e size v n xs) (h' : w.ownsRow base' e' size' v' n' xs') (hne : e ≠ e') (hg : w.grownBy w' v'.ownBlock) : w'.ownsRow base e size v n xs :=
  own_block h fun g hgv => hg.block g (h.lt g hgv).2 (fun e => own_apart h h' hne g hgv e.symm)

theorem below_own {w w' : World} {base B : Nat} {e : TypeId} {size n : Nat} {v : Value} {xs : List Value} (h : w.ownsRow base e size v n xs) (hg : w.grownBy w' v.ownBlock) (hB : B ≤ base) (hw : B ≤ w.heap.size) : Below B w w' :=
  ⟨hg.os, hg.tape, hg.output, hg.size, fun k hk => hg.block k (by omega) fun e => by have := (h.lt k e.symm).1; omega⟩

theorem own_set {w : World} {base : Nat} {e : TypeId} {size n g cap i : Nat} {xs : List Value} (h : w.ownsRow base e size (.slice (some ⟨g, 0, none⟩) n cap) n xs) (u : Value) : (w.setCell ⟨g, i, none⟩ u).ownsRow base e size (.slice (some ⟨g, 0, none⟩) n cap) n (xs.set i u) := by
  refine ⟨by rw [List.length_set]; exact h.1, ?_⟩
  rcases h.2 with ⟨h2, -⟩ | ⟨g', cap', cur, h1, hb, hg, h2, h3, h4, h5⟩
  · cases h2
  · simp only [Value.slice.injEq, Option.some.injEq, Addr.mk.injEq, and_true, true_and] at h1
    obtain ⟨rfl, rfl⟩ := h1
    refine Or.inr ⟨g, cap, cur.setIfInBounds i u, rfl, hb, heap_setCell_same w g i cur e u hg, h2, h3, by simpa using h4, ?_⟩
    rw [Array.toList_setIfInBounds, List.take_set, h5]

theorem own_shape {w : World} {base : Nat} {e : TypeId} {size n : Nat} {v : Value} {xs : List Value} (h : w.ownsRow base e size v n xs) : ∃ a c, v = .slice a n c ∧ n ≤ c ∧ c ≤ maxLen := by
  rcases h.2 with ⟨rfl, rfl⟩ | ⟨g, cap, cur, rfl, h2, h3, h4, h5, -⟩
  · exact ⟨none, 0, rfl, Nat.le_refl _, by decide⟩
  · exact ⟨_, _, rfl, h4, h5⟩

theorem own_some {w : World} {base n cap : Nat} {e : TypeId} {a : Option Addr} {size : Nat} {xs : List Value} (h : w.ownsRow base e size (.slice a n cap) n xs) (hn : 0 < n) : ∃ g, a = some ⟨g, 0, none⟩ ∧ base ≤ g ∧ g < w.heap.size := by
  rcases h.2 with ⟨e, h0⟩ | ⟨g', cap', cur, e, hb, hg, h1, h2, h3, h4⟩
  · omega
  · simp only [Value.slice.injEq, true_and] at e
    exact ⟨g', e.1, hb, (Array.getElem?_eq_some_iff.1 hg).1⟩

theorem own_cell {w : World} {base n cap g : Nat} {e : TypeId} {size : Nat} {xs : List Value} (h : w.ownsRow base e size (.slice (some ⟨g, 0, none⟩) n cap) n xs) {j : Nat} {u : Value} (hj : xs[j]? = some u) : w.cell? ⟨g, j, none⟩ = some u ∧ w.frozen? ⟨g, j, none⟩ = false := by
  have k1 := h.cells (g := g) rfl j u hj
  rw [add_plain, Nat.zero_add] at k1
  refine ⟨k1, ?_⟩
  rcases h.2 with ⟨e, -⟩ | ⟨g', cap', cur, e, -, hg, -⟩
  · cases e
  · simp only [Value.slice.injEq, Option.some.injEq, Addr.mk.injEq, and_true, true_and] at e
    obtain ⟨rfl, -⟩ := e
    simp [World.frozen?, hg]

theorem PairsAt.cut {w : World} {a : Option Addr} {n c : Nat} {l : List (Value × Value)} (h : PairsAt w (.slice a n c) l) (k : Nat) (hk : k ≤ l.length) : PairsAt w (.slice a k c) (l.take k) := by
  rcases h with ⟨rfl, e⟩ | ⟨b, o, cap, e, h2, h3, h4, h5⟩
  · obtain rfl : k = 0 := by simpa using hk
    refine Or.inl ⟨by simp, ?_⟩
    rcases e with e | ⟨a2, cap, e, hc⟩
    · simp only [Value.slice.injEq] at e
      exact Or.inl (by rw [e.1, e.2.2])
    · simp only [Value.slice.injEq] at e
      exact Or.inr ⟨a2, cap, by rw [e.1, e.2.2], hc⟩
  · simp only [Value.slice.injEq] at e
    obtain ⟨rfl, -, rfl⟩ := e
    have hl : (l.take k).length = k := by rw [List.length_take]; omega
    rcases Nat.eq_zero_or_pos k with rfl | hp
    · exact Or.inl ⟨by simp, Or.inr ⟨_, _, rfl, h4⟩⟩
    · refine Or.inr ⟨b, o, c, by rw [hl], by omega, by omega, h4, fun i hi => ?_⟩
      simp only [List.getElem_take]
      exact h5 i (by omega)

theorem StrsAt.cap {w : World} {v : Value} {l : List ByteArray} (h : StrsAt w v l) : ∃ a cap, v = .slice a l.length cap ∧ l.length ≤ cap ∧ cap ≤ maxLen := by
  rcases h with ⟨rfl, rfl | ⟨a, cap, rfl, hc⟩⟩ | ⟨b, o, cap, rfl, h2, h3, h4, -⟩
  · exact ⟨none, 0, rfl, Nat.le_refl _, by decide⟩
  · exact ⟨_, _, rfl, Nat.zero_le _, hc⟩
  · exact ⟨_, _, rfl, h3, h4⟩

theorem PairsAt.cap {w : World} {v : Value} {l : List (Value × Value)} (h : PairsAt w v l) : ∃ a cap, v = .slice a l.length cap ∧ l.length ≤ cap ∧ cap ≤ maxLen := by
  rcases h with ⟨rfl, rfl | ⟨a, cap, rfl, hc⟩⟩ | ⟨b, o, cap, rfl, h2, h3, h4, -⟩
  · exact ⟨none, 0, rfl, Nat.le_refl _, by decide⟩
  · exact ⟨_, _, rfl, Nat.zero_le _, hc⟩
  · exact ⟨_, _, rfl, h3, h4⟩

def turnL {α : Type} (f : α → α) (l : List α) (k : Nat) : List α := (l.take k).map f ++ l.drop k

theorem turnL_zero {α : Type} (f : α → α) (l : List α) : turnL f l 0 = l := by simp [turnL]

theorem turnL_all {α : Type} (f : α → α) (l : List α) (k : Nat) (h : l.length ≤ k) : turnL f l k = l.map f := by unfold turnL; rw [List.take_of_length_le h, List.drop_of_length_le h, List.append_nil]

theorem turnL_length {α : Type} (f : α → α) (l : List α) (k : Nat) : (turnL f l k).length = l.length := by
  unfold turnL
  rw [List.length_append, List.length_map, List.length_take, List.length_drop]
  omega

theorem turnL_at {α : Type} (f : α → α) (l : List α) (k : Nat) (h : k < l.length) : (turnL f l k)[k]'(by rw [turnL_length]; exact h) = l[k] := by
  unfold turnL
  rw [List.getElem_append_right (by rw [List.length_map, List.length_take]; omega)]
  simp [List.length_take, Nat.min_eq_left (Nat.le_of_lt h)]

theorem turnL_succ {α : Type} (f : α → α) (l : List α) (k : Nat) (h : k < l.length) : (turnL f l k).set k (f l[k]) = turnL f l (k + 1) := by
  unfold turnL
  rw [List.set_append_right _ _ (by rw [List.length_map, List.length_take]; omega), List.length_map, List.length_take, Nat.min_eq_left (Nat.le_of_lt h), Nat.sub_self, List.drop_eq_getElem_cons h, List.set_cons_zero, List.take_succ_eq_append_getElem h, List.map_append]
  simp
end Go.Proofs.YtepcaglekgeamaaGreatDoor
