/-
  Rows of strings and of writes that a call makes; what an append takes, nil or not; slices.Grow of nil and slices.Concat of two rows of writes, by contracts. Conditions: few writes.
-/
import Derived.Test.YtcjngaapiomkbaaPrgDskB
import Derived.OwnWalk
import Derived.Laws.AppendOwnNone
import Derived.Laws.AppendOwn
import Derived.Lib.AppendZeros
import Derived.Deep.OwnRows
namespace Go.Proofs.Ytcjngaapiomkbaa
open Go.RowKit Go.WideShapes

theorem infoStr : (Try.prog.info? 9).map (fun i => (i.zero, i.size, i.bytes)) = some (some (.string ⟨#[]⟩), 1, 16) := by kernel_rfl
theorem infoWrite : (Try.prog.info? 45).map (fun i => (i.zero, i.size, i.bytes)) = some (some (.agg #[.int .i64 0, .string ⟨#[]⟩]), 2, 24) := by kernel_rfl
theorem infoInt : (Try.prog.info? 3).map (fun i => (i.zero, i.size, i.bytes)) = some (some (.int .i64 0), 1, 8) := by kernel_rfl

/-! ### The cells of pairs -/
def cellsL (l : List (Value × Value)) : List Value := l.flatMap fun p => [p.1, p.2]
theorem cellsL_cons (p : Value × Value) (l : List (Value × Value)) : cellsL (p :: l) = p.1 :: p.2 :: cellsL l := by simp [cellsL]
theorem cellsL_append (l l' : List (Value × Value)) : cellsL (l ++ l') = cellsL l ++ cellsL l' := by simp [cellsL]
theorem cellsL_length (l : List (Value × Value)) : (cellsL l).length = l.length * 2 := by
  induction l with
  | nil => rfl
  | cons p l ih => rw [cellsL_cons, List.length_cons, List.length_cons, List.length_cons, ih]; omega
theorem cellsL_at (l : List (Value × Value)) (i : Nat) (h : i < l.length) : (cellsL l)[i * 2]? = some l[i].1 ∧ (cellsL l)[i * 2 + 1]? = some l[i].2 := by
  induction l generalizing i with
  | nil => simp at h
  | cons p l ih =>
    rw [cellsL_cons]
    cases i with
    | zero => exact ⟨rfl, rfl⟩
    | succ i =>
      have := ih i (by simpa using h)
      rw [show (i + 1) * 2 = i * 2 + 1 + 1 by omega]
      simpa using this

/-! ### What an append takes -/
def SrcOf (size : Nat) (w : World) (x : Value) (m : Nat) (news : List Value) : Prop :=
  (x = .slice none 0 0 ∧ news = [] ∧ m = 0) ∨ ∃ ad c, x = .slice (some ad) m c ∧ news.length = m * size ∧ ∀ j u, news[j]? = some u → w.cell? (ad.add j) = some u
theorem PairsAt.src {w : World} {v : Value} {l : List (Value × Value)} (h : PairsAt w v l) : SrcOf 2 w v l.length (cellsL l) := by
  rcases h with ⟨rfl, rfl | ⟨a, cap, rfl, -⟩⟩ | ⟨b, o, cap, rfl, -, -, -, h5⟩
  · exact Or.inl ⟨rfl, rfl, rfl⟩
  · exact Or.inr ⟨a, cap, rfl, rfl, fun j u hj => by simp [cellsL] at hj⟩
  · refine Or.inr ⟨_, _, rfl, cellsL_length l, fun j u hj => ?_⟩
    have hj' : j < l.length * 2 := by rw [← cellsL_length]; exact (List.getElem?_eq_some_iff.1 hj).1
    rw [add_plain]
    have h6 := h5 (j / 2) (by omega)
    have h7 := cellsL_at l (j / 2) (by omega)
    rcases Nat.mod_two_eq_zero_or_one j with e | e
    · have e2 : j / 2 * 2 = j := by omega
      rw [e2] at h6 h7
      rw [h7.1] at hj
      rw [h6.1, hj]
    · have e2 : j / 2 * 2 + 1 = j := by omega
      rw [Nat.add_assoc, e2] at h6
      rw [e2] at h7
      rw [h7.2] at hj
      rw [h6.2, hj]
theorem StrsAt.src {w : World} {v : Value} {l : List ByteArray} (h : StrsAt w v l) : SrcOf 1 w v l.length (l.map Value.string) := by
  rcases h with ⟨rfl, rfl | ⟨a, cap, rfl, -⟩⟩ | ⟨b, o, cap, rfl, -, -, -, h5⟩
  · exact Or.inl ⟨rfl, rfl, rfl⟩
  · exact Or.inr ⟨a, cap, rfl, rfl, fun j u hj => by simp at hj⟩
  · refine Or.inr ⟨_, _, rfl, by simp, fun j u hj => ?_⟩
    have hj' : j < l.length := by have := (List.getElem?_eq_some_iff.1 hj).1; simpa using this
    rw [add_plain, h5 j hj']
    simpa [hj'] using hj
theorem SrcOf.keep {size m : Nat} {w w' : World} {x : Value} {news : List Value} (h : SrcOf size w x m news) (hb : Below w.heap.size w w') : SrcOf size w' x m news := by
  rcases h with h | ⟨ad, c, h1, h2, h3⟩
  · exact Or.inl h
  · exact Or.inr ⟨ad, c, h1, h2, fun j u hj => (hb.cell (World.block_lt_of_cell? _ _ (h3 j u hj))).trans (h3 j u hj)⟩
theorem wpList_append_src {P : Program} (w : World) {ops : Array Oper} {rest : List Oper} {o : Oper} {a : Act} {Q : Exit → Act → World → Prop} (hgd : o.guard = none) (s x : Operand) (t : TypeId)
    (ho : o.op = .call { callee := .builtin .append, args := #[s, x], argTypes := #[t, t] })
    (base : Nat) (e : TypeId) (i : TypeInfo) (z : Value) (size bytes : Nat) (ht : P.underlying t = some (.slice e)) (hi : P.info? e = some i) (hz : i.zero = some z)
    (hsize : i.size = size) (hby : i.bytes = bytes) (hzs : z.cells.size = size) (hsz : 0 < size)
    (v : Value) (n : Nat) (xs : List Value) (hs : a.eval s = v) (hown : w.ownsRow base e size v n xs)
    (xv : Value) (m : Nat) (news : List Value) (hx : a.eval x = xv) (hsrc : SrcOf size w xv m news) (h1 : ∀ u ∈ news, u.oneCell' = true)
    (h63 : n + m ≤ maxLen) (hbytes : (n + m) * bytes ≤ 140737488355328) (hbase : base ≤ w.heap.size)
    (h : ∀ v' w', w'.ownsRow base e size v' (n + m) (xs ++ news) → w.grownBy w' v.ownBlock → wpList P ops Q rest (a.put o.dst v') w') : wpList P ops Q (o :: rest) a w := by
  rcases hsrc with ⟨rfl, rfl, rfl⟩ | ⟨ad, c, rfl, hl, hnews⟩
  · exact wpList_append_own_none hgd s x t ho base e i size ht hi v n xs hs hown hx (h v w (by simpa using hown) (World.grownBy.refl w _))
  · exact wpList_append_own w hgd s x t ho base e i z size bytes ht hi hz hsize hby hzs hsz v n xs hs hown ad m c news hx hl hnews h1 h63 hbytes hbase fun v' w' h2 h3 _ => h v' w' h2 h3

/-! ### What a call made -/
theorem PairsAt.of_own {w : World} {B n : Nat} {v : Value} {l : List (Value × Value)} (h : w.ownsRow B 45 2 v n (cellsL l)) (hn : l.length = n) : PairsAt w v l := by
  subst hn
  rcases h.2 with ⟨rfl, h0⟩ | ⟨g, cap, cur, rfl, hb, hg, h1, h2, h3, h4⟩
  · exact Or.inl ⟨List.length_eq_zero_iff.1 h0, Or.inl rfl⟩
  · rcases Nat.eq_zero_or_pos l.length with h0 | hp
    · refine Or.inl ⟨List.length_eq_zero_iff.1 h0, Or.inr ⟨_, cap, by rw [h0], h2⟩⟩
    · refine Or.inr ⟨g, 0, cap, rfl, hp, h1, h2, fun i hi => ?_⟩
      have k1 := h.cells (g := g) rfl (i * 2) _ (cellsL_at l i hi).1
      have k2 := h.cells (g := g) rfl (i * 2 + 1) _ (cellsL_at l i hi).2
      rw [add_plain] at k1 k2
      rw [← Nat.add_assoc] at k2
      exact ⟨k1, k2⟩
theorem StrsAt.of_own {w : World} {B n : Nat} {v : Value} {l : List ByteArray} (h : w.ownsRow B 9 1 v n (l.map Value.string)) (hn : l.length = n) : StrsAt w v l := by
  subst hn
  rcases h.2 with ⟨rfl, h0⟩ | ⟨g, cap, cur, rfl, hb, hg, h1, h2, h3, h4⟩
  · exact Or.inl ⟨List.length_eq_zero_iff.1 h0, Or.inl rfl⟩
  · rcases Nat.eq_zero_or_pos l.length with h0 | hp
    · refine Or.inl ⟨List.length_eq_zero_iff.1 h0, Or.inr ⟨_, cap, by rw [h0], h2⟩⟩
    · refine Or.inr ⟨g, 0, cap, rfl, hp, h1, h2, fun i hi => ?_⟩
      have k1 := h.cells (g := g) rfl i (.string l[i]) (by simp [hi])
      rw [add_plain] at k1
      exact k1

theorem one_writes (l : List (Int × ByteArray)) : ∀ u ∈ cellsL (l.map writeCell), u.oneCell' = true := by
  intro u hu
  simp only [cellsL, List.mem_flatMap, List.mem_map] at hu
  obtain ⟨p, ⟨x, -, rfl⟩, hp⟩ := hu
  simp [writeCell] at hp
  rcases hp with rfl | rfl <;> rfl

set_option maxRecDepth 100000 in
set_option maxHeartbeats 2000000 in
/-- slices.Grow of nil. -/
theorem Grow_t (n : Nat) (w : World) (hn : n ≤ 400) :
    Calls Try.prog 38 #[.slice none 0 0, .int .i64 n] w fun e w' => ∃ v, e = .returned v ∧ w'.ownsRow w.heap.size 45 2 v 0 [] ∧ Below w.heap.size w w' := by
  obtain ⟨i0, hi, hz0, hz1, hz2⟩ := info_parts infoWrite
  rcases Nat.eq_zero_or_pos n with rfl | hp
  · go_enter Try.func38, Try.ntmps38
    go_wp2_with fail
    go_ret
    exact ⟨_, rfl, World.ownsRow_nil _ _ _ _, Below.refl _ _⟩
  · have hrz : ∀ ty, (Builtin.append_ #[23, 3] ty #[.slice none 0 0, .int .i64 n]).run Try.prog w = _ := fun ty => Lib.run_append_nil_zeros w 23 3 ty 45 i0 _ .i64 .i64 Try.underlying23 Try.underlying3 hi hz0 n hp (by omega) (by omega) (by rw [hz2]; omega)
    have hG : n ≤ grownCap w n 0 45 := grownCap_ge w _ _ _
    have hG2 := grownCap_le_maxLen w n 0 45 (by unfold maxLen; omega)
    obtain ⟨G, hGe⟩ : ∃ G, grownCap w n 0 45 = G := ⟨_, rfl⟩
    rw [hGe] at hrz hG hG2
    have HZ : (Builtin.zeroCells (Value.agg #[.int .i64 0, .string ⟨#[]⟩]).cells n ++ Builtin.zeroCells (Value.agg #[.int .i64 0, .string ⟨#[]⟩]).cells (G - n)).size = G * 2 := by
      rw [Array.size_append]
      simp [Builtin.zeroCells, Value.cells]
      omega
    obtain ⟨cur, hcur⟩ : ∃ c, (Builtin.zeroCells (Value.agg #[.int .i64 0, .string ⟨#[]⟩]).cells n ++ Builtin.zeroCells (Value.agg #[.int .i64 0, .string ⟨#[]⟩]).cells (G - n)) = c := ⟨_, rfl⟩
    rw [hcur] at hrz HZ
    have hown := Lib.hid (World.ownsRow_made (e := 45) (base := w.heap.size) (size := 2) w.drew cur G (Nat.le_refl _) hG2 HZ)
    unfold maxLen at hG2
    clear hcur HZ hGe
    go_enter Try.func38, Try.ntmps38
    go_wp2_with (at_builtin; refine Lib.wpList_append_run _ rfl _ _ _ _ rfl _ _ rfl rfl _ _ (hrz _) ?_)
    all_goals (go_ret; exact ⟨_, rfl, hown.out, (below_drewN (Below.refl _ _) 1).alloc (Nat.le_refl _) _⟩)
end Go.Proofs.Ytcjngaapiomkbaa
