/-
  A row of ints that the call owns, all of whose cells are ints: what append does to it, and what a disk that lies beside it keeps. Conditions: none.
-/
import Derived.Test.YtcjngaapiomkbaaLawKCr
import Derived.Lib.AppendZeros
import Derived.Deep.AppendLies
import Derived.Laws.AppendOwn
namespace Go.Proofs.Ytcjngaapiomkbaa
open Go.RowKit Go.WideShapes

def IsI (u : Value) : Prop := ∃ z, u = .int .i64 z
def RowI (w : World) (R g cap k : Nat) : Prop :=
  ∃ cur : Array Value, R ≤ g ∧ w.heap[g]? = some (.cells cur 3 (0, 0)) ∧ k ≤ cap ∧ cap ≤ maxLen ∧ cur.size = cap ∧ cur.toList.take k = List.replicate k (.int .i64 1) ∧ ∀ u ∈ cur.toList, IsI u
theorem RowI.lt {w : World} {R g cap k : Nat} (h : RowI w R g cap k) : g < w.heap.size := by
  obtain ⟨cur, _, hg, _⟩ := h
  exact (Array.getElem?_eq_some_iff.1 hg).1
theorem RowI.ge {w : World} {R g cap k : Nat} (h : RowI w R g cap k) : R ≤ g := by
  obtain ⟨cur, hr, _⟩ := h; exact hr
theorem RowI.of_block {w w' : World} {R g cap k : Nat} (h : RowI w R g cap k) (e : w'.heap[g]? = w.heap[g]?) : RowI w' R g cap k := by
  obtain ⟨cur, h1, hg, h2⟩ := h
  exact ⟨cur, h1, e.trans hg, h2⟩
theorem RowI.keep {w w' : World} {R g cap k : Nat} (h : RowI w R g cap k) (hb : Below w.heap.size w w') : RowI w' R g cap k := h.of_block (hb.block g h.lt)
theorem RowI.ne {w : World} {R g cap k B : Nat} {a b : Value} (h : RowI w R g cap k) (h2 : At2 25 w B a b) : g ≠ B := by
  rintro rfl
  obtain ⟨cur, _, hg, _⟩ := h
  unfold At2 at h2
  rw [hg] at h2
  simp only [Option.some.injEq, Obj.cells.injEq] at h2
  exact absurd h2.2.1 (by decide)
theorem RowI.set2 {w : World} {R g cap k B : Nat} {a b : Value} (h : RowI w R g cap k) (h2 : At2 25 w B a b) (v0 v1 : Value) : RowI (set2 w B v0 v1) R g cap k := by
  have hne := h.ne h2
  refine h.of_block ?_
  unfold Go.Proofs.Ytcjngaapiomkbaa.set2
  rw [Below.heap_setCell _ _ _ _ (by exact hne), Below.heap_setCell _ _ _ _ (by exact hne)]
theorem RowI.made (w : World) : RowI (w.alloc (.cells #[] 3)) w.heap.size w.heap.size 0 0 :=
  ⟨#[], Nat.le_refl _, heap_alloc_new w _, Nat.le_refl _, Nat.zero_le _, rfl, rfl, fun u hu => by simp at hu⟩
theorem RowI.ints {w : World} {R g cap k : Nat} (h : RowI w R g cap k) (o : Nat) (v : Value) (hv : w.cell? ⟨g, o, none⟩ = some v) : IsI v := by
  obtain ⟨cur, _, hg, _, _, _, _, h6⟩ := h
  rw [cell_of_row w g o cur _ _ hg] at hv
  exact h6 v (by
    have := Array.mem_of_getElem? hv
    simpa using this)
theorem RowI.intsAt {w : World} {R g cap k : Nat} (h : RowI w R g cap k) : IntsAt w (.slice (some ⟨g, 0, none⟩) k cap) (List.replicate k 1) := by
  obtain ⟨cur, _, hg, h2, h3, h4, h5, _⟩ := h
  rcases Nat.eq_zero_or_pos k with rfl | hk
  · exact Or.inl ⟨rfl, Or.inr ⟨_, _, rfl, h3⟩⟩
  · refine Or.inr ⟨g, 0, cap, by simp, by simpa using hk, by simpa using h2, h3, fun i hi => ?_⟩
    simp only [List.length_replicate] at hi
    rw [Nat.zero_add, cell_of_row w g i cur _ _ hg]
    have : (cur.toList.take k)[i]? = some (.int .i64 1) := by rw [h5]; simp [hi]
    rw [List.getElem?_take, if_pos hi] at this
    rw [List.getElem_replicate]
    simpa using this
theorem isI_no_str (s : ByteArray) : ¬ IsI (.string s) := by rintro ⟨z, h⟩; cases h
theorem isI_no_sl (a : Option Addr) (n c : Nat) : ¬ IsI (.slice a n c) := by rintro ⟨z, h⟩; cases h

/-- What append does beside the row: other blocks stand. -/
theorem StrsAt.beside {w w' : World} {g : Nat} {v : Value} {l : List ByteArray} (h : StrsAt w v l) (hg : w.grownBy w' (some g)) (hi : ∀ o v, w.cell? ⟨g, o, none⟩ = some v → IsI v) : StrsAt w' v l := by
  rcases h with h | ⟨b, o, cap, h1, h2, h3, h4, h5⟩
  · exact Or.inl h
  · refine Or.inr ⟨b, o, cap, h1, h2, h3, h4, fun i h => hg.cell (h5 i h) ?_⟩
    intro e
    obtain rfl : b = g := Option.some.inj e
    exact isI_no_str _ (hi _ _ (h5 i h))
theorem WritesAt.beside {w w' : World} {g : Nat} {v : Value} {l : List (Int × ByteArray)} (h : PairsAt w v (l.map writeCell)) (hg : w.grownBy w' (some g)) (hi : ∀ o v, w.cell? ⟨g, o, none⟩ = some v → IsI v) : PairsAt w' v (l.map writeCell) := by
  rcases h with h | ⟨b, o, cap, h1, h2, h3, h4, h5⟩
  · exact Or.inl h
  · have hne : b ≠ g := by
      rintro rfl
      have := (h5 0 h2).2
      rw [List.getElem_map] at this
      exact isI_no_str _ (hi _ _ this)
    exact Or.inr ⟨b, o, cap, h1, h2, h3, h4, fun i h => ⟨hg.cell (h5 i h).1 (fun e => hne (Option.some.inj e)), hg.cell (h5 i h).2 (fun e => hne (Option.some.inj e))⟩⟩
theorem DskAt.beside {w w' : World} {g : Nat} {v : Value} {d : Dsk} (h : DskAt w v d) (hg : w.grownBy w' (some g)) (hi : ∀ o v, w.cell? ⟨g, o, none⟩ = some v → IsI v) : DskAt w' v d := by
  obtain ⟨⟨sv, dv, e, g1, g2⟩, h2, h3⟩ := h
  exact ⟨⟨sv, dv, e, g1.beside hg hi, WritesAt.beside g2 hg hi⟩, h2, h3⟩
theorem DskIn.beside {w w' : World} {R g cap k B : Nat} {d : Dsk} (h : DskIn w B d) (hg : w.grownBy w' (some g)) (hr : RowI w R g cap k) : DskIn w' B d := by
  obtain ⟨a, c, a', c', h1, h2⟩ := h
  refine ⟨a, c, a', c', ?_, h2.beside hg hr.ints⟩
  have hne := hr.ne h1
  unfold At2 at h1 ⊢
  rw [hg.block B (Array.getElem?_eq_some_iff.1 h1).1 (fun e => hne (Option.some.inj e).symm)]
  exact h1
theorem grown_below {w0 w w' : World} {R g : Nat} (h : Below R w0 w) (hg : w.grownBy w' (some g)) (hR : R ≤ g) (hs : R ≤ w.heap.size) : Below R w0 w' :=
  ⟨hg.os.trans h.os, hg.tape.trans h.tape, hg.output.trans h.output, Nat.le_trans h.size hg.size, fun k hk => (hg.block k (by omega) (fun e => by have := Option.some.inj e; omega)).trans (h.block k hk)⟩

theorem addr0_add (b j : Nat) : (⟨b, 0, none⟩ : Addr).add j = ⟨b, j, none⟩ := by unfold Addr.add; split <;> simp_all
theorem zero_ints (n : Nat) : ∀ u ∈ (Builtin.zeroCells (Value.cells (.int .i64 0)) n).toList, IsI u := by
  intro u hu
  have hc : (Value.cells (.int .i64 0)) = #[.int .i64 0] := by rfl
  rw [hc] at hu
  simp [Builtin.zeroCells] at hu
  obtain ⟨i, hi, rfl⟩ := hu
  refine ⟨0, ?_⟩
  rw [show i % 1 = 0 by omega]
  rfl
theorem run_append_ints (w : World) {R g cap k : Nat} (h : RowI w R g cap k) (hk : k ≤ 1000) (ty : TypeId) (b : Nat) (hx : w.cell? ⟨b, 0, none⟩ = some (.int .i64 1)) (hR : R ≤ w.heap.size) :
    ∃ g' cap' w', (Builtin.append_ #[26, 26] ty #[.slice (some ⟨g, 0, none⟩) k cap, .slice (some ⟨b, 0, none⟩) 1 1]).run Try.prog w = .ok (.slice (some ⟨g', 0, none⟩) (k + 1) cap') w' ∧ RowI w' R g' cap' (k + 1) ∧ w.grownBy w' (some g) := by
  obtain ⟨i0, hi, hz0, hz1, hz2⟩ := info_parts infoInt
  obtain ⟨cur, h1, hg, h2, h3, h4, h5, h6⟩ := h
  have hnews : ∀ j u, ([.int .i64 1] : List Value)[j]? = some u → w.cell? ((⟨b, 0, none⟩ : Addr).add j) = some u := by
    intro j u hu
    cases j with
    | zero => simp at hu; subst hu; rw [addr0_add]; exact hx
    | succ j => simp at hu
  have hl : (([.int .i64 1] : List Value)).length = 1 * i0.size := by rw [hz1]; rfl
  by_cases hroom : k + 1 ≤ cap
  · have hr := run_append_room (P := Try.prog) w 26 ty 3 i0 Try.underlying26 hi g k cap cur hg ⟨b, 0, none⟩ 1 1 [.int .i64 1] hl hnews (by simp [Value.oneCell']) hroom (by rw [hz1, h4]; simpa using hroom)
    refine ⟨g, cap, _, hr, ⟨_, h1, setRow_heap w g cur _ _ _ hg, hroom, h3, ?_, ?_, ?_⟩, ⟨rfl, rfl, rfl, by simp, fun k _ hk => setRow_other w g k _ (fun e => hk (by rw [e]))⟩⟩
    · simp only [List.size_toArray, List.length_append, List.length_take, List.length_drop, Array.length_toList, List.length_cons, List.length_nil, hz1]
      omega
    · rw [hz1, Nat.mul_one, h5, ← List.replicate_succ' (n := k)]
      rw [List.take_append_of_le_length (by simp), List.take_of_length_le (by simp)]
    · intro u hu
      rw [hz1, Nat.mul_one, h5] at hu
      simp only [List.mem_append, List.mem_cons, List.not_mem_nil, or_false] at hu
      rcases hu with (hu | hu) | hu
      · exact ⟨1, List.eq_of_mem_replicate hu⟩
      · exact ⟨1, hu⟩
      · exact h6 u (List.mem_of_mem_drop hu)
  · have holds : ∀ j u, (List.replicate k (Value.int .i64 1))[j]? = some u → w.cell? ((⟨g, 0, none⟩ : Addr).add j) = some u := by
      intro j u hu
      rw [addr0_add, cell_of_row w g j cur _ _ hg]
      rw [← h5, List.getElem?_take] at hu
      split at hu
      · simpa using hu
      · cases hu
    have hr := run_append_grow (P := Try.prog) w 26 ty 3 i0 _ Try.underlying26 hi hz0 ⟨g, 0, none⟩ k cap (List.replicate k (.int .i64 1)) (by rw [hz1]; simp) holds ⟨b, 0, none⟩ 1 1 [.int .i64 1] hl hnews (by omega) (by omega) (growslice_fits (by omega) (by rw [hz2]; omega))
    have hge := grownCap_ge w (k + 1) cap 3
    refine ⟨w.heap.size, _, _, hr, ⟨_, hR, heap_alloc_new w.drew _, hge, grownCap_le_maxLen w (k + 1) cap _ (by unfold maxLen; omega), ?_, ?_, ?_⟩, ⟨rfl, rfl, rfl, by simp, fun j hj _ => heap_alloc_old w.drew _ hj⟩⟩
    · simp only [Array.size_append, List.size_toArray, size_zeroCells, List.length_replicate, List.length_cons, List.length_nil]
      show k + (0 + 1) + (grownCap w (k + 1) cap 3 - (k + 1)) * 1 = _
      omega
    · simp only [Array.toList_append]
      rw [← List.replicate_succ' (n := k)]
      rw [List.take_append_of_le_length (by simp), List.take_of_length_le (by simp)]
    · intro u hu
      simp only [Array.toList_append, List.mem_append, List.mem_cons, List.not_mem_nil, or_false] at hu
      rcases hu with (hu | hu) | hu
      · exact ⟨1, List.eq_of_mem_replicate hu⟩
      · exact ⟨1, hu⟩
      · exact zero_ints _ u hu
theorem step_append_ints {w : World} {ops : Array Oper} {o : Oper} {a : Act} {K : Act → World → Prop} {Q : Exit → Act → World → Prop} {E : Prop} (hgd : o.guard = none) (s x : Operand)
    (ho : o.op = .call { callee := .builtin .append, args := #[s, x], argTypes := #[26, 26] }) {R g cap k b : Nat} (hs : a.eval s = .slice (some ⟨g, 0, none⟩) k cap) (hx : a.eval x = .slice (some ⟨b, 0, none⟩) 1 1)
    (hrow : RowI w R g cap k) (hc : w.cell? ⟨b, 0, none⟩ = some (.int .i64 1)) (hk : k ≤ 1000) (hR : R ≤ w.heap.size)
    (h : ∀ g' cap' w', RowI w' R g' cap' (k + 1) → w.grownBy w' (some g) → K (a.put o.dst (.slice (some ⟨g', 0, none⟩) (k + 1) cap')) w') :
    if Region.wanted o (yielded ops a.tmps) = true then Oper.wp Try.prog o a w K Q else E := by
  have hw : Region.wanted o (yielded ops a.tmps) = true := by simp [Region.wanted, hgd]
  rw [if_pos hw]
  obtain ⟨g', cap', w', hr, h2, h3⟩ := run_append_ints w hrow hk o.type b hc hR
  exact Lib.wp_append_run w s x _ _ ho _ _ hs hx _ _ hr (h g' cap' w' h2 h3)
end Go.Proofs.Ytcjngaapiomkbaa
