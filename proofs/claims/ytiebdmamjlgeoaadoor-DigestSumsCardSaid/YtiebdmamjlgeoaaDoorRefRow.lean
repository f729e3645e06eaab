/-
  A row of bytes that '[]byte(s)' laid and appends go on with: its word and the law of one more byte. Conditions: none.
-/
import Derived.Test.YtiebdmamjlgeoaaDoorRefBlock
import Derived.ArgAppend
import Derived.Laws.IdiomStrings
import Derived.Lib.Strings
namespace Go.Proofs.YtiebdmamjlgeoaaDoor
open Go.RowKit

/-- A row of bytes of one's own; a mark, if any, lies behind its last cell. -/
structure OwnB (w : World) (B g cap : Nat) (bs : List UInt8) : Prop where
  base : B ≤ g
  room : bs.length ≤ cap
  small : cap ≤ maxLen
  row : ∃ cur fz, w.heap[g]? = some (.cells cur 5 fz) ∧ (fz = (0, 0) ∨ fz.1 = cur.size) ∧ cur.size = cap ∧ cur.toList.take bs.length = Lib.byteCells bs
theorem OwnB.lt {w : World} {B g cap : Nat} {bs : List UInt8} (h : OwnB w B g cap bs) : g < w.heap.size := by
  obtain ⟨cur, fz, h, _⟩ := h.row
  exact (Array.getElem?_eq_some_iff.1 h).1
theorem OwnB.kept {w w' : World} {B g cap n : Nat} {bs : List UInt8} (h : OwnB w B g cap bs) (hb : Below n w w') (hn : g < n) : OwnB w' B g cap bs := by
  obtain ⟨cur, fz, h1, h2⟩ := h.row
  exact ⟨h.base, h.room, h.small, cur, fz, by rw [hb.block g hn]; exact h1, h2⟩
theorem OwnB.alloc {w : World} {B g cap : Nat} {bs : List UInt8} (h : OwnB w B g cap bs) (o : Obj) : OwnB (w.alloc o) B g cap bs :=
  h.kept ((Below.refl w.heap.size w).alloc (Nat.le_refl _) o) h.lt
theorem OwnB.cell {w : World} {B g cap : Nat} {bs : List UInt8} (h : OwnB w B g cap bs) (i : Nat) (hi : i < bs.length) : w.cell? ⟨g, i, none⟩ = some (.int .u8 (bs[i].toNat : Int)) := by
  obtain ⟨cur, fz, h1, _, _, h4⟩ := h.row
  have h5 : (Lib.byteCells bs)[i]? = some (.int .u8 (bs[i].toNat : Int)) := by simp [Lib.byteCells, hi]
  rw [cell_of_row w g i cur 5 fz h1]
  rw [← h4, List.getElem?_take, if_pos hi] at h5
  simpa using h5
theorem OwnB.frozen {w : World} {B g cap : Nat} {bs : List UInt8} (h : OwnB w B g cap bs) (i : Nat) (hi : i < cap) : w.frozen? ⟨g, i, none⟩ = false := by
  obtain ⟨cur, fz, h1, h2, h3, _⟩ := h.row
  unfold World.frozen?
  simp only [h1]
  rcases h2 with rfl | h2
  · simp
  · have : ¬ fz.1 ≤ i := by omega
    simp [this]
theorem OwnB.there {w : World} {B g cap : Nat} {bs : List UInt8} (h : OwnB w B g cap bs) (i : Nat) (hi : i < cap) : (w.cell? ⟨g, i, none⟩).isSome = true := by
  obtain ⟨cur, fz, h1, _, h3, _⟩ := h.row
  rw [cell_of_row w g i cur 5 fz h1, Array.getElem?_eq_getElem (by omega)]
  rfl
theorem OwnB.of_own {w : World} {B : Nat} {v : Value} {n : Nat} {bs : List UInt8} (h : w.ownsRow B 5 1 v n (Lib.byteCells bs)) (hn : 0 < n) : ∃ g cap, v = .slice (some ⟨g, 0, none⟩) n cap ∧ n = bs.length ∧ OwnB w B g cap bs := by
  have h1 := h.1
  rw [Lib.byteCells_length, Nat.mul_one] at h1
  rcases h.2 with ⟨_, h0⟩ | ⟨g, cap, cur, hv, hb, hg, hc, hm, hs, ht⟩
  · omega
  · rw [Nat.mul_one] at hs ht
    exact ⟨g, cap, hv, h1.symm, hb, by omega, hm, cur, (0, 0), hg, Or.inl rfl, hs, by rw [h1]; exact ht⟩
theorem OwnB.push {w : World} {B g cap : Nat} {bs : List UInt8} (h : OwnB w B g cap bs) (u : UInt8) (hr : bs.length + 1 ≤ cap) : OwnB (w.setCell ⟨g, bs.length, none⟩ (.int .u8 (u.toNat : Int))) B g cap (bs ++ [u]) := by
  obtain ⟨cur, fz, h1, h2, h3, h4⟩ := h.row
  refine ⟨h.base, by simpa using hr, h.small, cur.setIfInBounds bs.length (.int .u8 (u.toNat : Int)), fz, ?_, ?_, by simpa using h3, ?_⟩
  · simp [World.setCell, Array.getElem?_modify, h1]
  · simpa using h2
  · rw [List.length_append, List.length_singleton, Array.toList_setIfInBounds, List.take_succ_eq_append_getElem (by simp; omega), Lib.byteCells_append]
    congr 1
    · rw [List.take_set_of_le (Nat.le_refl _)]; exact h4
    · simp [Lib.byteCells]
/-- One more byte. -/
theorem wpList_append_B (w : World) {ops : Array Oper} {rest : List Oper} {o : Oper} {a : Act} {Q : Exit → Act → World → Prop}
    (hg : o.guard = none) (s x : Operand) (hop : o.op = Op.call { callee := Callee.builtin Builtin.append, args := #[s, x], argTypes := #[39, 39] })
    (B g cap : Nat) (bs : List UInt8) (n : Nat) (hs : a.eval s = .slice (some ⟨g, 0, none⟩) n cap) (hn : bs.length = n) (h : OwnB w B g cap bs) (ad : Addr) (c : Nat) (u : UInt8) (hx : a.eval x = .slice (some ad) 1 c) (hc : w.cell? (ad.add 0) = some (.int .u8 (u.toNat : Int)))
    (hb : n + 1 ≤ 140737488355328) (hB : B ≤ w.heap.size)
    (hK : ∀ g' cap' w', OwnB w' B g' cap' (bs ++ [u]) → Below B w w' → wpList Tryd.prog ops Q rest (a.put o.dst (.slice (some ⟨g', 0, none⟩) (n + 1) cap')) w') :
    wpList Tryd.prog ops Q (o :: rest) a w := by
  subst hn
  obtain ⟨i0, hi, hz0, hz1, hz2⟩ := info_parts infoByte
  refine wpList_append_arg w hg s x 39 hop 5 i0 (.int .u8 0) 1 1 Tryd.underlying39 hi hz0 hz1 hz2 rfl (by decide) g 0 bs.length cap (Lib.byteCells bs) hs (by rw [Lib.byteCells_length, Nat.mul_one]) ?c1 ad 1 c [.int .u8 (u.toNat : Int)] hx rfl ?c2 ?c3 ?c4 ?c5 ?c6 ?c7 ?c8
  case c1 =>
    intro j v hj
    have hjl : j < bs.length := by
      have := (List.getElem?_eq_some_iff.1 hj).1
      rwa [Lib.byteCells_length] at this
    rw [Nat.zero_add, h.cell j hjl, ← hj]
    simp [Lib.byteCells, hjl]
  case c2 =>
    intro j v hj
    match j, hj with
    | 0, hj => simp at hj; subst hj; exact hc
    | j + 1, hj => simp at hj
  case c3 => intro v hv; simp at hv; subst hv; rfl
  case c4 =>
    intro hr j hj
    have hj0 : j = 0 := by simp at hj; exact hj
    subst hj0
    rw [Nat.zero_add, Nat.mul_one, Nat.add_zero]
    exact ⟨h.there _ (by omega), h.frozen _ (by omega)⟩
  case c5 => unfold maxLen; omega
  case c6 => omega
  case c7 =>
    intro hr
    rw [Nat.zero_add, Nat.mul_one]
    exact hK g cap _ (h.push u hr) ((Below.refl B w).setCell (p := ⟨g, bs.length, none⟩) h.base _)
  case c8 =>
    intro _ v' w' hown hgrow
    have e : Lib.byteCells bs ++ [Value.int .u8 (u.toNat : Int)] = Lib.byteCells (bs ++ [u]) := by rw [Lib.byteCells_append]; rfl
    rw [e] at hown
    obtain ⟨g', cap', rfl, _, ho⟩ := OwnB.of_own hown (by omega)
    exact hK g' cap' w' ⟨Nat.le_trans hB ho.base, ho.room, ho.small, ho.row⟩ ((Below.refl B w).grown hgrow hB (fun _ e => by cases e))
/-- What '[]byte(s)' lays. -/
theorem OwnB.conv (w : World) (B : Nat) (s : ByteArray) (hB : B ≤ w.heap.size) (hs : s.size ≤ maxLen) :
    OwnB (w.drew.alloc (.cells (bytesRow s (grownCap w s.size 0 5)) 5 ((bytesRow s (grownCap w s.size 0 5)).size, (bytesRow s (grownCap w s.size 0 5)).size + 1))) B w.heap.size (grownCap w s.size 0 5) s.data.toList := by
  have h1 := grownCap_ge w s.size 0 5
  refine ⟨hB, by simpa using h1, grownCap_le_maxLen w s.size 0 5 hs, _, _, heap_alloc_new w.drew _, Or.inr rfl, ?_, ?_⟩
  · simp [bytesRow]; omega
  · simp [bytesRow, Lib.byteCells]
end Go.Proofs.YtiebdmamjlgeoaaDoor
