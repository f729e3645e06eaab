/-
  Slices of strings as values: what they read as. Conditions: none.
-/
import Derived.Test.YtcdibcogboaikaaDoorWide
import Derived.Deep.Strs
namespace Go.Proofs.YtcdibcogboaikaaDoor
open Go.RowKit

/-- The value v is a slice that reads as the strings ss. -/
def StrRow (w : World) (v : Value) (ss : List ByteArray) : Prop :=
  v = .slice none 0 0 ∧ ss = [] ∨ ∃ b o cap, v = .slice (some ⟨b, o, none⟩) ss.length cap ∧ ss.length ≤ cap ∧ cap ≤ maxLen ∧ ∀ i (h : i < ss.length), w.cell? ⟨b, o + i, none⟩ = some (.string ss[i])
theorem StrRow.keep {w w' : World} {v : Value} {ss : List ByteArray} (h : StrRow w v ss) (hb : Below w.heap.size w w') : StrRow w' v ss := by
  rcases h with h | ⟨b, o, cap, h1, h2, h3, h4⟩
  · exact Or.inl h
  · exact Or.inr ⟨b, o, cap, h1, h2, h3, fun i hi => (hb.cell (World.block_lt_of_cell? _ _ (h4 i hi))).trans (h4 i hi)⟩
theorem StrRow.len {w : World} {v : Value} {ss : List ByteArray} (h : StrRow w v ss) : ss.length ≤ maxLen := by
  rcases h with ⟨_, rfl⟩ | ⟨b, o, cap, h1, h2, h3, h4⟩
  · exact Nat.zero_le _
  · omega

theorem infoStr : (Tryd.prog.info? 9).map (fun i => (i.zero, i.size, i.bytes)) = some (some (.string ⟨#[]⟩), 1, 16) := by kernel_rfl

/-- Strings as cells. -/
def strC (ss : List ByteArray) : List Value := ss.map Value.string
theorem strC_length (ss : List ByteArray) : (strC ss).length = ss.length := by simp [strC]

theorem StrRow.of_own {w : World} {B n : Nat} {v : Value} {ss : List ByteArray} (h : w.ownsRow B 9 1 v n (strC ss)) (hn : ss.length = n) : StrRow w v ss := by
  subst hn
  rcases h.2 with ⟨rfl, h0⟩ | ⟨g, cap, cur, rfl, hb, hg, h1, h2, h3, h4⟩
  · exact Or.inl ⟨rfl, List.length_eq_zero_iff.1 h0⟩
  · refine Or.inr ⟨g, 0, cap, rfl, h1, h2, fun i hi => ?_⟩
    have := h.cells (g := g) rfl i (.string ss[i]) (by simp [strC, hi])
    rw [addr0_add] at this
    rw [Nat.zero_add]; exact this

/-- A string's first N bytes; the k first strings cut so. -/
def cutN (N : Nat) (s : ByteArray) : ByteArray := s.extract 0 (min s.size N)
theorem cutN_size (N : Nat) (s : ByteArray) : (cutN N s).size ≤ N := by unfold cutN; rw [ByteArray.size_extract]; omega
def cutNTo (N : Nat) (ss : List ByteArray) (k : Nat) : List ByteArray := (ss.take k).map (cutN N) ++ ss.drop k
theorem cutNTo_len (N : Nat) (ss : List ByteArray) (k : Nat) (h : k < ss.length) : (strC ((ss.take k).map (cutN N))).length = k := by simp [strC]; omega
theorem cutNTo_at (N : Nat) (ss : List ByteArray) (k : Nat) (h : k < ss.length) : strC (cutNTo N ss k) = strC ((ss.take k).map (cutN N)) ++ Value.string ss[k] :: strC (ss.drop (k + 1)) := by
  simp only [strC, cutNTo, List.map_append, List.drop_eq_getElem_cons h, List.map_cons]
theorem cutNTo_next (N : Nat) (ss : List ByteArray) (k : Nat) (h : k < ss.length) : strC (cutNTo N ss (k + 1)) = strC ((ss.take k).map (cutN N)) ++ Value.string (cutN N ss[k]) :: strC (ss.drop (k + 1)) := by
  simp only [strC, cutNTo, List.take_succ_eq_append_getElem h, List.map_append, List.map_cons, List.map_nil, List.append_assoc, List.cons_append, List.nil_append]
theorem cutNTo_set (N : Nat) (ss : List ByteArray) (k : Nat) (h : k < ss.length) : (strC (cutNTo N ss k)).set k (.string (cutN N ss[k])) = strC (cutNTo N ss (k + 1)) := by
  rw [cutNTo_at N ss k h, cutNTo_next N ss k h, List.set_append_right _ _ (by rw [cutNTo_len N ss k h]; exact Nat.le_refl _), cutNTo_len N ss k h, Nat.sub_self, List.set_cons_zero]
theorem cutNTo_get (N : Nat) (ss : List ByteArray) (k : Nat) (h : k < ss.length) : (strC (cutNTo N ss k))[k]? = some (.string ss[k]) := by
  rw [cutNTo_at N ss k h, List.getElem?_append_right (by rw [cutNTo_len N ss k h]; exact Nat.le_refl _), cutNTo_len N ss k h, Nat.sub_self]; rfl
theorem cutNTo_all (N : Nat) (ss : List ByteArray) : cutNTo N ss ss.length = ss.map (cutN N) := by simp [cutNTo]
end Go.Proofs.YtcdibcogboaikaaDoor
