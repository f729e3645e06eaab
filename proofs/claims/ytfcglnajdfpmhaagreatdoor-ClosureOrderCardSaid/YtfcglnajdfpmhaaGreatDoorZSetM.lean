/-
  Sets of words as maps that a call makes: made, kept, asked, written. Conditions: none.
-/
import Derived.Test.YtfcglnajdfpmhaaGreatDoorZMan0
import Derived.Maps.OwnSet
import Derived.WalkKit
/-! Sets of words as maps that a call makes: made, kept, asked, written. Conditions: none. -/
namespace Go.Proofs.YtfcglnajdfpmhaaGreatDoor
open Go.RowKit Go.Maps Go.ChangeMaps Go.WideShapes Go.WideMaps

theorem strKey : Keyed Tryz.prog 9 := string_keyed Tryz.underlying9
theorem plainElem_bool_inv {H : Type} {v : Value} {z : DataW H × List MemPlace} (h : plainElem Tryz.prog 4 v = some z) : ∃ x, v = .bool x ∧ z = (.lit (.bool x), []) := by
  unfold plainElem at h
  have hu := Tryz.underlying4
  split at h
  · exact ⟨_, rfl, (Option.some.inj h).symm⟩
  · rename_i e; rw [hu] at e; cases e
  · rename_i e; rw [hu] at e; cases e
  · cases h
theorem zeroB (w : World) : (zeroValue 4).run Tryz.prog w = .ok (.bool false) w := by kernel_rfl
/-- Block b is a map of words to bools of at most n entries: true at just the words of S. -/
def SetAt (w : World) (b n : Nat) (S : List ByteArray) : Prop :=
  ∃ D : DataW Unit, w.ownsMap Tryz.prog 9 (plainElem Tryz.prog 4) b n D ∧ ∀ x : ByteArray, D.atKey (.string x.data.toList) (.lit (.bool false)) = .lit (.bool (decide (x ∈ S)))
theorem SetAt.made (w : World) : SetAt (w.alloc (.map #[] 0)) w.heap.size 0 [] := ⟨.map [], World.ownsMap_made _ _ _ _, fun x => by simp [DataW.atKey]⟩
theorem SetAt.lt {w : World} {b n : Nat} {S : List ByteArray} (h : SetAt w b n S) : b < w.heap.size := by
  obtain ⟨D, h, -⟩ := h
  exact h.lt
theorem SetAt.keep {w w' : World} {b n : Nat} {S : List ByteArray} (h : SetAt w b n S) (hb : w'.heap[b]? = w.heap[b]?) : SetAt w' b n S := by
  obtain ⟨D, ⟨es, clock, h1, h2, h3, h4⟩, h⟩ := h
  exact ⟨D, ⟨es, clock, hb.trans h1, h2, h3, h4⟩, h⟩
theorem SetAt.below {w w' : World} {b n : Nat} {S : List ByteArray} (h : SetAt w b n S) (hb : Below w.heap.size w w') : SetAt w' b n S := h.keep (hb.block b h.lt)
/-- Is a word in it? -/
theorem SetAt.look {w : World} {b n : Nat} {S : List ByteArray} (h : SetAt w b n S) (s : ByteArray) (hs : s.size ≤ maxLen) : (Instr.lookup 40 (.map (some b)) (.string s) false).run Tryz.prog w = .ok (.bool (decide (s ∈ S))) w := by
  obtain ⟨D, ho, h⟩ := h
  obtain ⟨v, ps, hrun, hv⟩ := ho.lookup strKey Tryz.underlying40 (zeroB w) (plainElem_bool Tryz.underlying4 false) (keyOf_string_mk Tryz.underlying9 hs)
  rw [h s] at hv
  obtain ⟨x, rfl, hx⟩ := plainElem_bool_inv hv
  rw [hrun]
  simp only [Prod.mk.injEq, DataW.lit.injEq, Lit.bool.injEq] at hx
  rw [hx.1]
/-- A word more. -/
theorem SetAt.add {w : World} {b n : Nat} {S : List ByteArray} (h : SetAt w b n S) (s : ByteArray) (hs : s.size ≤ maxLen) (hn : n < maxLen) :
    ∃ w', (Instr.mapUpdate 40 (.map (some b)) (.string s) (.bool true)).run Tryz.prog w = .ok () w' ∧ SetAt w' b (n + 1) (S ++ [s]) ∧ w.grownBy w' (some b) := by
  obtain ⟨D, ho, h⟩ := h
  have hk := keyOf_string_mk Tryz.underlying9 hs
  obtain ⟨w', hrun, h1, h2⟩ := ho.update strKey Tryz.underlying40 hn hk (plainElem_bool Tryz.underlying4 true)
  refine ⟨w', hrun, ⟨_, h1, fun x => ?_⟩, h2⟩
  by_cases hx : x = s
  · subst hx
    rw [atKey_put_same ho.isMap (strKey.key hk)]
    simp
  · rw [atKey_put_other (fun e => hx (by
      simp only [Lit.string.injEq] at e
      exact ByteArray.ext (Array.toList_inj.1 e))), h x]
    simp [hx]
/-- What a set's growing leaves below a block. -/
theorem below_set {B : Nat} {w w' : World} {b : Nat} (h : w.grownBy w' (some b)) (hb : B ≤ b) (hl : b < w.heap.size) : Below B w w' :=
  ⟨h.os, h.tape, h.output, h.size, fun k hk => h.block k (by omega) (by simp; omega)⟩
end Go.Proofs.YtfcglnajdfpmhaaGreatDoor
