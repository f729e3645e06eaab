/-
  The document's own 'Same' of two manifests, by a contract. Conditions: none.
-/
import Derived.Test.YtepcaglekgeamaaGreatDoorYMan4
import Derived.BigQuiet
import Derived.Deep.QuietTactic
namespace Go.Proofs.YtepcaglekgeamaaGreatDoor
open Go.RowKit

theorem PairsAt.at {w : World} {a : Option Addr} {n cap : Nat} {l : List (Value × Value)} (h : PairsAt w (.slice a n cap) l) (i : Nat) (hi : i < l.length) : ∃ b o, a = some ⟨b, o, none⟩ ∧ w.cell? ⟨b, o + i * 2, none⟩ = some l[i].1 ∧ w.cell? ⟨b, o + i * 2 + 1, none⟩ = some l[i].2 := by
  rcases h with ⟨h0, -⟩ | ⟨b, o, c, e, -, -, -, hc⟩
  · rw [h0] at hi; simp at hi
  · simp only [Value.slice.injEq] at e
    exact ⟨b, o, e.1, (hc i hi).1, (hc i hi).2⟩
end Go.Proofs.YtepcaglekgeamaaGreatDoor
