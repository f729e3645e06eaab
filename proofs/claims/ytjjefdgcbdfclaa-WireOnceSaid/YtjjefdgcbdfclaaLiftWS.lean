/-
  A slice of texts that came in. Conditions: none.
-/
import Derived.Test.YtjjefdgcbdfclaaLiftW
import Derived.Test.YtjjefdgcbdfclaaNetOnceW
namespace Go.Proofs.Ytjjefdgcbdfclaa
open Go.ChangeShapes Go.WideShapes Go.ChangeAt Go.RowKit

theorem open_srw {H : Type} {enc : TypeId × Value → H} {W : World} {b0 : Nat} {v : Value} {d : DataW H} {p : List MemPlace}
    (hval : Value.okWide Try.prog W .any b0 41 v) (hj : DataW.Trod enc Try.prog W 0 (fun _ => true) true 41 v d p) : ∃ l, StrRw W v l ∧ ∀ x ∈ l, x.size ≤ maxLen := by
  obtain ⟨a0, len, cap, rfl⟩ := okWide_slice Try.underlying41 hval
  obtain ⟨fuel, hf⟩ := hj
  exact strs_read hf
end Go.Proofs.Ytjjefdgcbdfclaa
