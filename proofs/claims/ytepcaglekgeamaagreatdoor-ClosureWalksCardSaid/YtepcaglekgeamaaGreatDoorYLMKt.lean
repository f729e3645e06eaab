/-
  What the manifests' laws' walks have in common: a variable that holds a manifest, few's answer laid into it, what is few. Conditions: none.
-/
import Derived.Test.YtepcaglekgeamaaGreatDoorYCloP
import Derived.Test.YtepcaglekgeamaaGreatDoorYMan4
import Derived.Test.YtepcaglekgeamaaGreatDoorYMan5
namespace Go.Proofs.YtepcaglekgeamaaGreatDoor
open Go.RowKit

theorem parseM_few (s : ByteArray) : (parseM s).1.Few := by
  rcases parseM_cases s with ⟨m, h, hr, -⟩ | ⟨e, h, -⟩
  · rw [h]
    show m.Few
    cases hi : m.index with
    | true =>
      obtain ⟨h1, h2, -, h4, h5⟩ := (rightM_index hi).1 hr
      exact ⟨⟨by rw [h1]; decide, by rw [h2]; simp, fun k hk => by rw [isD_size (apartL_isD _ _ h5 k hk)]; decide⟩, by rw [h2]; exact Nat.zero_le _, by omega⟩
    | false =>
      obtain ⟨h1, h2, h3, h4⟩ := (rightM_image hi).1 hr
      refine ⟨⟨by rw [isD_size h1]; decide, fun l hl => ?_, by rw [h4]; simp⟩, by omega, by rw [h4]; exact Nat.zero_le _⟩
      have := h3 l hl
      unfold okLayer at this
      rw [Bool.and_eq_true] at this
      rw [isD_size this.1]; decide
  · rw [h]
    exact ⟨⟨(by decide : (0 : Nat) < 1099511627776), by simp [noMan], by simp [noMan]⟩, Nat.zero_le _, Nat.zero_le _⟩
end Go.Proofs.YtepcaglekgeamaaGreatDoor
