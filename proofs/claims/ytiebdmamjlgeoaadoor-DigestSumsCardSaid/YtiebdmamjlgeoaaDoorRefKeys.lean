/-
  The document's own rows of words, by contracts. Conditions: none.
-/
import Derived.Test.YtiebdmamjlgeoaaDoorRefStep
namespace Go.Proofs.YtiebdmamjlgeoaaDoor
open Go.RowKit

set_option maxRecDepth 100000 in
set_option maxHeartbeats 1000000 in
theorem first_ref (w : World) :
    Calls Tryd.prog 16 #[] w fun e w' => (∃ g, e = .returned (.slice (some ⟨g, 0, none⟩) 8 8) ∧ RowU w' g begins.toL ∧ w.heap.size ≤ g) ∧ Below w.heap.size w w' := by
  go_enter Tryd.func16, Tryd.ntmps16
  go_wp2_with fail
  go_ret
  exact ⟨⟨_, rfl, RowU.alloc w _ _ _ (by kernel_rfl), Nat.le_refl _⟩, (Below.refl _ _).alloc (Nat.le_refl _) _⟩
set_option maxRecDepth 100000 in
set_option maxHeartbeats 1000000 in
theorem keys_ref (w : World) :
    Calls Tryd.prog 14 #[] w fun e w' => (∃ g, e = .returned (.slice (some ⟨g, 0, none⟩) 64 64) ∧ RowU w' g keysL ∧ w.heap.size ≤ g) ∧ Below w.heap.size w w' := by
  go_enter Tryd.func14, Tryd.ntmps14
  go_wp2_with fail
  go_ret
  exact ⟨⟨_, rfl, RowU.alloc w _ _ _ (by kernel_rfl), Nat.le_refl _⟩, (Below.refl _ _).alloc (Nat.le_refl _) _⟩
end Go.Proofs.YtiebdmamjlgeoaaDoor
