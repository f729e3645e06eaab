/-
  The digest's turned words by contracts. Conditions: words are of 32 bits.
-/
import Derived.WalkKit
import Derived.WalkLawsBesides
import Derived.WalkSpells
import Derived.BigCall
import Derived.Lib.Hide
import Derived.Outline
import Derived.BigQuiet
import Derived.Deep.QuietTactic
import Derived.Test.YtcdibcogboaikaaDoorChecked
import Derived.Test.YtcdibcogboaikaaDoorSha
namespace Go.Proofs.YtcdibcogboaikaaDoor
open Go.RowKit

theorem turned_any (x : Int) (n : Nat) (w : World) (h : U32 x) (n1 : n ≤ 32) :
    Calls Tryd.prog 75 #[.int .u32 x, .int .u64 n] w fun e w' => e = .returned (.int .u32 (rotr x n)) ∧ w = w' := by
  have HO := Lib.hid (or_rotr x n h n1)
  obtain ⟨h0, h1⟩ := h
  go_enter Tryd.func75, Tryd.ntmps75
  go_wp2_with fail
  go_ret
  exact ⟨by rw [HO.out]; rfl, rfl⟩
theorem turned_7 (x : Int) (w : World) (h : U32 x) : Calls Tryd.prog 75 #[.int .u32 x, .int .u64 7] w fun e w' => e = .returned (.int .u32 (rotr x 7)) ∧ w = w' := turned_any x 7 w h (by decide)

theorem turns_any (x : Int) (i j k : Nat) (w : World) (h : U32 x) (n1 : i ≤ 32) (n2 : j ≤ 32) (n3 : k ≤ 32) :
    Calls Tryd.prog 74 #[.int .u32 x, .int .u64 i, .int .u64 j, .int .u64 k] w fun e w' => e = .returned (.int .u32 (tri x i j k)) ∧ w = w' := by
  have H := Lib.hid h
  obtain ⟨h0, h1⟩ := h
  go_enter Tryd.func74, Tryd.ntmps74
  go_wp2_with fail
  refine (turned_any x i w H.out n1).mono ?_
  rintro e w1 ⟨rfl, rfl⟩
  go_wp2_with fail
  refine (turned_any x j w H.out n2).mono ?_
  rintro e w1 ⟨rfl, rfl⟩
  go_wp2_with fail
  refine (turned_any x k w H.out n3).mono ?_
  rintro e w1 ⟨rfl, rfl⟩
  go_wp2_with fail
  go_ret
  exact ⟨rfl, rfl⟩
end Go.Proofs.YtcdibcogboaikaaDoor
