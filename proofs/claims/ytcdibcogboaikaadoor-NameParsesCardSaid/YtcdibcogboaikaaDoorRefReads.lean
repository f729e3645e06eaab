/-
  The document's own half, Hex and Bytes, by contracts. Conditions: none.
-/
import Derived.Test.YtcdibcogboaikaaDoorPlain2
import Derived.Test.YtcdibcogboaikaaDoorWide
import Derived.Test.YtcdibcogboaikaaDoorHex
import Derived.BigRegion
import Derived.Deep.RegionLaw
import Derived.Deep.AppendLies
namespace Go.Proofs.YtcdibcogboaikaaDoor
open Go.RowKit

set_option maxRecDepth 100000 in
set_option maxHeartbeats 1000000 in
theorem half_any (c : UInt8) (w : World) :
    Calls Tryd.prog 51 #[.int .u8 c.toNat] w fun e w' => e = .returned (.int .i64 ((halfB c).getD 16 : Nat)) ∧ w = w' := by
  have hc := c.toNat_lt
  by_cases h1 : 48 ≤ c.toNat ∧ c.toNat ≤ 57
  · have HO := Lib.hid (show (((halfB c).getD 16 : Nat) : Int) = (c.toNat : Int) - 48 by simp [halfB, h1]; omega)
    obtain ⟨h1, h2⟩ := h1
    go_enter Tryd.func51, Tryd.ntmps51
    go_wp2_with fail
    go_ret
    exact ⟨by rw [HO.out]; rfl, rfl⟩
  · by_cases h2 : 97 ≤ c.toNat ∧ c.toNat ≤ 102
    · have HO := Lib.hid (show (((halfB c).getD 16 : Nat) : Int) = (c.toNat : Int) - 97 + 10 by simp [halfB, h1, h2]; omega)
      obtain ⟨h3, h4⟩ := h2
      clear h1
      go_enter Tryd.func51, Tryd.ntmps51
      go_wp2_with fail
      go_ret
      exact ⟨by rw [HO.out]; rfl, rfl⟩
    · have HO := Lib.hid (show (((halfB c).getD 16 : Nat) : Int) = 16 by simp [halfB, h1, h2])
      go_enter Tryd.func51, Tryd.ntmps51
      go_wp2_with fail
      all_goals
        go_ret
        exact ⟨by rw [HO.out]; rfl, rfl⟩
theorem half_some (c : UInt8) (x : Nat) (h : halfB c = some x) (w : World) :
    Calls Tryd.prog 51 #[.int .u8 c.toNat] w fun e w' => e = .returned (.int .i64 x) ∧ w = w' := by
  have := half_any c w
  rwa [h] at this
theorem half_none (c : UInt8) (h : halfB c = none) (w : World) :
    Calls Tryd.prog 51 #[.int .u8 c.toNat] w fun e w' => e = .returned (.int .i64 16) ∧ w = w' := by
  have := half_any c w
  rwa [h] at this

/-- The first m of a byte's digits. -/
def digs (D : Nat → Nat) (m : Nat) : List UInt8 := (List.range m).map fun i => hexDig (D i)
theorem digs_succ (D : Nat → Nat) (m : Nat) : digs D (m + 1) = digs D m ++ [hexDig (D m)] := by simp [digs, List.range_succ]
theorem digs_length (D : Nat → Nat) (m : Nat) : (digs D m).length = m := by simp [digs]
theorem dig_low (x : Nat) (h : x < 10) : Lib.byteCells [hexDig x] = [.int .u8 (48 + (x : Int))] := by
  have : ∀ m : Fin 10, (((hexDig m.1).toNat : Nat) : Int) = 48 + (m.1 : Int) := by decide
  show [Value.int .u8 (((hexDig x).toNat : Nat) : Int)] = _
  rw [this ⟨x, h⟩]
theorem dig_high (x : Nat) (h0 : 10 ≤ x) (h : x < 16) : Lib.byteCells [hexDig x] = [.int .u8 (97 + (x : Int) - 10)] := by
  have : ∀ m : Fin 16, 10 ≤ m.1 → (((hexDig m.1).toNat : Nat) : Int) = 97 + (m.1 : Int) - 10 := by decide
  show [Value.int .u8 (((hexDig x).toNat : Nat) : Int)] = _
  rw [this ⟨x, h⟩ h0]

end Go.Proofs.YtcdibcogboaikaaDoor
