/-
  The document's own turn and step, by contracts. Conditions: words are of 32 bits.
-/
import Derived.Test.YtiebdmamjlgeoaaDoorTurn
import Derived.BigRegion
namespace Go.Proofs.YtiebdmamjlgeoaaDoor
open Go.RowKit

theorem pow_le31 (k : Nat) (h : k ≤ 30) : 2 ^ k ≤ 1073741824 := by
  have : 2 ^ k ≤ 2 ^ 30 := Nat.pow_le_pow_right (by decide) h
  exact this

theorem turn_val (x : Int) (n P Q : Nat) (h : U32 (rotr x n)) (h0 : 0 ≤ x) (hP : P = 2 ^ n) (hQ : Q = 2 ^ (32 - n)) :
    (x / (P : Int) + x % (P : Int) * (Q : Int) % 4294967296) % 4294967296 = rotr x n := by
  obtain ⟨X, rfl⟩ := Int.eq_ofNat_of_zero_le h0
  rw [rotr_nat] at h ⊢
  subst hP hQ
  rw [← Int.natCast_ediv, ← Int.natCast_emod, ← Int.natCast_mul]
  generalize X / 2 ^ n = A at h ⊢
  generalize X % 2 ^ n * 2 ^ (32 - n) = B at h ⊢
  obtain ⟨_, h⟩ := h
  omega

set_option maxRecDepth 100000 in
set_option maxHeartbeats 1000000 in
theorem turn_any (x : Int) (n : Nat) (w : World) (h : U32 x) (n1 : 2 ≤ n) (n2 : n ≤ 30) :
    Calls Tryd.prog 38 #[.int .u32 x, .int .i64 n] w fun e w' => e = .returned (.int .u32 (rotr x n)) ∧ Below w.heap.size w w' := by
  have HU := Lib.hid (rotr_u32 x n h (by omega))
  obtain ⟨h0, h1⟩ := h
  go_enter Tryd.func38, Tryd.ntmps38
  go_wp2_with fail
  go_loop [5, 6] (fun p i => ∃ k : Nat, k ≤ n ∧ i = .int .i64 k ∧ p = .int .u32 ((2 ^ k : Nat) : Int)) (fun _ i => n - (intOf i).toNat)
  case atStart => exact ⟨0, Nat.zero_le _, rfl, rfl⟩
  case round =>
    obtain ⟨k, hk, rfl, rfl⟩ := hrel
    by_cases hlt : k < n
    · have hp := pow_le31 k (by omega)
      have hs := Lib.hid (Nat.pow_succ 2 k)
      generalize 2 ^ k = P at hp hs
      go_wp2_with fail
      go_round
      case rel => exact ⟨k + 1, by omega, by go_num, by rw [hs.out]; congr 1; omega⟩
      case measure => simp [intOf]; omega
    · have hkn := Lib.hid (show k = n by omega)
      have hge : n ≤ k := by omega
      have hp := pow_le31 k (by omega)
      have hP := Lib.hid (show 2 ^ k = 2 ^ n by rw [hkn.out])
      have hp0 : 0 < 2 ^ k := Nat.pow_pos (by decide)
      generalize 2 ^ k = P at hp hP hp0
      go_wp2_with fail
      go_loop [7, 8] (fun q i => ∃ j : Nat, n ≤ j ∧ j ≤ 32 ∧ i = .int .i64 j ∧ q = .int .u32 ((2 ^ (j - n) : Nat) : Int)) (fun _ i => 32 - (intOf i).toNat)
      case atStart => exact ⟨n, Nat.le_refl _, by omega, rfl, by rw [Nat.sub_self]; rfl⟩
      case round =>
        obtain ⟨j, hj1, hj2, rfl, rfl⟩ := hrel
        by_cases hlt2 : j < 32
        · have hq := pow_le31 (j - n) (by omega)
          have hs := Lib.hid (show 2 ^ (j + 1 - n) = 2 ^ (j - n) * 2 by rw [show j + 1 - n = (j - n) + 1 by omega, Nat.pow_succ])
          generalize 2 ^ (j - n) = Q at hq hs
          go_wp2_with fail
          go_round
          case rel => exact ⟨j + 1, by omega, by omega, by go_num, by rw [hs.out]; congr 1; omega⟩
          case measure => simp [intOf]; omega
        · have hj32 : 32 ≤ j := by omega
          have hQ := Lib.hid (show 2 ^ (j - n) = 2 ^ (32 - n) by rw [show j = 32 by omega])
          have hq := pow_le31 (j - n) (by omega)
          generalize 2 ^ (j - n) = Q at hq hQ
          go_wp2_with fail
          go_quiet (fail)
          go_wp2_with fail
          go_ret
          exact ⟨by rw [turn_val x n P Q HU.out (by omega) hP.out hQ.out]; rfl, ⟨rfl, rfl, rfl, Nat.le_refl _, fun _ _ => rfl⟩⟩
end Go.Proofs.YtiebdmamjlgeoaaDoor
