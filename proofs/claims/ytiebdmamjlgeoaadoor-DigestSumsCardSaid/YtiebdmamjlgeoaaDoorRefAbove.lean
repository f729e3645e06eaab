/-
  The document's own comparison of digits, by a contract. Conditions: at most 100 digits, each below 2^60.
-/
import Derived.Test.YtiebdmamjlgeoaaDoorRefPrimes
namespace Go.Proofs.YtiebdmamjlgeoaaDoor
open Go.RowKit

set_option maxRecDepth 100000 in
set_option maxHeartbeats 1000000 in
theorem above_any (a : List Nat) (p n g c : Nat) (w : World) (hg : RowN w g a) (hl : a.length ≤ 100) (hs : ∀ x ∈ a, x < 1152921504606846976) :
    Calls Tryd.prog 41 #[.slice (some ⟨g, 0, none⟩) a.length c, .int .i64 p, .int .i64 n] w fun e w' => e = .returned (.bool (aboveL a p n a.length)) ∧ Below w.heap.size w w' := by
  have HG := Lib.hid hg
  have HSM := Lib.hid hs
  obtain ⟨m, hm⟩ : ∃ m, a.length = m := ⟨_, rfl⟩
  have HM := Lib.hid hm
  rw [hm] at hl
  obtain ⟨r, hr⟩ : ∃ r, aboveL a p n m = r := ⟨_, rfl⟩
  rw [hm, hr]
  have HR := Lib.hid hr
  clear hg hs hm hr
  go_enter Tryd.func41, Tryd.ntmps41
  go_wp2_with fail
  go_loopw [7] (fun i wr => ∃ k : Nat, k ≤ m ∧ i = .int .i64 ((k : Int) - 1) ∧ aboveL a p n k = r ∧ Below w.heap.size w wr) (fun i _ => (intOf i + 1).toNat)
  case atStart => exact ⟨m, Nat.le_refl _, by go_num, HR.out, Below.refl _ _⟩
  case round =>
    obtain ⟨k, hk, rfl, hab, hb⟩ := hrel
    have HB := Lib.hid hb
    cases k with
    | zero =>
      have HF := Lib.hid (show r = false by rw [← hab]; rfl)
      clear hab hb
      go_wp2_with fail
      go_ret
      exact ⟨by rw [HF.out]; rfl, HB.out⟩
    | succ k =>
      have hc := (HG.out.keep HG.out.1 hb).2 k (by rw [HM.out]; exact hk)
      have hx := HSM.out (a.getD k 0) (by
        have h : k < a.length := by rw [HM.out]; exact hk
        rw [List.getD_eq_getElem?_getD, List.getElem?_eq_getElem h]; exact List.getElem_mem h)
      have HS := Lib.hid (show r = if a.getD k 0 != (if k = n then p else 0) then decide ((if k = n then p else 0) < a.getD k 0) else aboveL a p n k by rw [← hab]; rfl)
      generalize a.getD k 0 = x at hc hx HS
      rw [show ((k + 1 : Nat) : Int) - 1 = (k : Int) by omega]
      clear hab hb
      by_cases hkn : k = n
      · have t0 : ((k : Int) == (n : Int)) = true := by rw [beq_iff_eq]; omega
        by_cases hxp : x = p
        · have HF := Lib.hid (show aboveL a p n k = r by rw [HS.out, if_pos hkn, hxp]; simp)
          have t1 : ((x : Int) != (p : Int)) = false := by rw [bne_eq_false_iff_eq]; omega
          clear hxp HS hkn
          go_wp2_with fail
          go_roundw
          case rel => exact ⟨k, by omega, by go_num, HF.out, HB.out⟩
          case measure => simp [intOf]
        · have HF := Lib.hid (show r = decide (p < x) by rw [HS.out, if_pos hkn, if_pos (by rw [bne_iff_ne]; exact hxp)])
          have t1 : ((x : Int) != (p : Int)) = true := by rw [bne_iff_ne]; omega
          clear hxp HS hkn
          go_wp2_with fail
          go_ret
          exact ⟨by rw [HF.out]; rfl, HB.out⟩
      · have t0 : ((k : Int) == (n : Int)) = false := by rw [beq_eq_false_iff_ne]; omega
        by_cases hxp : x = 0
        · have HF := Lib.hid (show aboveL a p n k = r by rw [HS.out, if_neg hkn, hxp]; simp)
          have t1 : ((x : Int) != 0) = false := by rw [bne_eq_false_iff_eq]; omega
          clear hxp HS hkn
          go_wp2_with fail
          go_roundw
          case rel => exact ⟨k, by omega, by go_num, HF.out, HB.out⟩
          case measure => simp [intOf]
        · have HF := Lib.hid (show r = decide (0 < x) by rw [HS.out, if_neg hkn, if_pos (by rw [bne_iff_ne]; exact hxp)])
          have t1 : ((x : Int) != 0) = true := by rw [bne_iff_ne]; omega
          clear hxp HS hkn
          go_wp2_with fail
          go_ret
          exact ⟨by rw [HF.out]; rfl, HB.out⟩
end Go.Proofs.YtiebdmamjlgeoaaDoor
