/-
  The document's own number of a schedule's field, by a contract. Conditions: texts of at most 300 bytes.
-/
import Derived.Test.YtccobaohmbilpaaDoorRefSplitB
namespace Go.Proofs.YtccobaohmbilpaaDoor
open Go.RowKit

theorem numV_snoc (l : List UInt8) (c : UInt8) : numV (l ++ [c]) = 10 * numV l + (c.toNat - 48) := by
  unfold numV; rw [List.foldl_append]; rfl
theorem numI_none {l : List UInt8} {low high : Nat} (h : numberL l low high = none) : numI l low high = -1 := by unfold numI; rw [h]
theorem numI_some {l : List UInt8} {low high n : Nat} (h : numberL l low high = some n) : numI l low high = (n : Int) := by unfold numI; rw [h]

set_option maxRecDepth 100000 in
set_option maxHeartbeats 2000000 in
theorem refNumber_t (s : ByteArray) (low high : Nat) (w : World) (hs : s.size ≤ 300) :
    Calls Tryd.prog 41 #[.string s, .int .i64 low, .int .i64 high] w fun e w' => e = .returned (.int .i64 (numI s.data.toList low high)) ∧ w = w' := by
  have hsl : s.data.toList.length = s.size := by simp
  go_enter Tryd.func41, Tryd.ntmps41
  go_wp2_with fail
  go_loop [7, 8] (fun nv iv => ∃ (k : Nat) (n : Int), k ≤ s.size ∧ nv = .int .i64 n ∧ iv = .int .i64 k ∧ (s.data.toList.take k).all digitB = true ∧ (k ≤ 2 → n = (numV (s.data.toList.take k) : Nat))) (fun _ i => s.size - (intOf i).toNat)
  case atStart => exact ⟨0, 0, Nat.zero_le _, rfl, rfl, rfl, fun _ => rfl⟩
  case round =>
    obtain ⟨k, n, hk, rfl, rfl, hall, hn⟩ := hrel
    have HALL := Lib.hid hall
    have HN := Lib.hid hn
    clear hall hn
    by_cases hlt : k < s.size
    · have hk2 : k < s.data.toList.length := by rw [hsl]; exact hlt
      have HT := Lib.hid (List.take_succ_eq_append_getElem hk2)
      have HG := Lib.hid (getElem_list s k hlt)
      have HBAD := Lib.hid (show digitB s[k] = false → numI s.data.toList low high = -1 from fun h => by
        refine numI_none ?_
        unfold numberL
        have : s.data.toList.all digitB = false := by
          rw [List.all_eq_false]; exact ⟨s.data.toList[k], List.getElem_mem hk2, by rw [HG.out, h]; decide⟩
        rw [this]; rfl)
      obtain ⟨c, hc⟩ : ∃ c, s[k] = c := ⟨_, rfl⟩
      have HC := Lib.hid hc
      have h8 := s[k].toNat_lt
      rw [hc] at HBAD
      clear hc
      by_cases h1 : s[k].toNat < 48
      · have HO := Lib.hid (HBAD.out (by rw [← HC.out]; unfold digitB; simp; omega))
        go_wp2_with fail
        go_ret
        exact ⟨by rw [HO.out]; rfl, rfl⟩
      · by_cases h2 : 57 < s[k].toNat
        · have HO := Lib.hid (HBAD.out (by rw [← HC.out]; unfold digitB; simp; omega))
          go_wp2_with fail
          go_ret
          exact ⟨by rw [HO.out]; rfl, rfl⟩
        · have HA := Lib.hid (show (s.data.toList.take (k + 1)).all digitB = true from by
            rw [HT.out, List.all_append, HALL.out, HG.out]
            unfold digitB; simp; omega)
          by_cases hk1 : k ≤ 1
          · have hn := HN.out (by omega)
            have hle : numV (s.data.toList.take k) ≤ 9 := by
              have : k = 0 ∨ k = 1 := by omega
              rcases this with rfl | rfl
              · simp [numV]
              · rw [List.take_succ_eq_append_getElem (by omega), numV_snoc, getElem_list s 0 (by omega)]
                have hd := HALL.out
                rw [List.take_succ_eq_append_getElem (by omega), List.all_append, getElem_list s 0 (by omega)] at hd
                simp [digitB] at hd
                simp [numV]; omega
            have HNX := Lib.hid (show ((numV (s.data.toList.take (k + 1)) : Nat) : Int) = 10 * (numV (s.data.toList.take k) : Nat) + ((s[k].toNat : Int) - 48) from by
              rw [HT.out, numV_snoc, HG.out]; omega)
            obtain ⟨m, hm⟩ : ∃ m, numV (s.data.toList.take k) = m := ⟨_, rfl⟩
            rw [hm] at hn hle HNX
            subst hn
            clear hm
            go_wp2_with fail
            go_round
            case rel => exact ⟨k + 1, _, by omega, rfl, by go_num, HA.out, fun _ => HNX.out.symm⟩
            case measure => simp [intOf]; omega
          · go_wp2_with fail
            go_round
            case rel => exact ⟨k + 1, _, by omega, rfl, by go_num, HA.out, fun h => absurd h (by omega)⟩
            case measure => simp [intOf]; omega
    · have hkk : k = s.size := by omega
      have hall := HALL.out
      rw [List.take_of_length_le (by omega)] at hall
      have hnl : numberL s.data.toList low high = if decide (1 ≤ s.size) && decide (s.size ≤ 2) && !(s.size == 2 && decide (numV s.data.toList < 10)) && decide (low ≤ numV s.data.toList) && decide (numV s.data.toList ≤ high) then some (numV s.data.toList) else none := by
        unfold numberL; rw [hall, hsl, Bool.true_and]
      have HNL := Lib.hid hnl
      have hnn : s.size ≤ 2 → n = (numV s.data.toList : Nat) := fun h => by
        have := HN.out (by omega)
        rw [List.take_of_length_le (by omega)] at this
        exact this
      have HNN := Lib.hid hnn
      obtain ⟨m, hm⟩ : ∃ m, numV s.data.toList = m := ⟨_, rfl⟩
      rw [hm] at HNL HNN
      clear hall hnl hnn hm hsl
      by_cases h0 : s.size = 0
      · have HO := Lib.hid (numI_none (by rw [HNL.out, h0]; rfl))
        go_wp2_with fail
        go_ret
        exact ⟨by rw [HO.out]; rfl, rfl⟩
      · by_cases h3 : 2 < s.size
        · have HO := Lib.hid (numI_none (by rw [HNL.out, decide_eq_false (show ¬ s.size ≤ 2 by omega)]; simp))
          go_wp2_with fail
          go_ret
          exact ⟨by rw [HO.out]; rfl, rfl⟩
        · have hn := HNN.out (by omega)
          subst hn
          have f0 : ((s.size : Int) == 0) = false := beq_eq_false_iff_ne.2 (by omega)
          have f3 : decide (2 < (s.size : Int)) = false := decide_eq_false (by omega)
          by_cases h4 : s.size = 2 ∧ m < 10
          · obtain ⟨h4, h5⟩ := h4
            have HO := Lib.hid (numI_none (by rw [HNL.out, h4, decide_eq_true h5]; simp))
            go_wp2_with fail
            go_ret
            exact ⟨by rw [HO.out]; rfl, rfl⟩
          · have HF := Lib.hid (show (s.size == 2 && decide (m < 10)) = false from by
              rw [Bool.and_eq_false_iff]
              by_cases e : s.size = 2
              · exact Or.inr (decide_eq_false fun h => h4 ⟨e, h⟩)
              · exact Or.inl (beq_eq_false_iff_ne.2 e))
            by_cases h5 : m < low
            · have HO := Lib.hid (numI_none (by rw [HNL.out, decide_eq_false (show ¬ low ≤ m by omega)]; simp))
              by_cases e2 : s.size = 2
              · have f2 : decide ((m : Int) < 10) = false := decide_eq_false (by omega)
                have f1 : ((s.size : Int) == 2) = true := by rw [e2]; rfl
                go_wp2_with fail
                go_ret
                exact ⟨by rw [HO.out]; rfl, rfl⟩
              · have f1 : ((s.size : Int) == 2) = false := beq_eq_false_iff_ne.2 (by omega)
                go_wp2_with fail
                go_ret
                exact ⟨by rw [HO.out]; rfl, rfl⟩
            · by_cases h6 : high < m
              · have HO := Lib.hid (numI_none (by rw [HNL.out, decide_eq_false (show ¬ m ≤ high by omega)]; simp))
                by_cases e2 : s.size = 2
                · have f2 : decide ((m : Int) < 10) = false := decide_eq_false (by omega)
                  have f1 : ((s.size : Int) == 2) = true := by rw [e2]; rfl
                  go_wp2_with fail
                  go_ret
                  exact ⟨by rw [HO.out]; rfl, rfl⟩
                · have f1 : ((s.size : Int) == 2) = false := beq_eq_false_iff_ne.2 (by omega)
                  go_wp2_with fail
                  go_ret
                  exact ⟨by rw [HO.out]; rfl, rfl⟩
              · have HO := Lib.hid (numI_some (n := m) (by rw [HNL.out, HF.out, decide_eq_true (show 1 ≤ s.size by omega), decide_eq_true (show s.size ≤ 2 by omega), decide_eq_true (show low ≤ m by omega), decide_eq_true (show m ≤ high by omega)]; rfl))
                by_cases e2 : s.size = 2
                · have f2 : decide ((m : Int) < 10) = false := decide_eq_false (by omega)
                  have f1 : ((s.size : Int) == 2) = true := by rw [e2]; rfl
                  go_wp2_with fail
                  go_ret
                  exact ⟨by rw [HO.out]; rfl, rfl⟩
                · have f1 : ((s.size : Int) == 2) = false := beq_eq_false_iff_ne.2 (by omega)
                  go_wp2_with fail
                  go_ret
                  exact ⟨by rw [HO.out]; rfl, rfl⟩
end Go.Proofs.YtccobaohmbilpaaDoor
