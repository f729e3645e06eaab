/-
  The manifests' laws' own 'alive', by a contract. Conditions: the package-level variables as MLow says.
-/
import Derived.Test.YtfcglnajdfpmhaaGreatDoorZMan4
import Derived.Test.YtfcglnajdfpmhaaGreatDoorZRefM2
/-! The manifests' laws' own 'alive', by a contract. Conditions: the package-level variables as MLow says. -/
namespace Go.Proofs.YtfcglnajdfpmhaaGreatDoor
open Go.RowKit

set_option maxRecDepth 100000 in
set_option maxHeartbeats 4000000 in
theorem aliveM_t (w : World) (he : MLow w) :
    Calls Tryz.prog 19 #[] w fun e w' => e = .returned (.bool true) ∧ Below w.heap.size w w' := by
  have O := Lib.hid (of_any ⟨#[120]⟩ w he.tabs (by decide))
  have hd1 := isD_of ⟨#[120]⟩
  have hdz := ofB_size ⟨#[120]⟩
  obtain ⟨d, hd⟩ : ∃ d, ofB ⟨#[120]⟩ = d := ⟨_, rfl⟩
  rw [hd] at O hd1 hdz
  have hright : rightM ⟨true, ⟨#[]⟩, [], [d]⟩ = true := (rightM_index rfl).2 ⟨rfl, rfl, (by decide : 1 ≤ 1), (by decide : 1 ≤ 8), by
    show (isD d && decide (d ∉ ([] : List ByteArray)) && true) = true
    rw [hd1]; simp⟩
  have hpr : printM ⟨true, ⟨#[]⟩, [], [d]⟩ = (⟨(textM ⟨true, ⟨#[]⟩, [], [d]⟩).toArray⟩, 0) := by unfold printM; rw [if_pos hright]
  have P := Lib.hid (show ∀ w1, Below w.heap.size w w1 → Calls Tryz.prog 13 #[.agg #[.bool true, .string ⟨#[]⟩, .slice none 0 0, .slice (some ⟨w1.heap.size, 0, none⟩) 1 1]] (w1.alloc (.cells #[.string d] 9)) fun e w' => e = .returned (.tuple #[.string ⟨(textM ⟨true, ⟨#[]⟩, [], [d]⟩).toArray⟩, .int .i64 0]) ∧ Below (w1.alloc (.cells #[.string d] 9)).heap.size (w1.alloc (.cells #[.string d] 9)) w' from fun w1 hb => by
    have h := PrintM_t ⟨true, ⟨#[]⟩, [], [d]⟩ (.agg #[.bool true, .string ⟨#[]⟩, .slice none 0 0, .slice (some ⟨w1.heap.size, 0, none⟩) 1 1]) (w1.alloc (.cells #[.string d] 9))
      ⟨⟨_, _, rfl, Or.inl ⟨rfl, Or.inl rfl⟩, strs_new [d] (by simp) (by simp [maxLen]) #[.string d] rfl _ _ (heap_alloc_new w1 _)⟩, (show (0 : Nat) ≤ maxLen by decide), by simp, fun k hk => by
        rw [List.mem_singleton.1 hk, hdz]; decide⟩
      ⟨⟨(show (0 : Nat) < 1099511627776 by decide), by simp, fun k hk => by rw [List.mem_singleton.1 hk, hdz]; decide⟩, Nat.zero_le _, (by decide : 1 ≤ 1048576)⟩
      (he.below (Below.then hb (below_new _ _)))
    rw [hpr] at h
    exact h)
  obtain ⟨S, hS⟩ : ∃ S : ByteArray, (⟨(textM ⟨true, ⟨#[]⟩, [], [d]⟩).toArray⟩ : ByteArray) = S := ⟨_, rfl⟩
  rw [hS] at P
  have HQ := Lib.hid (show (S.toList == (⟨#[123, 34, 107, 105, 100, 115, 34, 58, 91, 34]⟩ ++ d ++ ⟨#[34, 93, 44, 34, 107, 105, 110, 100, 34, 58, 34, 105, 110, 100, 101, 120, 34, 125]⟩ : ByteArray).toList) = true by
    rw [beqB]
    refine decide_eq_true ?_
    rw [← hS]
    symm
    refine bytes_of ?_
    rw [cat_toList, cat_toList]
    unfold textM
    rw [if_pos rfl]
    simp [commaL, quoted])
  have hdz' : d.size ≤ 71 := by omega
  clear he hd1 hdz hd hright hpr hS
  go_enter Tryz.func19, Tryz.ntmps19
  go_wp2_with fail
  refine O.out.mono ?_
  rintro e w1 ⟨rfl, hb1⟩
  have P1 := Lib.hid (P.out w1 hb1)
  have HB1 := Lib.hid (Below.then hb1 (below_new w1 (.cells #[.string d] 9)))
  clear hb1
  go_wp2_with fail
  refine P1.out.mono ?_
  rintro e w2 ⟨rfl, hb2⟩
  have HB2 := Lib.hid (Below.then HB1.out hb2)
  have q := HQ.out
  clear hb2
  go_wp2_with fail
  go_ret
  exact ⟨rfl, HB2.out⟩
end Go.Proofs.YtfcglnajdfpmhaaGreatDoor
