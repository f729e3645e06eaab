/-
  Which texts may be names and tags, by contracts. Conditions: none but sizes.
-/
import Derived.Test.YtcdibcogboaikaaDoorAny
namespace Go.Proofs.YtcdibcogboaikaaDoor
open Go.RowKit

theorem inRun_any (c : UInt8) (w : World) : Calls Tryd.prog 37 #[.int .u8 c.toNat] w fun e w' => e = .returned (.bool (smallB c)) ∧ w = w' := by
  have hc := c.toNat_lt
  by_cases h1 : 97 ≤ c.toNat ∧ c.toNat ≤ 122
  · have HO := Lib.hid (show smallB c = true by simp [smallB, h1])
    obtain ⟨h1, h2⟩ := h1
    go_enter Tryd.func37, Tryd.ntmps37
    go_wp2_with fail
    go_ret
    exact ⟨by rw [HO.out]; first | rfl | (simp; omega), rfl⟩
  · by_cases h2 : 48 ≤ c.toNat ∧ c.toNat ≤ 57
    · have HO := Lib.hid (show smallB c = true by simp [smallB, h2])
      obtain ⟨h3, h4⟩ := h2
      clear h1
      go_enter Tryd.func37, Tryd.ntmps37
      go_wp2_with fail
      go_ret
      exact ⟨by rw [HO.out]; first | rfl | (simp; omega), rfl⟩
    · have HO := Lib.hid (show smallB c = false by simp [smallB]; omega)
      go_enter Tryd.func37, Tryd.ntmps37
      go_wp2_with fail
      all_goals
        go_ret
        exact ⟨by rw [HO.out]; first | rfl | (simp; omega), rfl⟩

theorem byte_class (c : UInt8) : c = 46 ∨ c = 95 ∨ c = 45 ∨ ((c ≠ 46 ∧ c ≠ 95 ∧ c ≠ 45) ∧ ((c.toNat : Int) == 46) = false ∧ ((c.toNat : Int) == 95) = false ∧ ((c.toNat : Int) == 45) = false) := by
  by_cases h1 : c = 46
  · exact Or.inl h1
  by_cases h2 : c = 95
  · exact Or.inr (Or.inl h2)
  by_cases h3 : c = 45
  · exact Or.inr (Or.inr (Or.inl h3))
  have h : ∀ d : UInt8, c ≠ d → ((c.toNat : Int) == (d.toNat : Int)) = false := fun d hd => beq_eq_false_iff_ne.2 fun e => hd (UInt8.toNat_inj.1 (by omega))
  exact Or.inr (Or.inr (Or.inr ⟨⟨h1, h2, h3⟩, h 46 h1, h 95 h2, h 45 h3⟩))

theorem next_any (p : Nat) (c : UInt8) (w : World) (hp : p = 1 ∨ p = 2 ∨ p = 3 ∨ p = 4) :
    Calls Tryd.prog 35 #[.int .i64 p, .int .u8 c.toNat] w fun e w' => e = .returned (.int .i64 (nextN p c)) ∧ w = w' := by
  have R := Lib.hid (inRun_any c w)
  have hc := c.toNat_lt
  rcases byte_class c with rfl | rfl | rfl | ⟨⟨n1, n2, n3⟩, k1, k2, k3⟩
  · rw [show smallB 46 = false by decide] at R
    rcases hp with rfl | rfl | rfl | rfl
    all_goals
      go_enter Tryd.func35, Tryd.ntmps35
      go_wp2_with (go_at_call 37; refine R.out.mono ?_; rintro e w1 ⟨rfl, rfl⟩)
      go_ret
      exact ⟨rfl, rfl⟩
  · rw [show smallB 95 = false by decide] at R
    rcases hp with rfl | rfl | rfl | rfl
    all_goals
      go_enter Tryd.func35, Tryd.ntmps35
      go_wp2_with (go_at_call 37; refine R.out.mono ?_; rintro e w1 ⟨rfl, rfl⟩)
      go_ret
      exact ⟨rfl, rfl⟩
  · rw [show smallB 45 = false by decide] at R
    rcases hp with rfl | rfl | rfl | rfl
    all_goals
      go_enter Tryd.func35, Tryd.ntmps35
      go_wp2_with (go_at_call 37; refine R.out.mono ?_; rintro e w1 ⟨rfl, rfl⟩)
      go_ret
      exact ⟨rfl, rfl⟩
  · have hn : nextN p c = if smallB c then 4 else 0 := by simp [nextN, n1, n2, n3]
    rw [hn]
    clear hn n1 n2 n3
    cases hb : smallB c
    all_goals
      rw [hb] at R
      rcases hp with rfl | rfl | rfl | rfl
      all_goals
        go_enter Tryd.func35, Tryd.ntmps35
        go_wp2_with (go_at_call 37; refine R.out.mono ?_; rintro e w1 ⟨rfl, rfl⟩)
        go_ret
        exact ⟨rfl, rfl⟩

theorem fold_take {α : Type} (f : α → UInt8 → α) (a : α) (s : ByteArray) (k : Nat) (h : k < s.size) : (s.data.toList.take (k + 1)).foldl f a = f ((s.data.toList.take k).foldl f a) s[k] := by
  have h6 : k < s.data.toList.length := by rw [← Lib.size_eq]; exact h
  have e : s.data.toList[k]'h6 = s[k] := by
    have := Lib.data_getElem? s k h
    rw [List.getElem?_eq_getElem h6] at this
    exact Option.some.inj this
  rw [List.take_succ_eq_append_getElem h6, List.foldl_append, e]; rfl
theorem fold_drop {α : Type} (f : α → UInt8 → α) (a : α) (l : List UInt8) (k : Nat) : l.foldl f a = (l.drop k).foldl f ((l.take k).foldl f a) := by
  rw [← List.foldl_append, List.take_append_drop]

set_option maxRecDepth 100000 in
theorem part_any (s : ByteArray) (w : World) (hs : s.size ≤ maxLen) :
    Calls Tryd.prog 23 #[.string s] w fun e w' => e = .returned (.bool (partL s.data.toList)) ∧ w = w' := by
  unfold maxLen at hs
  go_enter Tryd.func23, Tryd.ntmps23
  go_wp2_with fail
  go_loop [3, 7] (fun a i => ∃ k p : Nat, k ≤ s.size ∧ a = .int .i64 p ∧ i = .int .i64 k ∧ (s.data.toList.take k).foldl nx 1 = p ∧ (p = 1 ∨ p = 2 ∨ p = 3 ∨ p = 4)) (fun _ i => s.size - (intOf i).toNat)
  case atStart => exact ⟨0, 1, Nat.zero_le _, rfl, rfl, rfl, Or.inl rfl⟩
  case round =>
    obtain ⟨k, p, hk, rfl, rfl, hf, hp⟩ := hrel
    by_cases hlt : k < s.size
    · have hn := fold_take nx 1 s k hlt
      rw [hf] at hn
      have hnx : nx p s[k] = nextN p s[k] := by unfold nx; rw [if_neg (by omega)]
      rw [hnx] at hn
      have hle := nextN_le p s[k]
      have N := Lib.hid (fun w => next_any p s[k] w hp)
      obtain ⟨q, hq⟩ : ∃ q, nextN p s[k] = q := ⟨_, rfl⟩
      rw [hq] at hn hle N
      clear hf hnx hq hp
      by_cases h0 : q = 0
      · subst h0
        have HO := Lib.hid (show partL s.data.toList = false by unfold partL; rw [fold_drop nx 1 _ (k + 1), hn, nx_zero]; rfl)
        clear hn hle
        go_wp2_with fail
        refine (N.out _).mono ?_
        rintro e w1 ⟨rfl, rfl⟩
        go_wp2_with fail
        go_ret
        exact ⟨by rw [HO.out]; rfl, rfl⟩
      · have HN := Lib.hid hn
        have q0 : ((q : Int) == 0) = false := beq_eq_false_iff_ne.2 (by omega)
        clear hn
        go_wp2_with fail
        refine (N.out _).mono ?_
        rintro e w1 ⟨rfl, rfl⟩
        go_wp2_with fail
        go_round
        case rel => exact ⟨k + 1, q, by omega, rfl, by go_num, HN.out, by omega⟩
        case measure => simp [intOf]; omega
    · have HO := Lib.hid (show partL s.data.toList = ((p : Int) == 4) by
        rw [List.take_of_length_le (by rw [← Lib.size_eq]; omega)] at hf
        unfold partL; rw [hf]
        rw [Bool.eq_iff_iff, beq_iff_eq, beq_iff_eq]; omega)
      clear hf hp
      go_wp2_with fail
      go_ret
      exact ⟨by rw [HO.out]; rfl, rfl⟩

theorem inTag_any (c : UInt8) (w : World) : Calls Tryd.prog 26 #[.int .u8 c.toNat] w fun e w' => e = .returned (.bool (inTagB c)) ∧ w = w' := by
  have R := Lib.hid (inRun_any c w)
  have hc := c.toNat_lt
  have k : ∀ d : UInt8, ((c.toNat : Int) == (d.toNat : Int)) = (c == d) := fun d => by
    rw [Bool.eq_iff_iff, beq_iff_eq, beq_iff_eq, ← UInt8.toNat_inj]; omega
  have k1 : ((c.toNat : Int) == 95) = (c == 95) := k 95
  have k2 : ((c.toNat : Int) == 46) = (c == 46) := k 46
  have k3 : ((c.toNat : Int) == 45) = (c == 45) := k 45
  have HO := Lib.hid (show inTagB c = (smallB c || decide (65 ≤ c.toNat ∧ c.toNat ≤ 90) || c == 95 || c == 46 || c == 45) from rfl)
  clear k
  obtain ⟨b, hb⟩ : ∃ b, smallB c = b := ⟨_, rfl⟩
  obtain ⟨x, hx⟩ : ∃ b, (c == 95) = b := ⟨_, rfl⟩
  obtain ⟨y, hy⟩ : ∃ b, (c == 46) = b := ⟨_, rfl⟩
  obtain ⟨z, hz⟩ : ∃ b, (c == 45) = b := ⟨_, rfl⟩
  rw [hb] at R HO
  rw [hx] at k1 HO
  rw [hy] at k2 HO
  rw [hz] at k3 HO
  clear hb hx hy hz
  go_enter Tryd.func26, Tryd.ntmps26
  go_wp2_with fail
  refine R.out.mono ?_
  rintro e w1 ⟨rfl, rfl⟩
  cases b <;> cases x <;> cases y <;> cases z
  all_goals
    go_wp2_with fail
  all_goals go_ret
  all_goals exact ⟨by rw [HO.out]; first | rfl | (simp; done) | (simp; omega) | (simp; rw [Bool.eq_iff_iff]; simp; omega), rfl⟩
end Go.Proofs.YtcdibcogboaikaaDoor
