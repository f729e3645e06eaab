/-
  Which patterns may be, by contracts. Conditions: none but sizes.
-/
import Derived.Test.YtjohjmoggldfcaaDoorProg
import Derived.Test.YtjohjmoggldfcaaDoorGlobPlain
import Derived.WalkKit
import Derived.WalkLawsBesides
import Derived.WalkSpells
import Derived.BigCall
import Derived.Lib.Hide
import Derived.Outline
import Derived.Lib.OthersKept
namespace Go.Proofs.YtjohjmoggldfcaaDoor
open Go.RowKit

theorem fold_takeG {α : Type} (f : α → UInt8 → α) (a : α) (s : ByteArray) (k : Nat) (h : k < s.size) : (s.data.toList.take (k + 1)).foldl f a = f ((s.data.toList.take k).foldl f a) s[k] := by
  have h6 : k < s.data.toList.length := by rw [← Lib.size_eq]; exact h
  have e : s.data.toList[k]'h6 = s[k] := by
    have := Lib.data_getElem? s k h
    rw [List.getElem?_eq_getElem h6] at this
    exact Option.some.inj this
  rw [List.take_succ_eq_append_getElem h6, List.foldl_append, e]; rfl
theorem fold_dropG {α : Type} (f : α → UInt8 → α) (a : α) (l : List UInt8) (k : Nat) : l.foldl f a = (l.drop k).foldl f ((l.take k).foldl f a) := by
  rw [← List.foldl_append, List.take_append_drop]
theorem all_takeG (f : UInt8 → Bool) (s : ByteArray) (k : Nat) (h : k < s.size) : (s.data.toList.take (k + 1)).all f = ((s.data.toList.take k).all f && f s[k]) := by
  have h6 : k < s.data.toList.length := by rw [← Lib.size_eq]; exact h
  have e : s.data.toList[k]'h6 = s[k] := by
    have := Lib.data_getElem? s k h
    rw [List.getElem?_eq_getElem h6] at this
    exact Option.some.inj this
  rw [List.take_succ_eq_append_getElem h6, List.all_append, e]; simp

set_option maxRecDepth 100000 in
theorem isSeen_any (s : ByteArray) (w : World) (hs : s.size ≤ maxLen) :
    Calls Tryd.prog 28 #[.string s] w fun e w' => e = .returned (.bool (seenL s.data.toList)) ∧ w = w' := by
  unfold maxLen at hs
  go_enter Tryd.func28, Tryd.ntmps28
  go_wp2_with fail
  go_loop [7] (fun i => ∃ k : Nat, k ≤ s.size ∧ i = .int .i64 k ∧ (s.data.toList.take k).all seenC = true) (fun i => s.size - (intOf i).toNat)
  case atStart => exact ⟨0, Nat.zero_le _, rfl, rfl⟩
  case round =>
    obtain ⟨k, hk, rfl, hall⟩ := hrel
    by_cases hlt : k < s.size
    · have hn := all_takeG seenC s k hlt
      rw [hall, Bool.true_and] at hn
      have h8 := s[k].toNat_lt
      by_cases h1 : s[k].toNat < 33
      · have HO := Lib.hid (show seenL s.data.toList = false by
          unfold seenL
          have hq : seenC s[k] = false := by unfold seenC; simp; omega
          rw [hq] at hn
          rw [List.all_eq_false] at hn ⊢
          obtain ⟨x, hx, hf⟩ := hn
          exact ⟨x, List.mem_of_mem_take hx, hf⟩)
        clear hn hall
        go_wp2_with fail
        go_ret
        exact ⟨by rw [HO.out]; rfl, rfl⟩
      · by_cases h2 : 126 < s[k].toNat
        · have HO := Lib.hid (show seenL s.data.toList = false by
            unfold seenL
            have hq : seenC s[k] = false := by unfold seenC; simp; omega
            rw [hq] at hn
            rw [List.all_eq_false] at hn ⊢
            obtain ⟨x, hx, hf⟩ := hn
            exact ⟨x, List.mem_of_mem_take hx, hf⟩)
          clear hn hall
          go_wp2_with fail
          go_ret
          exact ⟨by rw [HO.out]; rfl, rfl⟩
        · have HN := Lib.hid (show (s.data.toList.take (k + 1)).all seenC = true by rw [hn]; unfold seenC; simp; omega)
          clear hn hall
          go_wp2_with fail
          go_round
          case rel => exact ⟨k + 1, by omega, by go_num, HN.out⟩
          case measure => simp [intOf]; omega
    · have HO := Lib.hid (show seenL s.data.toList = true by
        unfold seenL
        rw [List.take_of_length_le (by rw [← Lib.size_eq]; omega)] at hall
        exact hall)
      clear hall
      go_wp2_with fail
      go_ret
      exact ⟨by rw [HO.out]; rfl, rfl⟩

theorem brace_class (c : UInt8) : c = 123 ∨ c = 125 ∨ ((c ≠ 123 ∧ c ≠ 125) ∧ ((c.toNat : Int) == 123) = false ∧ ((c.toNat : Int) == 125) = false) := by
  by_cases h1 : c = 123
  · exact Or.inl h1
  by_cases h2 : c = 125
  · exact Or.inr (Or.inl h2)
  have h : ∀ d : UInt8, c ≠ d → ((c.toNat : Int) == (d.toNat : Int)) = false := fun d hd => beq_eq_false_iff_ne.2 fun e => hd (UInt8.toNat_inj.1 (by omega))
  exact Or.inr (Or.inr ⟨⟨h1, h2⟩, h 123 h1, h 125 h2⟩)

set_option maxRecDepth 100000 in
theorem areBraces_any (s : ByteArray) (w : World) (hs : s.size ≤ maxLen) :
    Calls Tryd.prog 29 #[.string s] w fun e w' => e = .returned (.bool (bracesL s.data.toList)) ∧ w = w' := by
  unfold maxLen at hs
  go_enter Tryd.func29, Tryd.ntmps29
  go_wp2_with fail
  go_loop [3, 7] (fun a i => ∃ (k : Nat) (b : Bool), k ≤ s.size ∧ a = .bool b ∧ i = .int .i64 k ∧ (s.data.toList.take k).foldl braceN 0 = b.toNat) (fun _ i => s.size - (intOf i).toNat)
  case atStart => exact ⟨0, false, Nat.zero_le _, rfl, rfl, rfl⟩
  case round =>
    obtain ⟨k, b, hk, rfl, rfl, hf⟩ := hrel
    by_cases hlt : k < s.size
    · have hn := fold_takeG braceN 0 s k hlt
      rw [hf] at hn
      have bad : braceN b.toNat s[k] = 2 → bracesL s.data.toList = false := fun h => by
        rw [h] at hn
        unfold bracesL
        rw [fold_dropG braceN 0 _ (k + 1), hn, braceN_two]; rfl
      have HB := Lib.hid bad
      have HN := Lib.hid hn
      clear hn hf bad
      rcases brace_class s[k] with h | h | ⟨⟨n1, n2⟩, k1, k2⟩
      · have h1 : ((s[k].toNat : Int) == 123) = true := by rw [h]; rfl
        rw [h] at HB HN
        clear h
        cases b with
        | true =>
          have HO := Lib.hid (HB.out (by decide))
          go_wp2_with fail
          go_ret
          exact ⟨by rw [HO.out]; rfl, rfl⟩
        | false =>
          go_wp2_with fail
          go_round
          case rel => exact ⟨k + 1, true, by omega, rfl, by go_num, by rw [HN.out]; decide⟩
          case measure => simp [intOf]; omega
      · have h1 : ((s[k].toNat : Int) == 123) = false := by rw [h]; rfl
        have h2 : ((s[k].toNat : Int) == 125) = true := by rw [h]; rfl
        rw [h] at HB HN
        clear h
        cases b with
        | false =>
          have HO := Lib.hid (HB.out (by decide))
          go_wp2_with fail
          go_ret
          exact ⟨by rw [HO.out]; rfl, rfl⟩
        | true =>
          go_wp2_with fail
          go_round
          case rel => exact ⟨k + 1, false, by omega, rfl, by go_num, by rw [HN.out]; decide⟩
          case measure => simp [intOf]; omega
      · have HM := Lib.hid (show braceN b.toNat s[k] = b.toNat by
          unfold braceN
          rw [if_neg n1, if_neg n2]
          cases b <;> rfl)
        clear n1 n2
        go_wp2_with fail
        go_round
        case rel => exact ⟨k + 1, b, by omega, by first | rfl | simp, by go_num, by rw [HN.out, HM.out]⟩
        case measure => simp [intOf]; omega
    · have HO := Lib.hid (show bracesL s.data.toList = !b by
        rw [List.take_of_length_le (by rw [← Lib.size_eq]; omega)] at hf
        unfold bracesL; rw [hf]; cases b <;> rfl)
      clear hf
      go_wp2_with fail
      go_ret
      exact ⟨by rw [HO.out]; rfl, rfl⟩

/-- May a pattern be? -/
def rightB (s : ByteArray) : Bool := rightL s.data.toList
theorem size_lenG (s : ByteArray) : s.data.toList.length = s.size := by simp

set_option maxRecDepth 100000 in
set_option maxHeartbeats 1000000 in
theorem Right_g (s : ByteArray) (w : World) (hs : s.size ≤ maxLen) :
    Calls Tryd.prog 15 #[.string s] w fun e w' => e = .returned (.bool (rightB s)) ∧ w = w' := by
  have S := Lib.hid (isSeen_any s w hs)
  have B := Lib.hid (areBraces_any s w hs)
  unfold maxLen at hs
  by_cases h0 : s.size = 0
  · obtain rfl : s = ⟨#[]⟩ := by
      apply ByteArray.ext; apply Array.ext'
      exact List.length_eq_zero_iff.1 (by rw [size_lenG]; exact h0)
    clear S B
    go_enter Tryd.func15, Tryd.ntmps15
    go_wp2_with fail
    go_ret
    exact ⟨rfl, rfl⟩
  · have x0 : s.data.toList.isEmpty = false := by
      rw [← Bool.not_eq_true, List.isEmpty_iff]
      intro h
      exact h0 (by rw [← size_lenG, h]; rfl)
    have x1 : (s.toList == []) = false := by
      rw [Lib.toList_data]
      cases hx : s.data.toList with
      | nil => rw [hx] at x0; cases x0
      | cons _ _ => rfl
    have x2 : s.toList.isEmpty = false := by rw [Lib.toList_data]; exact x0
    by_cases h1 : 128 < s.size
    · have HO := Lib.hid (show rightB s = false by
        unfold rightB rightL; rw [show decide (s.data.toList.length ≤ 128) = false by rw [size_lenG]; simp; omega]; simp)
      clear S B
      go_enter Tryd.func15, Tryd.ntmps15
      go_wp2_with fail
      go_ret
      exact ⟨by rw [HO.out]; rfl, rfl⟩
    · have HO := Lib.hid (show rightB s = (seenL s.data.toList && bracesL s.data.toList) by
        unfold rightB rightL; rw [x0, show decide (s.data.toList.length ≤ 128) = true by rw [size_lenG]; simp; omega]; simp)
      obtain ⟨p, hp⟩ : ∃ p, seenL s.data.toList = p := ⟨_, rfl⟩
      obtain ⟨q, hq⟩ : ∃ q, bracesL s.data.toList = q := ⟨_, rfl⟩
      rw [hp] at S HO
      rw [hq] at B HO
      clear hp hq x0 h0
      cases p with
      | false =>
        clear B
        go_enter Tryd.func15, Tryd.ntmps15
        go_wp2_with fail
        refine S.out.mono ?_
        rintro e w1 ⟨rfl, rfl⟩
        go_wp2_with fail
        go_ret
        exact ⟨by rw [HO.out]; rfl, rfl⟩
      | true =>
        go_enter Tryd.func15, Tryd.ntmps15
        go_wp2_with fail
        refine S.out.mono ?_
        rintro e w1 ⟨rfl, rfl⟩
        go_wp2_with fail
        refine B.out.mono ?_
        rintro e w1 ⟨rfl, rfl⟩
        go_wp2_with fail
        go_ret
        exact ⟨by rw [HO.out]; cases q <;> rfl, rfl⟩
end Go.Proofs.YtjohjmoggldfcaaDoor
