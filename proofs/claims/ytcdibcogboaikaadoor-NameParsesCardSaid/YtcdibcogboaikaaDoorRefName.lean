/-
  The document's own small, mark, Part and Tag of names, by contracts. Conditions: none but sizes.
-/
import Derived.Test.YtcdibcogboaikaaDoorName5
import Derived.Test.YtcdibcogboaikaaDoorNameLaws
import Derived.Test.YtcdibcogboaikaaDoorRefParse
namespace Go.Proofs.YtcdibcogboaikaaDoor
open Go.RowKit

theorem small_any (c : UInt8) (w : World) : Calls Tryd.prog 27 #[.int .u8 c.toNat] w fun e w' => e = .returned (.bool (smallB c)) ∧ w = w' := by
  have hc := c.toNat_lt
  by_cases h1 : 97 ≤ c.toNat ∧ c.toNat ≤ 122
  · have HO := Lib.hid (show smallB c = true by simp [smallB, h1])
    obtain ⟨h1, h2⟩ := h1
    go_enter Tryd.func27, Tryd.ntmps27
    go_wp2_with fail
    go_ret
    exact ⟨by rw [HO.out]; first | rfl | (simp; omega), rfl⟩
  · by_cases h2 : 48 ≤ c.toNat ∧ c.toNat ≤ 57
    · have HO := Lib.hid (show smallB c = true by simp [smallB, h2])
      obtain ⟨h3, h4⟩ := h2
      clear h1
      go_enter Tryd.func27, Tryd.ntmps27
      go_wp2_with fail
      go_ret
      exact ⟨by rw [HO.out]; first | rfl | (simp; omega), rfl⟩
    · have HO := Lib.hid (show smallB c = false by simp [smallB]; omega)
      go_enter Tryd.func27, Tryd.ntmps27
      go_wp2_with fail
      all_goals
        go_ret
        exact ⟨by rw [HO.out]; first | rfl | (simp; omega), rfl⟩

set_option maxRecDepth 100000 in
theorem mark_any (s : ByteArray) (w : World) (hs : s.size ≤ 1099511627776) :
    Calls Tryd.prog 36 #[.string s] w fun e w' => e = .returned (.bool (markL s.data.toList)) ∧ w = w' := by
  obtain ⟨a, ha⟩ : ∃ a, (s.toList == [46]) = a := ⟨_, rfl⟩
  obtain ⟨b, hb⟩ : ∃ b, (s.toList == [95]) = b := ⟨_, rfl⟩
  obtain ⟨c, hc⟩ : ∃ c, (s.toList == [95, 95]) = c := ⟨_, rfl⟩
  have HM := Lib.hid (show markL s.data.toList = (a || b || c || (s.data.toList.all (· == 45) && decide (0 < s.size))) by
    unfold markL; rw [← Lib.toList_data, ha, hb, hc, size_list, ← Lib.toList_data])
  by_cases hab : (a || b || c) = true
  · have HO := Lib.hid (show markL s.data.toList = true by rw [HM.out, hab]; rfl)
    clear HM
    cases a with
    | true =>
      go_enter Tryd.func36, Tryd.ntmps36
      go_wp2_with fail
      go_ret
      exact ⟨by rw [HO.out]; rfl, rfl⟩
    | false =>
      cases b with
      | true =>
        go_enter Tryd.func36, Tryd.ntmps36
        go_wp2_with fail
        go_ret
        exact ⟨by rw [HO.out]; rfl, rfl⟩
      | false =>
        cases c with
        | true =>
          go_enter Tryd.func36, Tryd.ntmps36
          go_wp2_with fail
          go_ret
          exact ⟨by rw [HO.out]; rfl, rfl⟩
        | false => cases hab
  · have HO := Lib.hid (show markL s.data.toList = (s.data.toList.all (· == 45) && decide (0 < s.size)) by rw [HM.out, (Bool.not_eq_true _).mp hab]; rfl)
    have hab' := (Bool.not_eq_true _).mp hab
    simp only [Bool.or_eq_false_iff] at hab'
    obtain ⟨⟨rfl, rfl⟩, rfl⟩ := hab'
    clear HM hab
    go_enter Tryd.func36, Tryd.ntmps36
    go_wp2_with fail
    go_loop [3] (fun i => ∃ k : Nat, k ≤ s.size ∧ i = .int .i64 k ∧ (s.data.toList.take k).all (· == 45) = true) (fun i => s.size - (intOf i).toNat)
    case atStart => exact ⟨0, Nat.zero_le _, rfl, rfl⟩
    case round =>
      obtain ⟨k, hk, rfl, hall⟩ := hrel
      by_cases hlt : k < s.size
      · have ht := all_take (· == 45) s k hlt
        rw [hall, Bool.true_and] at ht
        have hne : ((s[k].toNat : Int) != 45) = !(s[k] == 45) := by
          rw [Bool.eq_iff_iff, bne_iff_ne, Bool.not_eq_true', beq_eq_false_iff_ne, Ne, Ne, ← UInt8.toNat_inj]
          show _ ↔ ¬ s[k].toNat = 45
          omega
        obtain ⟨q, hq⟩ : ∃ q, (s[k] == 45) = q := ⟨_, rfl⟩
        rw [hq] at ht hne
        have HN := Lib.hid ht
        clear ht hall hq
        cases q with
        | true =>
          go_wp2_with fail
          go_round
          case rel => exact ⟨k + 1, by omega, by go_num, HN.out⟩
          case measure => simp [intOf]; omega
        | false =>
          have HF := Lib.hid (show markL s.data.toList = false by rw [HO.out, all_not (· == 45) s (k + 1) HN.out]; rfl)
          go_wp2_with fail
          go_ret
          exact ⟨by rw [HF.out]; rfl, rfl⟩
      · have HF := Lib.hid (show markL s.data.toList = decide (0 < s.size) by
          rw [HO.out]
          rw [List.take_of_length_le (by rw [← Lib.size_eq]; omega)] at hall
          rw [hall, Bool.true_and])
        clear hall
        go_wp2_with fail
        go_ret
        exact ⟨by rw [HF.out]; rfl, rfl⟩

theorem take_one (s : ByteArray) (k : Nat) (h : k < s.size) : s.data.toList.drop k = s[k] :: s.data.toList.drop (k + 1) := by
  have h6 : k < s.data.toList.length := by rw [← Lib.size_eq]; exact h
  have e : s.data.toList[k]'h6 = s[k] := by
    have := Lib.data_getElem? s k h
    rw [List.getElem?_eq_getElem h6] at this
    exact Option.some.inj this
  rw [List.drop_eq_getElem_cons h6, e]
theorem extract_one (s : ByteArray) (k : Nat) (h : k < s.size) : (s.extract k (k + 1)).data.toList = [s[k]] := by
  rw [extract_list, take_one s k h, show k + 1 - k = 1 by omega]; rfl
theorem last_at (s : ByteArray) (h : 0 < s.size) : s.data.toList.getLastD 0 = s[s.size - 1]'(by omega) := by
  have h6 : s.size - 1 < s.data.toList.length := by rw [← Lib.size_eq]; omega
  have e : s.data.toList[s.size - 1]'h6 = s[s.size - 1]'(by omega) := by
    have := Lib.data_getElem? s (s.size - 1) (by omega)
    rw [List.getElem?_eq_getElem h6] at this
    exact Option.some.inj this
  rw [← e, List.getLastD_eq_getLast?, List.getLast?_eq_getElem?, ← Lib.size_eq, List.getElem?_eq_getElem h6]; rfl

set_option maxRecDepth 100000 in
theorem refPart_any (s : ByteArray) (w : World) (hs : s.size ≤ 1099511627776) :
    Calls Tryd.prog 25 #[.string s] w fun e w' => e = .returned (.bool (partL s.data.toList)) ∧ w = w' := by
  rw [← refPart_part]
  by_cases h0 : s.size = 0
  · obtain rfl := empty_of s h0
    have HO := Lib.hid (show refPartL ([] : List UInt8) = false from rfl)
    go_enter Tryd.func25, Tryd.ntmps25
    go_wp2_with fail
    go_ret
    exact ⟨by show _ = Ending.returned (.bool (refPartL [])); rw [HO.out]; rfl, rfl⟩
  · obtain ⟨e1, e2⟩ := not_empty s h0
    have hp : 0 < s.size := by omega
    have hr : refPartL s.data.toList = (smallB (s[0]'hp) && smallB (s[s.size - 1]'(by omega)) && goM [] s.data.toList) := by
      rw [← last_at s hp]
      have e : s.data.toList = s[0]'hp :: s.data.toList.drop 1 := take_one s 0 hp
      have u : ∀ (c : UInt8) (l : List UInt8), refPartL (c :: l) = (smallB c && smallB ((c :: l).getLastD 0) && goM [] (c :: l)) := fun _ _ => rfl
      have v := u (s[0]'hp) (s.data.toList.drop 1)
      rw [← e] at v
      exact v
    have F := Lib.hid (fun w => small_any (s[0]'hp) w)
    have L := Lib.hid (fun w => small_any (s[s.size - 1]'(by omega)) w)
    obtain ⟨f, hf⟩ : ∃ f, smallB (s[0]'hp) = f := ⟨_, rfl⟩
    obtain ⟨l, hl⟩ : ∃ l, smallB (s[s.size - 1]'(by omega)) = l := ⟨_, rfl⟩
    rw [hf] at F hr
    rw [hl] at L hr
    obtain ⟨x, hx⟩ : ∃ x, s[0]'hp = x := ⟨_, rfl⟩
    obtain ⟨y, hy⟩ : ∃ y, s[s.size - 1]'(by omega) = y := ⟨_, rfl⟩
    rw [hx] at F
    rw [hy] at L
    have HR := Lib.hid hr
    clear hr hf hl h0
    go_enter Tryd.func25, Tryd.ntmps25
    go_wp2_with fail
    refine (F.out _).mono ?_
    rintro e w1 ⟨rfl, rfl⟩
    cases f with
    | false =>
      have HO := Lib.hid (show refPartL s.data.toList = false by rw [HR.out]; rfl)
      go_wp2_with fail
      go_ret
      exact ⟨by rw [HO.out]; rfl, rfl⟩
    | true =>
      go_wp2_with fail
      refine (L.out _).mono ?_
      rintro e w1 ⟨rfl, rfl⟩
      cases l with
      | false =>
        have HO := Lib.hid (show refPartL s.data.toList = false by rw [HR.out]; rfl)
        go_wp2_with fail
        go_ret
        exact ⟨by rw [HO.out]; rfl, rfl⟩
      | true =>
        have HR2 := Lib.hid (show refPartL s.data.toList = goM [] s.data.toList by rw [HR.out]; rfl)
        go_wp2_with fail
        go_loop [3, 4] (fun n i => ∃ (k : Nat) (now : ByteArray), k ≤ s.size ∧ n = .string now ∧ i = .int .i64 k ∧ now.size ≤ k ∧ goM now.data.toList (s.data.toList.drop k) = goM [] s.data.toList) (fun _ i => s.size - (intOf i).toNat)
        case atStart => exact ⟨0, ⟨#[]⟩, Nat.zero_le _, rfl, rfl, Nat.le_refl _, rfl⟩
        case round =>
          obtain ⟨k, now, hk, rfl, rfl, hn, hg⟩ := hrel
          by_cases hlt : k < s.size
          · rw [take_one s k hlt, goM] at hg
            have hx1 := extract_one s k hlt
            have S := Lib.hid (fun w => small_any s[k] w)
            have M := Lib.hid (fun w => mark_any now w (by omega))
            obtain ⟨c, hc⟩ : ∃ c, s[k] = c := ⟨_, rfl⟩
            rw [hc] at hg S hx1
            obtain ⟨b, hb⟩ : ∃ b, smallB c = b := ⟨_, rfl⟩
            rw [hb] at hg S
            obtain ⟨x1, hxd⟩ : ∃ x1, s.extract k (k + 1) = x1 := ⟨_, rfl⟩
            have hxs : x1.size = 1 := by rw [size_list, ← hxd, hx1]; rfl
            rw [hxd] at hx1
            clear hb
            cases b with
            | false =>
              have HG := Lib.hid (show goM (now ++ x1).data.toList (s.data.toList.drop (k + 1)) = goM [] s.data.toList by
                rw [append_list, hx1]; simpa using hg)
              clear hg hx1
              go_wp2_with fail
              refine (S.out _).mono ?_
              rintro e w1 ⟨rfl, rfl⟩
              go_wp2_with fail
              go_round
              case rel => exact ⟨k + 1, now ++ x1, by omega, by first | rfl | simp, by go_num, by rw [ByteArray.size_append]; omega, HG.out⟩
              case measure => simp [intOf]; omega
            | true =>
              obtain ⟨m, hm⟩ : ∃ m, markL now.data.toList = m := ⟨_, rfl⟩
              rw [hm] at M hg
              by_cases h0 : now.size = 0
              · obtain rfl := empty_of now h0
                have HG := Lib.hid (show goM [] (s.data.toList.drop (k + 1)) = goM [] s.data.toList by
                  rw [← hg]; rfl)
                clear hg hx1 hm
                go_wp2_with fail
                refine (S.out _).mono ?_
                rintro e w1 ⟨rfl, rfl⟩
                go_wp2_with fail
                go_round
                case rel => exact ⟨k + 1, ⟨#[]⟩, by omega, rfl, by go_num, Nat.zero_le _, HG.out⟩
                case measure => simp [intOf]; omega
              · obtain ⟨q1, q2⟩ := not_empty now h0
                have q3 : (now.data.toList == []) = false := by rw [← Lib.toList_data]; exact q1
                rw [q3] at hg
                clear q3 hm
                cases m with
                | true =>
                  have HG := Lib.hid (show goM [] (s.data.toList.drop (k + 1)) = goM [] s.data.toList by rw [← hg]; rfl)
                  clear hg hx1
                  go_wp2_with fail
                  refine (S.out _).mono ?_
                  rintro e w1 ⟨rfl, rfl⟩
                  go_wp2_with fail
                  refine (M.out _).mono ?_
                  rintro e w1 ⟨rfl, rfl⟩
                  go_wp2_with fail
                  go_round
                  case rel => exact ⟨k + 1, ⟨#[]⟩, by omega, rfl, by go_num, Nat.zero_le _, HG.out⟩
                  case measure => simp [intOf]; omega
                | false =>
                  have HO := Lib.hid (show refPartL s.data.toList = false by rw [HR2.out, ← hg]; rfl)
                  clear hg hx1
                  go_wp2_with fail
                  refine (S.out _).mono ?_
                  rintro e w1 ⟨rfl, rfl⟩
                  go_wp2_with fail
                  refine (M.out _).mono ?_
                  rintro e w1 ⟨rfl, rfl⟩
                  go_wp2_with fail
                  go_ret
                  exact ⟨by rw [HO.out]; rfl, rfl⟩
          · have HO := Lib.hid (show refPartL s.data.toList = true by
              rw [HR2.out, ← hg, List.drop_eq_nil_of_le (by rw [← Lib.size_eq]; omega)]; rfl)
            clear hg
            go_wp2_with fail
            go_ret
            exact ⟨by rw [HO.out]; rfl, rfl⟩
end Go.Proofs.YtcdibcogboaikaaDoor
