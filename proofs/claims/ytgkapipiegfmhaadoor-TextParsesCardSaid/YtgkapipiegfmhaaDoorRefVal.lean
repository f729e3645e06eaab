/-
  The document's own Less and Word, by contracts. Conditions: none.
-/
import Derived.Test.YtgkapipiegfmhaaDoorValPlain
import Derived.WalkKit
import Derived.WalkLawsBesides
import Derived.WalkSpells
import Derived.BigCall
import Derived.Lib.Hide
import Derived.Outline
import Derived.BigQuiet
import Derived.Deep.QuietTactic
import Derived.Lib.Strings
import Derived.Lib.IndexBytes
namespace Go.Proofs.YtgkapipiegfmhaaDoor
open Go.RowKit

theorem lessL_drop : ∀ (k : Nat) (a b : List UInt8) (ha : k < a.length) (hb : k < b.length), lessL (a.drop k) (b.drop k) = if a[k] = b[k] then lessL (a.drop (k + 1)) (b.drop (k + 1)) else decide (a[k].toNat < b[k].toNat)
  | 0, x :: a, y :: b, _, _ => by simp only [List.drop_zero, List.drop_succ_cons]; rw [lessL]; rfl
  | k + 1, x :: a, y :: b, ha, hb => by
    simp only [List.drop_succ_cons]
    exact lessL_drop k a b (by simpa using ha) (by simpa using hb)
theorem lessL_end (k : Nat) (a b : List UInt8) (h : ¬ (k < a.length ∧ k < b.length)) (ha : k ≤ a.length) (hb : k ≤ b.length) : lessL (a.drop k) (b.drop k) = decide (a.length < b.length) := by
  by_cases h1 : k < a.length
  · have h2 : k = b.length := by omega
    subst h2
    rw [List.drop_length, List.drop_eq_getElem_cons h1, decide_eq_false (by omega)]; rfl
  · have h2 : k = a.length := by omega
    subst h2
    rw [List.drop_length]
    by_cases h3 : a.length < b.length
    · rw [List.drop_eq_getElem_cons h3, decide_eq_true h3]; rfl
    · rw [List.drop_eq_nil_of_le (by omega), decide_eq_false h3]; rfl
theorem get_list (s : ByteArray) (k : Nat) (h : k < s.size) (h' : k < s.data.toList.length) : s.data.toList[k] = s[k] := by
  have := Lib.data_getElem? s k h
  rw [List.getElem?_eq_getElem h'] at this
  exact Option.some.inj this

theorem lessL_at (a b : ByteArray) (k : Nat) (h1 : k < a.size) (h2 : k < b.size) : lessL (a.data.toList.drop k) (b.data.toList.drop k) = if a[k] = b[k] then lessL (a.data.toList.drop (k + 1)) (b.data.toList.drop (k + 1)) else decide (a[k].toNat < b[k].toNat) := by
  have sa := Lib.size_eq a
  have sb := Lib.size_eq b
  rw [lessL_drop k _ _ (by omega) (by omega), get_list a k h1, get_list b k h2]
theorem lessL_stop (a b : ByteArray) (k : Nat) (h : ¬ (k < a.size ∧ k < b.size)) (h1 : k ≤ a.size) (h2 : k ≤ b.size) : lessL (a.data.toList.drop k) (b.data.toList.drop k) = decide (a.size < b.size) := by
  have sa := Lib.size_eq a
  have sb := Lib.size_eq b
  rw [lessL_end k _ _ (by omega) (by omega) (by omega), sa, sb]

set_option maxRecDepth 100000 in
theorem less_any (a b : ByteArray) (w : World) (ha : a.size ≤ maxLen) :
    Calls Tryd.prog 41 #[.string a, .string b] w fun e w' => e = .returned (.bool (lessB a b)) ∧ Below w.heap.size w w' := by
  unfold maxLen at ha
  go_enter Tryd.func41, Tryd.ntmps41
  go_wp2_with fail
  go_loopw [5] (fun iv wr => ∃ k : Nat, k ≤ a.size ∧ k ≤ b.size ∧ iv = .int .i64 k ∧ lessL (a.data.toList.drop k) (b.data.toList.drop k) = lessB a b ∧ Below w.heap.size w wr) (fun i _ => a.size - (intOf i).toNat)
  case atStart => exact ⟨0, Nat.zero_le _, Nat.zero_le _, rfl, rfl, Below.refl _ _⟩
  case round =>
    obtain ⟨k, hka, hkb, rfl, hl, hbw⟩ := hrel
    have HB := Lib.hid hbw
    clear hbw
    by_cases hlt : k < a.size ∧ k < b.size
    · obtain ⟨h1, h2⟩ := hlt
      have hd := lessL_at a b k h1 h2
      rw [hl] at hd
      have hne : ((a[k].toNat : Int) != (b[k].toNat : Int)) = !(decide (a[k] = b[k])) := by
        rw [Bool.eq_iff_iff, bne_iff_ne, Bool.not_eq_true', decide_eq_false_iff_not, Ne, ← UInt8.toNat_inj]; omega
      clear hl
      by_cases he : a[k] = b[k]
      · rw [if_pos he] at hd
        rw [decide_eq_true he] at hne
        have HN := Lib.hid hd.symm
        clear hd he
        go_wp2_with fail
        go_quiet (fail)
        go_wp2_with fail
        go_roundw
        case rel => exact ⟨k + 1, by omega, by omega, by go_num, HN.out, below_drewN HB.out _⟩
        case measure => simp [intOf]; omega
      · rw [if_neg he] at hd
        rw [decide_eq_false he] at hne
        have HN := Lib.hid hd
        clear hd he
        go_wp2_with fail
        go_quiet (fail)
        go_wp2_with fail
        go_quiet (fail)
        go_wp2_with fail
        go_ret
        exact ⟨by rw [HN.out]; first | rfl | simp, by first | exact below_drewN HB.out _ | exact below_drewN (below_drewN HB.out _) _⟩
    · have HN := Lib.hid (show lessB a b = decide (a.size < b.size) by rw [← hl, lessL_stop a b k hlt hka hkb])
      clear hl
      by_cases h1 : k < a.size
      · have h2 : ¬ k < b.size := fun h => hlt ⟨h1, h⟩
        clear hlt
        go_wp2_with fail
        go_ret
        exact ⟨by rw [HN.out]; first | rfl | simp, HB.out⟩
      · clear hlt
        go_wp2_with fail
        go_ret
        exact ⟨by rw [HN.out]; first | rfl | simp, HB.out⟩

theorem all_takeW (f : UInt8 → Bool) (s : ByteArray) (k : Nat) (h : k < s.size) : (s.data.toList.take (k + 1)).all f = ((s.data.toList.take k).all f && f s[k]) := by
  have h6 : k < s.data.toList.length := by rw [← Lib.size_eq]; exact h
  rw [List.take_succ_eq_append_getElem h6, List.all_append, get_list s k h h6]; simp
theorem all_notW (f : UInt8 → Bool) (s : ByteArray) (k : Nat) (h : (s.data.toList.take k).all f = false) : s.data.toList.all f = false := by
  rw [List.all_eq_false] at h ⊢
  obtain ⟨x, hx, hf⟩ := h
  exact ⟨x, List.mem_of_mem_take hx, hf⟩
theorem wordC_no (c : UInt8) (h : wordC c = false) : c.toNat < 32 ∨ 126 < c.toNat ∨ c.toNat = 34 ∨ c.toNat = 92 := by
  unfold wordC at h
  simp only [Bool.and_eq_false_iff, decide_eq_false_iff_not, Bool.not_eq_false', beq_iff_eq] at h
  rcases h with (h | rfl) | rfl
  · omega
  · exact Or.inr (Or.inr (Or.inl rfl))
  · exact Or.inr (Or.inr (Or.inr rfl))
theorem wordC_yes (c : UInt8) (h : wordC c = true) : 32 ≤ c.toNat ∧ c.toNat ≤ 126 ∧ c.toNat ≠ 34 ∧ c.toNat ≠ 92 := by
  unfold wordC at h
  simp only [Bool.and_eq_true, decide_eq_true_eq, Bool.not_eq_true', beq_eq_false_iff_ne] at h
  refine ⟨h.1.1.1, h.1.1.2, fun e => h.1.2 (UInt8.toNat_inj.1 e), fun e => h.2 (UInt8.toNat_inj.1 e)⟩

set_option maxRecDepth 100000 in
theorem word_any (s : ByteArray) (w : World) (hs : s.size ≤ maxLen) :
    Calls Tryd.prog 40 #[.string s] w fun e w' => e = .returned (.bool (wordB s)) ∧ w = w' := by
  unfold maxLen at hs
  go_enter Tryd.func40, Tryd.ntmps40
  go_wp2_with fail
  go_loop [3] (fun i => ∃ k : Nat, k ≤ s.size ∧ i = .int .i64 k ∧ (s.data.toList.take k).all wordC = true) (fun i => s.size - (intOf i).toNat)
  case atStart => exact ⟨0, Nat.zero_le _, rfl, rfl⟩
  case round =>
    obtain ⟨k, hk, rfl, hall⟩ := hrel
    by_cases hlt : k < s.size
    · have ht := all_takeW wordC s k hlt
      rw [hall, Bool.true_and] at ht
      obtain ⟨c, hc⟩ : ∃ c, s[k] = c := ⟨_, rfl⟩
      rw [hc] at ht
      have hc8 := c.toNat_lt
      clear hall
      cases hw : wordC c with
      | true =>
        have HN := Lib.hid (ht.trans hw)
        obtain ⟨q1, q2, q3, q4⟩ := wordC_yes c hw
        have e1 : ((c.toNat : Int) == 34) = false := beq_eq_false_iff_ne.2 (by omega)
        have e2 : ((c.toNat : Int) == 92) = false := beq_eq_false_iff_ne.2 (by omega)
        clear ht hw q3 q4
        go_wp2_with fail
        go_round
        case rel => exact ⟨k + 1, by omega, by go_num, HN.out⟩
        case measure => simp [intOf]; omega
      | false =>
        have HN := Lib.hid (show wordB s = false by unfold wordB; rw [all_notW wordC s (k + 1) (ht.trans hw)]; rfl)
        have hq := wordC_no c hw
        clear ht hw
        have e1 : ((c.toNat : Int) == 34) = decide (c.toNat = 34) := by rw [Bool.eq_iff_iff, beq_iff_eq, decide_eq_true_eq]; omega
        have e2 : ((c.toNat : Int) == 92) = decide (c.toNat = 92) := by rw [Bool.eq_iff_iff, beq_iff_eq, decide_eq_true_eq]; omega
        by_cases h1 : c.toNat < 32
        · clear hq e1 e2
          go_wp2_with fail
          go_ret
          exact ⟨by rw [HN.out]; rfl, rfl⟩
        · by_cases h2 : 126 < c.toNat
          · clear hq e1 e2
            go_wp2_with fail
            go_ret
            exact ⟨by rw [HN.out]; rfl, rfl⟩
          · by_cases h3 : c.toNat = 34
            · rw [decide_eq_true h3] at e1
              clear hq e2 h3
              go_wp2_with fail
              go_ret
              exact ⟨by rw [HN.out]; rfl, rfl⟩
            · have h4 : c.toNat = 92 := by omega
              rw [decide_eq_false h3] at e1
              rw [decide_eq_true h4] at e2
              clear hq h3 h4
              go_wp2_with fail
              go_ret
              exact ⟨by rw [HN.out]; rfl, rfl⟩
    · have HN := Lib.hid (show wordB s = decide ((s.size : Int) ≤ 200) by
        rw [List.take_of_length_le (by rw [← Lib.size_eq]; omega)] at hall
        unfold wordB
        rw [hall, Bool.true_and]
        exact decide_eq_decide.2 (by omega))
      clear hall
      go_wp2_with fail
      go_ret
      exact ⟨by rw [HN.out]; first | rfl | simp, rfl⟩
end Go.Proofs.YtgkapipiegfmhaaDoor
