/-
  The program's Right, by contracts. Conditions: what comes in reads as a tree.
-/
import Derived.Test.YtgkapipiegfmhaaDoorRefMay
namespace Go.Proofs.YtgkapipiegfmhaaDoor
open Go.RowKit

set_option maxRecDepth 100000 in
theorem isWord_any (s : ByteArray) (w : World) (hs : s.size ≤ maxLen) :
    Calls Tryd.prog 52 #[.string s] w fun e w' => e = .returned (.bool (wordB s)) ∧ w = w' := by
  unfold maxLen at hs
  by_cases h200 : s.size ≤ 200
  rotate_left
  · have HN := Lib.hid (show wordB s = false by unfold wordB; rw [decide_eq_false h200, Bool.and_false])
    have h2 : (200 : Int) < (s.size : Int) := by omega
    go_enter Tryd.func52, Tryd.ntmps52
    go_wp2_with fail
    go_ret
    exact ⟨by rw [HN.out]; rfl, rfl⟩
  have HW := Lib.hid (show wordB s = s.data.toList.all wordC by unfold wordB; rw [decide_eq_true h200, Bool.and_true])
  go_enter Tryd.func52, Tryd.ntmps52
  go_wp2_with fail
  go_loop [10] (fun i => ∃ k : Nat, k ≤ s.size ∧ i = .int .i64 k ∧ (s.data.toList.take k).all wordC = true) (fun i => s.size - (intOf i).toNat)
  case atStart => exact ⟨0, Nat.zero_le _, rfl, rfl⟩
  case round =>
    obtain ⟨k, hk, rfl, hall⟩ := hrel
    by_cases hlt : k < s.size
    · have ht := all_takeW wordC s k hlt
      rw [hall, Bool.true_and] at ht
      obtain ⟨c, hc⟩ : ∃ c, s[k] = c := ⟨_, rfl⟩
      rw [hc] at ht
      have hc8 := c.toNat_lt
      clear hall
      cases hw : wordC c with
      | true =>
        have HN := Lib.hid (ht.trans hw)
        obtain ⟨q1, q2, q3, q4⟩ := wordC_yes c hw
        have e1 : ((c.toNat : Int) == 34) = false := beq_eq_false_iff_ne.2 (by omega)
        have e2 : ((c.toNat : Int) == 92) = false := beq_eq_false_iff_ne.2 (by omega)
        clear ht hw q3 q4
        go_wp2_with fail
        go_round
        case rel => exact ⟨k + 1, by omega, by go_num, HN.out⟩
        case measure => simp [intOf]; omega
      | false =>
        have HN := Lib.hid (show wordB s = false by rw [HW.out, all_notW wordC s (k + 1) (ht.trans hw)])
        have hq := wordC_no c hw
        clear ht hw
        have e1 : ((c.toNat : Int) == 34) = decide (c.toNat = 34) := by rw [Bool.eq_iff_iff, beq_iff_eq, decide_eq_true_eq]; omega
        have e2 : ((c.toNat : Int) == 92) = decide (c.toNat = 92) := by rw [Bool.eq_iff_iff, beq_iff_eq, decide_eq_true_eq]; omega
        by_cases h1 : c.toNat < 32
        · clear hq e1 e2
          go_wp2_with fail
          go_ret
          exact ⟨by rw [HN.out]; rfl, rfl⟩
        · by_cases h2 : 126 < c.toNat
          · clear hq e1 e2
            go_wp2_with fail
            go_ret
            exact ⟨by rw [HN.out]; rfl, rfl⟩
          · by_cases h3 : c.toNat = 34
            · rw [decide_eq_true h3] at e1
              clear hq e2 h3
              go_wp2_with fail
              go_ret
              exact ⟨by rw [HN.out]; rfl, rfl⟩
            · have h4 : c.toNat = 92 := by omega
              rw [decide_eq_false h3] at e1
              rw [decide_eq_true h4] at e2
              clear hq h3 h4
              go_wp2_with fail
              go_ret
              exact ⟨by rw [HN.out]; rfl, rfl⟩
    · have HN := Lib.hid (show wordB s = true by
        rw [List.take_of_length_le (by rw [← Lib.size_eq]; omega)] at hall
        rw [HW.out, hall])
      clear hall
      go_wp2_with fail
      go_ret
      exact ⟨by first | (rw [HN.out]; rfl) | rw [HN.out], rfl⟩

theorem noMembers_any (k n : Int) (s : ByteArray) (ia na : Option Addr) (li ic nn nc : Nat) (w : World) (hli : li ≤ maxLen) (hnn : nn ≤ maxLen) (b : Bool) (hb : (decide (li = 0) && decide (nn = 0)) = b) :
    Calls Tryd.prog 51 #[.agg #[.int .i64 k, .int .i64 n, .string s, .slice ia li ic, .slice na nn nc]] w fun e w' => e = .returned (.bool b) ∧ Below w.heap.size w w' := by
  have HB0 := Lib.hid (below_new w (.cells #[.int .i64 k, .int .i64 n, .string s, .slice ia li ic, .slice na nn nc] 25))
  unfold maxLen at hli hnn
  by_cases h1 : li = 0
  · by_cases h2 : nn = 0
    · obtain rfl : b = true := by rw [← hb, decide_eq_true h1, decide_eq_true h2]; rfl
      subst h1 h2
      clear hb
      go_enter Tryd.func51, Tryd.ntmps51
      go_wp2_with fail
      go_ret
      exact ⟨rfl, HB0.out⟩
    · obtain rfl : b = false := by rw [← hb, decide_eq_false h2, Bool.and_false]
      subst h1
      have h3 : ((nn : Int) == 0) = false := beq_eq_false_iff_ne.2 (by omega)
      clear h2 hb
      go_enter Tryd.func51, Tryd.ntmps51
      go_wp2_with fail
      go_ret
      exact ⟨rfl, HB0.out⟩
  · obtain rfl : b = false := by rw [← hb, decide_eq_false h1, Bool.false_and]
    have h3 : ((li : Int) == 0) = false := beq_eq_false_iff_ne.2 (by omega)
    clear h1 hb
    go_enter Tryd.func51, Tryd.ntmps51
    go_wp2_with fail
    go_ret
    exact ⟨rfl, HB0.out⟩

theorem bytesLess_eq : ∀ (a b : List UInt8), Op.bytesLess a b = lessL a b
  | [], [] => rfl
  | _ :: _, [] => rfl
  | [], _ :: _ => rfl
  | a :: x, b :: y => by
    rw [Op.bytesLess, lessL, bytesLess_eq x y]
    by_cases h : a = b
    · subst h
      rw [if_pos rfl, beq_self_eq_true, Bool.true_and, decide_eq_false (UInt8.lt_irrefl a), Bool.false_or]
    · rw [if_neg h, beq_eq_false_iff_ne.2 h, Bool.false_and, Bool.or_false]
      exact decide_eq_decide.2 UInt8.lt_iff_toNat_lt
theorem lessL_total : ∀ (a b : List UInt8), (lessL a b || a == b) = !lessL b a
  | [], [] => rfl
  | _ :: _, [] => rfl
  | [], _ :: _ => rfl
  | a :: x, b :: y => by
    rw [lessL, lessL]
    by_cases h : a = b
    · subst h
      rw [if_pos rfl, if_pos rfl, ← lessL_total x y]
      congr 1
      rw [Bool.eq_iff_iff, beq_iff_eq, beq_iff_eq]
      simp
    · rw [if_neg h, if_neg (Ne.symm h)]
      have h1 : (a :: x == b :: y) = false := beq_eq_false_iff_ne.2 (fun e => h (List.cons.inj e).1)
      have h2 : a.toNat ≠ b.toNat := fun e => h (UInt8.toNat_inj.1 e)
      rw [h1, Bool.or_false, Bool.eq_iff_iff, decide_eq_true_eq, Bool.not_eq_true', decide_eq_false_iff_not]
      omega
theorem leqB (a b : ByteArray) : (Op.bytesLess a.toList b.toList || a.toList == b.toList) = !lessB b a := by
  rw [bytesLess_eq, lessL_total, Lib.toList_data, Lib.toList_data]; rfl

set_option maxRecDepth 100000 in
set_option maxHeartbeats 4000000 in
theorem areNames_any (names : List ByteArray) (na : Option Addr) (nn nc : Nat) (w : World) (hnn : names.length = nn) (hN : StrsAt w (.slice na nn nc) names) (hz : ∀ x ∈ names, x.size ≤ maxLen) (hNl : nn ≤ maxLen) :
    Calls Tryd.prog 53 #[.slice na nn nc] w fun e w' => e = .returned (.bool (risesL none names)) ∧ Below w.heap.size w w' := by
  unfold maxLen at hNl
  rcases hN with ⟨hnil, -⟩ | ⟨pb, po, cap, he, -, -, -, hcs⟩
  · obtain rfl : nn = 0 := by rw [← hnn, hnil]; rfl
    have HO := Lib.hid (show risesL none names = true by rw [hnil]; rfl)
    clear hnil hz hNl
    go_enter Tryd.func53, Tryd.ntmps53
    go_wp2_with fail
    refine wp_loop_rounds 1 ?_
    rw [rounds_succ]
    go_wp2_with fail
    go_ret
    exact ⟨by first | (rw [HO.out]; rfl) | rw [HO.out], Below.refl _ _⟩
  · simp only [Value.slice.injEq] at he
    obtain ⟨rfl, -, rfl⟩ := he
    have HCS := Lib.hid hcs
    have HZ := Lib.hid hz
    clear hcs hz
    go_enter Tryd.func53, Tryd.ntmps53
    go_wp2_with fail
    go_loopw [7] (fun iv wr => ∃ j : Nat, j ≤ nn ∧ iv = .int .i64 j ∧ risesL (prevAt names j) (names.drop j) = risesL none names ∧ Below w.heap.size w wr) (fun i _ => nn - (intOf i).toNat)
    case atStart => exact ⟨0, Nat.zero_le _, rfl, rfl, Below.refl _ _⟩
    case round =>
      obtain ⟨j, hj, rfl, hr, hb⟩ := hrel
      have HRJ := Lib.hid hr
      have HRW := Lib.hid hb
      clear hr hb
      by_cases hlt : j < nn
      · have kc : ∀ {p : Addr} {v : Value}, w.cell? p = some v → wr.cell? p = some v := fun h => HRW.out.cell (World.block_lt_of_cell? _ _ h) |>.trans h
        have hc1 := kc (HCS.out j (by omega))
        have hxz := HZ.out (names[j]'(by omega)) (List.getElem_mem _)
        have hra := rises_at names j (by omega)
        rw [HRJ.out] at hra
        have hps := prev_succ names j (by omega)
        have hpc : j = 0 ∨ ∃ q, 0 < j ∧ wr.cell? ⟨pb, po + (j - 1), none⟩ = some (.string q) ∧ prevAt names j = some q := by
          by_cases h0 : j = 0
          · exact Or.inl h0
          · refine Or.inr ⟨names[j - 1]'(by omega), by omega, kc (HCS.out (j - 1) (by omega)), ?_⟩
            unfold prevAt
            rw [if_neg h0, List.getElem?_eq_getElem (by omega)]
        obtain ⟨x, hx⟩ : ∃ x, names[j]'(by omega) = x := ⟨_, rfl⟩
        rw [hx] at hc1 hxz hra hps
        have X1 := Lib.hid (fun w => isWord_any x w hxz)
        obtain ⟨b, hbb⟩ : ∃ b, wordB x = b := ⟨_, rfl⟩
        rw [hbb] at X1 hra
        clear kc hx hbb
        cases b with
        | false =>
          have HO := Lib.hid (show risesL none names = false by rw [hra]; rfl)
          clear hra hps hpc
          go_wp2_with fail
          refine (X1.out _).mono ?_
          rintro e w9 ⟨rfl, rfl⟩
          go_wp2_with fail
          go_ret
          exact ⟨by first | (rw [HO.out]; rfl) | rw [HO.out], HRW.out⟩
        | true =>
          rcases hpc with rfl | ⟨q, hj0, hcq, hpv⟩
          · have HN1 := Lib.hid (show risesL (prevAt names 1) (names.drop 1) = risesL none names by rw [hps, hra]; rfl)
            clear hra hps
            have hc0 : wr.cell? ⟨pb, po, none⟩ = some (.string x) := hc1
            go_wp2_with fail
            refine (X1.out _).mono ?_
            rintro e w9 ⟨rfl, rfl⟩
            go_wp2_with fail
            go_roundw
            case rel => exact ⟨1, by omega, by go_num, HN1.out, HRW.out⟩
            case measure => simp [intOf]; omega
          · rw [hpv] at hra
            simp only [Bool.true_and] at hra
            have hle := leqB x q
            obtain ⟨r, hr⟩ : ∃ r, lessB q x = r := ⟨_, rfl⟩
            rw [hr] at hle hra
            have hcq2 : wr.cell? ⟨pb, po + (((j : Int) - 1)).toNat, none⟩ = some (.string q) := by rw [show ((j : Int) - 1).toNat = j - 1 by omega]; exact hcq
            have HJ := Lib.hid (show ((j : Int) - 1) = ((j - 1 : Nat) : Int) by omega)
            cases r with
            | false =>
              have HO := Lib.hid (show risesL none names = false by rw [hra]; rfl)
              rw [Bool.not_false] at hle
              clear hra hps hpv hr
              go_wp2_with fail
              refine (X1.out _).mono ?_
              rintro e w9 ⟨rfl, rfl⟩
              go_wp2_with fail
              go_ret
              exact ⟨by first | (rw [HO.out]; rfl) | rw [HO.out], HRW.out⟩
            | true =>
              have HN1 := Lib.hid (show risesL (prevAt names (j + 1)) (names.drop (j + 1)) = risesL none names by rw [hps, hra]; rfl)
              rw [Bool.not_true] at hle
              clear hra hps hpv hr
              go_wp2_with fail
              refine (X1.out _).mono ?_
              rintro e w9 ⟨rfl, rfl⟩
              go_wp2_with fail
              go_roundw
              case rel => exact ⟨j + 1, by omega, by go_num, HN1.out, HRW.out⟩
              case measure => simp [intOf]; omega
      · have HO := Lib.hid (show risesL none names = true by
          rw [← HRJ.out, List.drop_eq_nil_of_le (by omega)]
          cases prevAt names j <;> rfl)
        go_wp2_with fail
        go_ret
        exact ⟨by first | (rw [HO.out]; rfl) | rw [HO.out], HRW.out⟩
end Go.Proofs.YtgkapipiegfmhaaDoor
