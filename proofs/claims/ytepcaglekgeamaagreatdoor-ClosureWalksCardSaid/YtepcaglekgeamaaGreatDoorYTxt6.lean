/-
  The program's Right, by contracts. Conditions: what comes in reads as a tree.
  The program's Right, by contracts: a value's own fields, and its items. Conditions: what comes in reads as a tree.
-/
import Derived.Test.YtepcaglekgeamaaGreatDoorYTxt2
namespace Go.Proofs.YtepcaglekgeamaaGreatDoor
open Go.RowKit

set_option maxRecDepth 100000 in
theorem isWord_any (s : ByteArray) (w : World) (hs : s.size ≤ maxLen) :
    Calls Tryz.prog 133 #[.string s] w fun e w' => e = .returned (.bool (wordB s)) ∧ w = w' := by
  unfold maxLen at hs
  by_cases h200 : s.size ≤ 200
  rotate_left
  · have HN := Lib.hid (show wordB s = false by unfold wordB; rw [decide_eq_false h200, Bool.and_false])
    have h2 : (200 : Int) < (s.size : Int) := by omega
    go_enter Tryz.func133, Tryz.ntmps133
    go_wp2_with fail
    go_ret
    exact ⟨by rw [HN.out]; rfl, rfl⟩
  have HW := Lib.hid (show wordB s = s.data.toList.all wordC by unfold wordB; rw [decide_eq_true h200, Bool.and_true])
  go_enter Tryz.func133, Tryz.ntmps133
  go_wp2_with fail
  go_loop [10] (fun i => ∃ k : Nat, k ≤ s.size ∧ i = .int .i64 k ∧ (s.data.toList.take k).all wordC = true) (fun i => s.size - (intOf i).toNat)
  case atStart => exact ⟨0, Nat.zero_le _, rfl, rfl⟩
  case round =>
    obtain ⟨k, hk, rfl, hall⟩ := hrel
    by_cases hlt : k < s.size
    · have ht := all_takeW wordC s k hlt
      rw [hall, Bool.true_and] at ht
      obtain ⟨c, hc⟩ : ∃ c, s[k] = c := ⟨_, rfl⟩
      rw [hc] at ht
      have hc8 := c.toNat_lt
      clear hall
      cases hw : wordC c with
      | true =>
        have HN := Lib.hid (ht.trans hw)
        obtain ⟨q1, q2, q3, q4⟩ := wordC_yes c hw
        have e1 : ((c.toNat : Int) == 34) = false := beq_eq_false_iff_ne.2 (by omega)
        have e2 : ((c.toNat : Int) == 92) = false := beq_eq_false_iff_ne.2 (by omega)
        clear ht hw q3 q4
        go_wp2_with fail
        go_round
        case rel => exact ⟨k + 1, by omega, by go_num, HN.out⟩
        case measure => simp [intOf]; omega
      | false =>
        have HN := Lib.hid (show wordB s = false by rw [HW.out, all_notW wordC s (k + 1) (ht.trans hw)])
        have hq := wordC_no c hw
        clear ht hw
        have e1 : ((c.toNat : Int) == 34) = decide (c.toNat = 34) := by rw [Bool.eq_iff_iff, beq_iff_eq, decide_eq_true_eq]; omega
        have e2 : ((c.toNat : Int) == 92) = decide (c.toNat = 92) := by rw [Bool.eq_iff_iff, beq_iff_eq, decide_eq_true_eq]; omega
        by_cases h1 : c.toNat < 32
        · clear hq e1 e2
          go_wp2_with fail
          go_ret
          exact ⟨by rw [HN.out]; rfl, rfl⟩
        · by_cases h2 : 126 < c.toNat
          · clear hq e1 e2
            go_wp2_with fail
            go_ret
            exact ⟨by rw [HN.out]; rfl, rfl⟩
          · by_cases h3 : c.toNat = 34
            · rw [decide_eq_true h3] at e1
              clear hq e2 h3
              go_wp2_with fail
              go_ret
              exact ⟨by rw [HN.out]; rfl, rfl⟩
            · have h4 : c.toNat = 92 := by omega
              rw [decide_eq_false h3] at e1
              rw [decide_eq_true h4] at e2
              clear hq h3 h4
              go_wp2_with fail
              go_ret
              exact ⟨by rw [HN.out]; rfl, rfl⟩
    · have HN := Lib.hid (show wordB s = true by
        rw [List.take_of_length_le (by rw [← Lib.size_eq]; omega)] at hall
        rw [HW.out, hall])
      clear hall
      go_wp2_with fail
      go_ret
      exact ⟨by first | (rw [HN.out]; rfl) | rw [HN.out], rfl⟩

theorem noMembers_any (k n : Int) (s : ByteArray) (ia na : Option Addr) (li ic nn nc : Nat) (w : World) (hli : li ≤ maxLen) (hnn : nn ≤ maxLen) (b : Bool) (hb : (decide (li = 0) && decide (nn = 0)) = b) :
    Calls Tryz.prog 132 #[.agg #[.int .i64 k, .int .i64 n, .string s, .slice ia li ic, .slice na nn nc]] w fun e w' => e = .returned (.bool b) ∧ Below w.heap.size w w' := by
  have HB0 := Lib.hid (below_new w (.cells #[.int .i64 k, .int .i64 n, .string s, .slice ia li ic, .slice na nn nc] 71))
  unfold maxLen at hli hnn
  by_cases h1 : li = 0
  · by_cases h2 : nn = 0
    · obtain rfl : b = true := by rw [← hb, decide_eq_true h1, decide_eq_true h2]; rfl
      subst h1 h2
      clear hb
      go_enter Tryz.func132, Tryz.ntmps132
      go_wp2_with fail
      go_ret
      exact ⟨rfl, HB0.out⟩
    · obtain rfl : b = false := by rw [← hb, decide_eq_false h2, Bool.and_false]
      subst h1
      have h3 : ((nn : Int) == 0) = false := beq_eq_false_iff_ne.2 (by omega)
      clear h2 hb
      go_enter Tryz.func132, Tryz.ntmps132
      go_wp2_with fail
      go_ret
      exact ⟨rfl, HB0.out⟩
  · obtain rfl : b = false := by rw [← hb, decide_eq_false h1, Bool.false_and]
    have h3 : ((li : Int) == 0) = false := beq_eq_false_iff_ne.2 (by omega)
    clear h1 hb
    go_enter Tryz.func132, Tryz.ntmps132
    go_wp2_with fail
    go_ret
    exact ⟨rfl, HB0.out⟩

theorem bytesLess_eq : ∀ (a b : List UInt8), Op.bytesLess a b = lessL a b
  | [], [] => rfl
  | _ :: _, [] => rfl
  | [], _ :: _ => rfl
  | a :: x, b :: y => by
    rw [Op.bytesLess, lessL, bytesLess_eq x y]
    by_cases h : a = b
    · subst h
      rw [if_pos rfl, beq_self_eq_true, Bool.true_and, decide_eq_false (UInt8.lt_irrefl a), Bool.false_or]
    · rw [if_neg h, beq_eq_false_iff_ne.2 h, Bool.false_and, Bool.or_false]
      exact decide_eq_decide.2 UInt8.lt_iff_toNat_lt

theorem lessL_total : ∀ (a b : List UInt8), (lessL a b || a == b) = !lessL b a
  | [], [] => rfl
  | _ :: _, [] => rfl
  | [], _ :: _ => rfl
  | a :: x, b :: y => by
    rw [lessL, lessL]
    by_cases h : a = b
    · subst h
      rw [if_pos rfl, if_pos rfl, ← lessL_total x y]
      congr 1
      rw [Bool.eq_iff_iff, beq_iff_eq, beq_iff_eq]
      simp
    · rw [if_neg h, if_neg (Ne.symm h)]
      have h1 : (a :: x == b :: y) = false := beq_eq_false_iff_ne.2 (fun e => h (List.cons.inj e).1)
      have h2 : a.toNat ≠ b.toNat := fun e => h (UInt8.toNat_inj.1 e)
      rw [h1, Bool.or_false, Bool.eq_iff_iff, decide_eq_true_eq, Bool.not_eq_true', decide_eq_false_iff_not]
      omega

theorem leqB (a b : ByteArray) : (Op.bytesLess a.toList b.toList || a.toList == b.toList) = !lessB b a := by
  rw [bytesLess_eq, lessL_total, Lib.toList_data, Lib.toList_data]; rfl

set_option maxRecDepth 100000 in
set_option maxHeartbeats 4000000 in
theorem areNames_any (names : List ByteArray) (na : Option Addr) (nn nc : Nat) (w : World) (hnn : names.length = nn) (hN : StrsAt w (.slice na nn nc) names) (hz : ∀ x ∈ names, x.size ≤ maxLen) (hNl : nn ≤ maxLen) :
    Calls Tryz.prog 134 #[.slice na nn nc] w fun e w' => e = .returned (.bool (risesL none names)) ∧ Below w.heap.size w w' := by
  unfold maxLen at hNl
  rcases hN with ⟨hnil, -⟩ | ⟨pb, po, cap, he, -, -, -, hcs⟩
  · obtain rfl : nn = 0 := by rw [← hnn, hnil]; rfl
    have HO := Lib.hid (show risesL none names = true by rw [hnil]; rfl)
    clear hnil hz hNl
    go_enter Tryz.func134, Tryz.ntmps134
    go_wp2_with fail
    refine wp_loop_rounds 1 ?_
    rw [rounds_succ]
    go_wp2_with fail
    go_ret
    exact ⟨by first | (rw [HO.out]; rfl) | rw [HO.out], Below.refl _ _⟩
  · simp only [Value.slice.injEq] at he
    obtain ⟨rfl, -, rfl⟩ := he
    have HCS := Lib.hid hcs
    have HZ := Lib.hid hz
    clear hcs hz
    go_enter Tryz.func134, Tryz.ntmps134
    go_wp2_with fail
    go_loopw [7] (fun iv wr => ∃ j : Nat, j ≤ nn ∧ iv = .int .i64 j ∧ risesL (prevAt names j) (names.drop j) = risesL none names ∧ Below w.heap.size w wr) (fun i _ => nn - (intOf i).toNat)
    case atStart => exact ⟨0, Nat.zero_le _, rfl, rfl, Below.refl _ _⟩
    case round =>
      obtain ⟨j, hj, rfl, hr, hb⟩ := hrel
      have HRJ := Lib.hid hr
      have HRW := Lib.hid hb
      clear hr hb
      by_cases hlt : j < nn
      · have kc : ∀ {p : Addr} {v : Value}, w.cell? p = some v → wr.cell? p = some v := fun h => HRW.out.cell (World.block_lt_of_cell? _ _ h) |>.trans h
        have hc1 := kc (HCS.out j (by omega))
        have hxz := HZ.out (names[j]'(by omega)) (List.getElem_mem _)
        have hra := rises_at names j (by omega)
        rw [HRJ.out] at hra
        have hps := prev_succ names j (by omega)
        have hpc : j = 0 ∨ ∃ q, 0 < j ∧ wr.cell? ⟨pb, po + (j - 1), none⟩ = some (.string q) ∧ prevAt names j = some q := by
          by_cases h0 : j = 0
          · exact Or.inl h0
          · refine Or.inr ⟨names[j - 1]'(by omega), by omega, kc (HCS.out (j - 1) (by omega)), ?_⟩
            unfold prevAt
            rw [if_neg h0, List.getElem?_eq_getElem (by omega)]
        obtain ⟨x, hx⟩ : ∃ x, names[j]'(by omega) = x := ⟨_, rfl⟩
        rw [hx] at hc1 hxz hra hps
        have X1 := Lib.hid (fun w => isWord_any x w hxz)
        obtain ⟨b, hbb⟩ : ∃ b, wordB x = b := ⟨_, rfl⟩
        rw [hbb] at X1 hra
        clear kc hx hbb
        cases b with
        | false =>
          have HO := Lib.hid (show risesL none names = false by rw [hra]; rfl)
          clear hra hps hpc
          go_wp2_with fail
          refine (X1.out _).mono ?_
          rintro e w9 ⟨rfl, rfl⟩
          go_wp2_with fail
          go_ret
          exact ⟨by first | (rw [HO.out]; rfl) | rw [HO.out], HRW.out⟩
        | true =>
          rcases hpc with rfl | ⟨q, hj0, hcq, hpv⟩
          · have HN1 := Lib.hid (show risesL (prevAt names 1) (names.drop 1) = risesL none names by rw [hps, hra]; rfl)
            clear hra hps
            have hc0 : wr.cell? ⟨pb, po, none⟩ = some (.string x) := hc1
            go_wp2_with fail
            refine (X1.out _).mono ?_
            rintro e w9 ⟨rfl, rfl⟩
            go_wp2_with fail
            go_roundw
            case rel => exact ⟨1, by omega, by go_num, HN1.out, HRW.out⟩
            case measure => simp [intOf]; omega
          · rw [hpv] at hra
            simp only [Bool.true_and] at hra
            have hle := leqB x q
            obtain ⟨r, hr⟩ : ∃ r, lessB q x = r := ⟨_, rfl⟩
            rw [hr] at hle hra
            have hcq2 : wr.cell? ⟨pb, po + (((j : Int) - 1)).toNat, none⟩ = some (.string q) := by rw [show ((j : Int) - 1).toNat = j - 1 by omega]; exact hcq
            have HJ := Lib.hid (show ((j : Int) - 1) = ((j - 1 : Nat) : Int) by omega)
            cases r with
            | false =>
              have HO := Lib.hid (show risesL none names = false by rw [hra]; rfl)
              rw [Bool.not_false] at hle
              clear hra hps hpv hr
              go_wp2_with fail
              refine (X1.out _).mono ?_
              rintro e w9 ⟨rfl, rfl⟩
              go_wp2_with fail
              go_ret
              exact ⟨by first | (rw [HO.out]; rfl) | rw [HO.out], HRW.out⟩
            | true =>
              have HN1 := Lib.hid (show risesL (prevAt names (j + 1)) (names.drop (j + 1)) = risesL none names by rw [hps, hra]; rfl)
              rw [Bool.not_true] at hle
              clear hra hps hpv hr
              go_wp2_with fail
              refine (X1.out _).mono ?_
              rintro e w9 ⟨rfl, rfl⟩
              go_wp2_with fail
              go_roundw
              case rel => exact ⟨j + 1, by omega, by go_num, HN1.out, HRW.out⟩
              case measure => simp [intOf]; omega
      · have HO := Lib.hid (show risesL none names = true by
          rw [← HRJ.out, List.drop_eq_nil_of_le (by omega)]
          cases prevAt names j <;> rfl)
        go_wp2_with fail
        go_ret
        exact ⟨by first | (rw [HO.out]; rfl) | rw [HO.out], HRW.out⟩
end Go.Proofs.YtepcaglekgeamaaGreatDoor
namespace Go.Proofs.YtepcaglekgeamaaGreatDoor
open Go.RowKit

set_option maxRecDepth 100000 in
set_option maxHeartbeats 4000000 in
theorem rightAlone_1 (n : Int) (s : ByteArray) (ia na : Option Addr) (li ic nn nc : Nat) (items : List Val) (names : List ByteArray) (w : World) (hnn : names.length = nn) (hli : items.length = li) (_ : StrsAt w (.slice na nn nc) names)
    (_ : ∀ x ∈ names, x.size ≤ maxLen) (hs : s.size ≤ maxLen) (hNl : nn ≤ maxLen) (hil : li ≤ maxLen) :
    Calls Tryz.prog 110 #[.agg #[.int .i64 1, .int .i64 n, .string s, .slice ia li ic, .slice na nn nc]] w fun e w' => e = .returned (.bool (oneV (.mk 1 n s items names))) ∧ Below w.heap.size w w' := by
  have H1 := Lib.hid (show oneV (.mk 1 n s items names) = (decide ((1 : Int) ≤ 1 ∧ (1 : Int) ≤ 4) && ((1 : Int) == 1 || n == 0) && ((1 : Int) == 2 || decide (s.size = 0)) && (decide ((3 : Int) ≤ 1) || decide (li = 0)) && ((1 : Int) == 4 || decide (nn = 0)) &&
    decide (0 ≤ n ∧ n ≤ 1099511627776) && wordB s && decide (li ≤ 16) && (!((1 : Int) == 4) || decide (nn = li)) && risesL none names) by rw [← hnn, ← hli]; rfl)
  have hr0 : nn = 0 → risesL none names = true := fun h => by rw [List.length_eq_zero_iff.1 (hnn.trans h)]; rfl
  have hwe : wordB ⟨#[]⟩ = true := by decide
  have hb0 := below_new w (.cells #[.int .i64 1, .int .i64 n, .string s, .slice ia li ic, .slice na nn nc] 71)
  have hA0 := At5.new w (.int .i64 1) (.int .i64 n) (.string s) (.slice ia li ic) (.slice na nn nc)
  have HB0 := Lib.hid hb0
  have HA0 := Lib.hid hA0
  clear hb0 hA0
  by_cases h5 : 0 ≤ n
  rotate_left
  · have HO := Lib.hid (show oneV (.mk 1 n s items names) = false by rw [H1.out, decide_eq_false (show ¬ (0 ≤ n ∧ n ≤ 1099511627776) from fun h => h5 h.1)]; simp)
    clear H1 hr0
    go_enter Tryz.func110, Tryz.ntmps110
    go_wp2_with fail
    go_ret
    exact ⟨by first | (rw [HO.out]; rfl) | rw [HO.out], HB0.out⟩
  by_cases h6 : n ≤ 1099511627776
  rotate_left
  · have HO := Lib.hid (show oneV (.mk 1 n s items names) = false by rw [H1.out, decide_eq_false (show ¬ (0 ≤ n ∧ n ≤ 1099511627776) from fun h => h6 h.2)]; simp)
    clear H1 hr0
    go_enter Tryz.func110, Tryz.ntmps110
    go_wp2_with fail
    go_ret
    exact ⟨by first | (rw [HO.out]; rfl) | rw [HO.out], HB0.out⟩
  by_cases h2 : s.size = 0
  rotate_left
  · have HO := Lib.hid (show oneV (.mk 1 n s items names) = false by rw [H1.out, decide_eq_false h2]; simp)
    obtain ⟨e1, e2⟩ := not_empty s h2
    clear h2 H1 hr0
    go_enter Tryz.func110, Tryz.ntmps110
    go_wp2_with fail
    go_ret
    exact ⟨by first | (rw [HO.out]; rfl) | rw [HO.out], HB0.out⟩
  obtain rfl := empty_of s h2
  clear h2
  have C := Lib.hid (noMembers_any 1 n ⟨#[]⟩ ia na li ic nn nc (w.alloc (.cells #[.int .i64 1, .int .i64 n, .string ⟨#[]⟩, .slice ia li ic, .slice na nn nc] 71)) hil hNl _ rfl)
  obtain ⟨b, hb⟩ : ∃ b, (decide (li = 0) && decide (nn = 0)) = b := ⟨_, rfl⟩
  rw [hb] at C
  have HO := Lib.hid (show oneV (.mk 1 n ⟨#[]⟩ items names) = b by
    rw [H1.out, hwe, decide_eq_true (show 0 ≤ n ∧ n ≤ 1099511627776 from ⟨h5, h6⟩), ← hb]
    by_cases e1 : li = 0
    · by_cases e2 : nn = 0
      · rw [hr0 e2, decide_eq_true e1, decide_eq_true e2, decide_eq_true (show li ≤ 16 by omega)]; rfl
      · rw [decide_eq_false e2]; simp
    · rw [decide_eq_false e1]; simp)
  clear H1 hr0 hb
  go_enter Tryz.func110, Tryz.ntmps110
  go_wp2_with fail
  refine C.out.mono ?_
  rintro e w1 ⟨rfl, hb1⟩
  have HB1 := Lib.hid (Below.then HB0.out hb1)
  clear hb1
  go_wp2_with fail
  go_ret
  exact ⟨by first | (rw [HO.out]; rfl) | rw [HO.out], HB1.out⟩

set_option maxRecDepth 100000 in
set_option maxHeartbeats 4000000 in
theorem rightAlone_2 (n : Int) (s : ByteArray) (ia na : Option Addr) (li ic nn nc : Nat) (items : List Val) (names : List ByteArray) (w : World) (hnn : names.length = nn) (hli : items.length = li) (_ : StrsAt w (.slice na nn nc) names)
    (_ : ∀ x ∈ names, x.size ≤ maxLen) (hs : s.size ≤ maxLen) (hNl : nn ≤ maxLen) (hil : li ≤ maxLen) :
    Calls Tryz.prog 110 #[.agg #[.int .i64 2, .int .i64 n, .string s, .slice ia li ic, .slice na nn nc]] w fun e w' => e = .returned (.bool (oneV (.mk 2 n s items names))) ∧ Below w.heap.size w w' := by
  have H1 := Lib.hid (show oneV (.mk 2 n s items names) = (decide ((1 : Int) ≤ 2 ∧ (2 : Int) ≤ 4) && ((2 : Int) == 1 || n == 0) && ((2 : Int) == 2 || decide (s.size = 0)) && (decide ((3 : Int) ≤ 2) || decide (li = 0)) && ((2 : Int) == 4 || decide (nn = 0)) &&
    decide (0 ≤ n ∧ n ≤ 1099511627776) && wordB s && decide (li ≤ 16) && (!((2 : Int) == 4) || decide (nn = li)) && risesL none names) by rw [← hnn, ← hli]; rfl)
  have hr0 : nn = 0 → risesL none names = true := fun h => by rw [List.length_eq_zero_iff.1 (hnn.trans h)]; rfl
  have hwe : wordB ⟨#[]⟩ = true := by decide
  have hb0 := below_new w (.cells #[.int .i64 2, .int .i64 n, .string s, .slice ia li ic, .slice na nn nc] 71)
  have hA0 := At5.new w (.int .i64 2) (.int .i64 n) (.string s) (.slice ia li ic) (.slice na nn nc)
  have HB0 := Lib.hid hb0
  have HA0 := Lib.hid hA0
  clear hb0 hA0
  by_cases h1 : n = 0
  rotate_left
  · have HO := Lib.hid (show oneV (.mk 2 n s items names) = false by rw [H1.out, beq_eq_false_iff_ne.2 h1]; simp)
    have e1 : (n == 0) = false := beq_eq_false_iff_ne.2 h1
    clear h1 H1 hr0
    go_enter Tryz.func110, Tryz.ntmps110
    go_wp2_with fail
    go_ret
    exact ⟨by first | (rw [HO.out]; rfl) | rw [HO.out], HB0.out⟩
  subst h1
  have W1 := Lib.hid (fun w => isWord_any s w hs)
  cases hw : wordB s with
  | false =>
    have HO := Lib.hid (show oneV (.mk 2 0 s items names) = false by rw [H1.out, hw]; simp)
    rw [hw] at W1
    clear H1 hr0 hw
    go_enter Tryz.func110, Tryz.ntmps110
    go_wp2_with fail
    refine (W1.out _).mono ?_
    rintro e w9 ⟨rfl, rfl⟩
    go_wp2_with fail
    go_ret
    exact ⟨by first | (rw [HO.out]; rfl) | rw [HO.out], HB0.out⟩
  | true =>
    rw [hw] at W1
    have C := Lib.hid (noMembers_any 2 0 s ia na li ic nn nc (w.alloc (.cells #[.int .i64 2, .int .i64 0, .string s, .slice ia li ic, .slice na nn nc] 71)) hil hNl _ rfl)
    obtain ⟨b, hb⟩ : ∃ b, (decide (li = 0) && decide (nn = 0)) = b := ⟨_, rfl⟩
    rw [hb] at C
    have HO := Lib.hid (show oneV (.mk 2 0 s items names) = b by
      rw [H1.out, hw, ← hb]
      by_cases e1 : li = 0
      · by_cases e2 : nn = 0
        · rw [hr0 e2, decide_eq_true e1, decide_eq_true e2, decide_eq_true (show li ≤ 16 by omega)]; rfl
        · rw [decide_eq_false e2]; simp
      · rw [decide_eq_false e1]; simp)
    clear H1 hr0 hb hw
    go_enter Tryz.func110, Tryz.ntmps110
    go_wp2_with fail
    refine (W1.out _).mono ?_
    rintro e w9 ⟨rfl, rfl⟩
    go_wp2_with fail
    refine C.out.mono ?_
    rintro e w1 ⟨rfl, hb1⟩
    have HB1 := Lib.hid (Below.then HB0.out hb1)
    clear hb1
    go_wp2_with fail
    go_ret
    exact ⟨by first | (rw [HO.out]; rfl) | rw [HO.out], HB1.out⟩

set_option maxRecDepth 100000 in
set_option maxHeartbeats 4000000 in
theorem rightAlone_3 (n : Int) (s : ByteArray) (ia na : Option Addr) (li ic nn nc : Nat) (items : List Val) (names : List ByteArray) (w : World) (hnn : names.length = nn) (hli : items.length = li) (hN : StrsAt w (.slice na nn nc) names)
    (_ : ∀ x ∈ names, x.size ≤ maxLen) (hs : s.size ≤ maxLen) (hNl : nn ≤ maxLen) (hil : li ≤ maxLen) :
    Calls Tryz.prog 110 #[.agg #[.int .i64 3, .int .i64 n, .string s, .slice ia li ic, .slice na nn nc]] w fun e w' => e = .returned (.bool (oneV (.mk 3 n s items names))) ∧ Below w.heap.size w w' := by
  have H1 := Lib.hid (show oneV (.mk 3 n s items names) = (decide ((1 : Int) ≤ 3 ∧ (3 : Int) ≤ 4) && ((3 : Int) == 1 || n == 0) && ((3 : Int) == 2 || decide (s.size = 0)) && (decide ((3 : Int) ≤ 3) || decide (li = 0)) && ((3 : Int) == 4 || decide (nn = 0)) &&
    decide (0 ≤ n ∧ n ≤ 1099511627776) && wordB s && decide (li ≤ 16) && (!((3 : Int) == 4) || decide (nn = li)) && risesL none names) by rw [← hnn, ← hli]; rfl)
  have hr0 : nn = 0 → risesL none names = true := fun h => by rw [List.length_eq_zero_iff.1 (hnn.trans h)]; rfl
  have hwe : wordB ⟨#[]⟩ = true := by decide
  have hb0 := below_new w (.cells #[.int .i64 3, .int .i64 n, .string s, .slice ia li ic, .slice na nn nc] 71)
  have hA0 := At5.new w (.int .i64 3) (.int .i64 n) (.string s) (.slice ia li ic) (.slice na nn nc)
  have HB0 := Lib.hid hb0
  have HA0 := Lib.hid hA0
  clear hb0 hA0
  by_cases h1 : n = 0
  rotate_left
  · have HO := Lib.hid (show oneV (.mk 3 n s items names) = false by rw [H1.out, beq_eq_false_iff_ne.2 h1]; simp)
    have e1 : (n == 0) = false := beq_eq_false_iff_ne.2 h1
    clear h1 H1 hr0 hN
    go_enter Tryz.func110, Tryz.ntmps110
    go_wp2_with fail
    go_ret
    exact ⟨by first | (rw [HO.out]; rfl) | rw [HO.out], HB0.out⟩
  subst h1
  by_cases h2 : s.size = 0
  rotate_left
  · have HO := Lib.hid (show oneV (.mk 3 0 s items names) = false by rw [H1.out, decide_eq_false h2]; simp)
    obtain ⟨e1, e2⟩ := not_empty s h2
    clear h2 H1 hr0 hN
    go_enter Tryz.func110, Tryz.ntmps110
    go_wp2_with fail
    go_ret
    exact ⟨by first | (rw [HO.out]; rfl) | rw [HO.out], HB0.out⟩
  obtain rfl := empty_of s h2
  clear h2
  unfold maxLen at hil
  by_cases h8 : li ≤ 16
  rotate_left
  · have HO := Lib.hid (show oneV (.mk 3 0 ⟨#[]⟩ items names) = false by rw [H1.out, decide_eq_false h8]; simp)
    have h8' : (16 : Int) < (li : Int) := by omega
    clear H1 hr0 hN h8
    go_enter Tryz.func110, Tryz.ntmps110
    go_wp2_with fail
    go_ret
    exact ⟨by first | (rw [HO.out]; rfl) | rw [HO.out], HB0.out⟩
  have h8' : (li : Int) ≤ 16 := by omega
  by_cases h4 : nn = 0
  rotate_left
  · have HO := Lib.hid (show oneV (.mk 3 0 ⟨#[]⟩ items names) = false by rw [H1.out, decide_eq_false h4]; simp)
    have e4 : ((nn : Int) == 0) = false := beq_eq_false_iff_ne.2 (by omega)
    unfold maxLen at hNl
    clear H1 hr0 hN h8
    go_enter Tryz.func110, Tryz.ntmps110
    go_wp2_with fail
    go_ret
    exact ⟨by first | (rw [HO.out]; rfl) | rw [HO.out], HB0.out⟩
  subst h4
  have HO := Lib.hid (show oneV (.mk 3 0 ⟨#[]⟩ items names) = true by rw [H1.out, hwe, hr0 rfl, decide_eq_true h8]; rfl)
  clear H1 hr0 hN h8
  go_enter Tryz.func110, Tryz.ntmps110
  go_wp2_with fail
  go_ret
  exact ⟨by first | (rw [HO.out]; rfl) | rw [HO.out], HB0.out⟩

set_option maxRecDepth 100000 in
set_option maxHeartbeats 4000000 in
theorem rightAlone_4 (n : Int) (s : ByteArray) (ia na : Option Addr) (li ic nn nc : Nat) (items : List Val) (names : List ByteArray) (w : World) (hnn : names.length = nn) (hli : items.length = li) (hN : StrsAt w (.slice na nn nc) names)
    (hz : ∀ x ∈ names, x.size ≤ maxLen) (hs : s.size ≤ maxLen) (_hNl : nn ≤ maxLen) (hil : li ≤ maxLen) :
    Calls Tryz.prog 110 #[.agg #[.int .i64 4, .int .i64 n, .string s, .slice ia li ic, .slice na nn nc]] w fun e w' => e = .returned (.bool (oneV (.mk 4 n s items names))) ∧ Below w.heap.size w w' := by
  have H1 := Lib.hid (show oneV (.mk 4 n s items names) = (decide ((1 : Int) ≤ 4 ∧ (4 : Int) ≤ 4) && ((4 : Int) == 1 || n == 0) && ((4 : Int) == 2 || decide (s.size = 0)) && (decide ((3 : Int) ≤ 4) || decide (li = 0)) && ((4 : Int) == 4 || decide (nn = 0)) &&
    decide (0 ≤ n ∧ n ≤ 1099511627776) && wordB s && decide (li ≤ 16) && (!((4 : Int) == 4) || decide (nn = li)) && risesL none names) by rw [← hnn, ← hli]; rfl)
  have hr0 : nn = 0 → risesL none names = true := fun h => by rw [List.length_eq_zero_iff.1 (hnn.trans h)]; rfl
  have hwe : wordB ⟨#[]⟩ = true := by decide
  have hb0 := below_new w (.cells #[.int .i64 4, .int .i64 n, .string s, .slice ia li ic, .slice na nn nc] 71)
  have hA0 := At5.new w (.int .i64 4) (.int .i64 n) (.string s) (.slice ia li ic) (.slice na nn nc)
  have HB0 := Lib.hid hb0
  have HA0 := Lib.hid hA0
  clear hb0 hA0
  by_cases h1 : n = 0
  rotate_left
  · have HO := Lib.hid (show oneV (.mk 4 n s items names) = false by rw [H1.out, beq_eq_false_iff_ne.2 h1]; simp)
    have e1 : (n == 0) = false := beq_eq_false_iff_ne.2 h1
    clear h1 H1 hr0 hN hz
    go_enter Tryz.func110, Tryz.ntmps110
    go_wp2_with fail
    go_ret
    exact ⟨by first | (rw [HO.out]; rfl) | rw [HO.out], HB0.out⟩
  subst h1
  by_cases h2 : s.size = 0
  rotate_left
  · have HO := Lib.hid (show oneV (.mk 4 0 s items names) = false by rw [H1.out, decide_eq_false h2]; simp)
    obtain ⟨e1, e2⟩ := not_empty s h2
    clear h2 H1 hr0 hN hz
    go_enter Tryz.func110, Tryz.ntmps110
    go_wp2_with fail
    go_ret
    exact ⟨by first | (rw [HO.out]; rfl) | rw [HO.out], HB0.out⟩
  obtain rfl := empty_of s h2
  clear h2
  unfold maxLen at hil
  by_cases h8 : li ≤ 16
  rotate_left
  · have HO := Lib.hid (show oneV (.mk 4 0 ⟨#[]⟩ items names) = false by rw [H1.out, decide_eq_false h8]; simp)
    have h8' : (16 : Int) < (li : Int) := by omega
    clear H1 hr0 hN hz h8
    go_enter Tryz.func110, Tryz.ntmps110
    go_wp2_with fail
    go_ret
    exact ⟨by first | (rw [HO.out]; rfl) | rw [HO.out], HB0.out⟩
  have h8' : (li : Int) ≤ 16 := by omega
  unfold maxLen at _hNl
  by_cases h9 : nn = li
  rotate_left
  · have HO := Lib.hid (show oneV (.mk 4 0 ⟨#[]⟩ items names) = false by rw [H1.out, decide_eq_false h9]; simp)
    have e9 : ((nn : Int) == (li : Int)) = false := beq_eq_false_iff_ne.2 (by omega)
    clear H1 hr0 hN hz h8 h9
    go_enter Tryz.func110, Tryz.ntmps110
    go_wp2_with fail
    go_ret
    exact ⟨by first | (rw [HO.out]; rfl) | rw [HO.out], HB0.out⟩
  subst h9
  have C := Lib.hid (areNames_any names na nn nc _ hnn (hN.keep HB0.out) hz (by unfold maxLen; omega))
  obtain ⟨b, hb⟩ : ∃ b, risesL none names = b := ⟨_, rfl⟩
  rw [hb] at C
  have HO := Lib.hid (show oneV (.mk 4 0 ⟨#[]⟩ items names) = b by rw [H1.out, hwe, hb, decide_eq_true h8, decide_eq_true (rfl : nn = nn)]; rfl)
  clear H1 hr0 hN hz h8 hb
  go_enter Tryz.func110, Tryz.ntmps110
  go_wp2_with fail
  refine C.out.mono ?_
  rintro e w1 ⟨rfl, hb1⟩
  have HB1 := Lib.hid (Below.then HB0.out hb1)
  clear hb1
  go_wp2_with fail
  go_ret
  exact ⟨by first | (rw [HO.out]; rfl) | rw [HO.out], HB1.out⟩

set_option maxRecDepth 100000 in
theorem rightAlone_out (k n : Int) (s : ByteArray) (ia na : Option Addr) (li ic nn nc : Nat) (items : List Val) (names : List ByteArray) (w : World) (hk : k < 1 ∨ 4 < k) :
    Calls Tryz.prog 110 #[.agg #[.int .i64 k, .int .i64 n, .string s, .slice ia li ic, .slice na nn nc]] w fun e w' => e = .returned (.bool (oneV (.mk k n s items names))) ∧ Below w.heap.size w w' := by
  have HO := Lib.hid (show oneV (.mk k n s items names) = false by
    have h : decide ((1 : Int) ≤ k ∧ k ≤ 4) = false := decide_eq_false (by omega)
    show (decide ((1 : Int) ≤ k ∧ k ≤ 4) && _ && _ && _ && _ && _ && _ && _ && _ && _) = false
    rw [h]; rfl)
  have HB0 := Lib.hid (below_new w (.cells #[.int .i64 k, .int .i64 n, .string s, .slice ia li ic, .slice na nn nc] 71))
  by_cases h1 : k < 1
  · clear hk
    go_enter Tryz.func110, Tryz.ntmps110
    go_wp2_with fail
    go_ret
    exact ⟨by first | (rw [HO.out]; rfl) | rw [HO.out], HB0.out⟩
  · have h2 : 4 < k := by omega
    clear hk
    go_enter Tryz.func110, Tryz.ntmps110
    go_wp2_with fail
    go_ret
    exact ⟨by first | (rw [HO.out]; rfl) | rw [HO.out], HB0.out⟩

theorem rightAlone_any (T : Val) (v : Value) (w : World) (hv : IsVal w v T) :
    Calls Tryz.prog 110 #[v] w fun e w' => e = .returned (.bool (oneV T)) ∧ Below w.heap.size w w' := by
  cases hv with
  | mk k n s iv nv items names ev hk hn hs hN hz hI hsub =>
  have hNl := hN.len
  obtain ⟨na, nc, rfl, hnc⟩ := hN.shape
  obtain ⟨ia, ic, rfl, hic, hil⟩ := hI.shape
  by_cases h1 : k < 1 ∨ 4 < k
  · exact rightAlone_out k n s ia na _ ic _ nc items names w h1
  · have h2 : k = 1 ∨ k = 2 ∨ k = 3 ∨ k = 4 := by omega
    rcases h2 with rfl | rfl | rfl | rfl
    · exact rightAlone_1 n s ia na _ ic _ nc items names w rfl rfl hN hz hs hNl hil
    · exact rightAlone_2 n s ia na _ ic _ nc items names w rfl rfl hN hz hs hNl hil
    · exact rightAlone_3 n s ia na _ ic _ nc items names w rfl rfl hN hz hs hNl hil
    · exact rightAlone_4 n s ia na _ ic _ nc items names w rfl rfl hN hz hs hNl hil

set_option maxRecDepth 100000 in
set_option maxHeartbeats 4000000 in
theorem rightWithin_go : ∀ (d : Nat), d ≤ 100 → ∀ (k : Int), k = d → ∀ (T : Val) (v : Value) (w : World), IsVal w v T →
    Calls Tryz.prog 83 #[v, .int .i64 k] w fun e w' => e = .returned (.bool (mayV d T)) ∧ Below w.heap.size w w' := by
  intro d
  induction d with
  | zero =>
    intro _ k hk T v w hv
    cases hv with
    | mk kd n s iv nv items names ev hk1 hn hs hN hz hI hsub =>
    obtain ⟨na, nc, rfl, hnc⟩ := hN.shape
    obtain ⟨ia, ic, rfl, hic, hil⟩ := hI.shape
    obtain ⟨nn, hnn⟩ : ∃ x, names.length = x := ⟨_, rfl⟩
    obtain ⟨li, hli⟩ : ∃ x, items.length = x := ⟨_, rfl⟩
    rw [hnn, hli]
    obtain rfl : k = 0 := by simpa using hk
    have HB0 := Lib.hid (below_new w (.cells #[.int .i64 kd, .int .i64 n, .string s, .slice ia li ic, .slice na nn nc] 71))
    clear hk1 hn hs hN hz hI hsub hnc hic hil hk
    go_enter Tryz.func83, Tryz.ntmps83
    go_wp2_with fail
    go_ret
    exact ⟨rfl, HB0.out⟩
  | succ d ih =>
    intro hd k hk T v w hv
    have hone := fun w' hb => rightAlone_any T v w' (hv.keep (w' := w') hb)
    cases hv with
    | mk kd n s iv nv items names ev hk1 hn hs hN hz hI hsub =>
    obtain ⟨na, nc, rfl, hnc⟩ := hN.shape
    obtain ⟨ia, ic, rfl, hic, hil⟩ := hI.shape
    obtain ⟨nn, hnn⟩ : ∃ x, names.length = x := ⟨_, rfl⟩
    obtain ⟨li, hli⟩ : ∃ x, items.length = x := ⟨_, rfl⟩
    rw [hnn, hli] at hone ⊢
    rw [hli] at hI hil
    have hM : mayV (d + 1) (.mk kd n s items names) = (oneV (.mk kd n s items names) && items.all (mayV d)) := by rw [mayV]; rfl
    have hk0 : (k == 0) = false := beq_eq_false_iff_ne.2 (by omega)
    have hkl : 0 < k := by omega
    have hku : k ≤ 101 := by omega
    have IH := Lib.hid (fun T v w h => ih (by omega) (k - 1) (by omega) T v w h)
    have HB0 := Lib.hid (below_new w (.cells #[.int .i64 kd, .int .i64 n, .string s, .slice ia li ic, .slice na nn nc] 71))
    have hA := At5.new w (.int .i64 kd) (.int .i64 n) (.string s) (.slice ia li ic) (.slice na nn nc)
    have h1 := hone _ HB0.out
    obtain ⟨r, hr⟩ : ∃ r, oneV (.mk kd n s items names) = r := ⟨_, rfl⟩
    rw [hr] at h1 hM
    have C1 := Lib.hid h1
    have HM := Lib.hid hM
    have HI := Lib.hid hI
    have HS := Lib.hid hsub
    have HA := Lib.hid hA
    unfold maxLen at hil
    clear hk1 hn hs hN hz hI hsub hnc hic ih hk hone h1 hr hM hA hd
    go_enter Tryz.func83, Tryz.ntmps83
    go_wp2_with fail
    refine C1.out.mono ?_
    rintro e w1 ⟨rfl, hb1⟩
    have HB1 := Lib.hid (Below.then HB0.out hb1)
    have HA1 := Lib.hid (HA.out.keep hb1)
    clear hb1
    cases r with
    | false =>
      go_wp2_with fail
      go_ret
      exact ⟨by rw [HM.out]; rfl, HB1.out⟩
    | true =>
      obtain ⟨a0, a1, a2, a3, a4⟩ := HA1.out.cells
      rcases HI.out with ⟨h0, -⟩ | ⟨pb, po, cap, he, -, -, -, hcs⟩
      · have hit : items = [] := List.length_eq_zero_iff.1 (hli.trans h0)
        subst h0
        have HO := Lib.hid (show mayV (d + 1) (.mk kd n s items names) = true by rw [HM.out, hit]; rfl)
        clear hit hli
        go_wp2_with fail
        refine wp_loop_rounds 1 ?_
        rw [rounds_succ]
        go_wp2_with fail
        go_ret
        exact ⟨by rw [HO.out]; rfl, HB1.out⟩
      · simp only [Value.slice.injEq] at he
        obtain ⟨rfl, -, rfl⟩ := he
        have HCS := Lib.hid hcs
        clear hcs
        go_wp2_with fail
        go_loopw [17] (fun iv wr => ∃ j : Nat, j ≤ li ∧ iv = .int .i64 j ∧ (items.drop j).all (mayV d) = items.all (mayV d) ∧ Below w.heap.size w wr) (fun i _ => li - (intOf i).toNat)
        case atStart => exact ⟨0, Nat.zero_le _, rfl, rfl, HB1.out⟩
        case round =>
          obtain ⟨j, hj, rfl, hr, hb⟩ := hrel
          have HRJ := Lib.hid hr
          have HRW := Lib.hid hb
          clear hr hb
          by_cases hlt : j < li
          · obtain ⟨c0, c1, c2, c3, c4, hev, e0, e1, e2, e3, e4⟩ := HCS.out j hlt
            have kc : ∀ {p : Addr} {v : Value}, w.cell? p = some v → wr.cell? p = some v := fun h => HRW.out.cell (World.block_lt_of_cell? _ _ h) |>.trans h
            have v0 := kc e0
            have v1 := kc e1
            have v2 := kc e2
            have v3 := kc e3
            have v4 := kc e4
            have hs1 := HS.out j (by omega)
            rw [hev] at hs1
            obtain ⟨xk, xn, xs, xia, xna, xli, xic, xnn, xnc, hsh⟩ := hs1.shape
            simp only [Value.agg.injEq, Array.mk.injEq, List.cons.injEq, and_true] at hsh
            obtain ⟨rfl, rfl, rfl, rfl, rfl⟩ := hsh
            have HB2 := Lib.hid (Below.then HRW.out (below_new wr (.cells #[.int .i64 xk, .int .i64 xn, .string xs, .slice xia xli xic, .slice xna xnn xnc] 71)))
            have C := Lib.hid (IH.out (items[j]'(by omega)) _ (wr.alloc (.cells #[.int .i64 xk, .int .i64 xn, .string xs, .slice xia xli xic, .slice xna xnn xnc] 71)) (hs1.keep HB2.out))
            have hd := all_drop (mayV d) items j (by omega)
            rw [HRJ.out] at hd
            obtain ⟨r, hr⟩ : ∃ r, mayV d (items[j]'(by omega)) = r := ⟨_, rfl⟩
            rw [hr] at C hd
            have HD := Lib.hid hd
            clear kc e0 e1 e2 e3 e4 hev hs1 hd hr
            go_wp2_with fail
            refine C.out.mono ?_
            rintro e w2 ⟨rfl, hbc⟩
            have HR3 := Lib.hid (Below.then HB2.out hbc)
            clear hbc
            cases r with
            | true =>
              have HN1 := Lib.hid (show (items.drop (j + 1)).all (mayV d) = items.all (mayV d) by rw [HD.out]; rfl)
              go_wp2_with fail
              go_roundw
              case rel => exact ⟨j + 1, by omega, by go_num, HN1.out, HR3.out⟩
              case measure => simp [intOf]; omega
            | false =>
              have HO := Lib.hid (show mayV (d + 1) (.mk kd n s items names) = false by rw [HM.out, HD.out]; rfl)
              go_wp2_with fail
              go_ret
              exact ⟨by rw [HO.out]; rfl, HR3.out⟩
          · have HO := Lib.hid (show mayV (d + 1) (.mk kd n s items names) = true by
              rw [HM.out, ← HRJ.out, List.drop_eq_nil_of_le (by omega)]; rfl)
            go_wp2_with fail
            go_ret
            exact ⟨by rw [HO.out]; rfl, HRW.out⟩

theorem rightT_any (T : Val) (v : Value) (w : World) (hv : IsVal w v T) :
    Calls Tryz.prog 59 #[v] w fun e w' => e = .returned (.bool (mayV 6 T)) ∧ Below w.heap.size w w' := by
  obtain ⟨xk, xn, xs, xia, xna, xli, xic, xnn, xnc, rfl⟩ := hv.shape
  have HB0 := Lib.hid (below_new w (.cells #[.int .i64 xk, .int .i64 xn, .string xs, .slice xia xli xic, .slice xna xnn xnc] 71))
  have H1 := Lib.hid (rightWithin_go 6 (by decide) 6 rfl T _ _ (hv.keep HB0.out))
  clear hv
  go_enter Tryz.func59, Tryz.ntmps59
  go_wp2_with fail
  refine H1.out.mono ?_
  rintro e w1 ⟨rfl, hb⟩
  have HB := Lib.hid (Below.then HB0.out hb)
  clear hb
  go_wp2_with fail
  go_ret
  exact ⟨rfl, HB.out⟩
end Go.Proofs.YtepcaglekgeamaaGreatDoor
