/-
  The document's own 'one' by a contract: may a value be, but for its items? Conditions: what comes in reads as a tree.
  The document's own May and Right, by contracts. Conditions: what comes in reads as a tree.
-/
import Derived.Test.YtepcaglekgeamaaGreatDoorYTxt1
namespace Go.Proofs.YtepcaglekgeamaaGreatDoor
open Go.RowKit

theorem empty_of (s : ByteArray) (h : s.size = 0) : s = ⟨#[]⟩ := ByteArray.ext (Array.eq_empty_of_size_eq_zero h)

theorem not_empty (s : ByteArray) (h : s.size ≠ 0) : (s.toList == []) = false ∧ s.toList.isEmpty = false := by
  have hlen : s.data.toList.length = s.size := (Lib.size_eq s).symm
  constructor
  · rw [beq_eq_false_iff_ne, Lib.toList_data]; intro e; rw [e] at hlen; simp at hlen; omega
  · rw [List.isEmpty_eq_false_iff, Lib.toList_data]; intro e; rw [e] at hlen; simp at hlen; omega

def prevAt (names : List ByteArray) (j : Nat) : Option ByteArray := if j = 0 then none else names[j - 1]?

theorem rises_at (names : List ByteArray) (j : Nat) (h : j < names.length) : risesL (prevAt names j) (names.drop j) = (wordB names[j] && (match prevAt names j with | none => true | some p => lessB p names[j]) && risesL (some names[j]) (names.drop (j + 1))) := by
  rw [List.drop_eq_getElem_cons h]
  cases prevAt names j with
  | none => rw [risesL, Bool.and_true]
  | some p => rw [risesL]

theorem prev_succ (names : List ByteArray) (j : Nat) (h : j < names.length) : prevAt names (j + 1) = some names[j] := by
  unfold prevAt
  rw [if_neg (by omega), Nat.add_sub_cancel, List.getElem?_eq_getElem h]

set_option maxRecDepth 100000 in
set_option maxHeartbeats 4000000 in
theorem one_1 (n : Int) (s : ByteArray) (ia na : Option Addr) (li ic nn nc : Nat) (items : List Val) (names : List ByteArray) (w : World) (hnn : names.length = nn) (hli : items.length = li) (hN : StrsAt w (.slice na nn nc) names)
    (hz : ∀ x ∈ names, x.size ≤ maxLen) (hs : s.size ≤ maxLen) (hNl : nn ≤ maxLen) (hil : li ≤ maxLen) :
    Calls Tryz.prog 108 #[.agg #[.int .i64 1, .int .i64 n, .string s, .slice ia li ic, .slice na nn nc]] w fun e w' => e = .returned (.bool (oneV (.mk 1 n s items names))) ∧ Below w.heap.size w w' := by
  have H1 := Lib.hid (show oneV (.mk 1 n s items names) = (decide ((1 : Int) ≤ 1 ∧ (1 : Int) ≤ 4) && ((1 : Int) == 1 || n == 0) && ((1 : Int) == 2 || decide (s.size = 0)) && (decide ((3 : Int) ≤ 1) || decide (li = 0)) && ((1 : Int) == 4 || decide (nn = 0)) &&
    decide (0 ≤ n ∧ n ≤ 1099511627776) && wordB s && decide (li ≤ 16) && (!((1 : Int) == 4) || decide (nn = li)) && risesL none names) by rw [← hnn, ← hli]; rfl)
  have W1 := Lib.hid (fun w => word_any s w hs)
  have hb0 := below_new w (.cells #[.int .i64 1, .int .i64 n, .string s, .slice ia li ic, .slice na nn nc] 71)
  have hA0 := At5.new w (.int .i64 1) (.int .i64 n) (.string s) (.slice ia li ic) (.slice na nn nc)
  have HB0 := Lib.hid hb0
  have HA0 := Lib.hid hA0
  clear hb0 hA0
  unfold maxLen at hNl hil
  by_cases h2 : s.size = 0
  rotate_left
  · have HO := Lib.hid (show oneV (.mk 1 n s items names) = false by rw [H1.out, decide_eq_false h2]; simp)
    obtain ⟨e1, e2⟩ := not_empty s h2
    go_enter Tryz.func108, Tryz.ntmps108
    go_wp2_with fail
    go_ret
    exact ⟨by rw [HO.out]; rfl, HB0.out⟩
  obtain rfl := empty_of s h2
  clear h2
  by_cases h3 : li = 0
  rotate_left
  · have HO := Lib.hid (show oneV (.mk 1 n ⟨#[]⟩ items names) = false by rw [H1.out, decide_eq_false h3]; simp)
    have e3 : (0 : Int) < (li : Int) := by omega
    go_enter Tryz.func108, Tryz.ntmps108
    go_wp2_with fail
    go_ret
    exact ⟨by rw [HO.out]; rfl, HB0.out⟩
  subst h3
  by_cases h4 : nn = 0
  rotate_left
  · have HO := Lib.hid (show oneV (.mk 1 n ⟨#[]⟩ items names) = false by rw [H1.out, decide_eq_false h4]; simp)
    have e4 : (0 : Int) < (nn : Int) := by omega
    go_enter Tryz.func108, Tryz.ntmps108
    go_wp2_with fail
    go_ret
    exact ⟨by rw [HO.out]; rfl, HB0.out⟩
  subst h4
  by_cases h5 : 0 ≤ n
  rotate_left
  · have HO := Lib.hid (show oneV (.mk 1 n ⟨#[]⟩ items names) = false by rw [H1.out, decide_eq_false (show ¬ (0 ≤ n ∧ n ≤ 1099511627776) from fun h => h5 h.1)]; simp)
    go_enter Tryz.func108, Tryz.ntmps108
    go_wp2_with fail
    go_ret
    exact ⟨by rw [HO.out]; rfl, HB0.out⟩
  by_cases h6 : n ≤ 1099511627776
  rotate_left
  · have HO := Lib.hid (show oneV (.mk 1 n ⟨#[]⟩ items names) = false by rw [H1.out, decide_eq_false (show ¬ (0 ≤ n ∧ n ≤ 1099511627776) from fun h => h6 h.2)]; simp)
    go_enter Tryz.func108, Tryz.ntmps108
    go_wp2_with fail
    go_ret
    exact ⟨by rw [HO.out]; rfl, HB0.out⟩
  have hw : wordB ⟨#[]⟩ = true := by decide
  rw [hw] at W1
  have HR := Lib.hid (show oneV (.mk 1 n ⟨#[]⟩ items names) = risesL none names by rw [H1.out, decide_eq_true (show (⟨#[]⟩ : ByteArray).size = 0 from rfl), decide_eq_true (show 0 ≤ n ∧ n ≤ 1099511627776 from ⟨h5, h6⟩), hw]; simp)
  clear hN H1
  have hnil : names = [] := List.length_eq_zero_iff.1 hnn
  subst hnil
  have HO := Lib.hid (show oneV (.mk 1 n ⟨#[]⟩ items []) = true by rw [HR.out]; rfl)
  clear HR hz
  go_enter Tryz.func108, Tryz.ntmps108
  go_wp2_with fail
  refine (W1.out _).mono ?_
  rintro e w9 ⟨rfl, rfl⟩
  go_wp2_with fail
  generalize w.alloc (.cells #[.int .i64 1, .int .i64 n, .string ⟨#[]⟩, .slice ia 0 ic, .slice na 0 nc] 71) = W at HB0 HA0 ⊢
  refine wp_loop_rounds 1 ?_
  rw [rounds_succ]
  go_wp2_with fail
  go_ret
  exact ⟨by rw [HO.out]; rfl, HB0.out⟩

set_option maxRecDepth 100000 in
set_option maxHeartbeats 4000000 in
theorem one_2 (n : Int) (s : ByteArray) (ia na : Option Addr) (li ic nn nc : Nat) (items : List Val) (names : List ByteArray) (w : World) (hnn : names.length = nn) (hli : items.length = li) (hN : StrsAt w (.slice na nn nc) names)
    (hz : ∀ x ∈ names, x.size ≤ maxLen) (hs : s.size ≤ maxLen) (hNl : nn ≤ maxLen) (hil : li ≤ maxLen) :
    Calls Tryz.prog 108 #[.agg #[.int .i64 2, .int .i64 n, .string s, .slice ia li ic, .slice na nn nc]] w fun e w' => e = .returned (.bool (oneV (.mk 2 n s items names))) ∧ Below w.heap.size w w' := by
  have H1 := Lib.hid (show oneV (.mk 2 n s items names) = (decide ((1 : Int) ≤ 2 ∧ (2 : Int) ≤ 4) && ((2 : Int) == 1 || n == 0) && ((2 : Int) == 2 || decide (s.size = 0)) && (decide ((3 : Int) ≤ 2) || decide (li = 0)) && ((2 : Int) == 4 || decide (nn = 0)) &&
    decide (0 ≤ n ∧ n ≤ 1099511627776) && wordB s && decide (li ≤ 16) && (!((2 : Int) == 4) || decide (nn = li)) && risesL none names) by rw [← hnn, ← hli]; rfl)
  have W1 := Lib.hid (fun w => word_any s w hs)
  have hb0 := below_new w (.cells #[.int .i64 2, .int .i64 n, .string s, .slice ia li ic, .slice na nn nc] 71)
  have hA0 := At5.new w (.int .i64 2) (.int .i64 n) (.string s) (.slice ia li ic) (.slice na nn nc)
  have HB0 := Lib.hid hb0
  have HA0 := Lib.hid hA0
  clear hb0 hA0
  unfold maxLen at hNl hil
  by_cases h1 : n = 0
  rotate_left
  · have HO := Lib.hid (show oneV (.mk 2 n s items names) = false by rw [H1.out, beq_eq_false_iff_ne.2 h1]; simp)
    have e1 : (n != 0) = true := bne_iff_ne.2 h1
    go_enter Tryz.func108, Tryz.ntmps108
    go_wp2_with fail
    go_ret
    exact ⟨by rw [HO.out]; rfl, HB0.out⟩
  subst h1
  by_cases h3 : li = 0
  rotate_left
  · have HO := Lib.hid (show oneV (.mk 2 0 s items names) = false by rw [H1.out, decide_eq_false h3]; simp)
    have e3 : (0 : Int) < (li : Int) := by omega
    go_enter Tryz.func108, Tryz.ntmps108
    go_wp2_with fail
    go_ret
    exact ⟨by rw [HO.out]; rfl, HB0.out⟩
  subst h3
  by_cases h4 : nn = 0
  rotate_left
  · have HO := Lib.hid (show oneV (.mk 2 0 s items names) = false by rw [H1.out, decide_eq_false h4]; simp)
    have e4 : (0 : Int) < (nn : Int) := by omega
    go_enter Tryz.func108, Tryz.ntmps108
    go_wp2_with fail
    go_ret
    exact ⟨by rw [HO.out]; rfl, HB0.out⟩
  subst h4
  have hse : (s.toList == []) = decide (s.size = 0) ∧ s.toList.isEmpty = decide (s.size = 0) := by
    by_cases h : s.size = 0
    · obtain rfl := empty_of s h; rw [Lib.toList_data]; exact ⟨rfl, rfl⟩
    · rw [decide_eq_false h]; exact not_empty s h
  obtain ⟨s1, s2⟩ := hse
  cases hw : wordB s with
  | false =>
    have HO := Lib.hid (show oneV (.mk 2 0 s items names) = false by rw [H1.out, hw]; simp)
    rw [hw] at W1
    go_enter Tryz.func108, Tryz.ntmps108
    go_wp2_with fail
    refine (W1.out _).mono ?_
    rintro e w9 ⟨rfl, rfl⟩
    go_wp2_with fail
    go_ret
    exact ⟨by rw [HO.out]; rfl, HB0.out⟩
  | true =>
    rw [hw] at W1
    have HR := Lib.hid (show oneV (.mk 2 0 s items names) = risesL none names by rw [H1.out, hw]; simp)
    clear hN H1
    have hnil : names = [] := List.length_eq_zero_iff.1 hnn
    subst hnil
    have HO := Lib.hid (show oneV (.mk 2 0 s items []) = true by rw [HR.out]; rfl)
    clear HR hz
    go_enter Tryz.func108, Tryz.ntmps108
    go_wp2_with fail
    refine (W1.out _).mono ?_
    rintro e w9 ⟨rfl, rfl⟩
    go_wp2_with fail
    generalize w.alloc (.cells #[.int .i64 2, .int .i64 0, .string s, .slice ia 0 ic, .slice na 0 nc] 71) = W at HB0 HA0 ⊢
    refine wp_loop_rounds 1 ?_
    rw [rounds_succ]
    go_wp2_with fail
    go_ret
    exact ⟨by rw [HO.out]; rfl, HB0.out⟩

set_option maxRecDepth 100000 in
set_option maxHeartbeats 4000000 in
theorem one_3 (n : Int) (s : ByteArray) (ia na : Option Addr) (li ic nn nc : Nat) (items : List Val) (names : List ByteArray) (w : World) (hnn : names.length = nn) (hli : items.length = li) (hN : StrsAt w (.slice na nn nc) names)
    (hz : ∀ x ∈ names, x.size ≤ maxLen) (hs : s.size ≤ maxLen) (hNl : nn ≤ maxLen) (hil : li ≤ maxLen) :
    Calls Tryz.prog 108 #[.agg #[.int .i64 3, .int .i64 n, .string s, .slice ia li ic, .slice na nn nc]] w fun e w' => e = .returned (.bool (oneV (.mk 3 n s items names))) ∧ Below w.heap.size w w' := by
  have H1 := Lib.hid (show oneV (.mk 3 n s items names) = (decide ((1 : Int) ≤ 3 ∧ (3 : Int) ≤ 4) && ((3 : Int) == 1 || n == 0) && ((3 : Int) == 2 || decide (s.size = 0)) && (decide ((3 : Int) ≤ 3) || decide (li = 0)) && ((3 : Int) == 4 || decide (nn = 0)) &&
    decide (0 ≤ n ∧ n ≤ 1099511627776) && wordB s && decide (li ≤ 16) && (!((3 : Int) == 4) || decide (nn = li)) && risesL none names) by rw [← hnn, ← hli]; rfl)
  have W1 := Lib.hid (fun w => word_any s w hs)
  have hb0 := below_new w (.cells #[.int .i64 3, .int .i64 n, .string s, .slice ia li ic, .slice na nn nc] 71)
  have hA0 := At5.new w (.int .i64 3) (.int .i64 n) (.string s) (.slice ia li ic) (.slice na nn nc)
  have HB0 := Lib.hid hb0
  have HA0 := Lib.hid hA0
  clear hb0 hA0
  unfold maxLen at hNl hil
  by_cases h1 : n = 0
  rotate_left
  · have HO := Lib.hid (show oneV (.mk 3 n s items names) = false by rw [H1.out, beq_eq_false_iff_ne.2 h1]; simp)
    have e1 : (n != 0) = true := bne_iff_ne.2 h1
    go_enter Tryz.func108, Tryz.ntmps108
    go_wp2_with fail
    go_ret
    exact ⟨by rw [HO.out]; rfl, HB0.out⟩
  subst h1
  by_cases h2 : s.size = 0
  rotate_left
  · have HO := Lib.hid (show oneV (.mk 3 0 s items names) = false by rw [H1.out, decide_eq_false h2]; simp)
    obtain ⟨e1, e2⟩ := not_empty s h2
    go_enter Tryz.func108, Tryz.ntmps108
    go_wp2_with fail
    go_ret
    exact ⟨by rw [HO.out]; rfl, HB0.out⟩
  obtain rfl := empty_of s h2
  clear h2
  by_cases h4 : nn = 0
  rotate_left
  · have HO := Lib.hid (show oneV (.mk 3 0 ⟨#[]⟩ items names) = false by rw [H1.out, decide_eq_false h4]; simp)
    have e4 : (0 : Int) < (nn : Int) := by omega
    go_enter Tryz.func108, Tryz.ntmps108
    go_wp2_with fail
    go_ret
    exact ⟨by rw [HO.out]; rfl, HB0.out⟩
  subst h4
  have hw : wordB ⟨#[]⟩ = true := by decide
  rw [hw] at W1
  by_cases h8 : li ≤ 16
  rotate_left
  · have HO := Lib.hid (show oneV (.mk 3 0 ⟨#[]⟩ items names) = false by rw [H1.out, decide_eq_false h8]; simp)
    go_enter Tryz.func108, Tryz.ntmps108
    go_wp2_with fail
    refine (W1.out _).mono ?_
    rintro e w9 ⟨rfl, rfl⟩
    go_wp2_with fail
    go_ret
    exact ⟨by rw [HO.out]; rfl, HB0.out⟩
  have HR := Lib.hid (show oneV (.mk 3 0 ⟨#[]⟩ items names) = risesL none names by rw [H1.out, decide_eq_true (show (⟨#[]⟩ : ByteArray).size = 0 from rfl), decide_eq_true h8, hw]; simp)
  clear hN H1
  have hnil : names = [] := List.length_eq_zero_iff.1 hnn
  subst hnil
  have HO := Lib.hid (show oneV (.mk 3 0 ⟨#[]⟩ items []) = true by rw [HR.out]; rfl)
  clear HR hz
  go_enter Tryz.func108, Tryz.ntmps108
  go_wp2_with fail
  refine (W1.out _).mono ?_
  rintro e w9 ⟨rfl, rfl⟩
  go_wp2_with fail
  generalize w.alloc (.cells #[.int .i64 3, .int .i64 0, .string ⟨#[]⟩, .slice ia li ic, .slice na 0 nc] 71) = W at HB0 HA0 ⊢
  try rw [show decide ((16 : Int) < (li : Int)) = false from decide_eq_false (by omega)]
  refine wp_loop_rounds 1 ?_
  rw [rounds_succ]
  go_wp2_with fail
  go_ret
  exact ⟨by rw [HO.out]; rfl, HB0.out⟩

set_option maxRecDepth 100000 in
set_option maxHeartbeats 4000000 in
theorem one_4 (n : Int) (s : ByteArray) (ia na : Option Addr) (li ic nn nc : Nat) (items : List Val) (names : List ByteArray) (w : World) (hnn : names.length = nn) (hli : items.length = li) (hN : StrsAt w (.slice na nn nc) names)
    (hz : ∀ x ∈ names, x.size ≤ maxLen) (hs : s.size ≤ maxLen) (hNl : nn ≤ maxLen) (hil : li ≤ maxLen) :
    Calls Tryz.prog 108 #[.agg #[.int .i64 4, .int .i64 n, .string s, .slice ia li ic, .slice na nn nc]] w fun e w' => e = .returned (.bool (oneV (.mk 4 n s items names))) ∧ Below w.heap.size w w' := by
  have H1 := Lib.hid (show oneV (.mk 4 n s items names) = (decide ((1 : Int) ≤ 4 ∧ (4 : Int) ≤ 4) && ((4 : Int) == 1 || n == 0) && ((4 : Int) == 2 || decide (s.size = 0)) && (decide ((3 : Int) ≤ 4) || decide (li = 0)) && ((4 : Int) == 4 || decide (nn = 0)) &&
    decide (0 ≤ n ∧ n ≤ 1099511627776) && wordB s && decide (li ≤ 16) && (!((4 : Int) == 4) || decide (nn = li)) && risesL none names) by rw [← hnn, ← hli]; rfl)
  have W1 := Lib.hid (fun w => word_any s w hs)
  have hb0 := below_new w (.cells #[.int .i64 4, .int .i64 n, .string s, .slice ia li ic, .slice na nn nc] 71)
  have hA0 := At5.new w (.int .i64 4) (.int .i64 n) (.string s) (.slice ia li ic) (.slice na nn nc)
  have HB0 := Lib.hid hb0
  have HA0 := Lib.hid hA0
  clear hb0 hA0
  unfold maxLen at hNl hil
  by_cases h1 : n = 0
  rotate_left
  · have HO := Lib.hid (show oneV (.mk 4 n s items names) = false by rw [H1.out, beq_eq_false_iff_ne.2 h1]; simp)
    have e1 : (n != 0) = true := bne_iff_ne.2 h1
    go_enter Tryz.func108, Tryz.ntmps108
    go_wp2_with fail
    go_ret
    exact ⟨by rw [HO.out]; rfl, HB0.out⟩
  subst h1
  by_cases h2 : s.size = 0
  rotate_left
  · have HO := Lib.hid (show oneV (.mk 4 0 s items names) = false by rw [H1.out, decide_eq_false h2]; simp)
    obtain ⟨e1, e2⟩ := not_empty s h2
    go_enter Tryz.func108, Tryz.ntmps108
    go_wp2_with fail
    go_ret
    exact ⟨by rw [HO.out]; rfl, HB0.out⟩
  obtain rfl := empty_of s h2
  clear h2
  have hw : wordB ⟨#[]⟩ = true := by decide
  rw [hw] at W1
  by_cases h8 : li ≤ 16
  rotate_left
  · have HO := Lib.hid (show oneV (.mk 4 0 ⟨#[]⟩ items names) = false by rw [H1.out, decide_eq_false h8]; simp)
    go_enter Tryz.func108, Tryz.ntmps108
    go_wp2_with fail
    refine (W1.out _).mono ?_
    rintro e w9 ⟨rfl, rfl⟩
    go_wp2_with fail
    go_ret
    exact ⟨by rw [HO.out]; rfl, HB0.out⟩
  by_cases h9 : nn = li
  rotate_left
  · have HO := Lib.hid (show oneV (.mk 4 0 ⟨#[]⟩ items names) = false by rw [H1.out, decide_eq_false h9]; simp)
    have e9 : ((nn : Int) != (li : Int)) = true := bne_iff_ne.2 (by omega)
    go_enter Tryz.func108, Tryz.ntmps108
    go_wp2_with fail
    refine (W1.out _).mono ?_
    rintro e w9 ⟨rfl, rfl⟩
    go_wp2_with fail
    go_ret
    exact ⟨by rw [HO.out]; rfl, HB0.out⟩
  subst h9
  have HR := Lib.hid (show oneV (.mk 4 0 ⟨#[]⟩ items names) = risesL none names by rw [H1.out, decide_eq_true (show (⟨#[]⟩ : ByteArray).size = 0 from rfl), decide_eq_true h8, hw]; simp)
  have HZ := Lib.hid hz
  clear hz H1
  rcases hN with ⟨hnil, -⟩ | ⟨pb, po, cap, hv, -, -, -, hcs⟩
  · subst hnil
    obtain rfl : nn = 0 := by simpa using hnn.symm
    have HO := Lib.hid (show oneV (.mk 4 0 ⟨#[]⟩ items []) = true by rw [HR.out]; rfl)
    clear HR HZ hnn
    go_enter Tryz.func108, Tryz.ntmps108
    go_wp2_with fail
    refine (W1.out _).mono ?_
    rintro e w9 ⟨rfl, rfl⟩
    go_wp2_with fail
    generalize w.alloc (.cells #[.int .i64 4, .int .i64 0, .string ⟨#[]⟩, .slice ia 0 ic, .slice na 0 nc] 71) = W at HB0 HA0 ⊢
    try rw [show decide ((16 : Int) < (0 : Int)) = false from decide_eq_false (by omega)]
    refine wp_loop_rounds 1 ?_
    rw [rounds_succ]
    go_wp2_with fail
    go_ret
    exact ⟨by rw [HO.out]; rfl, HB0.out⟩
  · simp only [Value.slice.injEq] at hv
    obtain ⟨rfl, -, rfl⟩ := hv
    have HCS := Lib.hid hcs
    clear hcs
    go_enter Tryz.func108, Tryz.ntmps108
    go_wp2_with fail
    refine (W1.out _).mono ?_
    rintro e w9 ⟨rfl, rfl⟩
    go_wp2_with fail
    generalize w.alloc (.cells #[.int .i64 4, .int .i64 0, .string ⟨#[]⟩, .slice ia nn ic, .slice (some ⟨pb, po, none⟩) nn nc] 71) = W at HB0 HA0 ⊢
    try rw [show decide ((16 : Int) < (nn : Int)) = false from decide_eq_false (by omega)]
    go_loopw [92] (fun iv wr => ∃ j : Nat, j ≤ nn ∧ iv = .int .i64 j ∧ risesL (prevAt names j) (names.drop j) = risesL none names ∧ Below W.heap.size W wr) (fun i _ => nn - (intOf i).toNat)
    case atStart => exact ⟨0, Nat.zero_le _, rfl, rfl, Below.refl _ _⟩
    case round =>
      obtain ⟨j, hj, rfl, hr, hb⟩ := hrel
      have HRJ := Lib.hid hr
      have HRW := Lib.hid hb
      have h5 := (HA0.out.keep hb).cells
      obtain ⟨a0, a1, a2, a3, a4⟩ := h5
      clear hr hb
      by_cases hlt : j < nn
      · have kc : ∀ {p : Addr} {v : Value}, w.cell? p = some v → wr.cell? p = some v := fun h => (Below.then HB0.out HRW.out).cell (World.block_lt_of_cell? _ _ h) |>.trans h
        have hc1 := kc (HCS.out j (by omega))
        have hxz := HZ.out (names[j]'(by omega)) (List.getElem_mem _)
        have hra := rises_at names j (by omega)
        rw [HRJ.out] at hra
        have hps := prev_succ names j (by omega)
        have hpc : j = 0 ∨ ∃ q, 0 < j ∧ q.size ≤ maxLen ∧ wr.cell? ⟨pb, po + (j - 1), none⟩ = some (.string q) ∧ prevAt names j = some q := by
          by_cases h0 : j = 0
          · exact Or.inl h0
          · refine Or.inr ⟨names[j - 1]'(by omega), by omega, HZ.out _ (List.getElem_mem _), kc (HCS.out (j - 1) (by omega)), ?_⟩
            unfold prevAt
            rw [if_neg h0, List.getElem?_eq_getElem (by omega)]
        obtain ⟨x, hx⟩ : ∃ x, names[j]'(by omega) = x := ⟨_, rfl⟩
        rw [hx] at hc1 hxz hra hps
        have X1 := Lib.hid (fun w => word_any x w hxz)
        obtain ⟨b, hbb⟩ : ∃ b, wordB x = b := ⟨_, rfl⟩
        rw [hbb] at X1 hra
        clear kc hx hbb
        cases b with
        | false =>
          have HO := Lib.hid (show oneV (.mk 4 0 ⟨#[]⟩ items names) = false by rw [HR.out, hra]; rfl)
          clear hra hps hpc
          go_wp2_with fail
          refine (X1.out _).mono ?_
          rintro e w9 ⟨rfl, rfl⟩
          go_wp2_with fail
          go_ret
          exact ⟨by rw [HO.out]; rfl, Below.then HB0.out HRW.out⟩
        | true =>
          rcases hpc with rfl | ⟨q, hj0, hqz, hcq, hpv⟩
          · have HN1 := Lib.hid (show risesL (prevAt names 1) (names.drop 1) = risesL none names by rw [hps, hra]; rfl)
            clear hra hps
            have hc0 : wr.cell? ⟨pb, po, none⟩ = some (.string x) := hc1
            go_wp2_with fail
            refine (X1.out _).mono ?_
            rintro e w9 ⟨rfl, rfl⟩
            go_wp2_with fail
            go_roundw
            case rel => exact ⟨1, by omega, by go_num, HN1.out, HRW.out⟩
            case measure => simp [intOf]; omega
          · rw [hpv] at hra
            simp only [Bool.true_and] at hra
            have X2 := Lib.hid (fun w => less_any q x w hqz)
            obtain ⟨r, hr⟩ : ∃ r, lessB q x = r := ⟨_, rfl⟩
            rw [hr] at X2 hra
            have hcq2 : wr.cell? ⟨pb, po + (((j : Int) - 1)).toNat, none⟩ = some (.string q) := by rw [show ((j : Int) - 1).toNat = j - 1 by omega]; exact hcq
            have HJ := Lib.hid (show ((j : Int) - 1) = ((j - 1 : Nat) : Int) by omega)
            cases r with
            | false =>
              have HO := Lib.hid (show oneV (.mk 4 0 ⟨#[]⟩ items names) = false by rw [HR.out, hra]; rfl)
              clear hra hps hpv hr
              go_wp2_with fail
              refine (X1.out _).mono ?_
              rintro e w9 ⟨rfl, rfl⟩
              go_wp2_with fail
              refine (X2.out _).mono ?_
              rintro e w10 ⟨rfl, hb10⟩
              have HB10 := Lib.hid (Below.then (Below.then HB0.out HRW.out) hb10)
              clear hb10
              go_wp2_with fail
              go_ret
              exact ⟨by rw [HO.out]; rfl, HB10.out⟩
            | true =>
              have HN1 := Lib.hid (show risesL (prevAt names (j + 1)) (names.drop (j + 1)) = risesL none names by rw [hps, hra]; rfl)
              clear hra hps hpv hr
              go_wp2_with fail
              refine (X1.out _).mono ?_
              rintro e w9 ⟨rfl, rfl⟩
              go_wp2_with fail
              refine (X2.out _).mono ?_
              rintro e w10 ⟨rfl, hb10⟩
              have HB10 := Lib.hid (Below.then HRW.out hb10)
              clear hb10
              go_wp2_with fail
              go_roundw
              case rel => exact ⟨j + 1, by omega, by go_num, HN1.out, HB10.out⟩
              case measure => simp [intOf]; omega
      · have HO := Lib.hid (show oneV (.mk 4 0 ⟨#[]⟩ items names) = true by
          rw [HR.out, ← HRJ.out, List.drop_eq_nil_of_le (by omega)]
          cases prevAt names j <;> rfl)
        go_wp2_with fail
        go_ret
        exact ⟨by rw [HO.out]; rfl, Below.then HB0.out HRW.out⟩

set_option maxRecDepth 100000 in
theorem one_out (k n : Int) (s : ByteArray) (ia na : Option Addr) (li ic nn nc : Nat) (items : List Val) (names : List ByteArray) (w : World) (hk : k < 1 ∨ 4 < k) :
    Calls Tryz.prog 108 #[.agg #[.int .i64 k, .int .i64 n, .string s, .slice ia li ic, .slice na nn nc]] w fun e w' => e = .returned (.bool (oneV (.mk k n s items names))) ∧ Below w.heap.size w w' := by
  have HO := Lib.hid (show oneV (.mk k n s items names) = false by
    have h : decide ((1 : Int) ≤ k ∧ k ≤ 4) = false := decide_eq_false (by omega)
    show (decide ((1 : Int) ≤ k ∧ k ≤ 4) && _ && _ && _ && _ && _ && _ && _ && _ && _) = false
    rw [h]; rfl)
  have HB0 := Lib.hid (below_new w (.cells #[.int .i64 k, .int .i64 n, .string s, .slice ia li ic, .slice na nn nc] 71))
  by_cases h1 : k < 1
  · clear hk
    go_enter Tryz.func108, Tryz.ntmps108
    go_wp2_with fail
    go_ret
    exact ⟨by rw [HO.out]; rfl, HB0.out⟩
  · have h2 : 4 < k := by omega
    clear hk
    go_enter Tryz.func108, Tryz.ntmps108
    go_wp2_with fail
    go_ret
    exact ⟨by rw [HO.out]; rfl, HB0.out⟩

theorem one_any (T : Val) (v : Value) (w : World) (hv : IsVal w v T) :
    Calls Tryz.prog 108 #[v] w fun e w' => e = .returned (.bool (oneV T)) ∧ Below w.heap.size w w' := by
  cases hv with
  | mk k n s iv nv items names ev hk hn hs hN hz hI hsub =>
  have hNl := hN.len
  obtain ⟨na, nc, rfl, hnc⟩ := hN.shape
  obtain ⟨ia, ic, rfl, hic, hil⟩ := hI.shape
  by_cases h1 : k < 1 ∨ 4 < k
  · exact one_out k n s ia na _ ic _ nc items names w h1
  · have h2 : k = 1 ∨ k = 2 ∨ k = 3 ∨ k = 4 := by omega
    rcases h2 with rfl | rfl | rfl | rfl
    · exact one_1 n s ia na _ ic _ nc items names w rfl rfl hN hz hs hNl hil
    · exact one_2 n s ia na _ ic _ nc items names w rfl rfl hN hz hs hNl hil
    · exact one_3 n s ia na _ ic _ nc items names w rfl rfl hN hz hs hNl hil
    · exact one_4 n s ia na _ ic _ nc items names w rfl rfl hN hz hs hNl hil
end Go.Proofs.YtepcaglekgeamaaGreatDoor
namespace Go.Proofs.YtepcaglekgeamaaGreatDoor
open Go.RowKit

theorem all_drop (f : Val → Bool) (l : List Val) (j : Nat) (h : j < l.length) : (l.drop j).all f = (f l[j] && (l.drop (j + 1)).all f) := by
  rw [List.drop_eq_getElem_cons h, List.all_cons]

theorem IsVal.shape {w : World} {v : Value} {T : Val} (h : IsVal w v T) : ∃ (k n : Int) (s : ByteArray) (ia na : Option Addr) (li ic nn nc : Nat), v = .agg #[.int .i64 k, .int .i64 n, .string s, .slice ia li ic, .slice na nn nc] := by
  cases h with
  | mk kd n s iv nv items names ev hk1 hn hs hN hz hI hsub =>
  obtain ⟨na, nc, rfl, hnc⟩ := hN.shape
  obtain ⟨ia, ic, rfl, hic, hil⟩ := hI.shape
  exact ⟨_, _, _, _, _, _, _, _, _, rfl⟩

set_option maxRecDepth 100000 in
set_option maxHeartbeats 4000000 in
theorem may_go : ∀ (d : Nat), d ≤ 100 → ∀ (k : Int), k = d → ∀ (T : Val) (v : Value) (w : World), IsVal w v T →
    Calls Tryz.prog 81 #[v, .int .i64 k] w fun e w' => e = .returned (.bool (mayV d T)) ∧ Below w.heap.size w w' := by
  intro d
  induction d with
  | zero =>
    intro _ k hk T v w hv
    cases hv with
    | mk kd n s iv nv items names ev hk1 hn hs hN hz hI hsub =>
    obtain ⟨na, nc, rfl, hnc⟩ := hN.shape
    obtain ⟨ia, ic, rfl, hic, hil⟩ := hI.shape
    obtain ⟨nn, hnn⟩ : ∃ x, names.length = x := ⟨_, rfl⟩
    obtain ⟨li, hli⟩ : ∃ x, items.length = x := ⟨_, rfl⟩
    rw [hnn, hli]
    obtain rfl : k = 0 := by simpa using hk
    have HB0 := Lib.hid (below_new w (.cells #[.int .i64 kd, .int .i64 n, .string s, .slice ia li ic, .slice na nn nc] 71))
    clear hk1 hn hs hN hz hI hsub hnc hic hil hk
    go_enter Tryz.func81, Tryz.ntmps81
    go_wp2_with fail
    go_ret
    exact ⟨rfl, HB0.out⟩
  | succ d ih =>
    intro hd k hk T v w hv
    have hone := fun w' hb => one_any T v w' (hv.keep (w' := w') hb)
    cases hv with
    | mk kd n s iv nv items names ev hk1 hn hs hN hz hI hsub =>
    obtain ⟨na, nc, rfl, hnc⟩ := hN.shape
    obtain ⟨ia, ic, rfl, hic, hil⟩ := hI.shape
    obtain ⟨nn, hnn⟩ : ∃ x, names.length = x := ⟨_, rfl⟩
    obtain ⟨li, hli⟩ : ∃ x, items.length = x := ⟨_, rfl⟩
    rw [hnn, hli] at hone ⊢
    rw [hli] at hI hil
    have hM : mayV (d + 1) (.mk kd n s items names) = (oneV (.mk kd n s items names) && items.all (mayV d)) := by rw [mayV]; rfl
    have hk0 : (k == 0) = false := beq_eq_false_iff_ne.2 (by omega)
    have hkl : 0 < k := by omega
    have hku : k ≤ 101 := by omega
    have IH := Lib.hid (fun T v w h => ih (by omega) (k - 1) (by omega) T v w h)
    have HB0 := Lib.hid (below_new w (.cells #[.int .i64 kd, .int .i64 n, .string s, .slice ia li ic, .slice na nn nc] 71))
    have hA := At5.new w (.int .i64 kd) (.int .i64 n) (.string s) (.slice ia li ic) (.slice na nn nc)
    have h1 := hone _ HB0.out
    obtain ⟨r, hr⟩ : ∃ r, oneV (.mk kd n s items names) = r := ⟨_, rfl⟩
    rw [hr] at h1 hM
    have C1 := Lib.hid h1
    have HM := Lib.hid hM
    have HI := Lib.hid hI
    have HS := Lib.hid hsub
    have HA := Lib.hid hA
    unfold maxLen at hil
    clear hk1 hn hs hN hz hI hsub hnc hic ih hk hone h1 hr hM hA hd
    go_enter Tryz.func81, Tryz.ntmps81
    go_wp2_with fail
    refine C1.out.mono ?_
    rintro e w1 ⟨rfl, hb1⟩
    have HB1 := Lib.hid (Below.then HB0.out hb1)
    have HA1 := Lib.hid (HA.out.keep hb1)
    clear hb1
    cases r with
    | false =>
      go_wp2_with fail
      go_ret
      exact ⟨by rw [HM.out]; rfl, HB1.out⟩
    | true =>
      obtain ⟨a0, a1, a2, a3, a4⟩ := HA1.out.cells
      rcases HI.out with ⟨h0, -⟩ | ⟨pb, po, cap, he, -, -, -, hcs⟩
      · have hit : items = [] := List.length_eq_zero_iff.1 (hli.trans h0)
        subst h0
        have HO := Lib.hid (show mayV (d + 1) (.mk kd n s items names) = true by rw [HM.out, hit]; rfl)
        clear hit hli
        go_wp2_with fail
        refine wp_loop_rounds 1 ?_
        rw [rounds_succ]
        go_wp2_with fail
        go_ret
        exact ⟨by rw [HO.out]; rfl, HB1.out⟩
      · simp only [Value.slice.injEq] at he
        obtain ⟨rfl, -, rfl⟩ := he
        have HCS := Lib.hid hcs
        clear hcs
        go_wp2_with fail
        go_loopw [17] (fun iv wr => ∃ j : Nat, j ≤ li ∧ iv = .int .i64 j ∧ (items.drop j).all (mayV d) = items.all (mayV d) ∧ Below w.heap.size w wr) (fun i _ => li - (intOf i).toNat)
        case atStart => exact ⟨0, Nat.zero_le _, rfl, rfl, HB1.out⟩
        case round =>
          obtain ⟨j, hj, rfl, hr, hb⟩ := hrel
          have HRJ := Lib.hid hr
          have HRW := Lib.hid hb
          clear hr hb
          by_cases hlt : j < li
          · obtain ⟨c0, c1, c2, c3, c4, hev, e0, e1, e2, e3, e4⟩ := HCS.out j hlt
            have kc : ∀ {p : Addr} {v : Value}, w.cell? p = some v → wr.cell? p = some v := fun h => HRW.out.cell (World.block_lt_of_cell? _ _ h) |>.trans h
            have v0 := kc e0
            have v1 := kc e1
            have v2 := kc e2
            have v3 := kc e3
            have v4 := kc e4
            have hs1 := HS.out j (by omega)
            rw [hev] at hs1
            obtain ⟨xk, xn, xs, xia, xna, xli, xic, xnn, xnc, hsh⟩ := hs1.shape
            simp only [Value.agg.injEq, Array.mk.injEq, List.cons.injEq, and_true] at hsh
            obtain ⟨rfl, rfl, rfl, rfl, rfl⟩ := hsh
            have HB2 := Lib.hid (Below.then HRW.out (below_new wr (.cells #[.int .i64 xk, .int .i64 xn, .string xs, .slice xia xli xic, .slice xna xnn xnc] 71)))
            have C := Lib.hid (IH.out (items[j]'(by omega)) _ (wr.alloc (.cells #[.int .i64 xk, .int .i64 xn, .string xs, .slice xia xli xic, .slice xna xnn xnc] 71)) (hs1.keep HB2.out))
            have hd := all_drop (mayV d) items j (by omega)
            rw [HRJ.out] at hd
            obtain ⟨r, hr⟩ : ∃ r, mayV d (items[j]'(by omega)) = r := ⟨_, rfl⟩
            rw [hr] at C hd
            have HD := Lib.hid hd
            clear kc e0 e1 e2 e3 e4 hev hs1 hd hr
            go_wp2_with fail
            refine C.out.mono ?_
            rintro e w2 ⟨rfl, hbc⟩
            have HR3 := Lib.hid (Below.then HB2.out hbc)
            clear hbc
            cases r with
            | true =>
              have HN1 := Lib.hid (show (items.drop (j + 1)).all (mayV d) = items.all (mayV d) by rw [HD.out]; rfl)
              go_wp2_with fail
              go_roundw
              case rel => exact ⟨j + 1, by omega, by go_num, HN1.out, HR3.out⟩
              case measure => simp [intOf]; omega
            | false =>
              have HO := Lib.hid (show mayV (d + 1) (.mk kd n s items names) = false by rw [HM.out, HD.out]; rfl)
              go_wp2_with fail
              go_ret
              exact ⟨by rw [HO.out]; rfl, HR3.out⟩
          · have HO := Lib.hid (show mayV (d + 1) (.mk kd n s items names) = true by
              rw [HM.out, ← HRJ.out, List.drop_eq_nil_of_le (by omega)]; rfl)
            go_wp2_with fail
            go_ret
            exact ⟨by rw [HO.out]; rfl, HRW.out⟩

theorem right_any (T : Val) (v : Value) (w : World) (hv : IsVal w v T) :
    Calls Tryz.prog 53 #[v] w fun e w' => e = .returned (.bool (mayV 6 T)) ∧ Below w.heap.size w w' := by
  obtain ⟨xk, xn, xs, xia, xna, xli, xic, xnn, xnc, rfl⟩ := hv.shape
  have HB0 := Lib.hid (below_new w (.cells #[.int .i64 xk, .int .i64 xn, .string xs, .slice xia xli xic, .slice xna xnn xnc] 71))
  have H1 := Lib.hid (may_go 6 (by decide) 6 rfl T _ _ (hv.keep HB0.out))
  clear hv
  go_enter Tryz.func53, Tryz.ntmps53
  go_wp2_with fail
  refine H1.out.mono ?_
  rintro e w1 ⟨rfl, hb⟩
  have HB := Lib.hid (Below.then HB0.out hb)
  clear hb
  go_wp2_with fail
  go_ret
  exact ⟨rfl, HB.out⟩
end Go.Proofs.YtepcaglekgeamaaGreatDoor
