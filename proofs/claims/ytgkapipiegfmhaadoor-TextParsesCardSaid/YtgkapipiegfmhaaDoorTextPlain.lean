/-
  The text of a value as a plain function, and how long it may be. Conditions: none.
-/
import Derived.Test.YtgkapipiegfmhaaDoorValPlain
import Derived.Lib.ItoaLen
import Derived.Lib.Strings
namespace Go.Proofs.YtgkapipiegfmhaaDoor

mutual
/-- The text of a value. -/
def textL : Val → List UInt8
  | .mk k n s l ns => if k = 1 then Lib.itoa n else if k = 2 then 34 :: s.data.toList ++ [34] else if k = 4 then 123 :: bodyL true true l ns ++ [125] else 91 :: bodyL false true l ns ++ [93]
/-- The items, parted by commas; with their names, where there are names. -/
def bodyL (four first : Bool) : List Val → List ByteArray → List UInt8
  | [], _ => []
  | x :: l, ns => (if first then [] else [44]) ++ (if four then 34 :: (ns.headD ⟨#[]⟩).data.toList ++ [34, 58] else []) ++ textL x ++ bodyL four false l ns.tail
end
theorem textL_eq (k n : Int) (s : ByteArray) (l : List Val) (ns : List ByteArray) : textL (.mk k n s l ns) = if k = 1 then Lib.itoa n else if k = 2 then 34 :: s.data.toList ++ [34] else if k = 4 then 123 :: bodyL true true l ns ++ [125] else 91 :: bodyL false true l ns ++ [93] := by rw [textL]
theorem bodyL_drop (four first : Bool) (l : List Val) (ns : List ByteArray) (j : Nat) (h : j < l.length) : bodyL four first (l.drop j) (ns.drop j) = (if first then [] else [44]) ++ (if four then 34 :: (ns[j]?.getD ⟨#[]⟩).data.toList ++ [34, 58] else []) ++ textL l[j] ++ bodyL four false (l.drop (j + 1)) (ns.drop (j + 1)) := by
  have e1 : (ns.drop j).headD ⟨#[]⟩ = ns[j]?.getD ⟨#[]⟩ := by
    rw [List.headD_eq_head?_getD, List.head?_drop]
  rw [List.drop_eq_getElem_cons h, bodyL, e1, List.tail_drop]

theorem wordB_size (s : ByteArray) (h : wordB s = true) : s.size ≤ 200 := by
  unfold wordB at h
  rw [Bool.and_eq_true, decide_eq_true_eq] at h
  exact h.2
theorem risesL_words : ∀ (p : Option ByteArray) (l : List ByteArray), risesL p l = true → ∀ s ∈ l, wordB s = true
  | _, [], _, s, hs => by simp at hs
  | none, a :: l, h, s, hs => by
    rw [risesL, Bool.and_eq_true] at h
    rcases List.mem_cons.1 hs with rfl | hs
    · exact h.1
    · exact risesL_words _ l h.2 s hs
  | some p, a :: l, h, s, hs => by
    rw [risesL, Bool.and_eq_true, Bool.and_eq_true] at h
    rcases List.mem_cons.1 hs with rfl | hs
    · exact h.1.1
    · exact risesL_words _ l h.2 s hs

/-- What a value that may be keeps. -/
structure OneV (k n : Int) (s : ByteArray) (l : List Val) (ns : List ByteArray) : Prop where
  kind : 1 ≤ k ∧ k ≤ 4
  num : k = 1 ∨ n = 0
  word : k = 2 ∨ s.size = 0
  items : 3 ≤ k ∨ l.length = 0
  names : k = 4 ∨ ns.length = 0
  most : 0 ≤ n ∧ n ≤ 1099511627776
  isWord : wordB s = true
  few : l.length ≤ 16
  same : k = 4 → ns.length = l.length
  rises : risesL none ns = true
theorem oneV_iff (k n : Int) (s : ByteArray) (l : List Val) (ns : List ByteArray) : oneV (.mk k n s l ns) = true ↔ OneV k n s l ns := by
  have e0 : oneV (.mk k n s l ns) = (decide ((1 : Int) ≤ k ∧ k ≤ 4) && (k == 1 || n == 0) && (k == 2 || decide (s.size = 0)) && (decide ((3 : Int) ≤ k) || decide (l.length = 0)) && (k == 4 || decide (ns.length = 0)) &&
    decide (0 ≤ n ∧ n ≤ 1099511627776) && wordB s && decide (l.length ≤ 16) && (!(k == 4) || decide (ns.length = l.length)) && risesL none ns) := rfl
  rw [e0]
  simp only [Bool.and_eq_true, Bool.or_eq_true, decide_eq_true_eq, beq_iff_eq, Bool.not_eq_true', beq_eq_false_iff_ne]
  constructor
  · rintro ⟨⟨⟨⟨⟨⟨⟨⟨⟨h1, h2⟩, h3⟩, h4⟩, h5⟩, h6⟩, h7⟩, h8⟩, h9⟩, h10⟩
    exact ⟨h1, h2, h3, h4, h5, h6, h7, h8, fun e => h9.resolve_left (fun h => h e), h10⟩
  · rintro ⟨h1, h2, h3, h4, h5, h6, h7, h8, h9, h10⟩
    refine ⟨⟨⟨⟨⟨⟨⟨⟨⟨h1, h2⟩, h3⟩, h4⟩, h5⟩, h6⟩, h7⟩, h8⟩, ?_⟩, h10⟩
    by_cases e : k = 4
    · exact Or.inr (h9 e)
    · exact Or.inl e

theorem bodyL_le (B : Nat) : ∀ (four first : Bool) (l : List Val) (ns : List ByteArray), (∀ x ∈ l, (textL x).length ≤ B) → (∀ s ∈ ns, s.size ≤ 200) → (bodyL four first l ns).length ≤ l.length * (B + 204)
  | _, _, [], ns, _, _ => by rw [bodyL]; simp
  | four, first, x :: l, ns, hl, hn => by
    have h1 := hl x (List.mem_cons_self ..)
    have h2 := bodyL_le B four false l ns.tail (fun y hy => hl y (List.mem_cons_of_mem _ hy)) (fun s hs => hn s (List.mem_of_mem_tail hs))
    have h3 : (ns.headD ⟨#[]⟩).data.toList.length ≤ 200 := by
      cases ns with
      | nil => show ([] : List UInt8).length ≤ 200; simp
      | cons a ns => exact Nat.le_trans (Nat.le_of_eq (Lib.size_eq a).symm) (hn a (List.mem_cons_self ..))
    rw [bodyL, List.length_append, List.length_append, List.length_append, List.length_cons, Nat.add_mul]
    have h4 : (if first = true then ([] : List UInt8) else [44]).length ≤ 1 := by cases first <;> simp
    have h5 : (if four = true then 34 :: (ns.headD ⟨#[]⟩).data.toList ++ [34, 58] else []).length ≤ 203 := by
      cases four with
      | false => exact Nat.zero_le _
      | true => rw [if_pos rfl]; simp only [List.cons_append, List.length_cons, List.length_append, List.length_nil]; omega
    omega
/-- How long the text of a value may be that is so deep at most. -/
theorem textL_le : ∀ (d : Nat) (T : Val), mayV d T = true → (textL T).length ≤ 4000 * 17 ^ d
  | 0, T, h => by rw [mayV] at h; cases h
  | d + 1, .mk k n s l ns, h => by
    rw [mayV, Bool.and_eq_true, oneV_iff] at h
    obtain ⟨h1, h2⟩ := h
    have h2 : ∀ x ∈ l, mayV d x = true := List.all_eq_true.1 h2
    have hp : 0 < 17 ^ d := Nat.pos_of_ne_zero (by simp)
    have hw := wordB_size s h1.isWord
    have hb := fun four => bodyL_le (4000 * 17 ^ d) four true l ns (fun x hx => textL_le d x (h2 x hx)) (fun x hx => wordB_size x (risesL_words _ _ h1.rises x hx))
    have hm : l.length * (4000 * 17 ^ d + 204) ≤ 16 * (4000 * 17 ^ d + 204) := Nat.mul_le_mul_right _ h1.few
    have hs : s.data.toList.length = s.size := (Lib.size_eq s).symm
    have hi := Lib.itoa_length_le n (by have := h1.most.1; omega) (by have := h1.most.2; omega)
    rw [textL_eq, Nat.pow_succ]
    have h4 := hb true
    have h5 := hb false
    split
    · omega
    · split
      · simp only [List.cons_append, List.length_cons, List.length_append, List.length_nil]; omega
      · split <;> (simp only [List.cons_append, List.length_cons, List.length_append, List.length_nil]; omega)
end Go.Proofs.YtgkapipiegfmhaaDoor
