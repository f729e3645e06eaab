/-
  Patterns as plain functions on rows of bytes: which may be, how one is taken apart, which texts are ones of it, and the places behind pieces. Conditions: none. It names nothing of the translation.
-/
import Derived.RowKit
import Derived.Lib.SplitLaws
import Derived.Lib.IndexAny
import Derived.Lib.IndexMore
namespace Go.Proofs.YtjohjmoggldfcaaDoor

def seenC (c : UInt8) : Bool := decide (33 ≤ c.toNat ∧ c.toNat ≤ 126)
def seenL (l : List UInt8) : Bool := l.all seenC
/-- Braces, one byte on: 0 outside, 1 within, 2 wrong. -/
def braceN (p : Nat) (c : UInt8) : Nat := if p = 2 then 2 else if c = 123 then (if p = 0 then 1 else 2) else if c = 125 then (if p = 1 then 0 else 2) else p
theorem braceN_two : ∀ l : List UInt8, l.foldl braceN 2 = 2
  | [] => rfl
  | c :: l => by rw [List.foldl_cons]; exact braceN_two l
def bracesL (l : List UInt8) : Bool := l.foldl braceN 0 == 0
def rightL (l : List UInt8) : Bool := !l.isEmpty && decide (l.length ≤ 128) && seenL l && bracesL l

/-- A text's pieces between bytes of one kind; 'now' is what the piece has. -/
def goC (b : UInt8) : List UInt8 → List UInt8 → List (List UInt8)
  | now, [] => [now]
  | now, c :: l => if c = b then now :: goC b [] l else goC b (now ++ [c]) l
theorem goC_ne (b : UInt8) : ∀ (l now : List UInt8), goC b now l ≠ []
  | [], _ => by simp [goC]
  | c :: l, now => by unfold goC; split <;> simp [goC_ne b l]
theorem index_ne (b c : UInt8) (l : List UInt8) (h : b ≠ c) : Lib.index (b :: l) [c] = if Lib.index l [c] == -1 then -1 else Lib.index l [c] + 1 := by
  have hp : ([c] : List UInt8).isPrefixOf (b :: l) = false := by simp [List.isPrefixOf, Ne.symm h]
  rw [Lib.index, hp]; simp
theorem index_eq (c : UInt8) (l : List UInt8) : Lib.index (c :: l) [c] = 0 := by rw [Lib.index]; simp [List.isPrefixOf]
theorem splitK_ne (b c : UInt8) (h : b ≠ c) : ∀ (k : Nat) (l x : List UInt8) (t : List (List UInt8)), Lib.splitK [c] 0 k l = x :: t → Lib.splitK [c] 0 k (b :: l) = (b :: x) :: t
  | 0, l, x, t, e => by
    simp only [Lib.splitK, List.cons.injEq] at e ⊢
    exact ⟨by simp [e.1], e.2⟩
  | k + 1, l, x, t, e => by
    have hge := Lib.index_ge l [c]
    by_cases hm : Lib.index l [c] = -1
    · unfold Lib.splitK at e ⊢
      rw [index_ne b c l h]
      simp only [hm, beq_self_eq_true, if_true, List.cons.injEq] at e ⊢
      exact ⟨by simp [e.1], e.2⟩
    · have hb : (Lib.index l [c] == -1) = false := beq_eq_false_iff_ne.2 hm
      have hb2 : (Lib.index l [c] + 1 == -1) = false := beq_eq_false_iff_ne.2 (by omega)
      unfold Lib.splitK at e ⊢
      rw [index_ne b c l h]
      obtain ⟨i, hi⟩ : ∃ i : Nat, Lib.index l [c] = i := ⟨(Lib.index l [c]).toNat, by omega⟩
      rw [hi] at hb hb2 e ⊢
      have e1 : ((i : Int) + 1).toNat = i + 1 := by omega
      have e2 : ((i : Int)).toNat = i := by omega
      simp only [hb, hb2, if_false, Bool.false_eq_true, e1, e2, Nat.add_zero, List.cons.injEq] at e ⊢
      refine ⟨by rw [← e.1]; rfl, ?_⟩
      rw [← e.2]
      congr 1
theorem goC_now (b : UInt8) : ∀ (l now x : List UInt8) (t : List (List UInt8)), goC b [] l = x :: t → goC b now l = (now ++ x) :: t
  | [], now, x, t, e => by
    simp only [goC, List.cons.injEq] at e ⊢
    exact ⟨by rw [← e.1]; simp, e.2⟩
  | c :: l, now, x, t, e => by
    by_cases hc : c = b
    · simp only [goC, if_pos hc, List.cons.injEq] at e ⊢
      exact ⟨by rw [← e.1]; simp, e.2⟩
    · simp only [goC, if_neg hc, List.nil_append] at e ⊢
      obtain ⟨y, u, hy⟩ : ∃ y u, goC b [] l = y :: u := List.exists_cons_of_ne_nil (goC_ne b l [])
      rw [goC_now b l _ y u hy] at e ⊢
      simp only [List.cons.injEq] at e ⊢
      exact ⟨by rw [← e.1]; simp, e.2⟩
theorem split_goC (c : UInt8) : ∀ l : List UInt8, Lib.splitK [c] 0 (l.count c) l = goC c [] l
  | [] => rfl
  | b :: l => by
    by_cases h : b = c
    · subst h
      have e := index_eq b l
      rw [List.count_cons_self]
      simp only [Lib.splitK, goC, if_true, e]
      simp only [show ((0 : Int) == -1) = false by decide, Bool.false_eq_true, if_false, Int.toNat_zero, Nat.add_zero, List.take_zero, List.length_singleton, Nat.zero_add]
      rw [List.drop_one, List.tail_cons, split_goC b l]
    · rw [List.count_cons_of_ne (by simpa using h)]
      obtain ⟨y, u, hy⟩ : ∃ y u, goC c [] l = y :: u := List.exists_cons_of_ne_nil (goC_ne c l [])
      rw [splitK_ne b c h _ l y u (by rw [split_goC c l]; exact hy)]
      simp only [goC, if_neg h, List.nil_append]
      rw [goC_now c l [b] y u hy]; rfl

/-- A pattern's pieces. -/
inductive Pc where
  | deep | flat | one
  | words (l : List ByteArray)
  | plain (t : ByteArray)
def Pc.has : Pc → List UInt8 → Bool
  | .deep, _ => true
  | .flat, a => !a.contains 47
  | .one, a => a.length == 1 && !a.contains 47
  | .words l, a => l.any fun y => y.data.toList == a
  | .plain t, a => t.data.toList == a
def fitsB : List Pc → List UInt8 → Bool
  | [], s => s.isEmpty
  | x :: xs, s => (List.range (s.length + 1)).any fun i => x.has (s.take i) && fitsB xs (s.drop i)
theorem fitsB_cons (x : Pc) (xs : List Pc) (s : List UInt8) : fitsB (x :: xs) s = true ↔ ∃ a b, s = a ++ b ∧ x.has a = true ∧ fitsB xs b = true := by
  rw [fitsB, List.any_eq_true]
  constructor
  · rintro ⟨i, _, h⟩
    rw [Bool.and_eq_true] at h
    exact ⟨s.take i, s.drop i, (List.take_append_drop i s).symm, h.1, h.2⟩
  · rintro ⟨a, b, rfl, h1, h2⟩
    refine ⟨a.length, by rw [List.mem_range, List.length_append]; omega, ?_⟩
    rw [List.take_left, List.drop_left, h1, h2]; rfl
theorem fitsB_nil (s : List UInt8) : fitsB [] s = true ↔ s = [] := by unfold fitsB; exact List.isEmpty_iff
theorem fitsB_one (x : Pc) (s : List UInt8) : fitsB [x] s = true ↔ x.has s = true := by
  rw [fitsB_cons]
  constructor
  · rintro ⟨a, b, rfl, h1, h2⟩
    rw [fitsB_nil] at h2; subst h2; rwa [List.append_nil]
  · intro h
    exact ⟨s, [], by simp, h, rfl⟩
theorem fitsB_append : ∀ (xs ys : List Pc) (s : List UInt8), fitsB (xs ++ ys) s = true ↔ ∃ a b, s = a ++ b ∧ fitsB xs a = true ∧ fitsB ys b = true
  | [], ys, s => by
    constructor
    · intro h; exact ⟨[], s, rfl, rfl, h⟩
    · rintro ⟨a, b, rfl, h1, h2⟩
      rw [fitsB_nil] at h1; subst h1; exact h2
  | x :: xs, ys, s => by
    rw [List.cons_append, fitsB_cons]
    constructor
    · rintro ⟨a, b, rfl, h1, h2⟩
      obtain ⟨c, d, rfl, h3, h4⟩ := (fitsB_append xs ys b).1 h2
      exact ⟨a ++ c, d, by simp, (fitsB_cons x xs _).2 ⟨a, c, rfl, h1, h3⟩, h4⟩
    · rintro ⟨a, b, rfl, h1, h2⟩
      obtain ⟨c, d, rfl, h3, h4⟩ := (fitsB_cons x xs a).1 h1
      exact ⟨c, d ++ b, by simp, h3, (fitsB_append xs ys _).2 ⟨d, b, rfl, h4, h2⟩⟩

/-! ### How a pattern is taken apart -/
def noMark (c : UInt8) : Bool := c != 42 && c != 63 && c != 123
/-- The piece that a pattern begins with, and the pattern behind it. -/
def firstF (p : List UInt8) : Pc × List UInt8 :=
  if p.head? = some 42 then (if p.tail.head? = some 42 then (.deep, p.drop 2) else (.flat, p.drop 1))
  else if p.head? = some 63 then (.one, p.drop 1)
  else if p.head? = some 123 then (.words ((goC 44 [] ((p.drop 1).takeWhile (· != 125))).map fun l => ⟨l.toArray⟩), ((p.drop 1).dropWhile (· != 125)).drop 1)
  else (.plain ⟨(p.takeWhile noMark).toArray⟩, p.dropWhile noMark)
theorem firstF_deep (r : List UInt8) : firstF (42 :: 42 :: r) = (.deep, r) := by simp [firstF]
theorem firstF_flat (r : List UInt8) (h : r.head? ≠ some 42) : firstF (42 :: r) = (.flat, r) := by simp [firstF, h]
theorem firstF_one (r : List UInt8) : firstF (63 :: r) = (.one, r) := by simp [firstF]
theorem firstF_words (r : List UInt8) : firstF (123 :: r) = (.words ((goC 44 [] (r.takeWhile (· != 125))).map fun l => ⟨l.toArray⟩), (r.dropWhile (· != 125)).drop 1) := by simp [firstF]
theorem firstF_plain (p : List UInt8) (h : ∀ c, p.head? = some c → noMark c = true) : firstF p = (.plain ⟨(p.takeWhile noMark).toArray⟩, p.dropWhile noMark) := by
  have h1 : p.head? ≠ some 42 := fun e => by simpa [noMark] using h 42 e
  have h2 : p.head? ≠ some 63 := fun e => by simpa [noMark] using h 63 e
  have h3 : p.head? ≠ some 123 := fun e => by simpa [noMark] using h 123 e
  simp [firstF, h1, h2, h3]
theorem noMark_cases (c : UInt8) : c = 42 ∨ c = 63 ∨ c = 123 ∨ noMark c = true := by
  by_cases h1 : c = 42
  · exact Or.inl h1
  by_cases h2 : c = 63
  · exact Or.inr (Or.inl h2)
  by_cases h3 : c = 123
  · exact Or.inr (Or.inr (Or.inl h3))
  exact Or.inr (Or.inr (Or.inr (by simp [noMark, h1, h2, h3])))
theorem dropWhile_len {α : Type} (f : α → Bool) (l : List α) : (l.dropWhile f).length ≤ l.length := (List.dropWhile_suffix f).length_le
theorem firstF_lt : ∀ p : List UInt8, p ≠ [] → (firstF p).2.length < p.length
  | [], h => absurd rfl h
  | c :: r, _ => by
    rcases noMark_cases c with rfl | rfl | rfl | h
    · by_cases h : r.head? = some 42
      · cases r with
        | nil => simp at h
        | cons d r =>
          simp only [List.head?_cons, Option.some.injEq] at h; subst h
          rw [firstF_deep]; simp only [List.length_cons]; omega
      · rw [firstF_flat r h]; simp
    · rw [firstF_one]; simp
    · rw [firstF_words]
      have := dropWhile_len (· != 125) r
      simp only [List.length_drop, List.length_cons]; omega
    · rw [firstF_plain _ (by intro d hd; simp only [List.head?_cons, Option.some.injEq] at hd; subst hd; exact h)]
      simp only [List.dropWhile_cons, h, if_true, List.length_cons]
      have := dropWhile_len noMark r
      omega
def cutF : Nat → List UInt8 → List Pc
  | 0, _ => []
  | n + 1, p => if p.isEmpty then [] else (firstF p).1 :: cutF n (firstF p).2
theorem cutF_nil : ∀ n, cutF n [] = []
  | 0 => rfl
  | _ + 1 => rfl
theorem cutF_more : ∀ (n m : Nat) (p : List UInt8), p.length ≤ n → p.length ≤ m → cutF n p = cutF m p
  | 0, m, p, h, _ => by
    have : p = [] := List.length_eq_zero_iff.1 (by omega)
    subst this; rw [cutF_nil, cutF_nil]
  | n + 1, 0, p, _, h => by
    have : p = [] := List.length_eq_zero_iff.1 (by omega)
    subst this; rw [cutF_nil, cutF_nil]
  | n + 1, m + 1, p, h, h' => by
    unfold cutF
    cases hp : p.isEmpty with
    | true => rfl
    | false =>
      have hne : p ≠ [] := by intro e; subst e; simp at hp
      have := firstF_lt p hne
      simp only [Bool.false_eq_true, if_false]
      rw [cutF_more n m _ (by omega) (by omega)]
def cutL (p : List UInt8) : List Pc := cutF p.length p
theorem cutL_nil : cutL [] = [] := rfl
theorem cutL_cons (p : List UInt8) (h : p ≠ []) : cutL p = (firstF p).1 :: cutL (firstF p).2 := by
  have hl := firstF_lt p h
  unfold cutL
  obtain ⟨n, hn⟩ : ∃ n, p.length = n + 1 := ⟨p.length - 1, by omega⟩
  rw [hn, cutF, if_neg (by simpa using h), cutF_more n _ _ (by omega) (Nat.le_refl _)]
/-- Is a text one of a pattern? -/
def matchL (p s : List UInt8) : Bool := rightL p && decide (s.length ≤ 200) && fitsB (cutL p) s

/-! ### Places -/
/-- Where one may stand behind a piece, of where one may stand ahead of it. -/
def Behind (x : Pc) (s : List UInt8) (f g : Nat → Bool) : Prop := ∀ j, j ≤ s.length → (g j = true ↔ ∃ i, i ≤ j ∧ f i = true ∧ x.has ((s.take j).drop i) = true)
theorem behind_fits {x : Pc} {s : List UInt8} {f g : Nat → Bool} {ps : List Pc} (hf : ∀ j, j ≤ s.length → (f j = true ↔ fitsB ps (s.take j) = true)) (h : Behind x s f g) :
    ∀ j, j ≤ s.length → (g j = true ↔ fitsB (ps ++ [x]) (s.take j) = true) := by
  intro j hj
  rw [h j hj, fitsB_append]
  constructor
  · rintro ⟨i, hi, h1, h2⟩
    refine ⟨(s.take j).take i, (s.take j).drop i, (List.take_append_drop i _).symm, ?_, (fitsB_one x _).2 h2⟩
    rw [List.take_take, Nat.min_eq_left hi]
    exact (hf i (by omega)).1 h1
  · rintro ⟨a, b, hab, h1, h2⟩
    have hl : a.length + b.length = j := by
      have := congrArg List.length hab
      rw [List.length_append, List.length_take] at this; omega
    have ha : a = s.take a.length := by
      have := congrArg (List.take a.length) hab
      rw [List.take_take, Nat.min_eq_left (by omega), List.take_left] at this
      exact this.symm
    refine ⟨a.length, by omega, (hf _ (by omega)).2 (by rw [← ha]; exact h1), ?_⟩
    rw [hab, List.drop_left]
    exact (fitsB_one x _).1 h2
/-- The places behind a star, the first k bytes gone through; 'sl' tells whether a slash stops it. -/
def StarIs (sl : Bool) (s : List UInt8) (f : Nat → Bool) (k : Nat) (g : Nat → Bool) : Prop :=
  (∀ j, j ≤ k → (g j = true ↔ ∃ i, i ≤ j ∧ f i = true ∧ (sl = true → ((s.take j).drop i).contains 47 = false))) ∧ ∀ j, k < j → g j = f j
theorem StarIs.start (sl : Bool) (s : List UInt8) (f : Nat → Bool) : StarIs sl s f 0 f := by
  refine ⟨fun j hj => ?_, fun j _ => rfl⟩
  obtain rfl : j = 0 := by omega
  constructor
  · intro h; exact ⟨0, Nat.le_refl _, h, fun _ => by simp⟩
  · rintro ⟨i, hi, h, _⟩
    obtain rfl : i = 0 := by omega
    exact h
theorem take_succ_drop (s : List UInt8) (k i : Nat) (hk : k < s.length) (hi : i ≤ k) : (s.take (k + 1)).drop i = (s.take k).drop i ++ [s[k]] := by
  rw [List.take_succ_eq_append_getElem hk, List.drop_append_of_le_length (by rw [List.length_take]; omega)]
theorem StarIs.step {sl : Bool} {s : List UInt8} {f g : Nat → Bool} {k : Nat} (h : StarIs sl s f k g) (hk : k < s.length) (b : Bool) (hb : b = (g (k + 1) || (g k && (!sl || s[k] != 47)))) :
    StarIs sl s f (k + 1) (fun j => if j = k + 1 then b else g j) := by
  refine ⟨fun j hj => ?_, fun j hj => ?_⟩
  · by_cases e : j = k + 1
    · subst e
      simp only [if_true]
      rw [hb, Bool.or_eq_true, h.2 (k + 1) (by omega), Bool.and_eq_true, h.1 k (Nat.le_refl _)]
      constructor
      · rintro (h1 | ⟨⟨i, hi, h2, h3⟩, h4⟩)
        · exact ⟨k + 1, Nat.le_refl _, h1, fun _ => by simp⟩
        · refine ⟨i, by omega, h2, fun hs => ?_⟩
          rw [take_succ_drop s k i hk hi]
          have h5 := h3 hs
          rw [hs] at h4
          simp only [Bool.not_true, Bool.false_or, bne_iff_ne, ne_eq] at h4
          simp only [List.contains_eq_mem, decide_eq_false_iff_not, List.mem_append, List.mem_singleton, not_or] at h5 ⊢
          exact ⟨h5, fun e => h4 e.symm⟩
      · rintro ⟨i, hi, h2, h3⟩
        by_cases e : i = k + 1
        · subst e; exact Or.inl h2
        · refine Or.inr ⟨⟨i, by omega, h2, fun hs => ?_⟩, ?_⟩
          · have h5 := h3 hs
            rw [take_succ_drop s k i hk (by omega)] at h5
            simp only [List.contains_eq_mem, decide_eq_false_iff_not, List.mem_append, List.mem_singleton, not_or] at h5 ⊢
            exact h5.1
          · cases sl with
            | false => rfl
            | true =>
              have h5 := h3 rfl
              rw [take_succ_drop s k i hk (by omega)] at h5
              simp only [List.contains_eq_mem, decide_eq_false_iff_not, List.mem_append, List.mem_singleton, not_or] at h5
              simp only [Bool.not_true, Bool.false_or, bne_iff_ne, ne_eq]
              exact fun e => h5.2 e.symm
    · simp only [if_neg e]
      exact h.1 j (by omega)
  · simp only [if_neg (show j ≠ k + 1 by omega)]
    exact h.2 j (by omega)
theorem StarIs.deep {s : List UInt8} {f g : Nat → Bool} (h : StarIs false s f s.length g) : Behind .deep s f g := fun j hj => by
  rw [h.1 j hj]
  exact ⟨fun ⟨i, h1, h2, _⟩ => ⟨i, h1, h2, rfl⟩, fun ⟨i, h1, h2, _⟩ => ⟨i, h1, h2, fun e => by cases e⟩⟩
theorem StarIs.flat {s : List UInt8} {f g : Nat → Bool} (h : StarIs true s f s.length g) : Behind .flat s f g := fun j hj => by
  rw [h.1 j hj]
  exact ⟨fun ⟨i, h1, h2, h3⟩ => ⟨i, h1, h2, by show (!((s.take j).drop i).contains 47) = true; rw [h3 rfl]; rfl⟩, fun ⟨i, h1, h2, h3⟩ => ⟨i, h1, h2, fun _ => by unfold Pc.has at h3; simpa using h3⟩⟩
/-- The places behind a question mark, the first k bytes gone through. -/
def OneIs (s : List UInt8) (f : Nat → Bool) (k : Nat) (g : Nat → Bool) : Prop :=
  (∀ j, j ≤ k → (g j = true ↔ ∃ i, i ≤ j ∧ f i = true ∧ Pc.one.has ((s.take j).drop i) = true)) ∧ ∀ j, k < j → g j = false
theorem OneIs.start (s : List UInt8) (f : Nat → Bool) : OneIs s f 0 fun _ => false := by
  refine ⟨fun j hj => ?_, fun j _ => rfl⟩
  obtain rfl : j = 0 := by omega
  constructor
  · intro h; cases h
  · rintro ⟨i, hi, _, h⟩
    simp [Pc.has] at h
theorem OneIs.step {s : List UInt8} {f g : Nat → Bool} {k : Nat} (h : OneIs s f k g) (hk : k < s.length) (b : Bool) (hb : b = (f k && s[k] != 47)) :
    OneIs s f (k + 1) (fun j => if j = k + 1 then b else g j) := by
  refine ⟨fun j hj => ?_, fun j hj => ?_⟩
  · by_cases e : j = k + 1
    · subst e
      simp only [if_true]
      rw [hb, Bool.and_eq_true]
      constructor
      · rintro ⟨h1, h2⟩
        refine ⟨k, by omega, h1, ?_⟩
        rw [take_succ_drop s k k hk (Nat.le_refl _), List.drop_eq_nil_of_le (by rw [List.length_take]; omega)]
        have h2' : s[k] ≠ 47 := by simpa using h2
        simp [Pc.has, Ne.symm h2']
      · rintro ⟨i, hi, h2, h3⟩
        by_cases e : i = k + 1
        · subst e
          rw [List.drop_eq_nil_of_le (by rw [List.length_take]; omega)] at h3
          simp [Pc.has] at h3
        · rw [take_succ_drop s k i hk (by omega)] at h3
          simp only [Pc.has, Bool.and_eq_true, beq_iff_eq, List.length_append, List.length_drop, List.length_take, List.length_singleton, Bool.not_eq_true', List.contains_eq_mem, decide_eq_false_iff_not, List.mem_append, List.mem_singleton, not_or] at h3
          obtain rfl : i = k := by omega
          exact ⟨h2, by simpa using fun e : s[i] = 47 => h3.2.2 e.symm⟩
    · simp only [if_neg e]
      exact h.1 j (by omega)
  · simp only [if_neg (show j ≠ k + 1 by omega)]
    exact h.2 j (by omega)
theorem OneIs.behind {s : List UInt8} {f g : Nat → Bool} (h : OneIs s f s.length g) : Behind .one s f g := fun j hj => h.1 j hj
/-- One word stands at a place. -/
def wordAt (s : List UInt8) (i : Nat) (y : ByteArray) : Bool := Lib.hasPrefix (s.drop i) y.data.toList
/-- The places behind words, the first k places gone through, and the first m words at the next. -/
def WordsAre (l : List ByteArray) (s : List UInt8) (f : Nat → Bool) (k m : Nat) (g : Nat → Bool) : Prop :=
  ∀ j, g j = true ↔ ∃ i y, f i = true ∧ wordAt s i y = true ∧ j = i + y.size ∧ (i < k ∧ y ∈ l ∨ i = k ∧ y ∈ l.take m)
theorem WordsAre.start (l : List ByteArray) (s : List UInt8) (f : Nat → Bool) : WordsAre l s f 0 0 fun _ => false := fun j => by
  constructor
  · intro h; cases h
  · rintro ⟨i, y, _, _, _, h | ⟨_, h⟩⟩
    · omega
    · simp at h
theorem WordsAre.skip {l : List ByteArray} {s : List UInt8} {f g : Nat → Bool} {k : Nat} (h : WordsAre l s f k 0 g) (hf : f k = false) : WordsAre l s f (k + 1) 0 g := fun j => by
  rw [h j]
  constructor
  · rintro ⟨i, y, h1, h2, h3, h4 | ⟨_, h4⟩⟩
    · exact ⟨i, y, h1, h2, h3, Or.inl ⟨by omega, h4.2⟩⟩
    · simp at h4
  · rintro ⟨i, y, h1, h2, h3, ⟨h4, h5⟩ | ⟨_, h4⟩⟩
    · by_cases e : i = k
      · subst e; rw [hf] at h1; cases h1
      · exact ⟨i, y, h1, h2, h3, Or.inl ⟨by omega, h5⟩⟩
    · simp at h4
theorem WordsAre.next {l : List ByteArray} {s : List UInt8} {f g : Nat → Bool} {k : Nat} (h : WordsAre l s f k l.length g) : WordsAre l s f (k + 1) 0 g := fun j => by
  rw [h j]
  constructor
  · rintro ⟨i, y, h1, h2, h3, h4 | ⟨h4, h5⟩⟩
    · exact ⟨i, y, h1, h2, h3, Or.inl ⟨by omega, h4.2⟩⟩
    · rw [List.take_length] at h5
      exact ⟨i, y, h1, h2, h3, Or.inl ⟨by omega, h5⟩⟩
  · rintro ⟨i, y, h1, h2, h3, ⟨h4, h5⟩ | ⟨_, h4⟩⟩
    · by_cases e : i = k
      · exact ⟨i, y, h1, h2, h3, Or.inr ⟨e, by rwa [List.take_length]⟩⟩
      · exact ⟨i, y, h1, h2, h3, Or.inl ⟨by omega, h5⟩⟩
    · simp at h4
theorem WordsAre.miss {l : List ByteArray} {s : List UInt8} {f g : Nat → Bool} {k m : Nat} (h : WordsAre l s f k m g) (hm : m < l.length) (hw : wordAt s k l[m] = false) : WordsAre l s f k (m + 1) g := fun j => by
  rw [h j, List.take_succ_eq_append_getElem hm]
  constructor
  · rintro ⟨i, y, h1, h2, h3, h4 | ⟨h4, h5⟩⟩
    · exact ⟨i, y, h1, h2, h3, Or.inl h4⟩
    · exact ⟨i, y, h1, h2, h3, Or.inr ⟨h4, List.mem_append_left _ h5⟩⟩
  · rintro ⟨i, y, h1, h2, h3, h4 | ⟨h4, h5⟩⟩
    · exact ⟨i, y, h1, h2, h3, Or.inl h4⟩
    · rcases List.mem_append.1 h5 with h5 | h5
      · exact ⟨i, y, h1, h2, h3, Or.inr ⟨h4, h5⟩⟩
      · rw [List.mem_singleton] at h5; subst h5; subst h4; rw [hw] at h2; cases h2
theorem WordsAre.hit {l : List ByteArray} {s : List UInt8} {f g : Nat → Bool} {k m : Nat} (h : WordsAre l s f k m g) (hm : m < l.length) (hf : f k = true) (hw : wordAt s k l[m] = true) :
    WordsAre l s f k (m + 1) (fun j => if j = k + l[m].size then true else g j) := fun j => by
  rw [List.take_succ_eq_append_getElem hm]
  by_cases e : j = k + l[m].size
  · simp only [if_pos e, true_iff]
    exact ⟨k, l[m], hf, hw, e, Or.inr ⟨rfl, List.mem_append_right _ (List.mem_singleton.2 rfl)⟩⟩
  · simp only [if_neg e]
    rw [h j]
    constructor
    · rintro ⟨i, y, h1, h2, h3, h4 | ⟨h4, h5⟩⟩
      · exact ⟨i, y, h1, h2, h3, Or.inl h4⟩
      · exact ⟨i, y, h1, h2, h3, Or.inr ⟨h4, List.mem_append_left _ h5⟩⟩
    · rintro ⟨i, y, h1, h2, h3, h4 | ⟨h4, h5⟩⟩
      · exact ⟨i, y, h1, h2, h3, Or.inl h4⟩
      · rcases List.mem_append.1 h5 with h5 | h5
        · exact ⟨i, y, h1, h2, h3, Or.inr ⟨h4, h5⟩⟩
        · rw [List.mem_singleton] at h5; subst h5; subst h4; exact absurd h3 e
theorem size_listB (y : ByteArray) : y.size = y.data.toList.length := by simp
theorem WordsAre.behind {l : List ByteArray} {s : List UInt8} {f g : Nat → Bool} (h : WordsAre l s f (s.length + 1) 0 g) : Behind (.words l) s f g := fun j hj => by
  rw [h j]
  constructor
  · rintro ⟨i, y, h1, h2, h3, ⟨h4, h5⟩ | ⟨_, h4⟩⟩
    · have hp := List.isPrefixOf_iff_prefix.1 h2
      obtain ⟨t, ht⟩ := hp
      refine ⟨i, by omega, h1, ?_⟩
      unfold Pc.has
      rw [List.any_eq_true]
      refine ⟨y, h5, ?_⟩
      rw [beq_iff_eq, List.drop_take, ← ht, h3, Nat.add_sub_cancel_left, size_listB, List.take_left]
    · simp at h4
  · rintro ⟨i, hi, h1, h2⟩
    unfold Pc.has at h2
    rw [List.any_eq_true] at h2
    obtain ⟨y, hy, h3⟩ := h2
    rw [beq_iff_eq] at h3
    have hl : y.data.toList.length = j - i := by rw [h3, List.length_drop, List.length_take]; omega
    refine ⟨i, y, h1, ?_, by rw [size_listB, hl]; omega, Or.inl ⟨by omega, hy⟩⟩
    unfold wordAt Lib.hasPrefix
    rw [List.isPrefixOf_iff_prefix, h3, List.drop_take]
    exact List.take_prefix _ _
theorem WordsAre.plain {t : ByteArray} {s : List UInt8} {f g : Nat → Bool} (h : Behind (.words [t]) s f g) : Behind (.plain t) s f g := fun j hj => by
  rw [h j hj]
  simp [Pc.has]
end Go.Proofs.YtjohjmoggldfcaaDoor
