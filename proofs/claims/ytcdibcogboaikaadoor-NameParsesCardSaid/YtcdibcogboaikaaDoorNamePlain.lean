/-
  Names of repositories, tags and references as plain functions on bytes. Conditions: none.
-/
import Derived.RowKit
import Derived.KernelRfl
namespace Go.Proofs.YtcdibcogboaikaaDoor

/-- A small letter or a digit. -/
def smallB (c : UInt8) : Bool := decide (97 ≤ c.toNat ∧ c.toNat ≤ 122) || decide (48 ≤ c.toNat ∧ c.toNat ≤ 57)
/-- Where one is behind a byte: 0 nowhere, 1 behind a mark, 2 behind one low line, 3 behind a dash, 4 behind a run. -/
def nextN (p : Nat) (c : UInt8) : Nat :=
  if p = 4 ∧ c = 46 then 1 else if p = 4 ∧ c = 95 then 2 else if (p = 4 ∨ p = 3) ∧ c = 45 then 3 else if p = 2 ∧ c = 95 then 1 else if smallB c then 4 else 0
/-- The same; from nowhere there is no way. -/
def nx (p : Nat) (c : UInt8) : Nat := if p = 0 then 0 else nextN p c
/-- The same with slashes. -/
def nr (p : Nat) (c : UInt8) : Nat := if p = 0 then 0 else if c = 47 then (if p = 4 then 1 else 0) else nextN p c
def partL (l : List UInt8) : Bool := l.foldl nx 1 == 4
def repoL (l : List UInt8) : Bool := l.foldl nr 1 == 4
def repoB (s : ByteArray) : Bool := decide (s.size ≤ 128) && repoL s.data.toList
def inTagB (c : UInt8) : Bool := smallB c || decide (65 ≤ c.toNat ∧ c.toNat ≤ 90) || c == 95 || c == 46 || c == 45
def tagL (l : List UInt8) : Bool := decide (0 < l.length) && decide (l.length ≤ 128) && !(l.head? == some 46) && !(l.head? == some 45) && l.all inTagB
def tagB (s : ByteArray) : Bool := tagL s.data.toList

theorem nextN_le (p : Nat) (c : UInt8) : nextN p c ≤ 4 := by unfold nextN; repeat' split
                                                             all_goals omega
theorem nx_zero (l : List UInt8) : l.foldl nx 0 = 0 := by
  induction l with
  | nil => rfl
  | cons c l ih => simpa [nx] using ih
theorem nr_zero (l : List UInt8) : l.foldl nr 0 = 0 := by
  induction l with
  | nil => rfl
  | cons c l ih => simpa [nr] using ih
theorem small_47 : smallB 47 = false := by decide
theorem next_47 (p : Nat) : nextN p 47 = 0 := by simp [nextN, small_47]
theorem next_small (p : Nat) (c : UInt8) (h : smallB c = true) : nextN p c = 4 := by
  have h1 : c ≠ 46 := by rintro rfl; exact absurd h (by decide)
  have h2 : c ≠ 95 := by rintro rfl; exact absurd h (by decide)
  have h3 : c ≠ 45 := by rintro rfl; exact absurd h (by decide)
  simp [nextN, h1, h2, h3, h]

/-- A text's pieces between bytes of one kind; 'now' is what the piece has. -/
def goC (b : UInt8) : List UInt8 → List UInt8 → List (List UInt8)
  | now, [] => [now]
  | now, c :: l => if c = b then now :: goC b [] l else goC b (now ++ [c]) l

theorem goC_ne (b : UInt8) : ∀ (l now : List UInt8), goC b now l ≠ []
  | [], _ => by simp [goC]
  | c :: l, now => by unfold goC; split <;> simp [goC_ne b l]

/-- All pieces are parts just if the whole run ends well. -/
theorem goC_parts : ∀ (l now : List UInt8), (goC 47 now l).all partL = (l.foldl nr (now.foldl nx 1) == 4)
  | [], now => by simp [goC, partL]
  | c :: l, now => by
    by_cases hc : c = 47
    · subst hc
      simp only [goC, if_true, List.all_cons, goC_parts l [], List.foldl_nil, List.foldl_cons]
      by_cases h4 : now.foldl nx 1 = 4
      · simp [partL, h4, nr]
      · simp only [partL, nr, h4]
        simp [nr_zero, h4]
    · simp only [goC, if_neg hc, goC_parts l (now ++ [c]), List.foldl_append, List.foldl_cons, List.foldl_nil]
      congr 2
      simp [nr, nx, hc]

theorem repoL_parts (l : List UInt8) : repoL l = (goC 47 [] l).all partL := by rw [goC_parts]; rfl

/-- A slash parts two names. -/
theorem fold_slash : ∀ (a b : List UInt8) (p : Nat), ((a ++ 47 :: b).foldl nr p == 4) = ((a.foldl nr p == 4) && (b.foldl nr 1 == 4))
  | [], b, p => by
    simp only [List.nil_append, List.foldl_cons, List.foldl_nil]
    by_cases h4 : p = 4
    · subst h4; simp [nr]
    · have e : nr p 47 = 0 := by simp [nr, h4]
      rw [e, nr_zero]; simp [h4]
  | c :: a, b, p => by
    simp only [List.cons_append, List.foldl_cons]
    exact fold_slash a b (nr p c)

theorem repoL_slash (a b : List UInt8) : repoL (a ++ 47 :: b) = (repoL a && repoL b) := fold_slash a b 1
theorem repoL_nil : repoL [] = false := rfl

/-- Every byte of a name is a small letter, a digit, one of . _ - or a slash. -/
theorem repo_bytes : ∀ (l : List UInt8) (p : Nat), l.foldl nr p = 4 → ∀ c ∈ l, smallB c = true ∨ c = 46 ∨ c = 95 ∨ c = 45 ∨ c = 47
  | [], _, _, _, h => by simp at h
  | d :: l, p, hp, c, hc => by
    rw [List.foldl_cons] at hp
    rcases List.mem_cons.1 hc with rfl | hc
    · by_cases h0 : nr p c = 0
      · rw [h0, nr_zero] at hp; cases hp
      · unfold nr at h0
        split at h0
        · exact absurd rfl h0
        · split at h0
          · rename_i h; exact Or.inr (Or.inr (Or.inr (Or.inr h)))
          · unfold nextN at h0
            split at h0
            · rename_i h; exact Or.inr (Or.inl h.2)
            · split at h0
              · rename_i h; exact Or.inr (Or.inr (Or.inl h.2))
              · split at h0
                · rename_i h; exact Or.inr (Or.inr (Or.inr (Or.inl h.2)))
                · split at h0
                  · rename_i h; exact Or.inr (Or.inr (Or.inl h.2))
                  · split at h0
                    · rename_i h; exact Or.inl h
                    · exact absurd rfl h0
    · exact repo_bytes l _ hp c hc
theorem repo_mark {l : List UInt8} (h : repoL l = true) (c : UInt8) (hc : c ∈ l) : c ≠ 58 ∧ c ≠ 64 := by
  have h4 : l.foldl nr 1 = 4 := by simpa [repoL] using h
  rcases repo_bytes l 1 h4 c hc with h | rfl | rfl | rfl | rfl
  · constructor <;> (rintro rfl; exact absurd h (by decide))
  all_goals decide
theorem tag_mark {l : List UInt8} (h : tagL l = true) (c : UInt8) (hc : c ∈ l) : c ≠ 58 ∧ c ≠ 64 := by
  unfold tagL at h
  simp only [Bool.and_eq_true] at h
  have hi := List.all_eq_true.1 h.2 c hc
  constructor <;> (rintro rfl; exact absurd hi (by decide))

/-! ### The document's own parts -/
def markL (m : List UInt8) : Bool := m == [46] || m == [95] || m == [95, 95] || (m.all (· == 45) && decide (0 < m.length))
/-- Runs and marks in turn; 'now' is the mark so far. -/
def goM : List UInt8 → List UInt8 → Bool
  | _, [] => true
  | now, c :: l => if smallB c then (now == [] || markL now) && goM [] l else goM (now ++ [c]) l
/-- Does it end with a run? -/
def endM : List UInt8 → List UInt8 → Bool
  | now, [] => now == []
  | now, c :: l => endM (if smallB c then [] else now ++ [c]) l
def refPartL (l : List UInt8) : Bool :=
  match l with
  | [] => false
  | c :: _ => smallB c && smallB (l.getLastD 0) && goM [] l

/-- Where one is behind a mark so far. -/
def stM (m : List UInt8) : Nat :=
  if m = [] then 4 else if m = [46] then 1 else if m = [95] then 2 else if m = [95, 95] then 1 else if m.all (· == 45) then 3 else 0

theorem stM_zero (m : List UInt8) : (stM m = 0) = ¬ ((m == [] || markL m) = true) := by
  unfold stM markL
  rw [eq_iff_iff]
  by_cases h0 : m = []
  · simp [h0]
  by_cases h1 : m = [46]
  · simp [h1]
  by_cases h2 : m = [95]
  · simp [h2]
  by_cases h3 : m = [95, 95]
  · simp [h3]
  by_cases h4 : m.all (· == 45) = true
  · simp only [if_neg h0, if_neg h1, if_neg h2, if_neg h3, if_pos h4]
    have : 0 < m.length := List.length_pos_iff.2 h0
    simp [h4, this]
  · simp only [if_neg h0, if_neg h1, if_neg h2, if_neg h3, if_neg h4]
    have e0 : (m == ([] : List UInt8)) = false := by simpa using h0
    simp [e0, h1, h2, h3, Bool.not_eq_true _ ▸ h4]

theorem stM_snoc (m : List UInt8) (c : UInt8) (hc : smallB c = false) : stM (m ++ [c]) = nx (stM m) c := by
  have d45 : ([] : List UInt8) ≠ [46] := by decide
  by_cases h0 : m = []
  · subst h0
    simp only [List.nil_append, stM, nx, nextN, hc]
    by_cases h1 : c = 46
    · simp [h1]
    by_cases h2 : c = 95
    · simp [h2]
    by_cases h3 : c = 45
    · simp [h3]
    simp [h1, h2, h3]
  by_cases h1 : m = [46]
  · subst h1; simp [stM, nx, nextN, hc]
  by_cases h2 : m = [95]
  · subst h2
    by_cases h2 : c = 95
    · subst h2; decide
    simp [stM, nx, nextN, hc, h2]
  by_cases h3 : m = [95, 95]
  · subst h3; simp [stM, nx, nextN, hc]
  have e1 : m ++ [c] ≠ [] := by simp
  have e2 : m ++ [c] ≠ [46] := by intro e; have := congrArg List.length e; simp at this; exact h0 this
  have e3 : m ++ [c] ≠ [95] := by intro e; have := congrArg List.length e; simp at this; exact h0 this
  have e4 : m ++ [c] ≠ [95, 95] := by
    intro e
    have h5 : (m ++ [c]).take 1 = [95] := by rw [e]; rfl
    have h6 : m.length = 1 := by have := congrArg List.length e; simp at this; exact this
    rw [List.take_append_of_le_length (by omega), List.take_of_length_le (by omega)] at h5
    exact h2 h5
  by_cases h4 : m.all (· == 45) = true
  · simp only [stM, if_neg h0, if_neg h1, if_neg h2, if_neg h3, if_neg e1, if_neg e2, if_neg e3, if_neg e4, List.all_append, h4]
    by_cases h5 : c = 45
    · subst h5; decide
    · simp [nx, nextN, hc, h5]
  · simp only [stM, if_neg h0, if_neg h1, if_neg h2, if_neg h3, if_neg e1, if_neg e2, if_neg e3, if_neg e4, List.all_append, Bool.not_eq_true _ ▸ h4]
    simp [nx]

theorem goM_run : ∀ (l now : List UInt8), (goM now l && endM now l) = (l.foldl nx (stM now) == 4)
  | [], now => by
    simp only [goM, endM, Bool.true_and, List.foldl_nil]
    unfold stM
    by_cases h0 : now = []
    · simp [h0]
    · simp only [if_neg h0]
      have e0 : (now == ([] : List UInt8)) = false := by simpa using h0
      rw [e0]
      repeat' split
      all_goals rfl
  | c :: l, now => by
    cases hc : smallB c with
    | true =>
      simp only [goM, endM, hc, if_true, List.foldl_cons]
      have ih := goM_run l []
      have e4 : stM [] = 4 := rfl
      rw [e4] at ih
      by_cases h0 : stM now = 0
      · have hn : (now == [] || markL now) = false := by simpa using (stM_zero now).mp h0
        rw [hn, h0]; simp [nx, nx_zero]
      · have hy : (now == [] || markL now) = true := by
          cases h : (now == [] || markL now) with
          | true => rfl
          | false => exact absurd ((stM_zero now).mpr (by rw [h]; decide)) h0
        rw [hy, Bool.true_and, ih]
        simp [nx, h0, next_small _ c hc]
    | false =>
      simp only [goM, endM, hc, List.foldl_cons]
      have ih := goM_run l (now ++ [c])
      rw [stM_snoc now c hc] at ih
      simpa using ih

theorem endM_last : ∀ (l now : List UInt8) (c : UInt8), endM now (c :: l) = smallB ((c :: l).getLastD 0)
  | [], now, c => by
    simp only [endM, List.getLastD_cons, List.getLastD_nil]
    cases hc : smallB c <;> simp
  | d :: l, now, c => by
    have e : (c :: d :: l).getLastD 0 = (d :: l).getLastD 0 := by simp
    rw [e, ← endM_last l (if smallB c then [] else now ++ [c]) d]
    rfl

/-- The document's parts are the program's. -/
theorem refPart_part (l : List UInt8) : refPartL l = partL l := by
  cases l with
  | nil => rfl
  | cons c l =>
    unfold refPartL partL
    simp only []
    rw [Bool.and_assoc, ← endM_last l [] c, Bool.and_comm (endM _ _), goM_run]
    cases hc : smallB c with
    | true =>
      simp only [Bool.true_and, List.foldl_cons]
      have e4 : stM [] = 4 := rfl
      rw [e4]
      simp [nx, next_small _ c hc]
    | false =>
      have e : nx 1 c = 0 := by simp [nx, nextN, hc]
      simp [List.foldl_cons, e, nx_zero]
end Go.Proofs.YtcdibcogboaikaaDoor
