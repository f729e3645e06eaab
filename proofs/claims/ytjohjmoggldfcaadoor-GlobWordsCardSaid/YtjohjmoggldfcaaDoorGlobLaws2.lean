/-
  What follows of patterns as plain functions, more: stars between plain bytes, words in braces. Conditions: none. It names nothing of the translation.
-/
import Derived.Test.YtjohjmoggldfcaaDoorGlobLaws
namespace Go.Proofs.YtjohjmoggldfcaaDoor

/-! ### Plain bytes, and stars between them -/
/-- A byte that is plain wherever it stands. -/
def plainC (c : UInt8) : Bool := seenC c && c != 42 && c != 63 && c != 123 && c != 125
theorem plainC_parts {c : UInt8} (h : plainC c = true) : seenC c = true ∧ noMark c = true ∧ c ≠ 123 ∧ c ≠ 125 := by
  unfold plainC at h
  simp only [Bool.and_eq_true, bne_iff_ne] at h
  obtain ⟨⟨⟨⟨h1, h2⟩, h3⟩, h4⟩, h5⟩ := h
  exact ⟨h1, by simp [noMark, h2, h3, h4], h4, h5⟩
/-- The pieces of plain bytes. -/
def plainP (a : List UInt8) : List Pc := if a.isEmpty then [] else [.plain ⟨a.toArray⟩]
theorem fits_plainP (a s : List UInt8) : fitsB (plainP a) s = true ↔ s = a := by
  unfold plainP
  cases a with
  | nil => exact fitsB_nil s
  | cons c a =>
    rw [if_neg (by simp), fitsB_one]
    unfold Pc.has
    rw [beq_iff_eq]
    exact eq_comm
theorem cut_plain (a : List UInt8) (h : ∀ c ∈ a, plainC c = true) : cutL a = plainP a := by
  cases a with
  | nil => rfl
  | cons c a =>
    have hm : ∀ d ∈ c :: a, noMark d = true := fun d hd => (plainC_parts (h d hd)).2.1
    obtain ⟨k1, k2⟩ := takeWhile_all noMark (c :: a) hm
    rw [cutL_cons _ (by simp), firstF_plain _ (fun d hd => by simp only [List.head?_cons, Option.some.injEq] at hd; subst hd; exact hm c (List.mem_cons_self ..)), k1, k2]
    rfl
theorem cut_plain_mark (a : List UInt8) (x : UInt8) (r : List UInt8) (h : ∀ c ∈ a, plainC c = true) (hx : noMark x = false) : cutL (a ++ x :: r) = plainP a ++ cutL (x :: r) := by
  cases a with
  | nil => rfl
  | cons c a =>
    have hm : ∀ d ∈ c :: a, noMark d = true := fun d hd => (plainC_parts (h d hd)).2.1
    obtain ⟨k1, k2⟩ := takeWhile_stop noMark (c :: a) x r hm hx
    rw [cutL_cons _ (by simp), firstF_plain _ (fun d hd => by rw [List.cons_append, List.head?_cons, Option.some.injEq] at hd; subst hd; exact hm c (List.mem_cons_self ..)), k1, k2]
    rfl
theorem right_of (p : List UInt8) (h0 : p ≠ []) (hl : p.length ≤ 128) (hs : ∀ c ∈ p, seenC c = true) (hb : p.foldl braceN 0 = 0) : rightL p = true := by
  unfold rightL bracesL seenL
  rw [hb, decide_eq_true hl, List.all_eq_true.2 hs]
  cases p with
  | nil => exact absurd rfl h0
  | cons _ _ => rfl
theorem right_plain (p : List UInt8) (h0 : p ≠ []) (hl : p.length ≤ 128) (h : ∀ c ∈ p, plainC c = true ∨ c = 42) : rightL p = true := by
  refine right_of p h0 hl (fun c hc => ?_) (brace_run _ (fun c hc => ?_) 0 (by decide))
  · rcases h c hc with h | rfl
    · exact (plainC_parts h).1
    · decide
  · rcases h c hc with h | rfl
    · exact (plainC_parts h).2.2
    · decide
theorem match_stars (s : List UInt8) (hs : s.length ≤ 100) : matchL [42, 42] s = true := by
  unfold matchL
  rw [right_plain [42, 42] (by simp) (by decide) (by simp), decide_eq_true (show s.length ≤ 200 by omega), Bool.true_and, Bool.true_and,
    cutL_cons _ (by simp), firstF_deep, fitsB_cons]
  exact ⟨s, [], by simp, rfl, rfl⟩
theorem match_plain (a s : List UInt8) (h0 : a ≠ []) (ha : ∀ c ∈ a, plainC c = true) (hl : a.length ≤ 80) (hs : s.length ≤ 100) : matchL a s = (s == a) := by
  unfold matchL
  rw [right_plain a h0 (by omega) (fun c hc => Or.inl (ha c hc)), decide_eq_true (show s.length ≤ 200 by omega), Bool.true_and, Bool.true_and, cut_plain a ha, Bool.eq_iff_iff, fits_plainP, beq_iff_eq]
/-- A text that begins and ends so, and is long enough. -/
def wantL (a b s : List UInt8) : Bool := decide (a.length + b.length ≤ s.length) && a.isPrefixOf s && b.isSuffixOf s
theorem want_iff (a b s : List UInt8) : wantL a b s = true ↔ ∃ m, s = a ++ (m ++ b) := by
  unfold wantL
  rw [Bool.and_eq_true, Bool.and_eq_true, decide_eq_true_eq, List.isPrefixOf_iff_prefix, List.isSuffixOf_iff_suffix]
  constructor
  · rintro ⟨⟨h1, ⟨t, rfl⟩⟩, h3⟩
    rw [List.length_append] at h1
    have h4 : b <:+ t := by
      rcases List.suffix_or_suffix_of_suffix h3 (List.suffix_append a t) with h | h
      · exact h
      · obtain ⟨z, hz⟩ := h
        have := congrArg List.length hz
        rw [List.length_append] at this
        have : z = [] := List.length_eq_zero_iff.1 (by omega)
        subst this
        rw [List.nil_append] at hz
        subst hz; exact List.suffix_refl _
    obtain ⟨m, rfl⟩ := h4
    exact ⟨m, rfl⟩
  · rintro ⟨m, rfl⟩
    refine ⟨⟨by rw [List.length_append, List.length_append]; omega, List.prefix_append _ _⟩, ?_⟩
    rw [← List.append_assoc]
    exact List.suffix_append _ _
theorem match_deep (a b s : List UInt8) (ha : ∀ c ∈ a, plainC c = true) (hb : ∀ c ∈ b, plainC c = true) (hal : a.length ≤ 40) (hbl : b.length ≤ 40) (hs : s.length ≤ 100) : matchL (a ++ 42 :: 42 :: b) s = wantL a b s := by
  have hr : rightL (a ++ 42 :: 42 :: b) = true := right_plain _ (by simp) (by rw [List.length_append, List.length_cons, List.length_cons]; omega) (fun c hc => by
    rcases List.mem_append.1 hc with h | h
    · exact Or.inl (ha c h)
    · rcases List.mem_cons.1 h with rfl | h
      · exact Or.inr rfl
      · rcases List.mem_cons.1 h with rfl | h
        · exact Or.inr rfl
        · exact Or.inl (hb c h))
  unfold matchL
  rw [hr, decide_eq_true (show s.length ≤ 200 by omega), Bool.true_and, Bool.true_and, cut_plain_mark a 42 _ ha rfl, cutL_cons (42 :: 42 :: b) (by simp), firstF_deep, cut_plain b hb, Bool.eq_iff_iff, fitsB_append, want_iff]
  constructor
  · rintro ⟨x, y, rfl, h1, h2⟩
    obtain ⟨m, z, rfl, -, h4⟩ := (fitsB_cons _ _ _).1 h2
    rw [fits_plainP] at h1 h4
    subst h1; subst h4
    exact ⟨m, rfl⟩
  · rintro ⟨m, rfl⟩
    exact ⟨a, m ++ b, rfl, (fits_plainP a a).2 rfl, (fitsB_cons _ _ _).2 ⟨m, b, rfl, rfl, (fits_plainP b b).2 rfl⟩⟩
/-- What stands between. -/
def midL (a b s : List UInt8) : List UInt8 := (s.take (max (s.length - b.length) (min a.length s.length))).drop (min a.length s.length)
theorem mid_eq (a b m : List UInt8) : midL a b (a ++ (m ++ b)) = m := by
  unfold midL
  have h1 : min a.length (a ++ (m ++ b)).length = a.length := by rw [List.length_append]; omega
  have h2 : (a ++ (m ++ b)).length - b.length = a.length + m.length := by rw [List.length_append, List.length_append]; omega
  rw [h1, h2, show max (a.length + m.length) a.length = a.length + m.length by omega, ← List.append_assoc]
  rw [show a.length + m.length = (a ++ m).length by rw [List.length_append], List.take_left, List.drop_left]
theorem match_flat (a b s : List UInt8) (ha : ∀ c ∈ a, plainC c = true) (hb : ∀ c ∈ b, plainC c = true) (hal : a.length ≤ 40) (hbl : b.length ≤ 40) (hs : s.length ≤ 100) : matchL (a ++ 42 :: b) s = (wantL a b s && !(midL a b s).contains 47) := by
  have hr : rightL (a ++ 42 :: b) = true := right_plain _ (by simp) (by rw [List.length_append, List.length_cons]; omega) (fun c hc => by
    rcases List.mem_append.1 hc with h | h
    · exact Or.inl (ha c h)
    · rcases List.mem_cons.1 h with rfl | h
      · exact Or.inr rfl
      · exact Or.inl (hb c h))
  have hh : b.head? ≠ some 42 := fun e => by
    have := hb 42 (List.mem_of_mem_head? (by rw [e]; rfl))
    exact absurd this (by decide)
  unfold matchL
  rw [hr, decide_eq_true (show s.length ≤ 200 by omega), Bool.true_and, Bool.true_and, cut_plain_mark a 42 _ ha rfl, cutL_cons (42 :: b) (by simp), firstF_flat _ hh, cut_plain b hb, Bool.eq_iff_iff, fitsB_append, Bool.and_eq_true, want_iff]
  constructor
  · rintro ⟨x, y, rfl, h1, h2⟩
    obtain ⟨m, z, rfl, h3, h4⟩ := (fitsB_cons _ _ _).1 h2
    rw [fits_plainP] at h1 h4
    subst h1; subst h4
    exact ⟨⟨m, rfl⟩, by rw [mid_eq]; exact h3⟩
  · rintro ⟨⟨m, rfl⟩, h⟩
    rw [mid_eq] at h
    exact ⟨a, m ++ b, rfl, (fits_plainP a a).2 rfl, (fitsB_cons _ _ _).2 ⟨m, b, rfl, h, (fits_plainP b b).2 rfl⟩⟩

/-! ### Words in braces -/
def wordC (c : UInt8) : Bool := seenC c && c != 123 && c != 125 && c != 44
theorem wordC_parts {c : UInt8} (h : wordC c = true) : seenC c = true ∧ c ≠ 123 ∧ c ≠ 125 ∧ c ≠ 44 := by
  unfold wordC at h
  simp only [Bool.and_eq_true, bne_iff_ne] at h
  obtain ⟨⟨⟨h1, h2⟩, h3⟩, h4⟩ := h
  exact ⟨h1, h2, h3, h4⟩
theorem goC_run (b : UInt8) : ∀ (x now : List UInt8), (∀ c ∈ x, c ≠ b) → goC b now x = [now ++ x]
  | [], now, _ => by simp [goC]
  | c :: x, now, h => by
    have hc := h c (List.mem_cons_self ..)
    rw [goC, if_neg hc, goC_run b x (now ++ [c]) (fun d hd => h d (List.mem_cons_of_mem _ hd))]
    simp
theorem goC_at (b : UInt8) : ∀ (x r now : List UInt8), (∀ c ∈ x, c ≠ b) → goC b now (x ++ b :: r) = (now ++ x) :: goC b [] r
  | [], r, now, _ => by simp [goC]
  | c :: x, r, now, h => by
    have hc := h c (List.mem_cons_self ..)
    rw [List.cons_append, goC, if_neg hc, goC_at b x r (now ++ [c]) (fun d hd => h d (List.mem_cons_of_mem _ hd))]
    simp
theorem join_more (x y : List UInt8) (r : List (List UInt8)) (sep : List UInt8) : Lib.join (x :: y :: r) sep = x ++ (sep ++ Lib.join (y :: r) sep) := by
  rw [Lib.join_cons, Lib.join_cons]
  simp [Lib.joinTail]
theorem goC_join : ∀ (x : List UInt8) (r : List (List UInt8)), (∀ y ∈ x :: r, ∀ c ∈ y, c ≠ 44) → goC 44 [] (Lib.join (x :: r) [44]) = x :: r
  | x, [], h => by
    rw [Lib.join_one, goC_run 44 x [] (h x (List.mem_cons_self ..))]; rfl
  | x, y :: r, h => by
    rw [join_more, show [44] ++ Lib.join (y :: r) [44] = 44 :: Lib.join (y :: r) [44] from rfl, goC_at 44 x _ [] (h x (List.mem_cons_self ..)), goC_join y r (fun z hz => h z (List.mem_cons_of_mem _ hz))]; rfl
theorem join_bytes (P : UInt8 → Prop) (h44 : P 44) : ∀ (x : List UInt8) (r : List (List UInt8)), (∀ y ∈ x :: r, ∀ c ∈ y, P c) → ∀ c ∈ Lib.join (x :: r) [44], P c
  | x, [], h => by
    rw [Lib.join_one]; exact h x (List.mem_cons_self ..)
  | x, y :: r, h => by
    rw [join_more]
    intro c hc
    rcases List.mem_append.1 hc with hc | hc
    · exact h x (List.mem_cons_self ..) c hc
    · rcases List.mem_append.1 hc with hc | hc
      · rw [List.mem_singleton.1 hc]; exact h44
      · exact join_bytes P h44 y r (fun z hz => h z (List.mem_cons_of_mem _ hz)) c hc
theorem join_len : ∀ (x : List UInt8) (r : List (List UInt8)), (∀ y ∈ x :: r, y.length ≤ 20) → (Lib.join (x :: r) [44]).length ≤ 21 * (r.length + 1)
  | x, [], h => by
    rw [Lib.join_one]
    have := h x (List.mem_cons_self ..)
    simp; omega
  | x, y :: r, h => by
    have h1 := join_len y r (fun z hz => h z (List.mem_cons_of_mem _ hz))
    have h2 := h x (List.mem_cons_self ..)
    rw [join_more, List.length_append, List.length_append]
    simp only [List.length_cons, List.length_nil] at h1 ⊢
    omega
/-- Is it one of the words? Of none: the empty text is. -/
def isWordL (l : List (List UInt8)) (s : List UInt8) : Bool := if l.isEmpty then s.isEmpty else l.any fun w => s == w
theorem match_words (l : List (List UInt8)) (s : List UInt8) (hl : l.length ≤ 5) (hw : ∀ w ∈ l, w.length ≤ 20 ∧ ∀ c ∈ w, wordC c = true) (hs : s.length ≤ 60) : matchL (123 :: (Lib.join l [44] ++ [125])) s = isWordL l s := by
  have hjl : (Lib.join l [44]).length ≤ 105 := by
    cases l with
    | nil => simp [Lib.join_nil]
    | cons x r =>
      have := join_len x r fun y hy => (hw y hy).1
      rw [List.length_cons] at hl
      omega
  have hjb : ∀ c ∈ Lib.join l [44], seenC c = true ∧ c ≠ 123 ∧ c ≠ 125 := by
    cases l with
    | nil => simp [Lib.join_nil]
    | cons x r => exact join_bytes (fun c => seenC c = true ∧ c ≠ 123 ∧ c ≠ 125) ⟨by decide, by decide, by decide⟩ x r fun y hy c hc => ⟨(wordC_parts ((hw y hy).2 c hc)).1, (wordC_parts ((hw y hy).2 c hc)).2.1, (wordC_parts ((hw y hy).2 c hc)).2.2.1⟩
  have hr : rightL (123 :: (Lib.join l [44] ++ [125])) = true := by
    refine right_of _ (by simp) (by rw [List.length_cons, List.length_append, List.length_singleton]; omega) (fun c hc => ?_) ?_
    · rcases List.mem_cons.1 hc with rfl | hc
      · decide
      · rcases List.mem_append.1 hc with hc | hc
        · exact (hjb c hc).1
        · rw [List.mem_singleton.1 hc]; decide
    · rw [List.foldl_cons, show braceN 0 123 = 1 from rfl, List.foldl_append, brace_run _ (fun c hc => (hjb c hc).2) 1 (by decide)]; rfl
  unfold matchL
  rw [hr, decide_eq_true (show s.length ≤ 200 by omega), Bool.true_and, Bool.true_and, cutL_cons _ (by simp), firstF_close _ [] (fun c hc => (hjb c hc).2.2), cutL_nil, Bool.eq_iff_iff, fitsB_one]
  unfold isWordL
  show (((goC 44 [] (Lib.join l [44])).map fun l => (⟨l.toArray⟩ : ByteArray)).any fun y => y.data.toList == s) = true ↔ _
  rw [List.any_map]
  cases l with
  | nil =>
    rw [Lib.join_nil]
    cases s with
    | nil => exact ⟨fun _ => rfl, fun _ => rfl⟩
    | cons c s => exact ⟨fun h => absurd (show false = true from h) (by decide), fun h => absurd (show false = true from h) (by decide)⟩
  | cons x r =>
    rw [goC_join x r (fun y hy c hc => (wordC_parts ((hw y hy).2 c hc)).2.2.2), if_neg (by simp), List.any_eq_true, List.any_eq_true]
    constructor
    · rintro ⟨w, h1, h2⟩
      exact ⟨w, h1, by rw [beq_iff_eq]; simpa using (beq_iff_eq.1 h2).symm⟩
    · rintro ⟨w, h1, h2⟩
      exact ⟨w, h1, by rw [beq_iff_eq] at h2; simp [h2]⟩
end Go.Proofs.YtjohjmoggldfcaaDoor
