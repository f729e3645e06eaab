/-
  What follows of patterns as plain functions: rows of question marks, patterns behind one another, stars between plain bytes, words in braces. Conditions: none. It names nothing of the translation.
-/
import Derived.Test.YtjohjmoggldfcaaDoorGlobPlain
import Derived.Lib.Join
import Derived.Lib.Repeat
namespace Go.Proofs.YtjohjmoggldfcaaDoor

/-! ### Braces, and what is behind a first piece -/
theorem brace_plain (c : UInt8) (h1 : c ≠ 123) (h2 : c ≠ 125) (p : Nat) (_h : p ≤ 2) : braceN p c = p := by
  unfold braceN
  rw [if_neg h1, if_neg h2]
  split <;> omega
theorem brace_run (l : List UInt8) (h : ∀ c ∈ l, c ≠ 123 ∧ c ≠ 125) (p : Nat) (hp : p ≤ 2) : l.foldl braceN p = p := by
  induction l with
  | nil => rfl
  | cons c l ih =>
    have hc := h c (List.mem_cons_self ..)
    rw [List.foldl_cons, brace_plain c hc.1 hc.2 p hp]
    exact ih fun d hd => h d (List.mem_cons_of_mem _ hd)
theorem brace_close : ∀ r : List UInt8, r.foldl braceN 1 = 0 → ∃ w r', r = w ++ 125 :: r' ∧ (∀ c ∈ w, c ≠ 125) ∧ r'.foldl braceN 0 = 0
  | [], h => by simp at h
  | c :: r, h => by
    rw [List.foldl_cons] at h
    by_cases h1 : c = 123
    · subst h1
      rw [show braceN 1 123 = 2 from rfl, braceN_two] at h
      cases h
    · by_cases h2 : c = 125
      · subst h2
        exact ⟨[], r, rfl, by simp, h⟩
      · rw [brace_plain c h1 h2 1 (by decide)] at h
        obtain ⟨w, r', rfl, hw, hr⟩ := brace_close r h
        exact ⟨c :: w, r', rfl, fun d hd => by
          rcases List.mem_cons.1 hd with rfl | hd
          · exact h2
          · exact hw d hd, hr⟩
theorem brace_behind : ∀ (t r : List UInt8), (∀ c ∈ t, noMark c = true) → (t ++ r).foldl braceN 0 = 0 → r.foldl braceN 0 = 0
  | [], _, _, h => h
  | c :: t, r, ht, h => by
    rw [List.cons_append, List.foldl_cons] at h
    have hc := ht c (List.mem_cons_self ..)
    have h1 : c ≠ 123 := by rintro rfl; simp [noMark] at hc
    by_cases h2 : c = 125
    · subst h2
      rw [show braceN 0 125 = 2 from rfl, braceN_two] at h
      cases h
    · rw [brace_plain c h1 h2 0 (by decide)] at h
      exact brace_behind t r (fun d hd => ht d (List.mem_cons_of_mem _ hd)) h
theorem takeWhile_all {α : Type} (f : α → Bool) : ∀ l : List α, (∀ c ∈ l, f c = true) → l.takeWhile f = l ∧ l.dropWhile f = []
  | [], _ => ⟨rfl, rfl⟩
  | c :: l, h => by
    have hc := h c (List.mem_cons_self ..)
    obtain ⟨h1, h2⟩ := takeWhile_all f l fun d hd => h d (List.mem_cons_of_mem _ hd)
    exact ⟨by rw [List.takeWhile_cons, if_pos hc, h1], by rw [List.dropWhile_cons, if_pos hc, h2]⟩
theorem takeWhile_stop {α : Type} (f : α → Bool) : ∀ (l : List α) (c : α) (r : List α), (∀ c ∈ l, f c = true) → f c = false → (l ++ c :: r).takeWhile f = l ∧ (l ++ c :: r).dropWhile f = c :: r
  | [], c, r, _, hc => by simp [hc]
  | d :: l, c, r, h, hc => by
    have hd := h d (List.mem_cons_self ..)
    obtain ⟨h1, h2⟩ := takeWhile_stop f l c r (fun d hd => h d (List.mem_cons_of_mem _ hd)) hc
    exact ⟨by rw [List.cons_append, List.takeWhile_cons, if_pos hd, h1], by rw [List.cons_append, List.dropWhile_cons, if_pos hd, h2]⟩
theorem takeWhile_more {α : Type} (f : α → Bool) : ∀ (l r : List α), (∀ c ∈ l, f c = true) → (l ++ r).takeWhile f = l ++ r.takeWhile f ∧ (l ++ r).dropWhile f = r.dropWhile f
  | [], _, _ => ⟨rfl, rfl⟩
  | d :: l, r, h => by
    have hd := h d (List.mem_cons_self ..)
    obtain ⟨h1, h2⟩ := takeWhile_more f l r fun d hd => h d (List.mem_cons_of_mem _ hd)
    exact ⟨by rw [List.cons_append, List.takeWhile_cons, if_pos hd, h1]; rfl, by rw [List.cons_append, List.dropWhile_cons, if_pos hd, h2]⟩
theorem firstF_close (w r : List UInt8) (hw : ∀ c ∈ w, c ≠ 125) : firstF (123 :: (w ++ 125 :: r)) = (.words ((goC 44 [] w).map fun l => ⟨l.toArray⟩), r) := by
  obtain ⟨h1, h2⟩ := takeWhile_stop (· != (125 : UInt8)) w 125 r (fun c hc => by simpa using hw c hc) (by simp)
  rw [firstF_words, h1, h2]; rfl

theorem last_append (l m : List UInt8) (h : m ≠ []) : (l ++ m).getLast? = m.getLast? := by
  rw [List.getLast?_append]
  cases hm : m.getLast? with
  | none => exact absurd (List.getLast?_eq_none_iff.1 hm) h
  | some x => rfl

/-! ### Patterns behind one another -/
theorem fits_join : ∀ (n : Nat) (p q a b : List UInt8), p.length ≤ n → p.foldl braceN 0 = 0 → p.getLast? ≠ some 42 → fitsB (cutL p) a = true → fitsB (cutL q) b = true → fitsB (cutL (p ++ q)) (a ++ b) = true
  | 0, p, q, a, b, hn, _, _, ha, hb => by
    obtain rfl : p = [] := List.length_eq_zero_iff.1 (by omega)
    rw [cutL_nil, fitsB_nil] at ha
    subst ha; exact hb
  | n + 1, [], q, a, b, _, _, _, ha, hb => by
    rw [cutL_nil, fitsB_nil] at ha
    subst ha; exact hb
  | n + 1, c :: r, q, a, b, hn, hbr, hls, ha, hb => by
    have step : ∀ (x : Pc) (r' : List UInt8), r'.length ≤ n → r'.foldl braceN 0 = 0 → r'.getLast? ≠ some 42 → firstF (c :: r) = (x, r') → firstF (c :: r ++ q) = (x, r' ++ q) → fitsB (cutL (c :: r ++ q)) (a ++ b) = true := by
      intro x r' h1 h2 h3 h4 h5
      rw [cutL_cons _ (by simp), h4, fitsB_cons] at ha
      obtain ⟨a1, a2, rfl, h6, h7⟩ := ha
      rw [cutL_cons _ (by simp), h5, fitsB_cons]
      exact ⟨a1, a2 ++ b, by simp, h6, fits_join n r' q a2 b h1 h2 h3 h7 hb⟩
    rw [List.length_cons] at hn
    have last_cons : ∀ (d : UInt8) (l : List UInt8), l ≠ [] → (d :: l).getLast? = l.getLast? := fun d l hl => by
      cases l with
      | nil => exact absurd rfl hl
      | cons e l => rw [List.getLast?_cons_cons]
    rcases noMark_cases c with rfl | rfl | rfl | hc
    · rw [List.foldl_cons, brace_plain 42 (by decide) (by decide) 0 (by decide)] at hbr
      cases r with
      | nil => simp at hls
      | cons d r =>
        rw [last_cons 42 (d :: r) (by simp)] at hls
        by_cases hd : d = 42
        · subst hd
          rw [List.foldl_cons, brace_plain 42 (by decide) (by decide) 0 (by decide)] at hbr
          rw [List.length_cons] at hn
          by_cases hr : r = []
          · subst hr; simp at hls
          · rw [last_cons 42 r hr] at hls
            exact step .deep r (by omega) hbr hls (firstF_deep r) (firstF_deep (r ++ q))
        · exact step .flat (d :: r) (by omega) hbr hls (firstF_flat _ (by simpa using hd)) (firstF_flat _ (by simpa using hd))
    · rw [List.foldl_cons, brace_plain 63 (by decide) (by decide) 0 (by decide)] at hbr
      refine step .one r (by omega) hbr ?_ (firstF_one r) (firstF_one (r ++ q))
      cases r with
      | nil => simp
      | cons d r => rwa [last_cons 63 (d :: r) (by simp)] at hls
    · rw [List.foldl_cons, show braceN 0 123 = 1 from rfl] at hbr
      obtain ⟨w, r', rfl, hw, hr⟩ := brace_close r hbr
      have hl : (w ++ 125 :: r').length = w.length + (r'.length + 1) := by rw [List.length_append, List.length_cons]
      refine step _ r' (by omega) hr ?_ (firstF_close w r' hw) ?_
      · cases r' with
        | nil => simp
        | cons d r' =>
          intro e
          apply hls
          rw [last_cons 123 _ (by simp), last_append _ _ (by simp), last_cons 125 _ (by simp)]
          exact e
      · rw [show 123 :: (w ++ 125 :: r') ++ q = 123 :: (w ++ 125 :: (r' ++ q)) by simp]
        exact firstF_close w (r' ++ q) hw
    · have hp : firstF (c :: r) = (.plain ⟨((c :: r).takeWhile noMark).toArray⟩, (c :: r).dropWhile noMark) := firstF_plain _ (by intro d hd; simp only [List.head?_cons, Option.some.injEq] at hd; subst hd; exact hc)
      have hpq : firstF (c :: r ++ q) = (.plain ⟨((c :: r ++ q).takeWhile noMark).toArray⟩, (c :: r ++ q).dropWhile noMark) := firstF_plain _ (by intro d hd; rw [List.cons_append, List.head?_cons, Option.some.injEq] at hd; subst hd; exact hc)
      have hall : ∀ d ∈ (c :: r).takeWhile noMark, noMark d = true := fun d hd => List.all_eq_true.1 List.all_takeWhile d hd
      have htd := List.takeWhile_append_dropWhile (p := noMark) (l := c :: r)
      obtain ⟨t, ht⟩ : ∃ t, (c :: r).takeWhile noMark = t := ⟨_, rfl⟩
      obtain ⟨r', hr'⟩ : ∃ r', (c :: r).dropWhile noMark = r' := ⟨_, rfl⟩
      have hlen : r'.length ≤ n := by
        have h := firstF_lt (c :: r) (by simp)
        rw [hp, hr', List.length_cons] at h
        have h2 : r'.length < r.length + 1 := h
        omega
      rw [ht, hr'] at htd hp
      rw [ht] at hall
      cases r' with
      | cons e r' =>
        have he : noMark e = false := by
          have h := List.head?_dropWhile_not noMark (c :: r)
          rw [hr'] at h
          simpa using h
        obtain ⟨k1, k2⟩ := takeWhile_stop noMark t e (r' ++ q) hall he
        refine step _ (e :: r') hlen (brace_behind t (e :: r') hall (by rw [htd]; exact hbr)) ?_ hp ?_
        · intro h
          apply hls
          rw [← htd, last_append _ _ (by simp)]; exact h
        · rw [hpq, show c :: r ++ q = t ++ e :: (r' ++ q) by rw [← htd]; simp, k1, k2]; rfl
      | nil =>
        rw [List.append_nil] at htd
        obtain ⟨k1, k2⟩ := takeWhile_more noMark t q hall
        rw [cutL_cons _ (by simp), hp, cutL_nil, fitsB_one] at ha
        have hat : a = t := by
          unfold Pc.has at ha
          rw [beq_iff_eq] at ha
          exact ha.symm
        rw [cutL_cons _ (by simp), hpq, ← htd, k1, k2, fitsB_cons]
        by_cases hq : ∃ d q', q = d :: q' ∧ noMark d = true
        · obtain ⟨d, q', hq, hd⟩ := hq
          have hqf := firstF_plain q (by intro x hx; rw [hq, List.head?_cons, Option.some.injEq] at hx; subst hx; exact hd)
          rw [cutL_cons q (by rw [hq]; simp), hqf, fitsB_cons] at hb
          obtain ⟨b1, b2, rfl, h6, h7⟩ := hb
          refine ⟨a ++ b1, b2, by simp, ?_, h7⟩
          unfold Pc.has at h6 ⊢
          rw [beq_iff_eq] at h6 ⊢
          rw [hat, ← h6]
        · have hqt : q.takeWhile noMark = [] ∧ q.dropWhile noMark = q := by
            cases q with
            | nil => exact ⟨rfl, rfl⟩
            | cons d q' =>
              have hd : noMark d = false := by
                cases hx : noMark d with
                | false => rfl
                | true => exact absurd ⟨d, q', rfl, hx⟩ hq
              exact ⟨by rw [List.takeWhile_cons, hd]; rfl, by rw [List.dropWhile_cons, hd]; rfl⟩
          rw [hqt.1, hqt.2]
          refine ⟨a, b, rfl, ?_, hb⟩
          unfold Pc.has
          rw [beq_iff_eq, hat]
          simp
theorem match_join (p q a b : List UInt8) (h1 : p.length ≤ 40) (h2 : q.length ≤ 40) (h3 : a.length ≤ 60) (h4 : b.length ≤ 60) (hp : rightL p = true) (hq : rightL q = true) (hs : p.getLast? ≠ some 42) (ha : matchL p a = true) (hb : matchL q b = true) : matchL (p ++ q) (a ++ b) = true := by
  unfold matchL at ha hb ⊢
  rw [Bool.and_eq_true, Bool.and_eq_true] at ha hb ⊢
  unfold rightL bracesL seenL at hp hq ⊢
  rw [Bool.and_eq_true, Bool.and_eq_true, Bool.and_eq_true, beq_iff_eq] at hp hq ⊢
  refine ⟨⟨⟨⟨⟨?_, ?_⟩, ?_⟩, ?_⟩, ?_⟩, fits_join p.length p q a b (Nat.le_refl _) hp.2 hs ha.2 hb.2⟩
  · cases p with
    | nil => exact absurd hp.1.1.1 (by simp)
    | cons _ _ => rfl
  · rw [decide_eq_true_eq, List.length_append]; omega
  · rw [List.all_append, hp.1.2, hq.1.2]; rfl
  · rw [List.foldl_append, hp.2, hq.2]
  · rw [decide_eq_true_eq, List.length_append]; omega

/-! ### Rows of question marks -/
theorem cut_ones : ∀ n : Nat, cutL (List.replicate n 63) = List.replicate n .one
  | 0 => rfl
  | n + 1 => by
    rw [List.replicate_succ, cutL_cons _ (by simp), firstF_one, List.replicate_succ]
    exact congrArg _ (cut_ones n)
theorem fits_ones : ∀ (n : Nat) (s : List UInt8), fitsB (List.replicate n .one) s = true ↔ s.length = n ∧ s.contains 47 = false
  | 0, s => by
    rw [List.replicate_zero, fitsB_nil]
    constructor
    · rintro rfl; exact ⟨rfl, rfl⟩
    · rintro ⟨h, _⟩; exact List.length_eq_zero_iff.1 h
  | n + 1, s => by
    rw [List.replicate_succ, fitsB_cons]
    constructor
    · rintro ⟨a, b, rfl, h1, h2⟩
      obtain ⟨h3, h4⟩ := (fits_ones n b).1 h2
      unfold Pc.has at h1
      rw [Bool.and_eq_true, beq_iff_eq, Bool.not_eq_true'] at h1
      refine ⟨by rw [List.length_append]; omega, ?_⟩
      simp only [List.contains_eq_mem, decide_eq_false_iff_not, List.mem_append, not_or] at h1 h4 ⊢
      exact ⟨h1.2, h4⟩
    · rintro ⟨h1, h2⟩
      cases s with
      | nil => simp at h1
      | cons c s =>
        simp only [List.contains_eq_mem, decide_eq_false_iff_not, List.mem_cons, not_or] at h2
        refine ⟨[c], s, rfl, ?_, (fits_ones n s).2 ⟨by simpa using h1, by simpa using h2.2⟩⟩
        unfold Pc.has
        simpa using h2.1
theorem match_ones (n : Nat) (s : List UInt8) (h1 : 1 ≤ n) (h2 : n ≤ 20) (h3 : s.length ≤ 60) : matchL (List.replicate n 63) s = (s.length == n && !s.contains 47) := by
  have hr : rightL (List.replicate n 63) = true := by
    unfold rightL bracesL seenL
    rw [brace_run _ (fun c hc => by rw [(List.mem_replicate.1 hc).2]; decide) 0 (by decide), List.length_replicate, decide_eq_true (show n ≤ 128 by omega), List.all_eq_true.2 (fun c hc => by rw [(List.mem_replicate.1 hc).2]; rfl)]
    cases n with
    | zero => omega
    | succ n => rfl
  unfold matchL
  rw [hr, decide_eq_true (show s.length ≤ 200 by omega), cut_ones, Bool.true_and, Bool.true_and, Bool.eq_iff_iff, fits_ones, Bool.and_eq_true, beq_iff_eq, Bool.not_eq_true']
end Go.Proofs.YtjohjmoggldfcaaDoor
