/-
  The document's reader as a plain function: the text of a value that may be is read as that value. Conditions: none.
-/
import Derived.Test.YtgkapipiegfmhaaDoorReadPlain
namespace Go.Proofs.YtgkapipiegfmhaaDoor

theorem wordEnd_complete : ∀ (w r : List UInt8), (∀ c ∈ w, c ≠ 34) → wordEnd (w ++ 34 :: r) = some (w, r)
  | [], r, _ => by rw [List.nil_append, wordEnd, if_pos rfl]
  | c :: w, r, h => by
    rw [List.cons_append, wordEnd, if_neg (h c (List.mem_cons_self ..)), wordEnd_complete w r fun x hx => h x (List.mem_cons_of_mem _ hx)]; rfl
theorem wordB_quotes (s : ByteArray) (h : wordB s = true) : ∀ c ∈ s.data.toList, c ≠ 34 := by
  unfold wordB at h
  rw [Bool.and_eq_true] at h
  intro c hc e
  have := List.all_eq_true.1 h.1 c hc
  rw [e] at this
  exact absurd this (by decide)
theorem digit_of (k : Nat) (h : k < 10) : digitC (UInt8.ofNat (48 + k)) = true ∧ (UInt8.ofNat (48 + k)).toNat - 48 = k := by
  have e : (UInt8.ofNat (48 + k)).toNat = 48 + k := by rw [UInt8.toNat_ofNat']; omega
  unfold digitC
  rw [e]
  exact ⟨decide_eq_true (by omega), by omega⟩
theorem digitsL_dec (t : List UInt8) : ∀ n : Nat, n ≤ 1099511627776 → digitsL 0 (Lib.decDigits n ++ t) = digitsL n t := by
  intro n
  induction n using Nat.strongRecOn generalizing t with
  | _ n ih =>
    intro hn
    by_cases h : n < 10
    · obtain ⟨h1, h2⟩ := digit_of n h
      rw [Lib.decDigits_one h, List.cons_append, List.nil_append, digitsL, if_pos h1, if_neg (by omega), h2, Nat.mul_zero, Nat.zero_add]
    · obtain ⟨h1, h2⟩ := digit_of (n % 10) (by omega)
      rw [Lib.decDigits, dif_neg h, List.append_assoc, ih (n / 10) (by omega) _ (by omega), List.cons_append, List.nil_append, digitsL, if_pos h1, if_neg (by omega), h2, show 10 * (n / 10) + n % 10 = n by omega]
theorem dec_head : ∀ n : Nat, ∃ c l, Lib.decDigits n = c :: l ∧ digitC c = true := by
  intro n
  induction n using Nat.strongRecOn with
  | _ n ih =>
    by_cases h : n < 10
    · exact ⟨_, _, Lib.decDigits_one h, (digit_of n h).1⟩
    · obtain ⟨c, l, h1, h2⟩ := ih (n / 10) (by omega)
      exact ⟨c, l ++ [UInt8.ofNat (48 + n % 10)], by rw [Lib.decDigits, dif_neg h, h1, List.cons_append], h2⟩
/-- No digit stands ahead. -/
def Ends (r : List UInt8) : Prop := ∀ c l, r = c :: l → digitC c = false
theorem digitsL_ends (n : Nat) (r : List UInt8) (h : Ends r) : digitsL n r = some (n, r) := by
  cases r with
  | nil => rw [digitsL]
  | cons c l => rw [digitsL, if_neg (by rw [h c l rfl]; decide)]
theorem numberL_complete (n : Int) (h0 : 0 ≤ n) (h1 : n ≤ 1099511627776) (r : List UInt8) (hr : Ends r) : numberL (Lib.itoa n ++ r) = some (.mk 1 n ⟨#[]⟩ [] [], r) := by
  obtain ⟨m, rfl⟩ : ∃ m : Nat, n = m := ⟨n.toNat, by omega⟩
  unfold numberL
  rw [Lib.itoa_nonneg, digitsL_dec r m (by omega), digitsL_ends m r hr]
  obtain ⟨c, l, hd, -⟩ := dec_head m
  simp only
  rw [if_neg]
  · rintro (h | h)
    · rw [hd] at h; simp at h; omega
    · apply h; rw [Lib.itoa_nonneg]; simp

/-- How a text begins. -/
theorem textL_head (k n : Int) (s : ByteArray) (l : List Val) (ns : List ByteArray) (h : OneV k n s l ns) : ∃ c t, textL (.mk k n s l ns) = c :: t ∧ c ≠ 93 ∧ c ≠ 125 := by
  rw [textL_eq]
  split
  · obtain ⟨m, rfl⟩ : ∃ m : Nat, n = m := ⟨n.toNat, by have := h.most.1; omega⟩
    obtain ⟨c, t, hd, hc⟩ := dec_head m
    refine ⟨c, t, by rw [Lib.itoa_nonneg, hd], ?_, ?_⟩ <;> (rintro rfl; exact absurd hc (by decide))
  · split
    · exact ⟨34, _, rfl, by decide, by decide⟩
    · split
      · exact ⟨123, _, rfl, by decide, by decide⟩
      · exact ⟨91, _, rfl, by decide, by decide⟩

theorem itemsL_complete (rd : List UInt8 → Option (Val × List UInt8)) (four : Bool) (en : UInt8) (he : en ≠ 44) (hd : digitC en = false) :
    ∀ (l : List Val) (ns : List ByteArray) (f : Nat) (items : List Val) (names : List ByteArray) (r : List UInt8), l ≠ [] → l.length ≤ f → (four = true → ns.length = l.length) → (four = false → ns = []) → (∀ s ∈ ns, wordB s = true) →
      (∀ x ∈ l, ∀ r, Ends r → rd (textL x ++ r) = some (x, r)) → itemsL rd four en f items names (bodyL four true l ns ++ en :: r) = some (items ++ l, names ++ ns, r)
  | [], _, _, _, _, _, h, _, _, _, _, _ => absurd rfl h
  | _ :: _, _, 0, _, _, _, _, h, _, _, _, _ => absurd h (by simp)
  | x :: l, ns, f + 1, items, names, r, _, hf, h1, h2, hw, hx => by
    have hname : ∀ u, nameL four names ((if four then 34 :: (ns.headD ⟨#[]⟩).data.toList ++ [34, 58] else []) ++ u) = some (names ++ ns.take 1, u) := by
      intro u
      unfold nameL
      cases four with
      | false => rw [h2 rfl]; simp
      | true =>
        cases ns with
        | nil => have := h1 rfl; simp at this
        | cons a ns =>
          have e : (34 :: a.data.toList ++ [34, 58]) ++ u = 34 :: (a.data.toList ++ 34 :: (58 :: u)) := by simp
          simp only [if_true, List.headD_cons]
          rw [e, quoteL, if_pos rfl, wordEnd_complete _ _ (wordB_quotes a (hw a (List.mem_cons_self ..)))]
          simp
    have e1 : ∀ v, bodyL four true (x :: l) ns ++ v = (if four then 34 :: (ns.headD ⟨#[]⟩).data.toList ++ [34, 58] else []) ++ (textL x ++ (bodyL four false l ns.tail ++ v)) := by
      intro v; rw [bodyL_cons]; simp
    rw [e1, itemsL, hname]
    simp only
    cases l with
    | nil =>
      have hns : ns.take 1 = ns := by
        cases four with
        | false => rw [h2 rfl]; rfl
        | true => have := h1 rfl; simp at this; exact List.take_of_length_le (by omega)
      rw [bodyL, List.nil_append, hx x (List.mem_cons_self ..) _ (fun c t e => by cases e; exact hd)]
      simp only
      rw [if_pos trivial, hns]
    | cons y l =>
      rw [bodyL_false, List.cons_append, hx x (List.mem_cons_self ..) _ (fun c t e => by cases e; decide)]
      simp only
      rw [if_neg (Ne.symm he), if_pos trivial, itemsL_complete rd four en he hd (y :: l) ns.tail f _ _ r (by simp) (by simpa using hf) (fun e => by have := h1 e; rw [List.length_tail, this]; rfl) (fun e => by rw [h2 e]; rfl) (fun s hs => hw s (List.mem_of_mem_tail hs)) (fun z hz => hx z (List.mem_cons_of_mem _ hz))]
      have e3 : ns.take 1 ++ ns.tail = ns := by rw [← List.drop_one, List.take_append_drop]
      rw [List.append_assoc, List.append_assoc, e3]; rfl

theorem bytes_nil (s : ByteArray) (h : s.size = 0) : s = ⟨#[]⟩ := ByteArray.ext (Array.eq_empty_of_size_eq_zero h)
theorem readL_complete : ∀ (d : Nat) (T : Val) (r : List UInt8), mayV d T = true → Ends r → readL d (textL T ++ r) = some (T, r)
  | 0, T, _, h, _ => by rw [mayV] at h; cases h
  | d + 1, .mk k n s l ns, r, h, hr => by
    rw [mayV, Bool.and_eq_true, oneV_iff] at h
    obtain ⟨h1, h2⟩ := h
    have h2 : ∀ x ∈ l, mayV d x = true := List.all_eq_true.1 h2
    have hk : k = 1 ∨ k = 2 ∨ k = 3 ∨ k = 4 := by have := h1.kind; omega
    have hrd : ∀ x ∈ l, ∀ r, Ends r → readL d (textL x ++ r) = some (x, r) := fun x hx r hr => readL_complete d x r (h2 x hx) hr
    have hbody : ∀ four en v, en = 93 ∨ en = 125 → l ≠ [] → (bodyL four true l ns ++ v).head? ≠ some en := by
      intro four en v he hl
      cases l with
      | nil => exact absurd rfl hl
      | cons x l =>
        rw [bodyL_cons]
        cases four with
        | true => simp; rcases he with rfl | rfl <;> decide
        | false =>
          have hox : ∃ c t, textL x = c :: t ∧ c ≠ 93 ∧ c ≠ 125 := by
            have hm := h2 x (List.mem_cons_self ..)
            cases d with
            | zero => rw [mayV] at hm; cases hm
            | succ d =>
              cases x with
              | mk k n s l ns =>
                rw [mayV, Bool.and_eq_true, oneV_iff] at hm
                exact textL_head k n s l ns hm.1
          obtain ⟨c, t, ht, c1, c2⟩ := hox
          rw [ht]
          simp
          rcases he with rfl | rfl
          · exact c1
          · exact c2
    rcases hk with rfl | rfl | rfl | rfl
    · have es := bytes_nil s (h1.word.resolve_left (by decide))
      have el : l = [] := List.length_eq_zero_iff.1 (h1.items.resolve_left (by decide))
      have en : ns = [] := List.length_eq_zero_iff.1 (h1.names.resolve_left (by decide))
      subst es el en
      have hn := numberL_complete n h1.most.1 h1.most.2 r hr
      rw [textL_eq, if_pos rfl]
      obtain ⟨m, rfl⟩ : ∃ m : Nat, n = m := ⟨n.toNat, by have := h1.most.1; omega⟩
      rw [Lib.itoa_nonneg] at hn ⊢
      obtain ⟨c, t, hd, hc⟩ := dec_head m
      rw [hd, List.cons_append] at hn ⊢
      rw [readL, if_neg (by rintro rfl; exact absurd hc (by decide)), if_pos ⟨by rintro rfl; exact absurd hc (by decide), by rintro rfl; exact absurd hc (by decide)⟩, hn]
    · have en0 : n = 0 := h1.num.resolve_left (by decide)
      have el : l = [] := List.length_eq_zero_iff.1 (h1.items.resolve_left (by decide))
      have en : ns = [] := List.length_eq_zero_iff.1 (h1.names.resolve_left (by decide))
      subst en0 el en
      rw [textL_eq, if_neg (by decide), if_pos rfl, List.cons_append, List.cons_append, readL, if_pos rfl, List.append_assoc, List.cons_append, List.nil_append, wordEnd_complete _ _ (wordB_quotes s h1.isWord)]
      simp
    · have en0 : n = 0 := h1.num.resolve_left (by decide)
      have es := bytes_nil s (h1.word.resolve_left (by decide))
      have en : ns = [] := List.length_eq_zero_iff.1 (h1.names.resolve_left (by decide))
      subst en0 es en
      rw [textL_eq, if_neg (by decide), if_neg (by decide), if_neg (by decide), List.cons_append, List.cons_append, List.append_assoc, List.cons_append, List.nil_append, readL, if_neg (by decide), if_neg (by decide)]
      by_cases hl : l = []
      · subst hl; rw [bodyL]; rfl
      · have e9 : (if (91 : UInt8) = 123 then (125 : UInt8) else 93) = 93 := rfl
        rw [e9, if_neg (hbody _ _ _ (Or.inl rfl) hl)]
        have := itemsL_complete (readL d) false 93 (by decide) (by decide) l [] 17 [] [] r hl (by have := h1.few; omega) (by simp) (by simp) (by simp) hrd
        show (itemsL (readL d) false 93 17 [] [] _).map _ = _
        rw [this]; rfl
    · have en0 : n = 0 := h1.num.resolve_left (by decide)
      have es := bytes_nil s (h1.word.resolve_left (by decide))
      subst en0 es
      rw [textL_eq, if_neg (by decide), if_neg (by decide), if_pos rfl, List.cons_append, List.cons_append, List.append_assoc, List.cons_append, List.nil_append, readL, if_neg (by decide), if_neg (by decide)]
      by_cases hl : l = []
      · subst hl
        have en : ns = [] := List.length_eq_zero_iff.1 (h1.same rfl)
        subst en
        rw [bodyL]; rfl
      · have e9 : (if (123 : UInt8) = 123 then (125 : UInt8) else 93) = 125 := rfl
        rw [e9, if_neg (hbody _ _ _ (Or.inr rfl) hl)]
        have := itemsL_complete (readL d) true 125 (by decide) (by decide) l ns 17 [] [] r hl (by have := h1.few; omega) (fun _ => h1.same rfl) (by simp) (risesL_words _ _ h1.rises) hrd
        show (itemsL (readL d) true 125 17 [] [] _).map _ = _
        rw [this]; rfl

/-- A text is read as a value that may be just if it is that value's text. -/
theorem readL_iff (d : Nat) (s : List UInt8) (T : Val) (hT : mayV d T = true) : readL d s = some (T, []) ↔ s = textL T := by
  constructor
  · intro h; have := readL_sound d s T [] h; rwa [List.append_nil] at this
  · rintro rfl
    have := readL_complete d T [] hT (fun c l e => by cases e)
    rwa [List.append_nil] at this
/-- Two values that may be have one text just if they are one. -/
theorem textL_inj (T U : Val) (hT : mayV 6 T = true) (hU : mayV 6 U = true) (h : textL T = textL U) : T = U := by
  have h1 := (readL_iff 6 (textL T) T hT).2 rfl
  have h2 := (readL_iff 6 (textL T) U hU).2 h
  rw [h1] at h2
  simpa using h2
end Go.Proofs.YtgkapipiegfmhaaDoor
