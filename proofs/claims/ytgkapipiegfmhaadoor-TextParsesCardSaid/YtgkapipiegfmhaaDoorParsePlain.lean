/-
  The program's reader as a plain function: what is read is the text's value, and the text of a value that may be is read. Conditions: none.
-/
import Derived.Test.YtgkapipiegfmhaaDoorReadPlain2
import Derived.Lib.AtoiAll
namespace Go.Proofs.YtgkapipiegfmhaaDoor

/-- The number of the digits ahead, written as it must be, that an int holds. -/
def wholeL (s : List UInt8) : Option (Val × List UInt8) :=
  match Lib.atoiAll (s.takeWhile digitC) with
  | .ok n => if Lib.itoa n = s.takeWhile digitC then some (.mk 1 n ⟨#[]⟩ [] [], s.dropWhile digitC) else none
  | Lib.NumEnd.syntax => none
  | .range => none
def parseL : Nat → List UInt8 → Option (Val × List UInt8)
  | 0, _ => none
  | _ + 1, [] => none
  | d + 1, c :: l =>
    if c = 34 then (wordEnd l).map fun p => (.mk 2 0 ⟨p.1.toArray⟩ [] [], p.2)
    else if c ≠ 91 ∧ c ≠ 123 then wholeL (c :: l)
    else if l.head? = some (if c = 123 then 125 else 93) then some (.mk (if c = 123 then 4 else 3) 0 ⟨#[]⟩ [] [], l.tail)
    else (itemsL (parseL d) (c == 123) (if c = 123 then 125 else 93) (l.length + 1) [] [] l).map fun p => (.mk (if c = 123 then 4 else 3) 0 ⟨#[]⟩ p.1 p.2.1, p.2.2)

theorem wholeL_sound (s : List UInt8) (T : Val) (r : List UInt8) (h : wholeL s = some (T, r)) : s = textL T ++ r := by
  unfold wholeL at h
  split at h
  · split at h
    · rename_i n _ e
      simp only [Option.some.injEq, Prod.mk.injEq] at h
      obtain ⟨rfl, rfl⟩ := h
      rw [textL_eq, if_pos rfl, e, List.takeWhile_append_dropWhile]
    · cases h
  · cases h
  · cases h
theorem parseL_sound : ∀ (d : Nat) (s : List UInt8) (T : Val) (r : List UInt8), parseL d s = some (T, r) → s = textL T ++ r
  | 0, _, _, _, h => by rw [parseL] at h; cases h
  | _ + 1, [], _, _, h => by rw [parseL] at h; cases h
  | d + 1, c :: l, T, r, h => by
    rw [parseL] at h
    split at h
    · rename_i hc
      simp only [Option.map_eq_some_iff, Prod.mk.injEq] at h
      obtain ⟨p, hp, rfl, rfl⟩ := h
      rw [textL_eq, if_neg (by decide), if_pos rfl, wordEnd_sound l p.1 p.2 hp, hc]; simp
    · split at h
      · exact wholeL_sound _ _ _ h
      · rename_i hc
        have hcc : c = 123 ∨ c = 91 := by
          by_cases e : c = 123
          · exact Or.inl e
          · exact Or.inr (Classical.byContradiction fun e2 => hc ⟨e2, e⟩)
        obtain ⟨en, hen⟩ : ∃ e, (if c = 123 then (125 : UInt8) else 93) = e := ⟨_, rfl⟩
        obtain ⟨K, hK⟩ : ∃ e, (if c = 123 then (4 : Int) else 3) = e := ⟨_, rfl⟩
        rw [hen, hK] at h
        split at h
        · rename_i hl
          simp only [Option.some.injEq, Prod.mk.injEq] at h
          obtain ⟨rfl, rfl⟩ := h
          cases l with
          | nil => simp at hl
          | cons a l =>
            simp only [List.head?_cons, Option.some.injEq] at hl
            subst hl
            rcases hcc with rfl | rfl
            · obtain rfl : K = 4 := by rw [← hK]; rfl
              rw [textL_eq, ← hen]; simp [bodyL]
            · obtain rfl : K = 3 := by rw [← hK]; rfl
              rw [textL_eq, ← hen]; simp [bodyL]
        · simp only [Option.map_eq_some_iff, Prod.mk.injEq] at h
          obtain ⟨⟨I, N, r'⟩, hp, rfl, rfl⟩ := h
          obtain ⟨x, l', ns, hI, hN, hr, -, -⟩ := itemsL_sound (parseL d) _ _ (fun s x r h => parseL_sound d s x r h) _ [] [] l I N r' hp
          simp only [List.nil_append] at hI hN
          subst hI hN
          rcases hcc with rfl | rfl
          · obtain rfl : K = 4 := by rw [← hK]; rfl
            rw [textL_eq, hr, ← hen]; simp
          · obtain rfl : K = 3 := by rw [← hK]; rfl
            rw [textL_eq, hr, ← hen]; simp

theorem digitC_iff (c : UInt8) : digitC c = true ↔ 48 ≤ c.toNat ∧ c.toNat ≤ 57 := by unfold digitC; exact decide_eq_true_iff
theorem parseUint10_dec (t : List UInt8) : ∀ n : Nat, n ≤ 1099511627776 → Lib.parseUint10 0 (Lib.decDigits n ++ t) = Lib.parseUint10 n t := by
  intro n
  induction n using Nat.strongRecOn generalizing t with
  | _ n ih =>
    intro hn
    by_cases h : n < 10
    · obtain ⟨h1, h2⟩ := digit_of n h
      rw [Lib.decDigits_one h, List.cons_append, List.nil_append, Lib.parseUint10, if_pos ((digitC_iff _).1 h1), if_neg (by omega), h2, if_neg (by omega), Nat.zero_mul, Nat.zero_add]
    · obtain ⟨h1, h2⟩ := digit_of (n % 10) (by omega)
      rw [Lib.decDigits, dif_neg h, List.append_assoc, ih (n / 10) (by omega) _ (by omega), List.cons_append, List.nil_append, Lib.parseUint10, if_pos ((digitC_iff _).1 h1), if_neg (by omega), h2, if_neg (by omega), show n / 10 * 10 + n % 10 = n by omega]
theorem dec_digits : ∀ n : Nat, ∀ c ∈ Lib.decDigits n, digitC c = true := by
  intro n
  induction n using Nat.strongRecOn with
  | _ n ih =>
    intro c hc
    by_cases h : n < 10
    · rw [Lib.decDigits_one h] at hc
      obtain rfl := List.mem_singleton.1 hc
      exact (digit_of n h).1
    · rw [Lib.decDigits, dif_neg h, List.mem_append] at hc
      rcases hc with hc | hc
      · exact ih (n / 10) (by omega) c hc
      · obtain rfl := List.mem_singleton.1 hc
        exact (digit_of (n % 10) (by omega)).1
theorem atoiAll_dec (n : Nat) (hn : n ≤ 1099511627776) : Lib.atoiAll (Lib.decDigits n) = .ok n := by
  obtain ⟨c, l, hd, hc⟩ := dec_head n
  have hu := parseUint10_dec [] n hn
  rw [List.append_nil, hd, show Lib.parseUint10 n [] = .ok n from rfl] at hu
  have h1 := (digitC_iff c).1 hc
  have hm : Lib.parseMag (c :: l) = .ok n := by unfold Lib.parseMag; rw [if_neg (by simp)]; exact hu
  rw [hd]
  unfold Lib.atoiAll
  simp only
  rw [if_neg (by omega), hm]
  simp only
  rw [if_neg (by omega), if_neg (by omega), if_neg (by omega)]
theorem takeWhile_ends (p : List UInt8) (r : List UInt8) (hp : ∀ c ∈ p, digitC c = true) (hr : Ends r) : (p ++ r).takeWhile digitC = p ∧ (p ++ r).dropWhile digitC = r := by
  have e1 : r.takeWhile digitC = [] ∧ r.dropWhile digitC = r := by
    cases r with
    | nil => exact ⟨rfl, rfl⟩
    | cons c l =>
      have := hr c l rfl
      exact ⟨by rw [List.takeWhile_cons, this]; rfl, by rw [List.dropWhile_cons, this]; rfl⟩
  constructor
  · rw [List.takeWhile_append_of_pos hp, e1.1, List.append_nil]
  · rw [List.dropWhile_append_of_pos hp, e1.2]
theorem wholeL_complete (n : Int) (h0 : 0 ≤ n) (h1 : n ≤ 1099511627776) (r : List UInt8) (hr : Ends r) : wholeL (Lib.itoa n ++ r) = some (.mk 1 n ⟨#[]⟩ [] [], r) := by
  obtain ⟨m, rfl⟩ : ∃ m : Nat, n = m := ⟨n.toNat, by omega⟩
  obtain ⟨e1, e2⟩ := takeWhile_ends (Lib.decDigits m) r (dec_digits m) hr
  unfold wholeL
  rw [Lib.itoa_nonneg, e1, e2, atoiAll_dec m (by omega)]
  simp only
  rw [Lib.itoa_nonneg, if_pos rfl]

theorem bodyL_long (four : Bool) : ∀ (first : Bool) (l : List Val) (ns : List ByteArray), (∀ x ∈ l, textL x ≠ []) → l.length ≤ (bodyL four first l ns).length
  | _, [], _, _ => Nat.zero_le _
  | first, x :: l, ns, h => by
    have h1 := bodyL_long four false l ns.tail fun y hy => h y (List.mem_cons_of_mem _ hy)
    have h2 := List.length_pos_iff.2 (h x (List.mem_cons_self ..))
    rw [bodyL_cons, List.length_append, List.length_append, List.length_cons]
    omega
theorem parseL_complete : ∀ (d : Nat) (T : Val) (r : List UInt8), mayV d T = true → Ends r → parseL d (textL T ++ r) = some (T, r)
  | 0, T, _, h, _ => by rw [mayV] at h; cases h
  | d + 1, .mk k n s l ns, r, h, hr => by
    rw [mayV, Bool.and_eq_true, oneV_iff] at h
    obtain ⟨h1, h2⟩ := h
    have h2 : ∀ x ∈ l, mayV d x = true := List.all_eq_true.1 h2
    have hk : k = 1 ∨ k = 2 ∨ k = 3 ∨ k = 4 := by have := h1.kind; omega
    have hrd : ∀ x ∈ l, ∀ r, Ends r → parseL d (textL x ++ r) = some (x, r) := fun x hx r hr => parseL_complete d x r (h2 x hx) hr
    have hox : ∀ x ∈ l, ∃ c t, textL x = c :: t ∧ c ≠ 93 ∧ c ≠ 125 := by
      intro x hx
      have hm := h2 x hx
      cases d with
      | zero => rw [mayV] at hm; cases hm
      | succ d =>
        cases x with
        | mk k n s l ns =>
          rw [mayV, Bool.and_eq_true, oneV_iff] at hm
          exact textL_head k n s l ns hm.1
    have hbody : ∀ four en v, en = 93 ∨ en = 125 → l ≠ [] → (bodyL four true l ns ++ v).head? ≠ some en := by
      intro four en v he hl
      cases l with
      | nil => exact absurd rfl hl
      | cons x l =>
        rw [bodyL_cons]
        cases four with
        | true => simp; rcases he with rfl | rfl <;> decide
        | false =>
          obtain ⟨c, t, ht, c1, c2⟩ := hox x (List.mem_cons_self ..)
          rw [ht]
          simp
          rcases he with rfl | rfl
          · exact c1
          · exact c2
    have hlen : ∀ four (u : List UInt8), l.length ≤ (bodyL four true l ns ++ u).length + 1 := fun four u => by
      have := bodyL_long four true l ns fun x hx => by obtain ⟨c, t, ht, -⟩ := hox x hx; rw [ht]; simp
      rw [List.length_append]; omega
    rcases hk with rfl | rfl | rfl | rfl
    · have es := bytes_nil s (h1.word.resolve_left (by decide))
      have el : l = [] := List.length_eq_zero_iff.1 (h1.items.resolve_left (by decide))
      have en : ns = [] := List.length_eq_zero_iff.1 (h1.names.resolve_left (by decide))
      subst es el en
      have hn := wholeL_complete n h1.most.1 h1.most.2 r hr
      rw [textL_eq, if_pos rfl]
      obtain ⟨m, rfl⟩ : ∃ m : Nat, n = m := ⟨n.toNat, by have := h1.most.1; omega⟩
      rw [Lib.itoa_nonneg] at hn ⊢
      obtain ⟨c, t, hd, hc⟩ := dec_head m
      rw [hd, List.cons_append] at hn ⊢
      rw [parseL, if_neg (by rintro rfl; exact absurd hc (by decide)), if_pos ⟨by rintro rfl; exact absurd hc (by decide), by rintro rfl; exact absurd hc (by decide)⟩, hn]
    · have en0 : n = 0 := h1.num.resolve_left (by decide)
      have el : l = [] := List.length_eq_zero_iff.1 (h1.items.resolve_left (by decide))
      have en : ns = [] := List.length_eq_zero_iff.1 (h1.names.resolve_left (by decide))
      subst en0 el en
      rw [textL_eq, if_neg (by decide), if_pos rfl, List.cons_append, List.cons_append, parseL, if_pos rfl, List.append_assoc, List.cons_append, List.nil_append, wordEnd_complete _ _ (wordB_quotes s h1.isWord)]
      simp
    · have en0 : n = 0 := h1.num.resolve_left (by decide)
      have es := bytes_nil s (h1.word.resolve_left (by decide))
      have en : ns = [] := List.length_eq_zero_iff.1 (h1.names.resolve_left (by decide))
      subst en0 es en
      rw [textL_eq, if_neg (by decide), if_neg (by decide), if_neg (by decide), List.cons_append, List.cons_append, List.append_assoc, List.cons_append, List.nil_append, parseL, if_neg (by decide), if_neg (by decide)]
      by_cases hl : l = []
      · subst hl; rw [bodyL]; rfl
      · have e9 : (if (91 : UInt8) = 123 then (125 : UInt8) else 93) = 93 := rfl
        rw [e9, if_neg (hbody _ _ _ (Or.inl rfl) hl)]
        have := itemsL_complete (parseL d) false 93 (by decide) (by decide) l [] _ [] [] r hl (hlen false (93 :: r)) (by simp) (by simp) (by simp) hrd
        show (itemsL (parseL d) false 93 _ [] [] _).map _ = _
        rw [this]; rfl
    · have en0 : n = 0 := h1.num.resolve_left (by decide)
      have es := bytes_nil s (h1.word.resolve_left (by decide))
      subst en0 es
      rw [textL_eq, if_neg (by decide), if_neg (by decide), if_pos rfl, List.cons_append, List.cons_append, List.append_assoc, List.cons_append, List.nil_append, parseL, if_neg (by decide), if_neg (by decide)]
      by_cases hl : l = []
      · subst hl
        have en : ns = [] := List.length_eq_zero_iff.1 (h1.same rfl)
        subst en
        rw [bodyL]; rfl
      · have e9 : (if (123 : UInt8) = 123 then (125 : UInt8) else 93) = 125 := rfl
        rw [e9, if_neg (hbody _ _ _ (Or.inr rfl) hl)]
        have := itemsL_complete (parseL d) true 125 (by decide) (by decide) l ns _ [] [] r hl (hlen true (125 :: r)) (fun _ => h1.same rfl) (by simp) (risesL_words _ _ h1.rises) hrd
        show (itemsL (parseL d) true 125 _ [] [] _).map _ = _
        rw [this]; rfl

/-! ### The depth counted down does not matter, if it is enough -/
theorem itemsL_congr (rd rd' : List UInt8 → Option (Val × List UInt8)) (four : Bool) (en : UInt8) : ∀ (f : Nat) (items : List Val) (names : List ByteArray) (s : List UInt8),
    (∀ s' : List UInt8, s'.length ≤ s.length → rd s' = rd' s') → (∀ s' x r, rd s' = some (x, r) → r.length ≤ s'.length) → itemsL rd four en f items names s = itemsL rd' four en f items names s
  | 0, _, _, _, _, _ => by rw [itemsL, itemsL]
  | f + 1, items, names, s, h, hl => by
    rw [itemsL, itemsL]
    cases hn : nameL four names s with
    | none => rfl
    | some p =>
      obtain ⟨names', s'⟩ := p
      have hs' : s'.length ≤ s.length := by
        unfold nameL at hn
        split at hn
        · split at hn
          · rename_i k c r' hq
            split at hn
            · simp only [Option.some.injEq, Prod.mk.injEq] at hn
              obtain ⟨-, rfl⟩ := hn
              cases s with
              | nil => rw [quoteL] at hq; cases hq
              | cons a s =>
                rw [quoteL] at hq
                split at hq
                · have := wordEnd_sound s k _ hq
                  rw [this]; simp; omega
                · cases hq
            · cases hn
          · cases hn
        · simp only [Option.some.injEq, Prod.mk.injEq] at hn
          rw [hn.2]; exact Nat.le_refl _
      simp only
      rw [← h s' hs']
      cases hx : rd s' with
      | none => rfl
      | some q =>
        obtain ⟨x, r⟩ := q
        cases r with
        | nil => rfl
        | cons c r =>
          have hr := hl s' x _ hx
          simp only
          split
          · rfl
          · split
            · exact itemsL_congr rd rd' four en f _ _ r (fun u hu => h u (by simp at hr; omega)) hl
            · rfl
theorem parseL_enough : ∀ (n : Nat) (s : List UInt8), s.length ≤ n → ∀ d, n < d → parseL d s = parseL (n + 1) s
  | n, [], _, d, hd => by
    cases d with
    | zero => omega
    | succ d => rw [parseL, parseL]
  | 0, c :: l, h, _, _ => by simp at h
  | n + 1, c :: l, h, d, hd => by
    cases d with
    | zero => omega
    | succ d =>
      have hll : l.length ≤ n := by simpa using h
      rw [parseL, parseL]
      rw [itemsL_congr (parseL d) (parseL (n + 1)) _ _ _ [] [] l (fun s' hs' => parseL_enough n s' (by omega) d (by omega)) (fun s' x r hx => by
        have := parseL_sound d s' x r hx
        rw [this]; simp)]

theorem itemsL_mono (rd rd' : List UInt8 → Option (Val × List UInt8)) (four : Bool) (en : UInt8) (h : ∀ s p, rd s = some p → rd' s = some p) : ∀ (f : Nat) (items : List Val) (names : List ByteArray) (s : List UInt8) (q : List Val × List ByteArray × List UInt8),
    itemsL rd four en f items names s = some q → itemsL rd' four en f items names s = some q
  | 0, _, _, _, _, hq => by rw [itemsL] at hq; cases hq
  | f + 1, items, names, s, q, hq => by
    rw [itemsL] at hq ⊢
    cases hn : nameL four names s with
    | none => rw [hn] at hq; cases hq
    | some p =>
      obtain ⟨names', s'⟩ := p
      rw [hn] at hq
      simp only at hq ⊢
      cases hx : rd s' with
      | none => rw [hx] at hq; cases hq
      | some u =>
        rw [hx] at hq
        rw [h s' u hx]
        obtain ⟨x, r⟩ := u
        cases r with
        | nil => cases hq
        | cons c r =>
          simp only at hq ⊢
          by_cases hc : c = en
          · rw [if_pos hc] at hq ⊢; exact hq
          · rw [if_neg hc] at hq ⊢
            by_cases hc2 : c = 44
            · rw [if_pos hc2] at hq ⊢
              exact itemsL_mono rd rd' four en h f _ _ r q hq
            · rw [if_neg hc2] at hq; cases hq
theorem parseL_mono : ∀ (d : Nat) (s : List UInt8) (p : Val × List UInt8), parseL d s = some p → parseL (d + 1) s = some p
  | 0, _, _, h => by rw [parseL] at h; cases h
  | _ + 1, [], _, h => by rw [parseL] at h; cases h
  | d + 1, c :: l, p, h => by
    rw [parseL] at h ⊢
    split
    · rename_i h1; rw [if_pos h1] at h; exact h
    · rename_i h1
      rw [if_neg h1] at h
      split
      · rename_i h2; rw [if_pos h2] at h; exact h
      · rename_i h2
        rw [if_neg h2] at h
        generalize (if c = 123 then (125 : UInt8) else 93) = en at h ⊢
        generalize (if c = 123 then (4 : Int) else 3) = K at h ⊢
        by_cases h3 : l.head? = some en
        · rw [if_pos h3] at h ⊢; exact h
        · rw [if_neg h3] at h ⊢
          rw [Option.map_eq_some_iff] at h ⊢
          obtain ⟨q, hq, hp⟩ := h
          exact ⟨q, itemsL_mono _ _ _ _ (fun s p hs => parseL_mono d s p hs) _ _ _ _ _ hq, hp⟩
theorem parseL_up (d k : Nat) (s : List UInt8) (p : Val × List UInt8) (h : parseL d s = some p) : parseL (d + k) s = some p := by
  induction k with
  | zero => exact h
  | succ k ih => exact parseL_mono _ _ _ ih

/-- The value that a text is of. -/
def parseV (s : ByteArray) : Option Val :=
  match parseL (s.size + 1) s.data.toList with
  | some (T, []) => if mayV 6 T then some T else none
  | _ => none
theorem parseV_iff (s : ByteArray) (T : Val) : parseV s = some T ↔ mayV 6 T = true ∧ textL T = s.data.toList := by
  have key : ∀ T, mayV 6 T = true → textL T = s.data.toList → parseL (s.size + 1) s.data.toList = some (T, []) := by
    intro T hm ht
    have h1 := parseL_complete 6 T [] hm (fun c l e => by cases e)
    rw [List.append_nil, ht] at h1
    have hs := Lib.size_eq s
    by_cases h6 : s.size < 6
    · rw [← parseL_enough s.size s.data.toList (by omega) 6 h6]; exact h1
    · have h2 := parseL_up 6 (s.size - 5) _ _ h1
      rw [show 6 + (s.size - 5) = s.size + 1 by omega] at h2
      exact h2
  unfold parseV
  constructor
  · intro h
    split at h
    · rename_i T' he
      split at h
      · rename_i hm
        obtain rfl := Option.some.inj h
        have := parseL_sound _ _ _ _ he
        rw [List.append_nil] at this
        exact ⟨hm, this.symm⟩
      · cases h
    · cases h
  · rintro ⟨hm, ht⟩
    rw [key T hm ht]
    simp only
    rw [if_pos hm]
end Go.Proofs.YtgkapipiegfmhaaDoor
