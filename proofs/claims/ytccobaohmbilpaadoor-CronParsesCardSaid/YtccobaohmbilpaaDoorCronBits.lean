/-
  Bits of a schedule's field as the program sets them, and a field as it reads one: it is as the document says. Conditions: none. It names nothing of the translation.
-/
import Derived.Test.YtccobaohmbilpaaDoorCronPart
namespace Go.Proofs.YtccobaohmbilpaaDoor

theorem bitB_test (n k : Nat) : bitB n k = n.testBit k := by
  unfold bitB
  rw [Nat.testBit_eq_decide_div_mod_eq, Bool.eq_iff_iff, beq_iff_eq, decide_eq_true_eq]
theorem test_bitsOf (f : Nat → Bool) (k i : Nat) : (bitsOf f k).testBit i = (decide (i < k) && f i) := by rw [← bitB_test, bitB_bitsOf]
theorem or_pow {s n : Nat} (h : s < 2 ^ n) : s ||| 2 ^ n = s + 2 ^ n := by
  have := Nat.two_pow_add_eq_or_of_lt h 1
  rw [Nat.mul_one, Nat.or_comm] at this
  omega
/-- No value hits between. -/
theorem bitsOf_skip (f : Nat → Bool) (n : Nat) : ∀ k, (∀ i, n ≤ i → i < n + k → f i = false) → bitsOf f (n + k) = bitsOf f n
  | 0, _ => rfl
  | k + 1, h => by
    rw [← Nat.add_assoc, bitsOf, h (n + k) (by omega) (by omega), bitsOf_skip f n k fun i h1 h2 => h i h1 (by omega)]
    rfl
theorem hit_at (a b k j : Nat) (h : a + j * k ≤ b) : hitP (a, b, k) (a + j * k) = true := by
  unfold hitP
  simp only [Bool.and_eq_true, decide_eq_true_eq, beq_iff_eq]
  refine ⟨⟨Nat.le_add_right _ _, h⟩, ?_⟩
  rw [Nat.add_sub_cancel_left]
  exact Nat.mul_mod_left j k
theorem hit_no (a b k j i : Nat) (h1 : a + j * k < i) (h2 : i < a + (j + 1) * k) : hitP (a, b, k) i = false := by
  unfold hitP
  rw [Bool.and_eq_false_iff]
  right
  rw [beq_eq_false_iff_ne]
  obtain ⟨d, hd⟩ : ∃ d, i = a + (j * k + d) := ⟨i - a - j * k, by omega⟩
  rw [Nat.succ_mul] at h2
  show (i - a) % k ≠ 0
  rw [hd, Nat.add_sub_cancel_left, Nat.add_comm, Nat.add_mul_mod_self_right, Nat.mod_eq_of_lt (by omega)]
  omega
/-- One round of a set: the bit of n, and k further. -/
theorem set_round (a b k j : Nat) (hk : 1 ≤ k) (h : a + j * k ≤ b) :
    bitsOf (fun v => hitP (a, b, k) v) (a + j * k) ||| 2 ^ (a + j * k) = bitsOf (fun v => hitP (a, b, k) v) (a + (j + 1) * k) := by
  rw [or_pow (bitsOf_lt _ _)]
  have e : a + (j + 1) * k = (a + j * k + 1) + (k - 1) := by rw [Nat.succ_mul]; omega
  have hs := bitsOf_skip (fun v => hitP (a, b, k) v) (a + j * k + 1) (k - 1) fun i h1 h2 => hit_no a b k j i (by omega) (by rw [Nat.succ_mul]; omega)
  rw [e, hs, bitsOf, hit_at a b k j h, if_pos rfl]
theorem set_first (a b k : Nat) : bitsOf (fun v => hitP (a, b, k) v) a = 0 := by
  have := bitsOf_skip (fun v => hitP (a, b, k) v) 0 a fun i _ h2 => by unfold hitP; simp; omega
  rw [Nat.zero_add] at this
  rw [this]; rfl
theorem set_last (a b k n : Nat) (h : b < n) : bitsOf (fun v => hitP (a, b, k) v) n = setN a b k := by
  unfold setN
  have := bitsOf_skip (fun v => hitP (a, b, k) v) (b + 1) (n - (b + 1)) fun i h1 _ => by unfold hitP; simp; omega
  rw [← this]; congr 1; omega
theorem setN_lt (a b k : Nat) (h : b < 64) : setN a b k < 18446744073709551616 := Nat.lt_of_lt_of_le (bitsOf_lt _ _) (Nat.pow_le_pow_right (by decide : 0 < 2) (show b + 1 ≤ 64 by omega))
theorem test_setN (a b k i : Nat) : (setN a b k).testBit i = hitP (a, b, k) i := by
  unfold setN
  rw [test_bitsOf]
  cases h : hitP (a, b, k) i with
  | false => simp
  | true =>
    unfold hitP at h
    simp only [Bool.and_eq_true, decide_eq_true_eq] at h
    simp; omega
theorem partL_in {s : List UInt8} {low high a b k : Nat} (h : partL s low high = some (a, b, k)) (hlh : low ≤ high) : low ≤ a ∧ a ≤ b ∧ b ≤ high ∧ 1 ≤ k := by
  have hr : ∀ {x : List UInt8} {p q : Nat}, rangeL x low high = some (p, q) → low ≤ p ∧ p ≤ q ∧ q ≤ high := fun {x p q} e => by
    unfold rangeL at e
    split at e
    · injection e with e; injection e with e1 e2; subst e1; subst e2; exact ⟨Nat.le_refl _, hlh, Nat.le_refl _⟩
    · cases h1 : numberL ((goC 45 [] x).headD []) low high <;> cases h2 : numberL ((goC 45 [] x).getLastD []) low high <;> rw [h1, h2] at e <;> simp only [rangeOf] at e
      · cases e
      · cases e
      · cases e
      · split at e
        · rename_i hc
          injection e with e; injection e with e1 e2; subst e1; subst e2
          exact ⟨(numberL_le h1).1, hc.2, (numberL_le h2).2⟩
        · cases e
  unfold partL at h
  split at h
  · cases h
  · rename_i p q hpq
    obtain ⟨g1, g2, g3⟩ := hr hpq
    split at h
    · injection h with h; injection h with e1 h; injection h with e2 e3; subst e1; subst e2; subst e3
      exact ⟨g1, g2, g3, Nat.le_refl _⟩
    · split at h
      · rename_i k' hk
        split at h
        · injection h with h; injection h with e1 h; injection h with e2 e3; subst e1; subst e2; subst e3
          exact ⟨g1, g2, g3, (numberL_le hk).1⟩
        · cases h
      · cases h
    · cases h
theorem partS_lt {s : List UInt8} {low high n : Nat} (h : partS s low high = some n) (hlh : low ≤ high) (hh : high < 64) : n < 18446744073709551616 := by
  rw [partS_eq] at h
  cases hp : partL s low high with
  | none => rw [hp] at h; cases h
  | some p =>
    obtain ⟨a, b, k⟩ := p
    rw [hp] at h
    injection h with h
    subst h
    have := partL_in hp hlh
    exact setN_lt a b k (by omega)
/-- All bits of some. -/
def orL (l : List Nat) : Nat := l.foldl (· ||| ·) 0
theorem orL_snoc (l : List Nat) (n : Nat) : orL (l ++ [n]) = orL l ||| n := by unfold orL; rw [List.foldl_append]; rfl
theorem test_orL (l : List Nat) (i : Nat) : (orL l).testBit i = l.any fun n => n.testBit i := by
  have go : ∀ (l : List Nat) (a : Nat), (l.foldl (· ||| ·) a).testBit i = (a.testBit i || l.any fun n => n.testBit i) := fun l => by
    induction l with
    | nil => intro a; simp
    | cons n l ih => intro a; rw [List.foldl_cons, ih, Nat.testBit_or, List.any_cons, Bool.or_assoc]
  unfold orL
  rw [go, Nat.zero_testBit, Bool.false_or]
theorem orL_lt (l : List Nat) (h : ∀ n ∈ l, n < 18446744073709551616) : orL l < 18446744073709551616 := by
  have go : ∀ (l : List Nat) (a : Nat), a < 2 ^ 64 → (∀ n ∈ l, n < 2 ^ 64) → l.foldl (· ||| ·) a < 2 ^ 64 := fun l => by
    induction l with
    | nil => intro a h _; exact h
    | cons n l ih => intro a h hl; exact ih _ (Nat.or_lt_two_pow h (hl n (by simp))) fun m hm => hl m (by simp [hm])
  exact go l 0 (by decide) h
theorem allSome_map {α β : Type} (g : α → β) : ∀ l : List (Option α), allSome (l.map (Option.map g)) = (allSome l).map (List.map g)
  | [] => rfl
  | none :: l => rfl
  | some a :: l => by
    show (match allSome (l.map (Option.map g)) with | some r => some (g a :: r) | none => none) = (match allSome l with | some r => some (a :: r) | none => none).map (List.map g)
    rw [allSome_map g l]
    cases allSome l <;> rfl
theorem allSome_mem {α : Type} : ∀ {l : List (Option α)} {r : List α}, allSome l = some r → ∀ x ∈ r, some x ∈ l
  | [], r, h, x, hx => by injection h with h; subst h; cases hx
  | none :: l, r, h, x, hx => by cases h
  | some a :: l, r, h, x, hx => by
    rw [allSome] at h
    cases hl : allSome l with
    | none => rw [hl] at h; cases h
    | some r' =>
      rw [hl] at h
      injection h with h
      subst h
      rcases List.mem_cons.1 hx with hx | hx
      · rw [hx]; simp
      · exact List.mem_cons_of_mem _ (allSome_mem hl x hx)
/-- A FIELD, part by part, is as the document says. -/
theorem field_eq (s : List UInt8) (low high : Nat) (hlh : low ≤ high) : fieldL s low high = (allSome ((goC 44 [] s).map fun x => partS x low high)).map orL := by
  have h1 : ((goC 44 [] s).map fun x => partS x low high) = ((goC 44 [] s).map fun x => partL x low high).map (Option.map fun p => setN p.1 p.2.1 p.2.2) := by
    rw [List.map_map]
    apply List.map_congr_left
    intro x _
    exact partS_eq x low high
  rw [h1, allSome_map]
  unfold fieldL
  cases ha : allSome ((goC 44 [] s).map fun x => partL x low high) with
  | none => rfl
  | some ps =>
    simp only [Option.map_some, Option.some.injEq]
    apply Nat.eq_of_testBit_eq
    intro i
    rw [test_bitsOf, test_orL, List.any_map]
    have hin : ∀ p ∈ ps, low ≤ p.1 ∧ p.2.1 ≤ high := fun p hp => by
      have hm := allSome_mem ha p hp
      rw [List.mem_map] at hm
      obtain ⟨x, -, hx⟩ := hm
      obtain ⟨a, b, k⟩ := p
      have := partL_in hx hlh
      exact ⟨this.1, this.2.2.1⟩
    have hany : (ps.any fun p => hitP p i) = ps.any ((fun n => n.testBit i) ∘ fun p => setN p.1 p.2.1 p.2.2) := by
      congr 1
      funext p
      obtain ⟨a, b, k⟩ := p
      exact (test_setN a b k i).symm
    rw [← hany]
    cases hb : ps.any fun p => hitP p i with
    | false => simp
    | true =>
      obtain ⟨p, hp, hh⟩ := List.any_eq_true.1 hb
      have := hin p hp
      unfold hitP at hh
      simp only [Bool.and_eq_true, decide_eq_true_eq] at hh
      have := hh.1
      rw [decide_eq_true (show i < high + 1 by omega), decide_eq_true (show low ≤ i by omega)]
      rfl
/-- A field, part by part: what is found so far. -/
theorem field_parts {low high : Nat} : ∀ (l : List (List UInt8)), (allSome (l.map fun x => partS x low high)).map orL = match allSome (l.map fun x => partS x low high) with | some r => some (orL r) | none => none := fun l => by
  cases allSome (l.map fun x => partS x low high) <;> rfl
theorem allSome_snoc {α : Type} : ∀ (l : List (Option α)) (x : Option α), allSome (l ++ [x]) = match allSome l, x with | some r, some a => some (r ++ [a]) | _, _ => none
  | [], none => rfl
  | [], some a => rfl
  | none :: l, x => by cases x <;> rfl
  | some b :: l, x => by
    show (match allSome (l ++ [x]) with | some r => some (b :: r) | none => none) = _
    rw [allSome_snoc l x, allSome]
    cases allSome l <;> cases x <;> rfl
theorem allSome_none {α : Type} : ∀ {l : List (Option α)}, none ∈ l → allSome l = none
  | none :: l, _ => rfl
  | some a :: l, h => by
    rw [allSome, allSome_none (by simpa using h)]
end Go.Proofs.YtccobaohmbilpaaDoor
