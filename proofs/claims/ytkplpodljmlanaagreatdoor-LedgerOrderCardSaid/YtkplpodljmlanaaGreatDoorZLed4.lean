/-
  Plain facts for LedgerOrder: a disk to which entries were only added is what its entries are. Conditions: none.
-/
import Derived.Test.YtkplpodljmlanaaGreatDoorZLed2
/-! Plain facts for LedgerOrder: a disk to which entries were only added is what its entries are. Conditions: none. -/
namespace Go.Proofs.YtkplpodljmlanaaGreatDoor

/-- The disk of n sectors that these bytes of entries make. -/
def canD (n : Nat) (L : List UInt8) : Dsk := clean n fun k => if k = 0 then headB 1 L.length else if k < n / 2 then secB' (L.drop ((k - 1) * 128)) else secB 0
theorem canD_len (n : Nat) (L : List UInt8) : (canD n L).secs.length = n := clean_length _ _
theorem canD_half (n : Nat) (L : List UInt8) : hOf (canD n L) = n / 2 := by unfold hOf; rw [canD_len]
theorem secB'_nil : secB' [] = secB 0 := rfl
theorem fmt_can (n : Nat) : fmtD n = canD n [] := by
  unfold fmtD headD canD
  rw [show (List.replicate n (secB 0)).length = n from List.length_replicate]
  apply clean_congr
  intro k hk
  by_cases h0 : k = 0
  · subst h0; rw [if_pos (by simp), if_pos rfl]; rfl
  · rw [if_neg (by simp; omega), if_neg h0]
    have e : (List.replicate n (secB 0)).getD k ⟨#[]⟩ = secB 0 := by
      rw [List.getD_eq_getElem?_getD, List.getElem?_replicate, if_pos hk]; rfl
    simp only [e, List.drop_nil, secB'_nil, ite_self]

theorem secB'_more (L s : List UInt8) (i : Nat) (h : i < L.length / 128 ∨ s = [] ∨ (L ++ s).length ≤ i * 128) : secB' (L.drop (i * 128)) = secB' ((L ++ s).drop (i * 128)) := by
  rcases h with h | h | h
  · have e : secL (L.drop (i * 128)) = secL ((L ++ s).drop (i * 128)) := by
      rw [← secL_take (L.drop _), ← secL_take ((L ++ s).drop _)]
      congr 1
      rw [List.drop_append_of_le_length (by omega), List.take_append_of_le_length (by rw [List.length_drop]; omega)]
    unfold secB'; rw [e]
  · rw [h, List.append_nil]
  · rw [List.drop_of_length_le h, List.drop_of_length_le (by rw [List.length_append] at h; omega)]
theorem next_can {n u : Nat} {es ss : List ByteArray} (h : Goes (canD n (bindL es)) 0 1 u es false ss) : nextD (canD n (bindL es)) 0 1 u false ss = canD n (bindL (es ++ ss)) := by
  obtain ⟨L, hL⟩ : ∃ L, bindL es = L := ⟨_, rfl⟩
  have hth : thereOf false (canD n (bindL es)) 0 u = L := by
    show (roomL (canD n (bindL es)) 0).take u = L
    rw [← hL]; exact (entL_inv h.opens.ents).1
  have hfit := h.fits
  rw [hth] at hfit
  have h2 := hOf_two h.opens.right
  unfold nextD fillOf usedOf
  rw [hth, bindL_append]
  rw [hL] at hfit h2 ⊢
  obtain ⟨s, hs⟩ : ∃ s, bindL ss = s := ⟨_, rfl⟩
  rw [hs] at hfit ⊢
  unfold roomN at hfit
  rw [canD_half] at hfit h2
  unfold headD
  rw [fillD_len, canD_len]
  show clean n _ = clean n _
  apply clean_congr
  intro k hk
  have hh : (mOf false 0 * hOf (fillD (canD n L) (mOf false 0) L s) : Nat) = 0 := by simp [mOf]
  rw [hh]
  by_cases h0 : k = 0
  · subst h0
    rw [if_pos rfl, if_pos rfl, List.length_append]; rfl
  rw [if_neg (by omega), if_neg h0]
  have e1 : (fillD (canD n L) (mOf false 0) L s).secs.getD k ⟨#[]⟩ = fillAt 0 L s (fillN L s) k ((canD n L).secs.getD k ⟨#[]⟩) := by
    unfold fillD
    rw [clean_sec (by rw [canD_len]; exact hk)]
    rw [show mOf false 0 * hOf (canD n L) = 0 by simp [mOf]]
  have e2 : (canD n L).secs.getD k ⟨#[]⟩ = if k < n / 2 then secB' (L.drop ((k - 1) * 128)) else secB 0 := by
    unfold canD
    rw [clean_sec hk, if_neg h0]
  rw [e1, e2]
  unfold fillAt
  by_cases hc : 0 + 1 + L.length / 128 ≤ k ∧ k < 0 + 1 + L.length / 128 + fillN L s
  · have h3 := fillN_lt (there := L) (fresh := s) (i := k - 1) (by omega) (by omega)
    rw [List.length_append] at h3
    rw [if_pos hc, if_pos (by omega), show k - (0 + 1) = k - 1 by omega]
  · rw [if_neg hc]
    by_cases hk2 : k < n / 2
    · rw [if_pos hk2, if_pos hk2]
      apply secB'_more
      by_cases hs0 : s = []
      · exact Or.inr (Or.inl hs0)
      · rcases Nat.lt_or_ge (k - 1) (L.length / 128) with h4 | h4
        · exact Or.inl h4
        · right; right
          rcases Nat.lt_or_ge ((k - 1) * 128) (L ++ s).length with h5 | h5
          · exact absurd (fillN_ge (i := k - 1) hs0 h5) (by omega)
          · exact h5
    · rw [if_neg hk2, if_neg hk2]

/-- What is added in parts. -/
theorem order_goes {n : Nat} {s1 s2 : List ByteArray} (h : Goes (fmtD n) 0 1 0 [] false (s1 ++ s2)) :
    Goes (fmtD n) 0 1 0 [] false s1 ∧ Goes (nextD (fmtD n) 0 1 0 false s1) 0 1 (usedOf (fmtD n) 0 0 false s1) s1 false s2 ∧
    nextD (nextD (fmtD n) 0 1 0 false s1) 0 1 (usedOf (fmtD n) 0 0 false s1) false s2 = nextD (fmtD n) 0 1 0 false (s1 ++ s2) ∧
    usedOf (nextD (fmtD n) 0 1 0 false s1) 0 (usedOf (fmtD n) 0 0 false s1) false s2 = usedOf (fmtD n) 0 0 false (s1 ++ s2) := by
  have hm := mayB_iff h.may
  have hf := h.fits
  have hl0 := thereOf_len h.opens false
  simp only [Bool.false_eq_true, if_false] at hl0
  rw [hl0, bindL_append, List.length_append] at hf
  have g1 : Goes (fmtD n) 0 1 0 [] false s1 := ⟨h.opens, mayB_true (fun s hs => hm.1 s (List.mem_append_left _ hs)) (by have := hm.2; rw [List.length_append] at this; omega), by rw [hl0]; omega, h.most⟩
  have hn := g1.next
  have hn : Opens (nextD (fmtD n) 0 1 0 false s1) 0 1 (usedOf (fmtD n) 0 0 false s1) s1 := hn
  have hu : usedOf (fmtD n) 0 0 false s1 = (bindL s1).length := by unfold usedOf; rw [hl0]; omega
  have hl1 := thereOf_len hn false
  simp only [Bool.false_eq_true, if_false] at hl1
  have hr : roomN (nextD (fmtD n) 0 1 0 false s1) = roomN (fmtD n) := by unfold roomN hOf nextD headD; rw [clean_length, fillOf_len]
  have g2 : Goes (nextD (fmtD n) 0 1 0 false s1) 0 1 (usedOf (fmtD n) 0 0 false s1) s1 false s2 := ⟨hn, mayB_true (fun s hs => hm.1 s (List.mem_append_right _ hs)) (by have := hm.2; rw [List.length_append] at this; omega), by rw [hl1, hr, hu]; omega, h.most⟩
  have c0 : fmtD n = canD n (bindL []) := fmt_can n
  have e1 : nextD (fmtD n) 0 1 0 false s1 = canD n (bindL s1) := by
    have g1' := g1
    rw [c0] at g1' ⊢
    exact next_can g1'
  have e12 : nextD (fmtD n) 0 1 0 false (s1 ++ s2) = canD n (bindL (s1 ++ s2)) := by
    have h' := h
    rw [c0] at h' ⊢
    exact next_can h'
  refine ⟨g1, g2, ?_, ?_⟩
  · rw [e12]
    have g2' := g2
    rw [e1] at g2' ⊢
    exact next_can g2'
  · unfold usedOf
    unfold usedOf at hl1 hu
    rw [hl1, hl0, bindL_append, List.length_append]
    omega
theorem order_led {n : Nat} (h4 : 4 ≤ n) (h64 : n ≤ 64) (s1 s2 : List ByteArray) :
    ((addL ⟨fmtD n, 0, 1, 0, []⟩ false (s1 ++ s2)).2 = 2 ∨ (addL ⟨fmtD n, 0, 1, 0, []⟩ false (s1 ++ s2)).2 = 13) ∨
    ((addL ⟨fmtD n, 0, 1, 0, []⟩ false (s1 ++ s2)).2 = 0 ∧ (addL ⟨fmtD n, 0, 1, 0, []⟩ false s1).2 = 0 ∧ addL (addL ⟨fmtD n, 0, 1, 0, []⟩ false s1).1 false s2 = addL ⟨fmtD n, 0, 1, 0, []⟩ false (s1 ++ s2)) := by
  have hop := fmt_opens n h4 h64
  by_cases h0 : (stepsL ⟨fmtD n, (0 : Nat), (1 : Nat), (0 : Nat), []⟩ false (s1 ++ s2)).2 = 0
  · obtain ⟨hg, e⟩ := addL_ok hop h0
    obtain ⟨g1, g2, e1, e2⟩ := order_goes hg
    have a1 := addL_goes g1
    have a2 := addL_goes g2
    have ec : ∀ ss, addL ⟨fmtD n, 0, 1, 0, []⟩ false ss = addL ⟨fmtD n, (0 : Nat), (1 : Nat), (0 : Nat), []⟩ false ss := fun _ => rfl
    right
    rw [ec, ec, e, a1]
    refine ⟨rfl, rfl, ?_⟩
    show addL ⟨nextD (fmtD n) 0 1 0 false s1, ((0 : Nat) : Int), ((1 : Nat) : Int), _, [] ++ s1⟩ false s2 = _
    rw [List.nil_append, a2, e1, e2]
    rfl
  · left
    rcases addL_no hop h0 with ⟨e, -⟩ | ⟨e, -⟩
    · left; show (addL ⟨fmtD n, (0 : Nat), (1 : Nat), (0 : Nat), []⟩ false (s1 ++ s2)).2 = 2; rw [e]
    · right; show (addL ⟨fmtD n, (0 : Nat), (1 : Nat), (0 : Nat), []⟩ false (s1 ++ s2)).2 = 13; rw [e]
/-- A place in a row out of any number, as the laws make it. -/
theorem at_place (a : Int) (k : Nat) : ∃ (r : Int) (x : Nat), a.tmod ((k : Int) + 1) = r ∧ (r + (k : Int) + 1).tmod ((k : Int) + 1) = (x : Int) ∧ x ≤ k ∧ -((k : Int) + 1) < r ∧ r < (k : Int) + 1 := by
  obtain ⟨m, hm⟩ : ∃ m : Int, (k : Int) + 1 = m := ⟨_, rfl⟩
  have hp : 0 < m := by omega
  have b1 := Int.tmod_lt_of_pos a hp
  have b0 : -m < a.tmod m := by
    rcases Int.le_total 0 a with h | h
    · have := Int.tmod_nonneg m h; omega
    · have e : a.tmod m = -((-a).tmod m) := by rw [Int.neg_tmod, Int.neg_neg]
      have := Int.tmod_lt_of_pos (-a) hp
      rw [e]; omega
  obtain ⟨r, hr⟩ : ∃ r, a.tmod m = r := ⟨_, rfl⟩
  rw [hr] at b0 b1
  have c0 : 0 ≤ r + (k : Int) + 1 := by omega
  have d0 := Int.tmod_nonneg m c0
  have d1 := Int.tmod_lt_of_pos (r + (k : Int) + 1) hp
  rw [hm]
  exact ⟨r, ((r + (k : Int) + 1).tmod m).toNat, hr, by omega, by omega, by omega, by omega⟩

/-! ### Rows in parts -/
theorem row_take {w : World} {tg nt tc : Nat} {ft : List ByteArray} (h : StrRow w (.slice (some ⟨tg, 0, none⟩) nt tc) ft) {x : Nat} (hx : x ≤ nt) : StrRow w (.slice (some ⟨tg, 0, none⟩) x tc) (ft.take x) := by
  rcases h with ⟨h, -⟩ | ⟨b, o, cap, h1, h2, h3, h4⟩
  · cases h
  · simp only [Value.slice.injEq, Option.some.injEq, Addr.mk.injEq] at h1
    obtain ⟨⟨rfl, rfl, -⟩, rfl, rfl⟩ := h1
    have e : (ft.take x).length = x := by rw [List.length_take]; omega
    refine Or.inr ⟨tg, 0, tc, by rw [e], by omega, h3, fun i hi => ?_⟩
    rw [e] at hi
    rw [h4 i (by omega)]; simp
theorem row_drop {w : World} {tg nt tc : Nat} {ft : List ByteArray} (h : StrRow w (.slice (some ⟨tg, 0, none⟩) nt tc) ft) {x : Nat} (hx : x ≤ nt) : StrRow w (.slice (some ⟨tg, x, none⟩) (nt - x) (tc - x)) (ft.drop x) := by
  rcases h with ⟨h, -⟩ | ⟨b, o, cap, h1, h2, h3, h4⟩
  · cases h
  · simp only [Value.slice.injEq, Option.some.injEq, Addr.mk.injEq] at h1
    obtain ⟨⟨rfl, rfl, -⟩, rfl, rfl⟩ := h1
    have e : (ft.drop x).length = ft.length - x := List.length_drop
    refine Or.inr ⟨tg, x, tc - x, by rw [e], by omega, by omega, fun i hi => ?_⟩
    rw [e] at hi
    have := h4 (x + i) (by omega)
    rw [Nat.zero_add] at this
    rw [this]; simp
theorem row_end {w : World} {tg nt tc : Nat} {ft : List ByteArray} (h : StrRow w (.slice (some ⟨tg, 0, none⟩) nt tc) ft) {x : Nat} (hx : x ≤ nt) (hc : tc = x) : StrRow w (.slice (some ⟨tg, 0, none⟩) 0 0) (ft.drop x) := by
  rcases h with ⟨h, -⟩ | ⟨b, o, cap, h1, h2, h3, h4⟩
  · cases h
  · simp only [Value.slice.injEq, Option.some.injEq, Addr.mk.injEq] at h1
    obtain ⟨⟨rfl, rfl, -⟩, rfl, rfl⟩ := h1
    have e : ft.drop x = [] := List.drop_of_length_le (by omega)
    rw [e]
    exact Or.inr ⟨tg, 0, 0, rfl, by simp, by decide, fun i hi => by simp at hi⟩
theorem StrRow.cap {w : World} {a : Option Addr} {nt tc : Nat} {ft : List ByteArray} (h : StrRow w (.slice a nt tc) ft) : nt ≤ tc ∧ tc ≤ maxLen := by
  rcases h with ⟨h, -⟩ | ⟨b, o, cap, h1, h2, h3, h4⟩
  · simp only [Value.slice.injEq] at h; obtain ⟨-, rfl, rfl⟩ := h; exact ⟨Nat.le_refl _, by decide⟩
  · simp only [Value.slice.injEq] at h1; obtain ⟨-, rfl, rfl⟩ := h1; exact ⟨h2, h3⟩
end Go.Proofs.YtkplpodljmlanaaGreatDoor
