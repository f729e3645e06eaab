/-
  The document's 'Read' at a place where no row and no object begins, by a contract. Conditions: texts of at most 2^30 bytes; the package-level variables as TEnv says.
-/
import Derived.Test.YtgkapipiegfmhaaDoorRefQuote
namespace Go.Proofs.YtgkapipiegfmhaaDoor
open Go.RowKit

/-- How Read ends. -/
structure ReadT (s : ByteArray) (k d : Nat) (w : World) (e : Ending) (w' : World) : Prop where
  below : Below w.heap.size w w'
  is : match readL d (s.data.toList.drop k) with
    | some p => ∃ c0 c1 c2 c3 c4, e = .returned (.agg #[c0, c1, c2, c3, c4, .int .i64 ((s.size - p.2.length : Nat) : Int)]) ∧ ValIn (fun b => w.heap.size ≤ b) w' (.agg #[c0, c1, c2, c3, c4]) p.1
    | none => e = .returned noT
theorem readL_none (d : Nat) : readL d [] = none := by cases d <;> rfl
theorem readL_quote (d : Nat) (l : List UInt8) : readL (d + 1) (34 :: l) = (quoteL (34 :: l)).map fun p => (.mk 2 0 ⟨p.1.toArray⟩ [] [], p.2) := by
  rw [readL, if_pos rfl, quoteL, if_pos rfl]
theorem readL_number (d : Nat) (c : UInt8) (l : List UInt8) (h1 : c ≠ 34) (h2 : c ≠ 91) (h3 : c ≠ 123) : readL (d + 1) (c :: l) = numberL (c :: l) := by
  rw [readL, if_neg h1, if_pos ⟨h2, h3⟩]
theorem quoteL_word (l : List UInt8) (p : List UInt8 × List UInt8) (h : quoteL l = some p) : p.1.length ≤ l.length := by
  cases l with
  | nil => cases h
  | cons c l =>
    rw [quoteL] at h
    split at h
    · have := wordEnd_sound l p.1 p.2 h
      rw [this]; simp; omega
    · cases h
theorem numberL_shape (l : List UInt8) (T : Val) (r : List UInt8) (h : numberL l = some (T, r)) : ∃ m : Nat, T = .mk 1 m ⟨#[]⟩ [] [] := by
  unfold numberL at h
  split at h
  · cases h
  · split at h
    · cases h
    · simp only [Option.some.injEq, Prod.mk.injEq] at h
      exact ⟨_, h.1.symm⟩

theorem digitsL_small : ∀ (l : List UInt8) (n m : Nat) (r : List UInt8), n ≤ 10995116277769 → digitsL n l = some (m, r) → m ≤ 10995116277769
  | [], n, m, r, hn, h => by
    rw [digitsL] at h
    simp only [Option.some.injEq, Prod.mk.injEq] at h
    omega
  | c :: l, n, m, r, hn, h => by
    cases hd : digitC c with
    | false =>
      rw [digitsL_no n c l hd] at h
      simp only [Option.some.injEq, Prod.mk.injEq] at h
      omega
    | true =>
      by_cases hb : n > 1099511627776
      · rw [digitsL_big n c l hd hb] at h; cases h
      · rw [digitsL_yes n c l hd hb] at h
        have := (digitC_iff c).1 hd
        exact digitsL_small l _ m r (by omega) h
theorem numberL_small (l : List UInt8) (m : Nat) (r : List UInt8) (h : numberL l = some (.mk 1 m ⟨#[]⟩ [] [], r)) : m ≤ 10995116277769 := by
  unfold numberL at h
  split at h
  · cases h
  · rename_i n r' hd
    split at h
    · cases h
    · simp only [Option.some.injEq, Prod.mk.injEq, Val.mk.injEq] at h
      have := digitsL_small l 0 n r' (by omega) hd
      omega

set_option maxRecDepth 100000 in
set_option maxHeartbeats 4000000 in
theorem read_plain (s : ByteArray) (k d : Nat) (dk : Int) (hdk : dk = d) (hd : d ≤ 100) (hs : s.size ≤ 1073741824) (hk : k ≤ s.size) (w : World) (he : TEnv w)
    (hc : d = 0 ∨ k = s.size ∨ ∃ h : k < s.size, s[k] ≠ 91 ∧ s[k] ≠ 123) :
    Calls Tryd.prog 12 #[.string s, .int .i64 k, .int .i64 dk] w fun e w' => ReadT s k d w e w' := by
  obtain ⟨W0, hW0⟩ : ∃ W0, w.alloc (.cells #[.int .i64 0, .int .i64 0, .string ⟨#[]⟩, .slice none 0 0, .slice none 0 0, .int .i64 0] 38) = W0 := ⟨_, rfl⟩
  have hb0 : Below w.heap.size w W0 := by rw [← hW0]; exact below_new _ _
  have hz0 : At6 W0 w.heap.size (.int .i64 0) (.int .i64 0) (.string ⟨#[]⟩) (.slice none 0 0) (.slice none 0 0) (.int .i64 0) := by rw [← hW0]; exact At6.new _ _ _ _ _ _ _
  have hs0 : W0.heap.size = w.heap.size + 1 := by rw [← hW0]; simp
  have HN := Lib.hid (fun (c0 c1 c2 c3 c4 c5 : Value) => At6.new w c0 c1 c2 c3 c4 c5)
  have HBN := Lib.hid (fun (c0 c1 c2 c3 c4 c5 : Value) => below_new w (.cells #[c0, c1, c2, c3, c4, c5] 38))
  have HFIN := Lib.hid (show ∀ w2, Below W0.heap.size W0 w2 → At6 w2 w.heap.size (.int .i64 0) (.int .i64 0) (.string ⟨#[]⟩) (.slice none 0 0) (.slice none 0 0) (.int .i64 0) ∧ Below w.heap.size w w2 from fun w2 h => ⟨hz0.keep h, Below.then hb0 h⟩)
  have HW0 := Lib.hid hW0
  by_cases hd0 : d = 0
  · have HO := Lib.hid (show readL d (s.data.toList.drop k) = none by rw [hd0]; rfl)
    have e1 : (dk == 0) = true := by rw [beq_iff_eq]; omega
    clear hc hz0 hs0 hb0 hW0 he hdk
    by_cases hkl : k < s.size
    · go_enter Tryd.func12, Tryd.ntmps12
      go_wp2_with fail
      refine bodyPost_ret (results_cell_row (p := 6) rfl _ _ w.heap.size 38 _ (0, 0) _ rfl (HN.out _ _ _ _ _ _) Tryd.underlying38 rfl tSize) rfl ?_
      exact ⟨HBN.out _ _ _ _ _ _, by rw [HO.out]; rfl⟩
    · go_enter Tryd.func12, Tryd.ntmps12
      go_wp2_with fail
      refine bodyPost_ret (results_cell_row (p := 6) rfl _ _ w.heap.size 38 _ (0, 0) _ rfl (HN.out _ _ _ _ _ _) Tryd.underlying38 rfl tSize) rfl ?_
      exact ⟨HBN.out _ _ _ _ _ _, by rw [HO.out]; rfl⟩
  have e1 : (dk == 0) = false := by rw [beq_eq_false_iff_ne]; omega
  clear hdk
  by_cases hkl : k < s.size
  rotate_left
  · have HO := Lib.hid (show readL d (s.data.toList.drop k) = none by rw [drop_end s k (by omega), readL_none])
    clear hc hz0 hs0 hb0 hW0 he
    go_enter Tryd.func12, Tryd.ntmps12
    go_wp2_with fail
    refine bodyPost_ret (results_cell_row (p := 6) rfl _ _ w.heap.size 38 _ (0, 0) _ rfl (HN.out _ _ _ _ _ _) Tryd.underlying38 rfl tSize) rfl ?_
    exact ⟨HBN.out _ _ _ _ _ _, by rw [HO.out]; rfl⟩
  have hcc : s[k] ≠ 91 ∧ s[k] ≠ 123 := by
    rcases hc with h | h | ⟨_, h⟩
    · exact absurd h hd0
    · omega
    · exact h
  obtain ⟨d1, rfl⟩ : ∃ d1, d = d1 + 1 := ⟨d - 1, by omega⟩
  have hdr := drop_cons s k hkl
  have Q := Lib.hid (quote_t s k hs hk W0)
  have NB := Lib.hid (number_t s k hs hk W0 (he.below hb0))
  obtain ⟨c, hcq⟩ : ∃ c, s[k] = c := ⟨_, rfl⟩
  rw [hcq] at hdr hcc
  have hc8 := c.toNat_lt
  by_cases h34 : c = 34
  · subst h34
    have HR := Lib.hid (show readL (d1 + 1) (s.data.toList.drop k) = (quoteL (s.data.toList.drop k)).map fun p => (.mk 2 0 ⟨p.1.toArray⟩ [] [], p.2) by rw [hdr, readL_quote])
    cases hq : quoteL (s.data.toList.drop k) with
    | none =>
      have HO := Lib.hid (show readL (d1 + 1) (s.data.toList.drop k) = none by rw [HR.out, hq]; rfl)
      have hqt : quoteT s k = noT := by unfold quoteT; rw [hq]
      rw [hqt] at Q
      unfold noT at Q
      clear hc hz0 hs0 hb0 hW0 he hdr hq hqt hcc hc8 hd0
      go_enter Tryd.func12, Tryd.ntmps12
      go_wp2_with fail
      rw [HW0.out]
      refine Q.out.mono ?_
      rintro e w2 ⟨rfl, hb⟩
      obtain ⟨hz2, hb2⟩ := HFIN.out w2 hb
      have HZ := Lib.hid hz2
      have HB2 := Lib.hid hb2
      obtain ⟨z0, z1, z2, z3, z4, z5⟩ := hz2.cells
      have f0 := hz2.frozen 0
      have f1 := hz2.frozen 1
      have f2 := hz2.frozen 2
      have f3 := hz2.frozen 3
      have f4 := hz2.frozen 4
      have f5 := hz2.frozen 5
      clear hz2 hb2 hb
      go_wp2_with fail
      refine bodyPost_ret (results_cell_row (p := 6) rfl _ _ w.heap.size 38 _ (0, 0) _ rfl (set6_six HZ.out _ _ _ _ _ _) Tryd.underlying38 rfl tSize) rfl ?_
      exact ⟨set6_below HB2.out rfl _ _ _ _ _ _, by rw [HO.out]; rfl⟩
    | some p =>
      have HO := Lib.hid (show readL (d1 + 1) (s.data.toList.drop k) = some (.mk 2 0 ⟨p.1.toArray⟩ [] [], p.2) by rw [HR.out, hq]; rfl)
      have hqt : quoteT s k = .agg #[.int .i64 2, .int .i64 0, .string ⟨p.1.toArray⟩, .slice none 0 0, .slice none 0 0, .int .i64 ((s.size - p.2.length : Nat) : Int)] := by unfold quoteT; rw [hq]
      rw [hqt] at Q
      have HWZ := Lib.hid (show (⟨p.1.toArray⟩ : ByteArray).size ≤ maxLen by
        have h1 := quoteL_word _ _ hq
        rw [List.length_drop, ← Lib.size_eq] at h1
        rw [Lib.size_eq]
        simp only [maxLen]
        omega)
      obtain ⟨x, hx⟩ : ∃ x : ByteArray, (⟨p.1.toArray⟩ : ByteArray) = x := ⟨_, rfl⟩
      rw [hx] at Q HO HWZ
      obtain ⟨r, hr⟩ : ∃ r : Nat, s.size - p.2.length = r := ⟨_, rfl⟩
      have HRR := Lib.hid hr
      rw [hr] at Q
      clear hc hz0 hs0 hb0 hW0 he hdr hq hqt hcc hc8 hd0 hx hr
      go_enter Tryd.func12, Tryd.ntmps12
      go_wp2_with fail
      rw [HW0.out]
      refine Q.out.mono ?_
      rintro e w2 ⟨rfl, hb⟩
      obtain ⟨hz2, hb2⟩ := HFIN.out w2 hb
      have HZ := Lib.hid hz2
      have HB2 := Lib.hid hb2
      obtain ⟨z0, z1, z2, z3, z4, z5⟩ := hz2.cells
      have f0 := hz2.frozen 0
      have f1 := hz2.frozen 1
      have f2 := hz2.frozen 2
      have f3 := hz2.frozen 3
      have f4 := hz2.frozen 4
      have f5 := hz2.frozen 5
      clear hz2 hb2 hb
      go_wp2_with fail
      refine bodyPost_ret (results_cell_row (p := 6) rfl _ _ w.heap.size 38 _ (0, 0) _ rfl (set6_six HZ.out _ _ _ _ _ _) Tryd.underlying38 rfl tSize) rfl ?_
      refine ⟨set6_below HB2.out rfl _ _ _ _ _ _, ?_⟩
      rw [HO.out]
      exact ⟨_, _, _, _, _, by rw [HRR.out], ValIn.plain _ _ 2 0 x (by decide) (by decide) HWZ.out⟩
  · have h34' : c.toNat ≠ 34 := fun e => h34 (UInt8.toNat_inj.1 e)
    have h91' : c.toNat ≠ 91 := fun e => hcc.1 (UInt8.toNat_inj.1 e)
    have h123' : c.toNat ≠ 123 := fun e => hcc.2 (UInt8.toNat_inj.1 e)
    have q1 : ((c.toNat : Int) == 34) = false := beq_eq_false_iff_ne.2 (by omega)
    have q2 : ((c.toNat : Int) != 91) = true := bne_iff_ne.2 (by omega)
    have q3 : ((c.toNat : Int) != 123) = true := bne_iff_ne.2 (by omega)
    have HR := Lib.hid (show readL (d1 + 1) (s.data.toList.drop k) = numberL (s.data.toList.drop k) by rw [hdr, readL_number d1 c _ h34 hcc.1 hcc.2])
    cases hq : numberL (s.data.toList.drop k) with
    | none =>
      have HO := Lib.hid (show readL (d1 + 1) (s.data.toList.drop k) = none by rw [HR.out, hq])
      have hqt : numberT s k = noT := by unfold numberT; rw [hq]
      rw [hqt] at NB
      unfold noT at NB
      clear hc hz0 hs0 hb0 hW0 he hdr hq hqt hcc hd0 h34 h34' h91' h123'
      go_enter Tryd.func12, Tryd.ntmps12
      go_wp2_with fail
      rw [HW0.out]
      refine NB.out.mono ?_
      rintro e w2 ⟨rfl, hb⟩
      obtain ⟨hz2, hb2⟩ := HFIN.out w2 hb
      have HZ := Lib.hid hz2
      have HB2 := Lib.hid hb2
      obtain ⟨z0, z1, z2, z3, z4, z5⟩ := hz2.cells
      have f0 := hz2.frozen 0
      have f1 := hz2.frozen 1
      have f2 := hz2.frozen 2
      have f3 := hz2.frozen 3
      have f4 := hz2.frozen 4
      have f5 := hz2.frozen 5
      clear hz2 hb2 hb
      go_wp2_with fail
      refine bodyPost_ret (results_cell_row (p := 6) rfl _ _ w.heap.size 38 _ (0, 0) _ rfl (set6_six HZ.out _ _ _ _ _ _) Tryd.underlying38 rfl tSize) rfl ?_
      exact ⟨set6_below HB2.out rfl _ _ _ _ _ _, by rw [HO.out]; rfl⟩
    | some p =>
      obtain ⟨T, r⟩ := p
      obtain ⟨m, rfl⟩ := numberL_shape _ _ _ hq
      have hm := numberL_small _ _ _ hq
      have HO := Lib.hid (show readL (d1 + 1) (s.data.toList.drop k) = some (.mk 1 m ⟨#[]⟩ [] [], r) by rw [HR.out, hq])
      have hqt : numberT s k = .agg #[.int .i64 1, .int .i64 m, .string ⟨#[]⟩, .slice none 0 0, .slice none 0 0, .int .i64 ((s.size - r.length : Nat) : Int)] := by unfold numberT; rw [hq]
      rw [hqt] at NB
      obtain ⟨a, ha⟩ : ∃ a : Nat, s.size - r.length = a := ⟨_, rfl⟩
      have HRR := Lib.hid ha
      have HM := Lib.hid hm
      rw [ha] at NB
      clear hc hz0 hs0 hb0 hW0 he hdr hq hqt hcc hd0 h34 h34' h91' h123' ha hm
      go_enter Tryd.func12, Tryd.ntmps12
      go_wp2_with fail
      rw [HW0.out]
      refine NB.out.mono ?_
      rintro e w2 ⟨rfl, hb⟩
      obtain ⟨hz2, hb2⟩ := HFIN.out w2 hb
      have HZ := Lib.hid hz2
      have HB2 := Lib.hid hb2
      obtain ⟨z0, z1, z2, z3, z4, z5⟩ := hz2.cells
      have f0 := hz2.frozen 0
      have f1 := hz2.frozen 1
      have f2 := hz2.frozen 2
      have f3 := hz2.frozen 3
      have f4 := hz2.frozen 4
      have f5 := hz2.frozen 5
      clear hz2 hb2 hb
      go_wp2_with fail
      refine bodyPost_ret (results_cell_row (p := 6) rfl _ _ w.heap.size 38 _ (0, 0) _ rfl (set6_six HZ.out _ _ _ _ _ _) Tryd.underlying38 rfl tSize) rfl ?_
      refine ⟨set6_below HB2.out rfl _ _ _ _ _ _, ?_⟩
      rw [HO.out]
      exact ⟨_, _, _, _, _, by rw [HRR.out], ValIn.plain _ _ 1 m ⟨#[]⟩ (by decide) ⟨by omega, by have := HM.out; omega⟩ (by decide)⟩
end Go.Proofs.YtgkapipiegfmhaaDoor
