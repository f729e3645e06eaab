/-
  The document's 'Read' at a place where no row and no object begins, by a contract. Conditions: texts of at most 2^30 bytes; the package-level variables as TEnv says.
  The document's 'Read' of a row and an object: the loop's state. Conditions: none.
-/
import Derived.Test.YtepcaglekgeamaaGreatDoorYRefT1
import Derived.Test.YtepcaglekgeamaaGreatDoorYTxt5
namespace Go.Proofs.YtepcaglekgeamaaGreatDoor
open Go.RowKit

structure ReadT (s : ByteArray) (k d : Nat) (w : World) (e : Ending) (w' : World) : Prop where
  below : Below w.heap.size w w'
  is : match readL d (s.data.toList.drop k) with
    | some p => ∃ c0 c1 c2 c3 c4, e = .returned (.agg #[c0, c1, c2, c3, c4, .int .i64 ((s.size - p.2.length : Nat) : Int)]) ∧ ValIn (fun b => w.heap.size ≤ b) w' (.agg #[c0, c1, c2, c3, c4]) p.1
    | none => e = .returned noT

theorem readL_none (d : Nat) : readL d [] = none := by cases d <;> rfl

theorem readL_quote (d : Nat) (l : List UInt8) : readL (d + 1) (34 :: l) = (quoteL (34 :: l)).map fun p => (.mk 2 0 ⟨p.1.toArray⟩ [] [], p.2) := by
  rw [readL, if_pos rfl, quoteL, if_pos rfl]

theorem readL_number (d : Nat) (c : UInt8) (l : List UInt8) (h1 : c ≠ 34) (h2 : c ≠ 91) (h3 : c ≠ 123) : readL (d + 1) (c :: l) = numberL (c :: l) := by
  rw [readL, if_neg h1, if_pos ⟨h2, h3⟩]

theorem quoteL_word (l : List UInt8) (p : List UInt8 × List UInt8) (h : quoteL l = some p) : p.1.length ≤ l.length := by
  cases l with
  | nil => cases h
  | cons c l =>
    rw [quoteL] at h
    split at h
    · have := wordEnd_sound l p.1 p.2 h
      rw [this]; simp; omega
    · cases h

theorem numberL_shape (l : List UInt8) (T : Val) (r : List UInt8) (h : numberL l = some (T, r)) : ∃ m : Nat, T = .mk 1 m ⟨#[]⟩ [] [] := by
  unfold numberL at h
  split at h
  · cases h
  · split at h
    · cases h
    · simp only [Option.some.injEq, Prod.mk.injEq] at h
      exact ⟨_, h.1.symm⟩

theorem digitsL_small : ∀ (l : List UInt8) (n m : Nat) (r : List UInt8), n ≤ 10995116277769 → digitsL n l = some (m, r) → m ≤ 10995116277769
  | [], n, m, r, hn, h => by
    rw [digitsL] at h
    simp only [Option.some.injEq, Prod.mk.injEq] at h
    omega
  | c :: l, n, m, r, hn, h => by
    cases hd : digitC c with
    | false =>
      rw [digitsL_no n c l hd] at h
      simp only [Option.some.injEq, Prod.mk.injEq] at h
      omega
    | true =>
      by_cases hb : n > 1099511627776
      · rw [digitsL_big n c l hd hb] at h; cases h
      · rw [digitsL_yes n c l hd hb] at h
        have := (digitC_iff c).1 hd
        exact digitsL_small l _ m r (by omega) h

theorem numberL_small (l : List UInt8) (m : Nat) (r : List UInt8) (h : numberL l = some (.mk 1 m ⟨#[]⟩ [] [], r)) : m ≤ 10995116277769 := by
  unfold numberL at h
  split at h
  · cases h
  · rename_i n r' hd
    split at h
    · cases h
    · simp only [Option.some.injEq, Prod.mk.injEq, Val.mk.injEq] at h
      have := digitsL_small l 0 n r' (by omega) hd
      omega

set_option maxRecDepth 100000 in
set_option maxHeartbeats 4000000 in
theorem read_plain (s : ByteArray) (k d : Nat) (dk : Int) (hdk : dk = d) (hd : d ≤ 100) (hs : s.size ≤ 1073741824) (hk : k ≤ s.size) (w : World) (he : TEnv w)
    (hc : d = 0 ∨ k = s.size ∨ ∃ h : k < s.size, s[k] ≠ 91 ∧ s[k] ≠ 123) :
    Calls Tryz.prog 52 #[.string s, .int .i64 k, .int .i64 dk] w fun e w' => ReadT s k d w e w' := by
  obtain ⟨W0, hW0⟩ : ∃ W0, w.alloc (.cells #[.int .i64 0, .int .i64 0, .string ⟨#[]⟩, .slice none 0 0, .slice none 0 0, .int .i64 0] 87) = W0 := ⟨_, rfl⟩
  have hb0 : Below w.heap.size w W0 := by rw [← hW0]; exact below_new _ _
  have hz0 : At6 W0 w.heap.size (.int .i64 0) (.int .i64 0) (.string ⟨#[]⟩) (.slice none 0 0) (.slice none 0 0) (.int .i64 0) := by rw [← hW0]; exact At6.new _ _ _ _ _ _ _
  have hs0 : W0.heap.size = w.heap.size + 1 := by rw [← hW0]; simp
  have HN := Lib.hid (fun (c0 c1 c2 c3 c4 c5 : Value) => At6.new w c0 c1 c2 c3 c4 c5)
  have HBN := Lib.hid (fun (c0 c1 c2 c3 c4 c5 : Value) => below_new w (.cells #[c0, c1, c2, c3, c4, c5] 87))
  have HFIN := Lib.hid (show ∀ w2, Below W0.heap.size W0 w2 → At6 w2 w.heap.size (.int .i64 0) (.int .i64 0) (.string ⟨#[]⟩) (.slice none 0 0) (.slice none 0 0) (.int .i64 0) ∧ Below w.heap.size w w2 from fun w2 h => ⟨hz0.keep h, Below.then hb0 h⟩)
  have HW0 := Lib.hid hW0
  by_cases hd0 : d = 0
  · have HO := Lib.hid (show readL d (s.data.toList.drop k) = none by rw [hd0]; rfl)
    have e1 : (dk == 0) = true := by rw [beq_iff_eq]; omega
    clear hc hz0 hs0 hb0 hW0 he hdk
    by_cases hkl : k < s.size
    · go_enter Tryz.func52, Tryz.ntmps52
      go_wp2_with fail
      refine bodyPost_ret (results_cell_row (p := 6) rfl _ _ w.heap.size 87 _ (0, 0) _ rfl (HN.out _ _ _ _ _ _) Tryz.underlying87 rfl tSize) rfl ?_
      exact ⟨HBN.out _ _ _ _ _ _, by rw [HO.out]; rfl⟩
    · go_enter Tryz.func52, Tryz.ntmps52
      go_wp2_with fail
      refine bodyPost_ret (results_cell_row (p := 6) rfl _ _ w.heap.size 87 _ (0, 0) _ rfl (HN.out _ _ _ _ _ _) Tryz.underlying87 rfl tSize) rfl ?_
      exact ⟨HBN.out _ _ _ _ _ _, by rw [HO.out]; rfl⟩
  have e1 : (dk == 0) = false := by rw [beq_eq_false_iff_ne]; omega
  clear hdk
  by_cases hkl : k < s.size
  rotate_left
  · have HO := Lib.hid (show readL d (s.data.toList.drop k) = none by rw [drop_end s k (by omega), readL_none])
    clear hc hz0 hs0 hb0 hW0 he
    go_enter Tryz.func52, Tryz.ntmps52
    go_wp2_with fail
    refine bodyPost_ret (results_cell_row (p := 6) rfl _ _ w.heap.size 87 _ (0, 0) _ rfl (HN.out _ _ _ _ _ _) Tryz.underlying87 rfl tSize) rfl ?_
    exact ⟨HBN.out _ _ _ _ _ _, by rw [HO.out]; rfl⟩
  have hcc : s[k] ≠ 91 ∧ s[k] ≠ 123 := by
    rcases hc with h | h | ⟨_, h⟩
    · exact absurd h hd0
    · omega
    · exact h
  obtain ⟨d1, rfl⟩ : ∃ d1, d = d1 + 1 := ⟨d - 1, by omega⟩
  have hdr := drop_cons s k hkl
  have Q := Lib.hid (quote_t s k hs hk W0)
  have NB := Lib.hid (number_t s k hs hk W0 (he.below hb0))
  obtain ⟨c, hcq⟩ : ∃ c, s[k] = c := ⟨_, rfl⟩
  rw [hcq] at hdr hcc
  have hc8 := c.toNat_lt
  by_cases h34 : c = 34
  · subst h34
    have HR := Lib.hid (show readL (d1 + 1) (s.data.toList.drop k) = (quoteL (s.data.toList.drop k)).map fun p => (.mk 2 0 ⟨p.1.toArray⟩ [] [], p.2) by rw [hdr, readL_quote])
    cases hq : quoteL (s.data.toList.drop k) with
    | none =>
      have HO := Lib.hid (show readL (d1 + 1) (s.data.toList.drop k) = none by rw [HR.out, hq]; rfl)
      have hqt : quoteT s k = noT := by unfold quoteT; rw [hq]
      rw [hqt] at Q
      unfold noT at Q
      clear hc hz0 hs0 hb0 hW0 he hdr hq hqt hcc hc8 hd0
      go_enter Tryz.func52, Tryz.ntmps52
      go_wp2_with fail
      rw [HW0.out]
      refine Q.out.mono ?_
      rintro e w2 ⟨rfl, hb⟩
      obtain ⟨hz2, hb2⟩ := HFIN.out w2 hb
      have HZ := Lib.hid hz2
      have HB2 := Lib.hid hb2
      obtain ⟨z0, z1, z2, z3, z4, z5⟩ := hz2.cells
      have f0 := hz2.frozen 0
      have f1 := hz2.frozen 1
      have f2 := hz2.frozen 2
      have f3 := hz2.frozen 3
      have f4 := hz2.frozen 4
      have f5 := hz2.frozen 5
      clear hz2 hb2 hb
      go_wp2_with fail
      refine bodyPost_ret (results_cell_row (p := 6) rfl _ _ w.heap.size 87 _ (0, 0) _ rfl (set6_six HZ.out _ _ _ _ _ _) Tryz.underlying87 rfl tSize) rfl ?_
      exact ⟨set6_below HB2.out rfl _ _ _ _ _ _, by rw [HO.out]; rfl⟩
    | some p =>
      have HO := Lib.hid (show readL (d1 + 1) (s.data.toList.drop k) = some (.mk 2 0 ⟨p.1.toArray⟩ [] [], p.2) by rw [HR.out, hq]; rfl)
      have hqt : quoteT s k = .agg #[.int .i64 2, .int .i64 0, .string ⟨p.1.toArray⟩, .slice none 0 0, .slice none 0 0, .int .i64 ((s.size - p.2.length : Nat) : Int)] := by unfold quoteT; rw [hq]
      rw [hqt] at Q
      have HWZ := Lib.hid (show (⟨p.1.toArray⟩ : ByteArray).size ≤ maxLen by
        have h1 := quoteL_word _ _ hq
        rw [List.length_drop, ← Lib.size_eq] at h1
        rw [Lib.size_eq]
        simp only [maxLen]
        omega)
      obtain ⟨x, hx⟩ : ∃ x : ByteArray, (⟨p.1.toArray⟩ : ByteArray) = x := ⟨_, rfl⟩
      rw [hx] at Q HO HWZ
      obtain ⟨r, hr⟩ : ∃ r : Nat, s.size - p.2.length = r := ⟨_, rfl⟩
      have HRR := Lib.hid hr
      rw [hr] at Q
      clear hc hz0 hs0 hb0 hW0 he hdr hq hqt hcc hc8 hd0 hx hr
      go_enter Tryz.func52, Tryz.ntmps52
      go_wp2_with fail
      rw [HW0.out]
      refine Q.out.mono ?_
      rintro e w2 ⟨rfl, hb⟩
      obtain ⟨hz2, hb2⟩ := HFIN.out w2 hb
      have HZ := Lib.hid hz2
      have HB2 := Lib.hid hb2
      obtain ⟨z0, z1, z2, z3, z4, z5⟩ := hz2.cells
      have f0 := hz2.frozen 0
      have f1 := hz2.frozen 1
      have f2 := hz2.frozen 2
      have f3 := hz2.frozen 3
      have f4 := hz2.frozen 4
      have f5 := hz2.frozen 5
      clear hz2 hb2 hb
      go_wp2_with fail
      refine bodyPost_ret (results_cell_row (p := 6) rfl _ _ w.heap.size 87 _ (0, 0) _ rfl (set6_six HZ.out _ _ _ _ _ _) Tryz.underlying87 rfl tSize) rfl ?_
      refine ⟨set6_below HB2.out rfl _ _ _ _ _ _, ?_⟩
      rw [HO.out]
      exact ⟨_, _, _, _, _, by rw [HRR.out], ValIn.plain _ _ 2 0 x (by decide) (by decide) HWZ.out⟩
  · have h34' : c.toNat ≠ 34 := fun e => h34 (UInt8.toNat_inj.1 e)
    have h91' : c.toNat ≠ 91 := fun e => hcc.1 (UInt8.toNat_inj.1 e)
    have h123' : c.toNat ≠ 123 := fun e => hcc.2 (UInt8.toNat_inj.1 e)
    have q1 : ((c.toNat : Int) == 34) = false := beq_eq_false_iff_ne.2 (by omega)
    have q2 : ((c.toNat : Int) != 91) = true := bne_iff_ne.2 (by omega)
    have q3 : ((c.toNat : Int) != 123) = true := bne_iff_ne.2 (by omega)
    have HR := Lib.hid (show readL (d1 + 1) (s.data.toList.drop k) = numberL (s.data.toList.drop k) by rw [hdr, readL_number d1 c _ h34 hcc.1 hcc.2])
    cases hq : numberL (s.data.toList.drop k) with
    | none =>
      have HO := Lib.hid (show readL (d1 + 1) (s.data.toList.drop k) = none by rw [HR.out, hq])
      have hqt : numberT s k = noT := by unfold numberT; rw [hq]
      rw [hqt] at NB
      unfold noT at NB
      clear hc hz0 hs0 hb0 hW0 he hdr hq hqt hcc hd0 h34 h34' h91' h123'
      go_enter Tryz.func52, Tryz.ntmps52
      go_wp2_with fail
      rw [HW0.out]
      refine NB.out.mono ?_
      rintro e w2 ⟨rfl, hb⟩
      obtain ⟨hz2, hb2⟩ := HFIN.out w2 hb
      have HZ := Lib.hid hz2
      have HB2 := Lib.hid hb2
      obtain ⟨z0, z1, z2, z3, z4, z5⟩ := hz2.cells
      have f0 := hz2.frozen 0
      have f1 := hz2.frozen 1
      have f2 := hz2.frozen 2
      have f3 := hz2.frozen 3
      have f4 := hz2.frozen 4
      have f5 := hz2.frozen 5
      clear hz2 hb2 hb
      go_wp2_with fail
      refine bodyPost_ret (results_cell_row (p := 6) rfl _ _ w.heap.size 87 _ (0, 0) _ rfl (set6_six HZ.out _ _ _ _ _ _) Tryz.underlying87 rfl tSize) rfl ?_
      exact ⟨set6_below HB2.out rfl _ _ _ _ _ _, by rw [HO.out]; rfl⟩
    | some p =>
      obtain ⟨T, r⟩ := p
      obtain ⟨m, rfl⟩ := numberL_shape _ _ _ hq
      have hm := numberL_small _ _ _ hq
      have HO := Lib.hid (show readL (d1 + 1) (s.data.toList.drop k) = some (.mk 1 m ⟨#[]⟩ [] [], r) by rw [HR.out, hq])
      have hqt : numberT s k = .agg #[.int .i64 1, .int .i64 m, .string ⟨#[]⟩, .slice none 0 0, .slice none 0 0, .int .i64 ((s.size - r.length : Nat) : Int)] := by unfold numberT; rw [hq]
      rw [hqt] at NB
      obtain ⟨a, ha⟩ : ∃ a : Nat, s.size - r.length = a := ⟨_, rfl⟩
      have HRR := Lib.hid ha
      have HM := Lib.hid hm
      rw [ha] at NB
      clear hc hz0 hs0 hb0 hW0 he hdr hq hqt hcc hd0 h34 h34' h91' h123' ha hm
      go_enter Tryz.func52, Tryz.ntmps52
      go_wp2_with fail
      rw [HW0.out]
      refine NB.out.mono ?_
      rintro e w2 ⟨rfl, hb⟩
      obtain ⟨hz2, hb2⟩ := HFIN.out w2 hb
      have HZ := Lib.hid hz2
      have HB2 := Lib.hid hb2
      obtain ⟨z0, z1, z2, z3, z4, z5⟩ := hz2.cells
      have f0 := hz2.frozen 0
      have f1 := hz2.frozen 1
      have f2 := hz2.frozen 2
      have f3 := hz2.frozen 3
      have f4 := hz2.frozen 4
      have f5 := hz2.frozen 5
      clear hz2 hb2 hb
      go_wp2_with fail
      refine bodyPost_ret (results_cell_row (p := 6) rfl _ _ w.heap.size 87 _ (0, 0) _ rfl (set6_six HZ.out _ _ _ _ _ _) Tryz.underlying87 rfl tSize) rfl ?_
      refine ⟨set6_below HB2.out rfl _ _ _ _ _ _, ?_⟩
      rw [HO.out]
      exact ⟨_, _, _, _, _, by rw [HRR.out], ValIn.plain _ _ 1 m ⟨#[]⟩ (by decide) ⟨by omega, by have := HM.out; omega⟩ (by decide)⟩
end Go.Proofs.YtepcaglekgeamaaGreatDoor
namespace Go.Proofs.YtepcaglekgeamaaGreatDoor
open Go.RowKit

structure NamesR (base : Nat) (w : World) (hn : Value) (ns : List ByteArray) : Prop where
  own : w.ownsRow base 9 1 hn ns.length (ns.map Value.string)
  size : ∀ x ∈ ns, x.size ≤ 1073741824

theorem NamesR.keep {base : Nat} {w w' : World} {hn : Value} {ns : List ByteArray} (h : NamesR base w hn ns) (hg : ∀ k, hn.ownBlock = some k → base ≤ k → k < w.heap.size → w'.heap[k]? = w.heap[k]?) : NamesR base w' hn ns := by
  refine ⟨?_, h.size⟩
  obtain ⟨h1, h2⟩ := h.own
  refine ⟨h1, ?_⟩
  rcases h2 with h2 | ⟨g, cap, cur, e, hb, hc, r⟩
  · exact Or.inl h2
  · exact Or.inr ⟨g, cap, cur, e, hb, (hg g (by rw [e]; rfl) hb (Array.getElem?_eq_some_iff.1 hc).1).trans hc, r⟩

theorem NamesR.strs {base : Nat} {w : World} {hn : Value} {ns : List ByteArray} (h : NamesR base w hn ns) : StrsAt w hn ns ∧ InS (fun b => base ≤ b) hn ns.length := by
  obtain ⟨hl, h2⟩ := h.own
  rcases h2 with ⟨rfl, h0⟩ | ⟨g, cap, cur, rfl, hb, hc, h3, h4, h5, h6⟩
  · exact ⟨Or.inl ⟨List.length_eq_zero_iff.1 h0, Or.inl rfl⟩, fun h => by omega⟩
  · refine ⟨?_, fun _ => ⟨g, 0, _, cap, rfl, hb⟩⟩
    by_cases h0 : ns.length = 0
    · exact Or.inl ⟨List.length_eq_zero_iff.1 h0, Or.inr ⟨⟨g, 0, none⟩, cap, by rw [h0], h4⟩⟩
    · refine Or.inr ⟨g, 0, cap, rfl, by omega, h3, h4, fun i hi => ?_⟩
      have := h.own.cellAt i (by omega)
      rw [Nat.zero_add, this, List.getElem?_map, List.getElem?_eq_getElem hi]
      rfl

structure StL (K : Int) (w0 : World) (items : List Val) (names : List ByteArray) (w : World) : Prop where
  below : Below w0.heap.size w0 w
  size : w0.heap.size + 2 ≤ w.heap.size
  zero : At6 w w0.heap.size (.int .i64 0) (.int .i64 0) (.string ⟨#[]⟩) (.slice none 0 0) (.slice none 0 0) (.int .i64 0)
  row : ∃ hv hn xs, At5 w (w0.heap.size + 1) (.int .i64 K) (.int .i64 0) (.string ⟨#[]⟩) hv hn ∧ RowOf (w0.heap.size + 2) w hv hn.ownBlock items xs ∧ NamesR (w0.heap.size + 2) w hn names

theorem StL.next {K : Int} {w0 w w' : World} {items : List Val} {names : List ByteArray} (h : StL K w0 items names w) (hb : Below w.heap.size w w') : StL K w0 items names w' := by
  obtain ⟨hv, hn, xs, h5, hr, hm⟩ := h.row
  have hs := h.size
  exact ⟨h.below.trans (hb.mono (by omega)), Nat.le_trans h.size hb.size, h.zero.keep hb, hv, hn, xs, h5.keep hb, hr.keep (fun k _ hl _ => hb.block k hl) (Or.inl rfl), hm.keep fun k _ _ hl => hb.block k hl⟩

theorem readL_rest (s : ByteArray) (k d : Nat) (T : Val) (r : List UInt8) (h : readL d (s.data.toList.drop k) = some (T, r)) : ∃ a : Nat, s.size - r.length = a ∧ (k ≤ s.size → k ≤ a) ∧ a ≤ s.size ∧ r = s.data.toList.drop a := by
  have hs := readL_sound d _ T r h
  have hl := Lib.size_eq s
  have h1 : s.data.toList.drop (k + (textL T).length) = r := by
    rw [← List.drop_drop, hs, List.drop_left' rfl]
  refine ⟨s.size - r.length, rfl, fun hk => ?_, by omega, ?_⟩
  · rw [← h1, List.length_drop]; omega
  have h2 : r.length = s.data.toList.length - (k + (textL T).length) := by rw [← h1, List.length_drop]
  rcases Nat.lt_or_ge s.data.toList.length (k + (textL T).length) with h3 | h3
  · have hr : r = [] := List.length_eq_zero_iff.1 (by omega)
    rw [hr, List.length_nil, Nat.sub_zero, hl, List.drop_length]
  · have h4 : s.size - r.length = k + (textL T).length := by omega
    rw [h4, h1]

theorem StL.item {K : Int} {w0 w w1 w2 w3 : World} {items : List Val} {names : List ByteArray} {hv hn : Value} {xs : List Value} {T : Val} {c0 c1 c2 c3 c4 : Value} {g cap m : Nat} {o : Obj} (h : StL K w0 items names w)
    (h5 : At5 w (w0.heap.size + 1) (.int .i64 K) (.int .i64 0) (.string ⟨#[]⟩) hv hn) (hr : RowOf (w0.heap.size + 2) w hv hn.ownBlock items xs) (hnm : NamesR (w0.heap.size + 2) w hn names) (hm : items.length = m)
    (hb1 : Below w.heap.size w w1) (hb2 : Below w1.heap.size w1 w2) (hT : ValIn (fun b => w.heap.size ≤ b) w2 (.agg #[c0, c1, c2, c3, c4]) T)
    (hown : w3.ownsRow (w0.heap.size + 2) 71 5 (.slice (some ⟨g, 0, none⟩) (m + 1) cap) (m + 1) (xs ++ [c0, c1, c2, c3, c4])) (hg3 : (w2.alloc o).grownBy w3 hv.ownBlock) (hat : hv.ownBlock = some g ∨ g = w2.heap.size + 1) :
    StL K w0 (items ++ [T]) names (w3.setCell ⟨w0.heap.size + 1, 3, none⟩ (.slice (some ⟨g, 0, none⟩) (m + 1) cap)) := by
  have hb : Below w.heap.size w w2 := Below.then hb1 hb2
  have hst := h.next hb
  have h52 := h5.keep hb
  have hr2 : RowOf (w0.heap.size + 2) w2 hv hn.ownBlock items xs := hr.keep (fun k _ hl _ => hb.block k hl) (Or.inl rfl)
  have hnm2 : NamesR (w0.heap.size + 2) w2 hn names := hnm.keep fun k _ _ hl => hb.block k hl
  have hob : ∀ k, hv.ownBlock = some k → w0.heap.size + 2 ≤ k ∧ k < w.heap.size := hr.own.lt
  have hobn : ∀ k, hn.ownBlock = some k → w0.heap.size + 2 ≤ k ∧ k < w.heap.size := hnm.own.lt
  have hgb : w0.heap.size + 2 ≤ g := by
    rcases hat with h | h
    · exact (hob g h).1
    · have := hst.size; omega
  have h3 : ∀ k, k < w2.heap.size → some k ≠ hv.ownBlock → w3.heap[k]? = w2.heap[k]? := fun k hk h2 => (hg3.block k (by simp; omega) h2).trans (Below.heap_alloc _ _ _ hk)
  have hs3 : w2.heap.size ≤ w3.heap.size := Nat.le_trans (by simp) hg3.size
  have hno : ∀ k, k < w0.heap.size + 2 → some k ≠ hv.ownBlock := fun k hk e => by have := (hob k e.symm).1; omega
  have hsz := hst.size
  have hws := hb.size
  subst hm
  refine ⟨⟨hg3.os.trans hst.below.os, hg3.tape.trans hst.below.tape, hg3.output.trans hst.below.output, ?_, fun k hk => ?_⟩, ?_, ?_, _, hn, xs ++ [c0, c1, c2, c3, c4], At5.set3 ((h3 _ (by omega) (hno _ (by omega))).trans h52) _, ?_, ?_⟩
  · rw [setCell_size]; exact Nat.le_trans hst.below.size hs3
  · rw [Below.heap_setCell _ _ _ _ (by show k ≠ w0.heap.size + 1; omega), h3 k (by omega) (hno k (by omega))]
    exact hst.below.block k hk
  · rw [setCell_size]; omega
  · refine (Below.heap_setCell _ _ _ _ (by show w0.heap.size ≠ w0.heap.size + 1; omega)).trans ?_
    exact (h3 _ (by omega) (hno _ (by omega))).trans hst.zero
  · refine RowOf.push (n0 := w.heap.size) hr2 h.size hws (fun k e => (hobn k e).2) (fun k e => (hob k e).2) hT (own_far hown _ 3 (by omega) _) ?_ fun k h0 hk h1 h2 => ?_
    · rcases hat with h | h
      · exact Or.inl h
      · exact Or.inr (by omega)
    · rw [Below.heap_setCell _ _ _ _ (by show k ≠ w0.heap.size + 1; omega)]
      exact h3 k hk h2
  · refine hnm2.keep fun k hk h0 hl => ?_
    rw [Below.heap_setCell _ _ _ _ (by show k ≠ w0.heap.size + 1; omega)]
    exact h3 k hl (fun e => hr2.apart k e.symm hk)

theorem StL.name {K : Int} {w0 w w1 w2 w3 : World} {items : List Val} {names : List ByteArray} {hv hn : Value} {xs : List Value} {q : ByteArray} {g cap m : Nat} {o : Obj} (h : StL K w0 items names w)
    (h5 : At5 w (w0.heap.size + 1) (.int .i64 K) (.int .i64 0) (.string ⟨#[]⟩) hv hn) (hr : RowOf (w0.heap.size + 2) w hv hn.ownBlock items xs) (hnm : NamesR (w0.heap.size + 2) w hn names) (hm : names.length = m)
    (hb1 : Below w.heap.size w w1) (hb2 : Below w1.heap.size w1 w2) (hq : q.size ≤ 1073741824)
    (hown : w3.ownsRow (w0.heap.size + 2) 9 1 (.slice (some ⟨g, 0, none⟩) (m + 1) cap) (m + 1) (names.map Value.string ++ [.string q])) (hg3 : (w2.alloc o).grownBy w3 hn.ownBlock) (hat : hn.ownBlock = some g ∨ g = w2.heap.size + 1) :
    StL K w0 items (names ++ [q]) (w3.setCell ⟨w0.heap.size + 1, 4, none⟩ (.slice (some ⟨g, 0, none⟩) (m + 1) cap)) := by
  have hb : Below w.heap.size w w2 := Below.then hb1 hb2
  have hst := h.next hb
  have h52 := h5.keep hb
  have hr2 : RowOf (w0.heap.size + 2) w2 hv hn.ownBlock items xs := hr.keep (fun k _ hl _ => hb.block k hl) (Or.inl rfl)
  have hob : ∀ k, hn.ownBlock = some k → w0.heap.size + 2 ≤ k ∧ k < w.heap.size := hnm.own.lt
  have hgb : w0.heap.size + 2 ≤ g := by
    rcases hat with h | h
    · exact (hob g h).1
    · have := hst.size; omega
  have h3 : ∀ k, k < w2.heap.size → some k ≠ hn.ownBlock → w3.heap[k]? = w2.heap[k]? := fun k hk h2 => (hg3.block k (by simp; omega) h2).trans (Below.heap_alloc _ _ _ hk)
  have hs3 : w2.heap.size ≤ w3.heap.size := Nat.le_trans (by simp) hg3.size
  have hno : ∀ k, k < w0.heap.size + 2 → some k ≠ hn.ownBlock := fun k hk e => by have := (hob k e.symm).1; omega
  have hsz := hst.size
  have hws := hb.size
  subst hm
  refine ⟨⟨hg3.os.trans hst.below.os, hg3.tape.trans hst.below.tape, hg3.output.trans hst.below.output, ?_, fun k hk => ?_⟩, ?_, ?_, hv, _, xs, At5.set4 ((h3 _ (by omega) (hno _ (by omega))).trans h52) _, ?_, ?_, fun x hx => ?_⟩
  · rw [setCell_size]; exact Nat.le_trans hst.below.size hs3
  · rw [Below.heap_setCell _ _ _ _ (by show k ≠ w0.heap.size + 1; omega), h3 k (by omega) (hno k (by omega))]
    exact hst.below.block k hk
  · rw [setCell_size]; omega
  · refine (Below.heap_setCell _ _ _ _ (by show w0.heap.size ≠ w0.heap.size + 1; omega)).trans ?_
    exact (h3 _ (by omega) (hno _ (by omega))).trans hst.zero
  · refine (hr2.keep (w' := w3) (nb' := some g) (fun k hk hlt hne => h3 k hlt (fun e => hne e.symm)) ?_).keep (fun k hk hlt hne => Below.heap_setCell _ _ _ _ (by show k ≠ w0.heap.size + 1; omega)) (Or.inl rfl)
    rcases hat with h | h
    · exact Or.inl h.symm
    · exact Or.inr fun k e => by have e2 : g = k := Option.some.inj e; omega
  · rw [List.length_append, List.map_append]
    exact own_far hown _ 4 (by omega) _
  · rcases List.mem_append.1 hx with hx | hx
    · exact hnm.size x hx
    · rw [List.mem_singleton.1 hx]; exact hq

theorem readL_row (d : Nat) (l : List UInt8) (h : l.head? ≠ some 93) : readL (d + 1) (91 :: l) = (itemsL (readL d) false 93 17 [] [] l).map fun p => (.mk 3 0 ⟨#[]⟩ p.1 p.2.1, p.2.2) := by
  rw [readL, if_neg (by decide), if_neg (by decide), if_neg (show ¬ l.head? = some (if (91 : UInt8) = 123 then 125 else 93) from h)]
  rfl

theorem items_row (rd : List UInt8 → Option (Val × List UInt8)) (en : UInt8) (f : Nat) (items : List Val) (names : List ByteArray) (s : List UInt8) : itemsL rd false en (f + 1) items names s = match rd s with
    | none => none
    | some (_, []) => none
    | some (x, c :: r) => if c = en then some (items ++ [x], names, r) else if c = 44 then itemsL rd false en f (items ++ [x]) names r else none := by
  rw [itemsL]
  rfl

theorem StL.val {K : Int} {w0 w : World} {items : List Val} {names : List ByteArray} {hv hn : Value} {xs : List Value} (hK : K = 3 ∨ K = 4) (h : StL K w0 items names w) (hr : RowOf (w0.heap.size + 2) w hv hn.ownBlock items xs) (hnm : NamesR (w0.heap.size + 2) w hn names) (c0 c1 c2 c3 c4 c5 : Value) :
    Below w0.heap.size w0 (set6 w w0.heap.size c0 c1 c2 c3 c4 c5) ∧ ValIn (fun b => w0.heap.size ≤ b) (set6 w w0.heap.size c0 c1 c2 c3 c4 c5) (.agg #[.int .i64 K, .int .i64 0, .string ⟨#[]⟩, hv, hn]) (.mk K 0 ⟨#[]⟩ items names) := by
  refine ⟨set6_below h.below rfl _ _ _ _ _ _, ?_⟩
  obtain ⟨ev, hf5, hin, hsub⟩ := hr.fives
  obtain ⟨hS, hSI⟩ := hnm.strs
  have hv' : ValIn (fun b => w0.heap.size + 2 ≤ b) w (.agg #[.int .i64 K, .int .i64 0, .string ⟨#[]⟩, hv, hn]) (.mk K 0 ⟨#[]⟩ items names) :=
    .mk K 0 ⟨#[]⟩ hv hn items names ev (by omega) (by decide) (by decide) hS hSI (fun x hx => Nat.le_trans (hnm.size x hx) (by unfold maxLen; omega)) hf5 hin hsub
  exact hv'.keep fun b hS _ => ⟨set6_block _ _ _ _ _ _ _ _ b (by omega), by omega⟩

theorem readL_obj (d : Nat) (l : List UInt8) (h : l.head? ≠ some 125) : readL (d + 1) (123 :: l) = (itemsL (readL d) true 125 17 [] [] l).map fun p => (.mk 4 0 ⟨#[]⟩ p.1 p.2.1, p.2.2) := by
  rw [readL, if_neg (by decide), if_neg (by decide), if_neg (show ¬ l.head? = some (if (123 : UInt8) = 123 then 125 else 93) from h)]
  rfl

theorem items_obj (rd : List UInt8 → Option (Val × List UInt8)) (en : UInt8) (f : Nat) (items : List Val) (names : List ByteArray) (s q s' : List UInt8) (hq : quoteL s = some (q, 58 :: s')) : itemsL rd true en (f + 1) items names s = match rd s' with
    | none => none
    | some (_, []) => none
    | some (x, c :: r) => if c = en then some (items ++ [x], names ++ [⟨q.toArray⟩], r) else if c = 44 then itemsL rd true en f (items ++ [x]) (names ++ [⟨q.toArray⟩]) r else none := by
  rw [itemsL, nameL, if_pos rfl, hq]
  rfl

theorem items_none (rd : List UInt8 → Option (Val × List UInt8)) (en : UInt8) (f : Nat) (items : List Val) (names : List ByteArray) (s : List UInt8) (hq : ∀ q s', quoteL s ≠ some (q, 58 :: s')) : itemsL rd true en f items names s = none := by
  cases f with
  | zero => rw [itemsL]
  | succ f =>
    have hn : nameL true names s = none := by
      rw [nameL, if_pos rfl]
      split
      · rename_i k c r hk
        exact if_neg fun e => hq k r (by rw [hk, e])
      · rfl
    rw [itemsL, hn]

theorem wordEnd_rest : ∀ (l q r : List UInt8), wordEnd l = some (q, r) → q.length + r.length + 1 = l.length ∧ r = l.drop (q.length + 1)
  | l, q, r, h => by
    have e := wordEnd_sound l q r h
    subst e
    refine ⟨by rw [List.length_append, List.length_cons]; omega, ?_⟩
    rw [List.drop_append, List.drop_of_length_le (by omega), show q.length + 1 - q.length = 1 by omega]
    rfl

theorem quoteL_rest (s : ByteArray) (k : Nat) (q r : List UInt8) (h : quoteL (s.data.toList.drop k) = some (q, r)) : ∃ a : Nat, s.size - r.length = a ∧ k + 2 ≤ a ∧ a ≤ s.size ∧ r = s.data.toList.drop a ∧ q.length ≤ s.size := by
  have hl := Lib.size_eq s
  rcases Nat.lt_or_ge k s.size with hk | hk
  · rw [drop_cons s k hk, quoteL] at h
    split at h
    · obtain ⟨h1, h2⟩ := wordEnd_rest _ q r h
      rw [List.length_drop] at h1
      rw [List.drop_drop] at h2
      have ha : s.size - r.length = k + 1 + (q.length + 1) := by omega
      exact ⟨_, rfl, by omega, by omega, by rw [ha]; exact h2, by omega⟩
    · cases h
  · rw [drop_end s k hk, quoteL] at h
    cases h
end Go.Proofs.YtepcaglekgeamaaGreatDoor
