/-
  What is written is read, of references, as plain functions. Conditions: none.
-/
import Derived.Test.YtcdibcogboaikaaDoorName5
import Derived.Test.YtcdibcogboaikaaDoorLawD
namespace Go.Proofs.YtcdibcogboaikaaDoor
open Go.RowKit

theorem ba_ext {a b : ByteArray} (h : a.data.toList = b.data.toList) : a = b := ByteArray.ext (Array.ext' h)
theorem extract_list (s : ByteArray) (i j : Nat) : (s.extract i j).data.toList = (s.data.toList.drop i).take (j - i) := by
  simp [List.extract_eq_take_drop]
theorem append_list (a b : ByteArray) : (a ++ b).data.toList = a.data.toList ++ b.data.toList := by simp
theorem size_list (s : ByteArray) : s.size = s.data.toList.length := Lib.size_eq s

/-! ### Names and slashes -/
theorem repoB_slash (a b : ByteArray) : repoB (a ++ { data := #[47] } ++ b) = (repoB a && repoB b && decide (a.size + b.size + 1 ≤ 128)) := by
  have h : repoL (a ++ { data := #[47] } ++ b).data.toList = (repoL a.data.toList && repoL b.data.toList) := by
    rw [append_list, append_list, List.append_assoc]; exact repoL_slash _ _
  have hs : (a ++ { data := #[47] } ++ b).size = a.size + b.size + 1 := by
    rw [ByteArray.size_append, ByteArray.size_append]; show a.size + 1 + b.size = _; omega
  unfold repoB
  rw [h, hs]
  by_cases hl : a.size + b.size + 1 ≤ 128
  · rw [decide_eq_true hl, decide_eq_true (show a.size ≤ 128 by omega), decide_eq_true (show b.size ≤ 128 by omega)]; simp
  · rw [decide_eq_false hl]; simp
theorem repoB_two (a b : ByteArray) : repoB (a ++ { data := #[47, 47] } ++ b) = false := by
  have h : repoL (a ++ { data := #[47, 47] } ++ b).data.toList = false := by
    rw [append_list, append_list, List.append_assoc]
    show repoL (a.data.toList ++ 47 :: ([] ++ 47 :: b.data.toList)) = false
    rw [repoL_slash, repoL_slash, repoL_nil]; simp
  unfold repoB; rw [h]; simp
theorem repoB_ahead (a : ByteArray) : repoB ({ data := #[47] } ++ a) = false := by
  have h : repoL ({ data := #[47] } ++ a : ByteArray).data.toList = false := by
    rw [append_list]
    show repoL ([] ++ 47 :: a.data.toList) = false
    rw [repoL_slash, repoL_nil]; simp
  unfold repoB; rw [h]; simp
theorem repoB_behind (a : ByteArray) : repoB (a ++ { data := #[47] }) = false := by
  have h : repoL (a ++ { data := #[47] } : ByteArray).data.toList = false := by
    rw [append_list]
    show repoL (a.data.toList ++ 47 :: []) = false
    rw [repoL_slash, repoL_nil]; simp
  unfold repoB; rw [h]; simp

/-! ### The first mark -/
theorem indexAny_spec (chars : List UInt8) : ∀ l : List UInt8, (Lib.indexAny l chars = -1 ∧ ∀ b ∈ l, chars.contains b = false) ∨
    ∃ (i : Nat) (x : UInt8), Lib.indexAny l chars = i ∧ l[i]? = some x ∧ chars.contains x = true ∧ Lib.NoAny l chars i
  | [] => Or.inl ⟨rfl, by simp⟩
  | c :: l => by
    cases hc : chars.contains c with
    | true => exact Or.inr ⟨0, c, by rw [Lib.indexAny, if_pos hc]; rfl, rfl, hc, Lib.NoAny.zero _ _⟩
    | false =>
      have hu : Lib.indexAny (c :: l) chars = if Lib.indexAny l chars == -1 then -1 else Lib.indexAny l chars + 1 := by
        rw [Lib.indexAny, hc]; simp
      rcases indexAny_spec chars l with ⟨h, hn⟩ | ⟨i, x, h, hx, hm, hn⟩
      · refine Or.inl ⟨by rw [hu, h]; rfl, fun b hb => ?_⟩
        rcases List.mem_cons.1 hb with rfl | hb
        · exact hc
        · exact hn b hb
      · refine Or.inr ⟨i + 1, x, ?_, by simpa using hx, hm, fun j b hj hb => ?_⟩
        · rw [hu, h, if_neg (fun e => by have := beq_iff_eq.1 e; omega)]; rfl
        · cases j with
          | zero => simp at hb; subst hb; exact hc
          | succ j => exact hn j b (by omega) (by simpa using hb)
theorem mark_cases {c : UInt8} (h : ([58, 64] : List UInt8).contains c = true) : c = 58 ∨ c = 64 := by
  simpa using h
theorem no_mark {c : UInt8} (h : c ≠ 58 ∧ c ≠ 64) : ([58, 64] : List UInt8).contains c = false := by
  simp [h.1, h.2]
theorem markAt_join (a b : ByteArray) (m : UInt8) (hm : m = 58 ∨ m = 64) (ha : ∀ c ∈ a.data.toList, c ≠ 58 ∧ c ≠ 64) : markAt (a ++ { data := #[m] } ++ b) = (a.size : Int) := by
  have hl : (a ++ { data := #[m] } ++ b).data.toList = a.data.toList ++ (m :: b.data.toList) := by rw [append_list, append_list, List.append_assoc]; rfl
  unfold markAt
  rw [hl, size_list a]
  refine Lib.indexAny_hit (x := m) (fun j c hj hc => ?_) (by rw [List.getElem?_append_right (Nat.le_refl _)]; simp) (by rcases hm with rfl | rfl <;> decide)
  rw [List.getElem?_append_left hj] at hc
  exact no_mark (ha c (List.mem_of_getElem? hc))
theorem join_parts (a b : ByteArray) (m : UInt8) : (a ++ { data := #[m] } ++ b).extract 0 a.size = a ∧ (a ++ { data := #[m] } ++ b).extract (a.size + 1) (a ++ { data := #[m] } ++ b).size = b ∧
    ((a ++ { data := #[m] } ++ b).extract a.size (a.size + 1)).toList = [m] := by
  have hl : (a ++ { data := #[m] } ++ b).data.toList = a.data.toList ++ (m :: b.data.toList) := by rw [append_list, append_list, List.append_assoc]; rfl
  have hs : (a ++ { data := #[m] } ++ b).size = a.size + 1 + b.size := by rw [ByteArray.size_append, ByteArray.size_append]; rfl
  have ha := size_list a
  have hb := size_list b
  refine ⟨ba_ext ?_, ba_ext ?_, ?_⟩
  · rw [extract_list, hl, List.drop_zero, Nat.sub_zero, ha]; simp
  · have e : ∀ (x y : List UInt8), (x ++ m :: y).drop (x.length + 1) = y := fun x y => by
      induction x with
      | nil => rfl
      | cons c x ih => simp
    rw [extract_list, hl, hs, ha, e, List.take_of_length_le (by omega)]
  · rw [Lib.toList_data, extract_list, hl, ha, List.drop_left, show a.data.toList.length + 1 - a.data.toList.length = 1 by omega]; rfl

/-! ### What is printed is parsed; what is parsed, printed, is the text -/
theorem empty_size {s : ByteArray} (h : s.size = 0) : s = ⟨#[]⟩ := empty_of s h
theorem repoB_marks {s : ByteArray} (h : repoB s = true) : ∀ c ∈ s.data.toList, c ≠ 58 ∧ c ≠ 64 := fun c hc => by
  unfold repoB at h
  rw [Bool.and_eq_true] at h
  exact repo_mark h.2 c hc
theorem tagB_empty : tagB ⟨#[]⟩ = false := by decide
theorem RefB.may_cases {r : RefB} (h : r.may = true) : repoB r.repo = true ∧ ((r.dig = ⟨#[]⟩ ∧ tagB r.tag = true) ∨ (r.dig.size ≠ 0 ∧ (parseD r.dig).2 = 0 ∧ r.tag = ⟨#[]⟩)) := by
  unfold RefB.may at h
  rw [Bool.and_eq_true] at h
  refine ⟨h.1, ?_⟩
  by_cases hd : r.dig.size = 0
  · rw [if_pos hd] at h
    exact Or.inl ⟨empty_of _ hd, h.2⟩
  · rw [if_neg hd, Bool.and_eq_true, beq_iff_eq, decide_eq_true_eq] at h
    exact Or.inr ⟨hd, h.2.1, empty_of _ h.2.2⟩

theorem cut_text {r : RefB} (h : r.may = true) : cutR r.text = r := by
  obtain ⟨h1, h2⟩ := RefB.may_cases h
  have hr := repoB_marks h1
  obtain ⟨repo, tag, dig⟩ := r
  simp only [] at h1 h2 hr
  rcases h2 with ⟨rfl, h2⟩ | ⟨h2, h3, rfl⟩
  · have ht : (RefB.mk repo tag ⟨#[]⟩).text = repo ++ { data := #[58] } ++ tag := rfl
    obtain ⟨p1, p2, p3⟩ := join_parts repo tag 58
    unfold cutR
    rw [ht, markAt_join repo tag 58 (Or.inl rfl) hr, if_neg (by omega)]
    simp only [Int.toNat_natCast]
    rw [p3, p1, p2]; rfl
  · have ht : (RefB.mk repo ⟨#[]⟩ dig).text = repo ++ { data := #[64] } ++ dig := by unfold RefB.text; simp only [if_neg h2]
    obtain ⟨p1, p2, p3⟩ := join_parts repo dig 64
    unfold cutR
    rw [ht, markAt_join repo dig 64 (Or.inr rfl) hr, if_neg (by omega)]
    simp only [Int.toNat_natCast]
    rw [p3, p1, p2]; rfl

/-- A text is what lies ahead of a byte, the byte, and what lies behind it. -/
theorem join_at (s : ByteArray) (i : Nat) (c : UInt8) (h : s.data.toList[i]? = some c) : s.extract 0 i ++ { data := #[c] } ++ s.extract (i + 1) s.size = s := by
  obtain ⟨hi, hc⟩ := List.getElem?_eq_some_iff.1 h
  refine ba_ext ?_
  rw [append_list, append_list, extract_list, extract_list, size_list s, List.drop_zero, Nat.sub_zero, List.take_of_length_le (l := s.data.toList.drop (i + 1)) (by rw [List.length_drop]; omega)]
  show s.data.toList.take i ++ [c] ++ s.data.toList.drop (i + 1) = _
  rw [← hc, List.append_assoc, List.singleton_append, ← List.drop_eq_getElem_cons hi, List.take_append_drop]
theorem one_at (s : ByteArray) (i : Nat) (c : UInt8) (h : s.data.toList[i]? = some c) : (s.extract i (i + 1)).toList = [c] := by
  obtain ⟨hi, hc⟩ := List.getElem?_eq_some_iff.1 h
  rw [Lib.toList_data, extract_list, show i + 1 - i = 1 by omega, List.drop_eq_getElem_cons hi, hc]; rfl
/-- What a text is taken apart to. -/
theorem cutR_cases (s : ByteArray) : (cutR s = ⟨s, ⟨#[]⟩, ⟨#[]⟩⟩ ∧ ∀ c ∈ s.data.toList, c ≠ 58 ∧ c ≠ 64) ∨
    ∃ i : Nat, i < s.size ∧ markAt s = i ∧ (s.data.toList[i]? = some 58 ∧ cutR s = ⟨s.extract 0 i, s.extract (i + 1) s.size, ⟨#[]⟩⟩ ∨ s.data.toList[i]? = some 64 ∧ cutR s = ⟨s.extract 0 i, ⟨#[]⟩, s.extract (i + 1) s.size⟩) := by
  rcases indexAny_spec [58, 64] s.data.toList with ⟨h, hn⟩ | ⟨i, x, h, hx, hm, hn⟩
  · refine Or.inl ⟨by unfold cutR markAt; rw [h]; rfl, fun c hc => ?_⟩
    have := hn c hc
    simpa using this
  · refine Or.inr ⟨i, by rw [size_list]; exact (List.getElem?_eq_some_iff.1 hx).1, h, ?_⟩
    have hu : cutR s = if (s.extract i (i + 1)).toList == [58] then ⟨s.extract 0 i, s.extract (i + 1) s.size, ⟨#[]⟩⟩ else ⟨s.extract 0 i, ⟨#[]⟩, s.extract (i + 1) s.size⟩ := by
      unfold cutR markAt; rw [h, if_neg (by omega)]; rfl
    rw [one_at s i x hx] at hu
    rcases mark_cases hm with rfl | rfl
    · exact Or.inl ⟨hx, hu⟩
    · exact Or.inr ⟨hx, hu⟩
theorem text_cut {s : ByteArray} (h : (cutR s).may = true) : (cutR s).text = s := by
  obtain ⟨h1, h2⟩ := RefB.may_cases h
  rcases cutR_cases s with ⟨e, -⟩ | ⟨i, hi, -, ⟨hx, e⟩ | ⟨hx, e⟩⟩
  · rw [e] at h2
    rcases h2 with ⟨-, h2⟩ | ⟨h2, -⟩
    · exact absurd h2 (by simp [tagB_empty])
    · exact absurd rfl h2
  · rw [e]
    exact join_at s i 58 hx
  · rw [e] at h2
    rcases h2 with ⟨-, h2⟩ | ⟨h2, -⟩
    · exact absurd h2 (by simp [tagB_empty])
    · rw [e]
      unfold RefB.text
      simp only [] at h2
      simp only [if_neg h2]
      exact join_at s i 64 hx
theorem parse_print {r : RefB} (h : (printR r).2 = 0) : parseN (printR r).1 = (r, 0) := by
  unfold printR at h ⊢
  cases hm : r.may with
  | false => rw [hm] at h; cases h
  | true =>
    simp only [if_true]
    unfold parseN
    rw [cut_text hm, hm]; rfl
theorem print_parse {s : ByteArray} (h : (parseN s).2 = 0) : printR (parseN s).1 = (s, 0) := by
  unfold parseN at h ⊢
  cases hm : (cutR s).may with
  | false => rw [hm] at h; cases h
  | true =>
    simp only [if_true]
    unfold printR
    rw [hm, text_cut hm]; rfl
theorem parseN_cases (s : ByteArray) : (parseN s).2 = 0 ∨ parseN s = (emptyR, 5) := by
  unfold parseN
  cases (cutR s).may with
  | true => exact Or.inl rfl
  | false => exact Or.inr rfl
theorem printR_cases (r : RefB) : (printR r).2 = 0 ∨ printR r = (⟨#[]⟩, 1) := by
  unfold printR
  cases r.may with
  | true => exact Or.inl rfl
  | false => exact Or.inr rfl
theorem printR_may (r : RefB) : ((printR r).2 == 0) = r.may := by
  unfold printR
  cases r.may <;> rfl

/-! ### A name with a tag and a digest -/
theorem hexDig_64 : ∀ n : Fin 16, hexDig n.1 ≠ 64 := by decide
theorem hexL_64 : ∀ (l : List UInt8), ∀ c ∈ hexL l, c ≠ 64
  | [], c, hc => by simp [hexL] at hc
  | x :: l, c, hc => by
    have h1 := x.toNat_lt
    unfold hexL at hc
    rcases List.mem_cons.1 hc with rfl | hc
    · exact hexDig_64 ⟨x.toNat / 16, by omega⟩
    · rcases List.mem_cons.1 hc with rfl | hc
      · exact hexDig_64 ⟨x.toNat % 16, by omega⟩
      · exact hexL_64 l c hc
theorem unhexL_64 (l r : List UInt8) (h : unhexL l = some r) : ∀ c ∈ l, c ≠ 64 := by
  intro c hc
  rw [← hexL_unhexL l r h] at hc
  exact hexL_64 r c hc
theorem parseD_64 {d : ByteArray} (h : (parseD d).2 = 0) : ∀ c ∈ d.data.toList, c ≠ 64 := by
  unfold parseD at h
  split at h
  · rename_i hp
    split at h
    · rename_i l hu
      intro c hc
      rw [← List.take_append_drop 7 d.data.toList, List.mem_append] at hc
      rcases hc with hc | hc
      · have e : d.data.toList.take 7 = prefB.data.toList := ((List.isPrefixOf_iff_prefix.trans List.prefix_iff_eq_take).1 hp.1).symm
        rw [e] at hc
        exact (show ∀ c ∈ prefB.data.toList, c ≠ 64 by decide) c hc
      · exact unhexL_64 _ _ hu c hc
    · cases h
  · cases h
theorem one_mark {a b c e : List UInt8} {m : UInt8} (ha : m ∉ a) (hb : m ∉ b) (h : a ++ m :: b = c ++ m :: e) : a = c := by
  rcases List.append_eq_append_iff.1 h with ⟨t, h1, h2⟩ | ⟨t, h1, h2⟩
  · cases t with
    | nil => simpa using h1.symm
    | cons x t =>
      simp only [List.cons_append, List.cons.injEq] at h2
      exact absurd (by rw [h2.2]; simp) hb
  · cases t with
    | nil => simpa using h1
    | cons x t =>
      simp only [List.cons_append, List.cons.injEq] at h2
      exact absurd (by rw [h1, ← h2.1]; simp) ha
theorem both_none (repo tag d : ByteArray) : (cutR (repo ++ { data := #[58] } ++ tag ++ { data := #[64] } ++ d)).may = false := by
  cases hm : (cutR (repo ++ { data := #[58] } ++ tag ++ { data := #[64] } ++ d)).may with
  | false => rfl
  | true =>
    exfalso
    have ht := text_cut hm
    obtain ⟨h1, h2⟩ := RefB.may_cases hm
    have hl : (repo ++ { data := #[58] } ++ tag ++ { data := #[64] } ++ d).data.toList = (repo.data.toList ++ 58 :: tag.data.toList) ++ 64 :: d.data.toList := by
      simp only [append_list, List.append_assoc]; rfl
    generalize cutR (repo ++ { data := #[58] } ++ tag ++ { data := #[64] } ++ d) = r at ht h1 h2
    have hr := repoB_marks h1
    have ht2 : r.text.data.toList = _ := congrArg (fun s : ByteArray => s.data.toList) ht
    rw [hl] at ht2
    obtain ⟨R, T, D⟩ := r
    rcases h2 with ⟨rfl, h2⟩ | ⟨h2, h3, rfl⟩
    · have e : (RefB.mk R T ⟨#[]⟩).text.data.toList = R.data.toList ++ 58 :: T.data.toList := by
        show (R ++ { data := #[58] } ++ T).data.toList = _
        simp only [append_list, List.append_assoc]; rfl
      rw [e] at ht2
      have hm : (64 : UInt8) ∈ R.data.toList ++ 58 :: T.data.toList := by rw [ht2]; simp
      rw [List.mem_append, List.mem_cons] at hm
      rcases hm with hm | hm | hm
      · exact (hr 64 hm).2 rfl
      · exact absurd hm (by decide)
      · exact (tag_mark h2 64 hm).2 rfl
    · have e : (RefB.mk R ⟨#[]⟩ D).text.data.toList = R.data.toList ++ 64 :: D.data.toList := by
        unfold RefB.text
        simp only [if_neg h2, append_list, List.append_assoc]; rfl
      rw [e] at ht2
      have := one_mark (fun h => (hr 64 h).2 rfl) (fun h => parseD_64 h3 64 h rfl) ht2
      exact (hr 58 (by rw [this]; simp)).1 rfl
end Go.Proofs.YtcdibcogboaikaaDoor
