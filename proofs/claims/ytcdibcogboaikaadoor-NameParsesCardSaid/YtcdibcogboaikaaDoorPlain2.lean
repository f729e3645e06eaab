/-
  Plain functions on rows of bytes: bound texts, and taking them apart. Conditions: none.
-/
import Derived.Test.YtcdibcogboaikaaDoorPlain
namespace Go.Proofs.YtcdibcogboaikaaDoor

/-- Texts, each behind its length in two bytes. -/
def bindL (ss : List ByteArray) : List UInt8 := ss.flatMap fun s => wideL s.size 2 ++ s.data.toList
theorem bindL_snoc (ss : List ByteArray) (s : ByteArray) : bindL (ss ++ [s]) = bindL ss ++ (wideL s.size 2 ++ s.data.toList) := by simp [bindL]
theorem bindL_append (a b : List ByteArray) : bindL (a ++ b) = bindL a ++ bindL b := by simp [bindL]
theorem bindL_length_le (ss : List ByteArray) (h : ∀ s ∈ ss, s.size ≤ 4096) : (bindL ss).length ≤ 4098 * ss.length := by
  induction ss with
  | nil => simp [bindL]
  | cons s r ih =>
    have h1 := h s (by simp)
    have h2 := ih fun x hx => h x (by simp [hx])
    have e : bindL (s :: r) = (wideL s.size 2 ++ s.data.toList) ++ bindL r := by simp [bindL]
    rw [e, List.length_append, List.length_append, wideL_length]
    have h3 : s.data.toList.length = s.size := by simp
    rw [List.length_cons]; omega
theorem wideL_two (n : Nat) : wideL n 2 = [UInt8.ofNat (n % 256), UInt8.ofNat (n / 256 % 256)] := by
  simp [wideL, List.range_succ]
theorem numL_two (n : Nat) (h : n < 65536) : numL (wideL n 2) = n := by
  rw [wideL_two]
  simp only [numL]
  rw [UInt8.toNat_ofNat_of_lt' (by have := Nat.mod_lt n (show 0 < 256 by decide); simpa using this), UInt8.toNat_ofNat_of_lt' (by have := Nat.mod_lt (n / 256) (show 0 < 256 by decide); simpa using this)]
  omega

/-- Taking a row of bytes apart: the texts, or the error's number. -/
def looseGo : Nat → List UInt8 → List ByteArray → List ByteArray ⊕ Int
  | 0, _, acc => .inl acc
  | f + 1, l, acc => if l = [] then .inl acc else if l.length < 2 then .inr 3 else if 4096 < numL (l.take 2) ∨ 64 ≤ acc.length then .inr 2 else
    if l.length - 2 < numL (l.take 2) then .inr 3 else looseGo f ((l.drop 2).drop (numL (l.take 2))) (acc ++ [⟨((l.drop 2).take (numL (l.take 2))).toArray⟩])
def looseB (s : ByteArray) : List ByteArray ⊕ Int := looseGo (s.size + 1) s.data.toList []
theorem looseGo_nil (f : Nat) (acc : List ByteArray) : looseGo f [] acc = .inl acc := by cases f <;> simp [looseGo]
theorem looseGo_short2 (f : Nat) (l : List UInt8) (acc : List ByteArray) (h0 : l ≠ []) (h : l.length < 2) : looseGo (f + 1) l acc = .inr 3 := by
  simp [looseGo, h0, h]
theorem looseGo_long (f : Nat) (l : List UInt8) (acc : List ByteArray) (h : 2 ≤ l.length) (h2 : 4096 < numL (l.take 2) ∨ 64 ≤ acc.length) : looseGo (f + 1) l acc = .inr 2 := by
  have h0 : l ≠ [] := by rintro rfl; simp at h
  rw [looseGo, if_neg h0, if_neg (by omega), if_pos h2]
theorem looseGo_short (f : Nat) (l : List UInt8) (acc : List ByteArray) (h : 2 ≤ l.length) (h2 : ¬ (4096 < numL (l.take 2) ∨ 64 ≤ acc.length)) (h3 : l.length - 2 < numL (l.take 2)) : looseGo (f + 1) l acc = .inr 3 := by
  have h0 : l ≠ [] := by rintro rfl; simp at h
  rw [looseGo, if_neg h0, if_neg (by omega), if_neg h2, if_pos h3]
theorem looseGo_more (f : Nat) (l : List UInt8) (acc : List ByteArray) (h : 2 ≤ l.length) (h2 : ¬ (4096 < numL (l.take 2) ∨ 64 ≤ acc.length)) (h3 : ¬ l.length - 2 < numL (l.take 2)) :
    looseGo (f + 1) l acc = looseGo f ((l.drop 2).drop (numL (l.take 2))) (acc ++ [⟨((l.drop 2).take (numL (l.take 2))).toArray⟩]) := by
  have h0 : l ≠ [] := by rintro rfl; simp at h
  rw [looseGo, if_neg h0, if_neg (by omega), if_neg h2, if_neg h3]
/-- More fuel changes nothing. -/
theorem looseGo_fuel : ∀ (f g : Nat) (l : List UInt8) (acc : List ByteArray), l.length < f → f ≤ g → looseGo g l acc = looseGo f l acc
  | 0, _, l, _, h, _ => by omega
  | f + 1, 0, l, _, _, h => by omega
  | f + 1, g + 1, l, acc, h, hg => by
    by_cases h0 : l = []
    · subst h0; rw [looseGo_nil, looseGo_nil]
    by_cases h1 : l.length < 2
    · rw [looseGo_short2 _ _ _ h0 h1, looseGo_short2 _ _ _ h0 h1]
    by_cases h2 : 4096 < numL (l.take 2) ∨ 64 ≤ acc.length
    · rw [looseGo_long _ _ _ (by omega) h2, looseGo_long _ _ _ (by omega) h2]
    by_cases h3 : l.length - 2 < numL (l.take 2)
    · rw [looseGo_short _ _ _ (by omega) h2 h3, looseGo_short _ _ _ (by omega) h2 h3]
    rw [looseGo_more _ _ _ (by omega) h2 h3, looseGo_more _ _ _ (by omega) h2 h3]
    exact looseGo_fuel f g _ _ (by simp; omega) (by omega)

theorem toList_size (s : ByteArray) : s.data.toList.length = s.size := by simp
theorem mk_toList (s : ByteArray) : (⟨s.data.toList.toArray⟩ : ByteArray) = s := by cases s; rfl

/-- What was bound is taken apart, up to any further row of bytes. -/
theorem looseGo_bind : ∀ (ss : List ByteArray) (q : List UInt8) (acc : List ByteArray) (f : Nat), (∀ s ∈ ss, s.size ≤ 4096) → acc.length + ss.length ≤ 64 → (bindL ss ++ q).length < f →
    looseGo f (bindL ss ++ q) acc = looseGo f q (acc ++ ss)
  | [], q, acc, f, _, _, _ => by simp [bindL]
  | s :: r, q, acc, 0, _, _, hf => by omega
  | s :: r, q, acc, f + 1, hs, hl, hf => by
    have h1 := hs s (by simp)
    have e : bindL (s :: r) ++ q = wideL s.size 2 ++ (s.data.toList ++ (bindL r ++ q)) := by simp [bindL]
    have ht : (bindL (s :: r) ++ q).take 2 = wideL s.size 2 := by
      rw [e, List.take_left' (wideL_length _ _)]
    have hd : (bindL (s :: r) ++ q).drop 2 = s.data.toList ++ (bindL r ++ q) := by
      rw [e, List.drop_left' (wideL_length _ _)]
    have hn : numL ((bindL (s :: r) ++ q).take 2) = s.size := by rw [ht, numL_two _ (by omega)]
    have hlen : (bindL (s :: r) ++ q).length = 2 + s.size + (bindL r ++ q).length := by
      rw [e, List.length_append, List.length_append, wideL_length, toList_size]; omega
    simp only [List.length_cons] at hl
    rw [looseGo_more _ _ _ (by omega) (by rw [hn]; omega) (by rw [hn]; omega), hn, hd, List.drop_left' (toList_size s), List.take_left' (toList_size s), mk_toList]
    rw [looseGo_bind r q (acc ++ [s]) f (fun x hx => hs x (by simp [hx])) (by simp; omega) (by omega)]
    rw [List.append_assoc, List.singleton_append]
    have hq : q.length ≤ (bindL r ++ q).length := by simp
    exact (looseGo_fuel (q.length + 1) f _ _ (by omega) (by omega)).trans (looseGo_fuel (q.length + 1) (f + 1) _ _ (by omega) (by omega)).symm
/-- What is bound is read. -/
theorem looseB_bind (ss : List ByteArray) (hs : ∀ s ∈ ss, s.size ≤ 4096) (hl : ss.length ≤ 64) : looseB ⟨(bindL ss).toArray⟩ = .inl ss := by
  unfold looseB
  have := looseGo_bind ss [] [] ((⟨(bindL ss).toArray⟩ : ByteArray).size + 1) hs (by simpa using hl) (by simp [ByteArray.size])
  simp only [List.append_nil, List.nil_append, looseGo_nil] at this
  simpa using this

theorem bindL_inj (a b : List ByteArray) (ha : ∀ s ∈ a, s.size ≤ 4096) (la : a.length ≤ 64) (hb : ∀ s ∈ b, s.size ≤ 4096) (lb : b.length ≤ 64) (h : bindL a = bindL b) : a = b := by
  have h1 := looseB_bind a ha la
  rw [h, looseB_bind b hb lb] at h1
  injection h1 with h1
  exact h1.symm
theorem bindL_cons (s : ByteArray) (r : List ByteArray) : bindL (s :: r) = wideL s.size 2 ++ (s.data.toList ++ bindL r) := by simp [bindL]
theorem bindL_cons_length (s : ByteArray) (r : List ByteArray) : (bindL (s :: r)).length = 2 + s.size + (bindL r).length := by
  rw [bindL_cons, List.length_append, List.length_append, wideL_length, toList_size]; omega

/-- Cut anywhere: at a text's end its texts, else short. -/
theorem loose_cut : ∀ (L : List ByteArray) (j : Nat) (acc : List ByteArray) (f : Nat), (∀ s ∈ L, s.size ≤ 4096) → acc.length + L.length ≤ 64 → j ≤ (bindL L).length → j < f →
    (∃ k, k ≤ L.length ∧ (bindL (L.take k)).length = j ∧ looseGo f ((bindL L).take j) acc = .inl (acc ++ L.take k)) ∨
    ((∀ k, k ≤ L.length → (bindL (L.take k)).length ≠ j) ∧ looseGo f ((bindL L).take j) acc = .inr 3)
  | [], j, acc, f, _, _, hj, _ => by
    have : j = 0 := by simpa [bindL] using hj
    subst this
    exact Or.inl ⟨0, Nat.le_refl _, rfl, by simp [looseGo_nil]⟩
  | s :: r, j, acc, 0, _, _, _, hf => by omega
  | s :: r, j, acc, f + 1, hs, hl, hj, hf => by
    have h1 := hs s (by simp)
    simp only [List.length_cons] at hl
    by_cases h0 : j = 0
    · subst h0
      exact Or.inl ⟨0, Nat.zero_le _, rfl, by simp [looseGo_nil]⟩
    rw [bindL_cons_length] at hj
    have ht2 : 2 ≤ j → ((bindL (s :: r)).take j).take 2 = wideL s.size 2 := fun h => by
      rw [List.take_take, Nat.min_eq_left h, bindL_cons, List.take_left' (wideL_length _ _)]
    have hlen : ((bindL (s :: r)).take j).length = j := by rw [List.length_take, bindL_cons_length]; omega
    by_cases hin : j < 2 + s.size
    · right
      refine ⟨?_, ?_⟩
      · intro k hk
        cases k with
        | zero => simp [bindL]; omega
        | succ k => rw [List.take_succ_cons, bindL_cons_length]; omega
      · by_cases h2 : j < 2
        · exact looseGo_short2 _ _ _ (by intro e; rw [e] at hlen; simp at hlen; omega) (by rw [hlen]; exact h2)
        · have hn : numL (((bindL (s :: r)).take j).take 2) = s.size := by rw [ht2 (by omega), numL_two _ (by omega)]
          exact looseGo_short _ _ _ (by rw [hlen]; omega) (by rw [hn]; omega) (by rw [hlen, hn]; omega)
    · have hn : numL (((bindL (s :: r)).take j).take 2) = s.size := by rw [ht2 (by omega), numL_two _ (by omega)]
      have e : (bindL (s :: r)).take j = wideL s.size 2 ++ (s.data.toList ++ (bindL r).take (j - 2 - s.size)) := by
        rw [bindL_cons, List.take_append, wideL_length, List.take_of_length_le (by rw [wideL_length]; omega), List.take_append, toList_size, List.take_of_length_le (by rw [toList_size]; omega)]
      have hd : ((bindL (s :: r)).take j).drop 2 = s.data.toList ++ (bindL r).take (j - 2 - s.size) := by rw [e, List.drop_left' (wideL_length _ _)]
      have hm := looseGo_more f ((bindL (s :: r)).take j) acc (by rw [hlen]; omega) (by rw [hn]; omega) (by rw [hlen, hn]; omega)
      rw [hn, hd, List.drop_left' (toList_size s), List.take_left' (toList_size s), mk_toList] at hm
      rw [hm]
      rcases loose_cut r (j - 2 - s.size) (acc ++ [s]) f (fun x hx => hs x (by simp [hx])) (by simp; omega) (by omega) (by omega) with ⟨k, hk, hkl, hg⟩ | ⟨hno, hg⟩
      · refine Or.inl ⟨k + 1, by simp; omega, ?_, ?_⟩
        · rw [List.take_succ_cons, bindL_cons_length]; omega
        · rw [hg, List.take_succ_cons, List.append_assoc, List.singleton_append]
      · refine Or.inr ⟨?_, hg⟩
        intro k hk
        cases k with
        | zero => simp [bindL]; omega
        | succ k =>
          rw [List.take_succ_cons, bindL_cons_length]
          have := hno k (by simpa using hk)
          omega
end Go.Proofs.YtcdibcogboaikaaDoor
