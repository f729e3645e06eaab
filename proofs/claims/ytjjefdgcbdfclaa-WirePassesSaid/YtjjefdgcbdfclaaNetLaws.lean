/-
  Nets as plain functions: laws of what the calls answer. Conditions: none.
-/
import Derived.Test.YtjjefdgcbdfclaaNetPlain
namespace Go.Proofs.Ytjjefdgcbdfclaa

/-! ### Which nets may be -/
structure Nt.May (n : Nt) : Prop where
  ms : ∀ m ∈ n.fl, 1 ≤ m.id ∧ m.id ≤ n.last ∧ 0 ≤ m.to ∧ m.to ≤ 63 ∧ m.body.size ≤ 4096 ∧ 0 ≤ m.tm ∧ m.tm ≤ n.now
  few : n.fl.length ≤ 32
  last : 0 ≤ n.last ∧ n.last ≤ 1099511627776
  now : 0 ≤ n.now ∧ n.now ≤ 1099511627776
theorem Ms.ok_iff (l t : Int) (m : Ms) : Ms.ok l t m = true ↔ 1 ≤ m.id ∧ m.id ≤ l ∧ 0 ≤ m.to ∧ m.to ≤ 63 ∧ m.body.size ≤ 4096 ∧ 0 ≤ m.tm ∧ m.tm ≤ t := by
  simp [Ms.ok, and_assoc]
theorem Nt.right_iff (n : Nt) : n.right = true ↔ n.May := by
  constructor
  · intro h
    simp only [Nt.right, tickB, Bool.and_eq_true, decide_eq_true_eq, List.all_eq_true] at h
    exact ⟨fun m hm => (Ms.ok_iff _ _ _).1 (h.1.1.1 m hm), h.1.1.2, h.1.2, h.2⟩
  · intro h
    simp only [Nt.right, tickB, Bool.and_eq_true, decide_eq_true_eq, List.all_eq_true]
    exact ⟨⟨⟨fun m hm => (Ms.ok_iff _ _ _).2 (h.ms m hm), h.few⟩, h.last⟩, h.now⟩
theorem Nt.May.fits {n : Nt} (h : n.May) : ∀ m ∈ n.fl, m.fits := fun m hm => by
  obtain ⟨h1, h2, h3, h4, h5, h6, h7⟩ := h.ms m hm
  have := h.last
  have := h.now
  refine ⟨⟨by omega, by omega⟩, ⟨by omega, by omega⟩, ?_, by omega, by omega⟩
  unfold maxLen; omega

/-! ### Time goes on -/
def pt (now t : Int) : Int := if t < 1099511627776 - now then now + t else 1099511627776
theorem pt_add {now a b : Int} (hb : 0 ≤ b) : pt (pt now a) b = pt now (a + b) := by
  unfold pt
  split <;> split <;> split <;> omega
theorem pt_ge {now a : Int} (hn : 0 ≤ now ∧ now ≤ 1099511627776) (ha : 0 ≤ a) : now ≤ pt now a ∧ pt now a ≤ 1099511627776 := by
  unfold pt
  split <;> omega
theorem pass_ok {n : Nt} {t : Int} (h : n.right = true) (ht : 0 ≤ t) : passA n t = (⟨n.fl, n.last, pt n.now t⟩, 0) := by
  unfold passA
  rw [if_neg (by rw [h]; rintro (h | h) <;> first | cases h | omega)]; rfl
theorem pass_no {n : Nt} {t : Int} (h : n.right = false ∨ t < 0) : passA n t = (noN, 1) := by unfold passA; rw [if_pos h]
theorem pass_right {n : Nt} {t : Int} (h : n.right = true) (ht : 0 ≤ t) : (⟨n.fl, n.last, pt n.now t⟩ : Nt).right = true := by
  rw [Nt.right_iff] at h ⊢
  have := pt_ge h.now ht
  refine ⟨fun m hm => ?_, h.few, h.last, ?_⟩
  · obtain ⟨h1, h2, h3, h4, h5, h6, h7⟩ := h.ms m hm
    refine ⟨h1, h2, h3, h4, h5, h6, ?_⟩
    show m.tm ≤ pt n.now t
    omega
  · have := h.now
    show 0 ≤ pt n.now t ∧ pt n.now t ≤ 1099511627776
    omega

/-! ### What is late -/
theorem lateL_le {t u : Int} (h : t ≤ u) : ∀ (k : Nat) (l : List Ms), (lateL t k l).length ≤ (lateL u k l).length
  | _, [] => Nat.le_refl _
  | k, m :: l => by
    unfold lateL
    have := lateL_le h (k + 1) l
    by_cases e : m.tm ≤ t
    · rw [if_pos e, if_pos (show m.tm ≤ u by omega), List.length_cons, List.length_cons]; omega
    · rw [if_neg e]
      split
      · rw [List.length_cons]; omega
      · exact this
theorem lateL_len (t : Int) : ∀ (k : Nat) (l : List Ms), (lateL t k l).length ≤ l.length
  | _, [] => Nat.le_refl _
  | k, m :: l => by
    unfold lateL
    have := lateL_len t (k + 1) l
    split
    · rw [List.length_cons, List.length_cons]; omega
    · rw [List.length_cons]; omega
theorem lateL_cons (t : Int) (k : Nat) (m : Ms) (l : List Ms) : lateL t k (m :: l) = if m.tm ≤ t then k :: lateL t (k + 1) l else lateL t (k + 1) l := rfl
theorem lateL_app (t : Int) : ∀ (k : Nat) (l l' : List Ms), lateL t k (l ++ l') = lateL t k l ++ lateL t (k + l.length) l'
  | _, [], _ => rfl
  | k, m :: l, l' => by
    have := lateL_app t (k + 1) l l'
    rw [List.length_cons, show k + (l.length + 1) = k + 1 + l.length by omega, List.cons_append, lateL_cons, lateL_cons, this]
    split <;> rfl
theorem lateL_lt (t : Int) : ∀ (k : Nat) (l : List Ms), ∀ j ∈ lateL t k l, k ≤ j ∧ j < k + l.length
  | _, [], j, h => by cases h
  | k, m :: l, j, h => by
    have ih := lateL_lt t (k + 1) l j
    rw [List.length_cons]
    unfold lateL at h
    split at h
    · rcases List.mem_cons.1 h with rfl | h
      · omega
      · have := ih h; omega
    · have := ih h; omega
/-- The last one is late, or not. -/
theorem lateL_last (t : Int) (l : List Ms) (m : Ms) : (lateL t 0 (l ++ [m])).any (· == l.length) = decide (m.tm ≤ t) := by
  rw [lateL_app, List.any_append, Nat.zero_add]
  have h : (lateL t 0 l).any (· == l.length) = false := by
    rw [List.any_eq_false]
    intro j hj
    have := (lateL_lt t 0 l j hj).2
    simp; omega
  rw [h, Bool.false_or]
  unfold lateL
  by_cases e : m.tm ≤ t
  · rw [if_pos e, decide_eq_true e]; simp
  · rw [if_neg e, decide_eq_false e]; rfl
theorem late_ok {n : Nt} {t : Int} (h : n.right = true) (ht : 0 ≤ t) : lateA n t = lateL (n.now - t) 0 n.fl := by
  unfold lateA
  rw [if_neg (by rw [h]; rintro (h | h) <;> first | cases h | omega)]
theorem late_no {n : Nt} {t : Int} (h : n.right = false ∨ t < 0) : lateA n t = [] := by unfold lateA; rw [if_pos h]

/-! ### What is sent -/
theorem send_ok {n : Nt} {to : Int} {body : ByteArray} (h : n.right = true) (ht : 0 ≤ to ∧ to ≤ 63) (hb : body.size ≤ 4096) (hl : n.fl.length ≠ 32) (hm : n.last ≠ 1099511627776) :
    sendA n to body = (⟨n.fl ++ [⟨n.last + 1, to, body, n.now⟩], n.last + 1, n.now⟩, n.last + 1, 0) := by
  unfold sendA
  rw [if_neg (by rw [h]; rintro (h | h | h) <;> first | cases h | omega), if_neg (by omega), if_neg (fun h => h.elim hl hm)]
theorem send_full {n : Nt} {to : Int} {body : ByteArray} (h : n.right = true) (ht : 0 ≤ to ∧ to ≤ 63) (hb : body.size ≤ 4096) (hl : n.fl.length = 32 ∨ n.last = 1099511627776) : sendA n to body = (noN, 0, 13) := by
  unfold sendA
  rw [if_neg (by rw [h]; rintro (h | h | h) <;> first | cases h | omega), if_neg (by omega), if_pos hl]
theorem send_right {n : Nt} {to : Int} {body : ByteArray} (h : n.right = true) (ht : 0 ≤ to ∧ to ≤ 63) (hb : body.size ≤ 4096) (hl : n.fl.length ≠ 32) (hm : n.last ≠ 1099511627776) :
    (⟨n.fl ++ [⟨n.last + 1, to, body, n.now⟩], n.last + 1, n.now⟩ : Nt).right = true := by
  rw [Nt.right_iff] at h ⊢
  have h1 := h.last
  have h2 := h.now
  have h3 := h.few
  refine ⟨fun m hm => ?_, ?_, ?_, h.now⟩
  · rcases List.mem_append.1 hm with hm | hm
    · obtain ⟨g1, g2, g3, g4, g5, g6, g7⟩ := h.ms m hm
      refine ⟨g1, ?_, g3, g4, g5, g6, g7⟩
      show m.id ≤ n.last + 1
      omega
    · obtain rfl : m = _ := List.mem_singleton.1 hm
      exact ⟨by show 1 ≤ n.last + 1; omega, Int.le_refl _, ht.1, ht.2, hb, h2.1, Int.le_refl _⟩
  · show (n.fl ++ [_]).length ≤ 32
    rw [List.length_append, List.length_singleton]; omega
  · show 0 ≤ n.last + 1 ∧ n.last + 1 ≤ 1099511627776
    omega
end Go.Proofs.Ytjjefdgcbdfclaa
