/-
  Nets to which time passes and empty messages are sent, by turns: what they hold, what is late, what is taken off. Conditions: none.
-/
import Derived.Test.YtjjefdgcbdfclaaNetLaws
namespace Go.Proofs.Ytjjefdgcbdfclaa

/-- k messages were sent, empty ones, at times that only grow. -/
structure Tms (n : Nt) (k : Nat) : Prop where
  len : n.fl.length = k
  few : k ≤ 20
  last : n.last = k
  now : 0 ≤ n.now ∧ n.now ≤ 100 * (k : Int)
  ms : ∀ j (h : j < n.fl.length), n.fl[j].id = j + 1 ∧ n.fl[j].to = j ∧ n.fl[j].body = ⟨#[]⟩ ∧ 0 ≤ n.fl[j].tm ∧ n.fl[j].tm ≤ n.now
  up : n.fl.Pairwise fun a b => a.tm ≤ b.tm
theorem Tms.right {n : Nt} {k : Nat} (h : Tms n k) : n.right = true := by
  rw [Nt.right_iff]
  have h1 := h.few
  have h2 := h.now
  have h3 := h.last
  refine ⟨fun m hm => ?_, by rw [h.len]; omega, by omega, by omega⟩
  obtain ⟨j, hj, rfl⟩ := List.getElem_of_mem hm
  obtain ⟨g1, g2, g3, g4, g5⟩ := h.ms j hj
  have := h.len
  rw [g1, g2, g3]
  exact ⟨by omega, by omega, by omega, by omega, by decide, g4, g5⟩
theorem Tms.zero : Tms noN 0 := ⟨rfl, by decide, rfl, ⟨by decide, by decide⟩, fun j h => absurd h (Nat.not_lt_zero j), List.Pairwise.nil⟩
def laterN (n : Nt) (g : Int) : Nt := ⟨n.fl, n.last, n.now + g⟩
def sentN (n : Nt) (k : Nat) (g : Int) : Nt := ⟨n.fl ++ [⟨(k : Int) + 1, k, ⟨#[]⟩, n.now + g⟩], (k : Int) + 1, n.now + g⟩
theorem Tms.pass {n : Nt} {k : Nat} (h : Tms n k) {g : Int} (hg : 0 ≤ g ∧ g ≤ 99) : passA n g = (laterN n g, 0) := by
  have h1 := h.few
  have h2 := h.now
  rw [pass_ok h.right hg.1]
  unfold pt laterN
  rw [if_pos (by omega)]
theorem Tms.later {n : Nt} {k : Nat} (h : Tms n k) {g : Int} (hg : 0 ≤ g ∧ g ≤ 99) : (laterN n g).right = true := by
  have h1 := h.few
  have h2 := h.now
  have := pass_right h.right hg.1
  unfold pt at this
  rw [if_pos (by omega)] at this
  exact this
theorem Tms.send {n : Nt} {k : Nat} (h : Tms n k) (hk : k < 20) {g : Int} (hg : 0 ≤ g ∧ g ≤ 99) : sendA (laterN n g) k ⟨#[]⟩ = (sentN n k g, (k : Int) + 1, 0) := by
  have h1 : (laterN n g).last = k := h.last
  rw [send_ok (h.later hg) (by omega) (by decide) (by show n.fl.length ≠ 32; rw [h.len]; omega) (by rw [h1]; omega), h1]
  rfl
theorem Tms.next {n : Nt} {k : Nat} (h : Tms n k) (hk : k < 20) {g : Int} (hg : 0 ≤ g ∧ g ≤ 99) : Tms (sentN n k g) (k + 1) := by
  have h2 := h.now
  refine ⟨by show (n.fl ++ [_]).length = _; rw [List.length_append, h.len]; rfl, hk, by show (k : Int) + 1 = _; omega, ?_, fun j hj => ?_, ?_⟩
  · show 0 ≤ n.now + g ∧ n.now + g ≤ 100 * ((k + 1 : Nat) : Int)
    omega
  · have hj' : j < (n.fl ++ [(⟨(k : Int) + 1, k, ⟨#[]⟩, n.now + g⟩ : Ms)]).length := hj
    show (n.fl ++ [(⟨(k : Int) + 1, k, ⟨#[]⟩, n.now + g⟩ : Ms)])[j].id = _ ∧ (n.fl ++ [(⟨(k : Int) + 1, k, ⟨#[]⟩, n.now + g⟩ : Ms)])[j].to = _ ∧ (n.fl ++ [(⟨(k : Int) + 1, k, ⟨#[]⟩, n.now + g⟩ : Ms)])[j].body = _ ∧ 0 ≤ (n.fl ++ [(⟨(k : Int) + 1, k, ⟨#[]⟩, n.now + g⟩ : Ms)])[j].tm ∧ (n.fl ++ [(⟨(k : Int) + 1, k, ⟨#[]⟩, n.now + g⟩ : Ms)])[j].tm ≤ n.now + g
    by_cases e : j < n.fl.length
    · rw [List.getElem_append_left e]
      obtain ⟨g1, g2, g3, g4, g5⟩ := h.ms j e
      exact ⟨g1, g2, g3, g4, by omega⟩
    · rw [List.length_append, List.length_singleton] at hj'
      have hjk : j = k := by have := h.len; omega
      subst hjk
      rw [List.getElem_append_right (by omega)]
      simp only [List.getElem_singleton]
      exact ⟨trivial, trivial, trivial, by omega, by omega⟩
  · show (n.fl ++ [_]).Pairwise _
    rw [List.pairwise_append]
    refine ⟨h.up, List.pairwise_singleton _ _, fun a ha b hb => ?_⟩
    obtain rfl := List.mem_singleton.1 hb
    obtain ⟨j, hj, rfl⟩ := List.getElem_of_mem ha
    have := (h.ms j hj).2.2.2.2
    show n.fl[j].tm ≤ n.now + g
    omega
/-- What is late is the first ones. -/
theorem lateL_none (t : Int) : ∀ (s : Nat) (l : List Ms), (∀ m ∈ l, t < m.tm) → lateL t s l = []
  | _, [], _ => rfl
  | s, m :: l, h => by
    rw [lateL_cons, if_neg (by have := h m List.mem_cons_self; omega)]
    exact lateL_none t (s + 1) l fun x hx => h x (List.mem_cons_of_mem _ hx)
theorem lateL_first (t : Int) : ∀ (s : Nat) (l : List Ms), (l.Pairwise fun a b => a.tm ≤ b.tm) → ∃ m, lateL t s l = List.range' s m
  | s, [], _ => ⟨0, rfl⟩
  | s, m :: l, h => by
    rw [List.pairwise_cons] at h
    rw [lateL_cons]
    by_cases e : m.tm ≤ t
    · obtain ⟨k, hk⟩ := lateL_first t (s + 1) l h.2
      rw [if_pos e, hk]
      exact ⟨k + 1, rfl⟩
    · rw [if_neg e, lateL_none t (s + 1) l fun x hx => by have := h.1 x hx; omega]
      exact ⟨0, rfl⟩
theorem Tms.late {n : Nt} {k : Nat} (h : Tms n k) {c : Int} (hc : 0 ≤ c) : ∀ j (hj : j < (lateA n c).length), (lateA n c)[j] = j := by
  obtain ⟨m, hm⟩ := lateL_first (n.now - c) 0 n.fl h.up
  rw [← late_ok h.right hc] at hm
  intro j hj
  simp only [hm, List.getElem_range']
  omega
theorem Tms.late_le {n : Nt} {k : Nat} (h : Tms n k) {c d : Int} (hc : 0 ≤ c) (hd : c ≤ d) : (lateA n d).length ≤ (lateA n c).length := by
  rw [late_ok h.right hc, late_ok h.right (by omega)]
  exact lateL_le (by omega) _ _
theorem Tms.late_k {n : Nt} {k : Nat} (h : Tms n k) {c : Int} (hc : 0 ≤ c) : (lateA n c).length ≤ k := by
  rw [late_ok h.right hc, ← h.len]
  exact lateL_len _ _ _
/-- One is taken off. -/
def offN (n : Nt) (p : Nat) : Nt := ⟨n.fl.take p ++ n.fl.drop (p + 1), n.last, n.now⟩
theorem take_ok {n : Nt} {p : Nat} (h : n.right = true) (hp : p < n.fl.length) : takeA n p = (offN n p, n.fl[p], 0) := by
  have e : placeE n p = 0 := by
    unfold placeE
    rw [if_neg (by rw [h]; decide), if_neg (by omega)]
  unfold takeA
  rw [if_pos e, Int.toNat_natCast, List.getD_eq_getElem?_getD, List.getElem?_eq_getElem hp]
  rfl
theorem offN_len {n : Nt} {p : Nat} (hp : p < n.fl.length) : (offN n p).fl.length = n.fl.length - 1 := by
  show (n.fl.take p ++ n.fl.drop (p + 1)).length = _
  rw [List.length_append, List.length_take, List.length_drop]; omega
theorem off_at (l : List Ms) (p : Nat) (hp : p < l.length) (i : Nat) (hi : i < (l.take p ++ l.drop (p + 1)).length) : ∃ j, ∃ hj : j < l.length, (l.take p ++ l.drop (p + 1))[i] = l[j] ∧ j = if i < p then i else i + 1 := by
  have hl : (l.take p ++ l.drop (p + 1)).length = l.length - 1 := by rw [List.length_append, List.length_take, List.length_drop]; omega
  have ht : (l.take p).length = p := by rw [List.length_take]; omega
  by_cases e : i < p
  · exact ⟨i, by omega, by rw [List.getElem_append_left (by omega), List.getElem_take], by rw [if_pos e]⟩
  · refine ⟨i + 1, by omega, ?_, by rw [if_neg e]⟩
    rw [List.getElem_append_right (by omega), List.getElem_drop]
    simp only [ht]
    congr 1
    omega
theorem offN_at {n : Nt} {p : Nat} (hp : p < n.fl.length) (i : Nat) (hi : i < (offN n p).fl.length) : ∃ j, ∃ hj : j < n.fl.length, (offN n p).fl[i] = n.fl[j] ∧ j = if i < p then i else i + 1 := off_at n.fl p hp i hi
end Go.Proofs.Ytjjefdgcbdfclaa
