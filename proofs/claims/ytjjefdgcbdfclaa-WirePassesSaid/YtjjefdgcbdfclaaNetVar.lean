/-
  A variable of a net: a block of three cells that reads as one; stores into it; what stays beside. Conditions: none.
-/
import Derived.Test.YtjjefdgcbdfclaaNetPlain
namespace Go.Proofs.Ytjjefdgcbdfclaa
open Go.RowKit Go.WideShapes

/-- A block of three cells none of which is a string. -/
def NoStr3 (w : World) (g : Nat) : Prop := ∃ (a : Option Addr) (n c : Nat) (q l : Int), At3 24 w g (.slice a n c) (.int .i64 q) (.int .i64 l)
theorem ms_away {w w' : World} {v : Value} {l : List Ms} {g : Nat} (h : RwAt 4 w v (l.map msCell)) (hg : NoStr3 w g) (hk : ∀ k, k ≠ g → w'.heap[k]? = w.heap[k]?) : RwAt 4 w' v (l.map msCell) := by
  rcases h with h | ⟨b, o, cap, rfl, h2, h3, h4, h5⟩
  · exact Or.inl h
  · have hb : b ≠ g := by
      rintro rfl
      have e := h5 0 h2 2 (.string (l[0]'(by rw [List.length_map] at h2; exact h2)).body) (by rw [List.getElem_map]; rfl)
      obtain ⟨x1, x2, x3, x4, x5, hg⟩ := hg
      unfold At3 at hg
      generalize o + 0 * 4 + 2 = i at e
      simp only [World.cell?, hg] at e
      match i, e with
      | 0, e => simp at e
      | 1, e => simp at e
      | 2, e => simp at e
      | i + 3, e => simp at e
    exact Or.inr ⟨b, o, cap, rfl, h2, h3, h4, fun i hi j u hu => by rw [World.cell?_of_block (w := w) (hk b hb)]; exact h5 i hi j u hu⟩
theorem NtAt.away {w w' : World} {v : Value} {n : Nt} {g : Nat} (h : NtAt w v n) (hg : NoStr3 w g) (hk : ∀ k, k ≠ g → w'.heap[k]? = w.heap[k]?) : NtAt w' v n := by
  obtain ⟨⟨fv, e, h1⟩, h2, h3, h4⟩ := h
  exact ⟨⟨fv, e, ms_away h1 hg hk⟩, h2, h3, h4⟩
/-- A net's value, in letters. -/
theorem NtAt.three {w : World} {v : Value} {n : Nt} (h : NtAt w v n) : ∃ a k c l t, v = .agg #[.slice a k c, .int .i64 l, .int .i64 t] := by
  obtain ⟨a, c, e, -⟩ := h.shape
  exact ⟨a, _, c, _, _, e⟩
theorem NtAt.parts {w : World} {a : Option Addr} {k c : Nat} {l t : Int} {n : Nt} (h : NtAt w (.agg #[.slice a k c, .int .i64 l, .int .i64 t]) n) :
    k = n.fl.length ∧ l = n.last ∧ t = n.now ∧ k ≤ c ∧ c ≤ 9223372036854775807 ∧ RwAt 4 w (.slice a k c) (n.fl.map msCell) := by
  obtain ⟨a', c', e, h1, h2, h3⟩ := h.shape
  simp only [Value.agg.injEq, Array.mk.injEq, List.cons.injEq, Value.slice.injEq, Value.int.injEq, true_and, and_true] at e
  obtain ⟨⟨rfl, rfl, rfl⟩, rfl, rfl⟩ := e
  unfold maxLen at h2
  exact ⟨rfl, rfl, rfl, h1, by omega, h3⟩
/-- The variable at block B holds the net n. -/
structure VarN (w : World) (B : Nat) (n : Nt) : Prop where
  is : ∃ a k c l t, At3 24 w B (.slice a k c) (.int .i64 l) (.int .i64 t) ∧ NtAt w (.agg #[.slice a k c, .int .i64 l, .int .i64 t]) n
theorem VarN.keep {w w' : World} {B : Nat} {n : Nt} (h : VarN w B n) (hb : Below w.heap.size w w') : VarN w' B n := by
  obtain ⟨a, k, c, l, t, h1, h2⟩ := h.is
  exact ⟨a, k, c, l, t, h1.keep hb, h2.keep hb⟩
theorem VarN.lt {w : World} {B : Nat} {n : Nt} (h : VarN w B n) : B < w.heap.size := by
  obtain ⟨a, k, c, l, t, h1, -⟩ := h.is
  exact h1.lt
theorem VarN.noStr {w : World} {B : Nat} {n : Nt} (h : VarN w B n) : NoStr3 w B := by
  obtain ⟨a, k, c, l, t, h1, -⟩ := h.is
  exact ⟨a, k, c, l, t, h1⟩
theorem VarN.new {w : World} {a : Option Addr} {k c : Nat} {l t : Int} {n : Nt} (h : NtAt w (.agg #[.slice a k c, .int .i64 l, .int .i64 t]) n) :
    VarN (w.alloc (.cells #[.slice a k c, .int .i64 l, .int .i64 t] 24)) w.heap.size n :=
  ⟨a, k, c, l, t, At3.new _ _ _ _ _, h.keep (below_new _ _)⟩
theorem VarN.set {w : World} {B : Nat} {n n' : Nt} {a : Option Addr} {k c : Nat} {l t : Int} (h : VarN w B n') (hv : NtAt w (.agg #[.slice a k c, .int .i64 l, .int .i64 t]) n) :
    VarN (set3 w B (.slice a k c) (.int .i64 l) (.int .i64 t)) B n := by
  have hn := h.noStr
  obtain ⟨x1, x2, x3, x4, x5, h1, -⟩ := h.is
  exact ⟨a, k, c, l, t, h1.set _ _ _, hv.away hn fun k hk => set3_block _ _ _ _ _ _ hk⟩
theorem VarN.other {w : World} {B B' : Nat} {n n' : Nt} {x0 x1 x2 : Value} (h : VarN w B n) (h' : VarN w B' n') (hne : B ≠ B') : VarN (set3 w B' x0 x1 x2) B n := by
  obtain ⟨a, k, c, l, t, h1, h2⟩ := h.is
  exact ⟨a, k, c, l, t, (set3_block w B' B x0 x1 x2 hne).trans h1, h2.away h'.noStr fun k hk => set3_block _ _ _ _ _ _ hk⟩
end Go.Proofs.Ytjjefdgcbdfclaa
