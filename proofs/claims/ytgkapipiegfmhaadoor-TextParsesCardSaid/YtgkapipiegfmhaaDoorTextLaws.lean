/-
  The texts' laws as plain facts: what is like is the same; a row around a value; a smaller depth. Conditions: none.
-/
import Derived.Test.YtgkapipiegfmhaaDoorParsePlain
namespace Go.Proofs.YtgkapipiegfmhaaDoor

mutual
theorem likeV_eq : ∀ (T U : Val), likeV T U = true → T = U
  | .mk k n s l ns, .mk k' n' s' l' ns', h => by
    rw [likeV] at h
    simp only [Bool.and_eq_true, beq_iff_eq, decide_eq_true_eq] at h
    obtain ⟨⟨⟨⟨rfl, rfl⟩, rfl⟩, rfl⟩, h⟩ := h
    rw [likeL_eq l l' h]
theorem likeL_eq : ∀ (l m : List Val), likeL l m = true → l = m
  | [], [], _ => rfl
  | a :: l, b :: m, h => by
    rw [likeL, Bool.and_eq_true] at h
    rw [likeV_eq a b h.1, likeL_eq l m h.2]
  | [], _ :: _, h => by unfold likeL at h; cases h
  | _ :: _, [], h => by unfold likeL at h; cases h
end
mutual
theorem likeV_refl : ∀ (T : Val), likeV T T = true
  | .mk k n s l ns => by
    rw [likeV, likeL_refl l]
    simp
theorem likeL_refl : ∀ (l : List Val), likeL l l = true
  | [] => by rw [likeL]
  | a :: l => by rw [likeL, likeV_refl a, likeL_refl l]; rfl
end
theorem likeV_iff (T U : Val) : likeV T U = true ↔ T = U := ⟨likeV_eq T U, fun e => by rw [e]; exact likeV_refl U⟩

theorem mayV_succ : ∀ (d : Nat) (T : Val), mayV d T = true → mayV (d + 1) T = true
  | 0, _, h => by rw [mayV] at h; cases h
  | d + 1, T, h => by
    rw [mayV, Bool.and_eq_true] at h
    rw [mayV, h.1, Bool.true_and]
    exact List.all_eq_true.2 fun x hx => mayV_succ d x (List.all_eq_true.1 h.2 x hx)

/-- A value in so many rows. -/
def wrapV : Nat → Val → Val
  | 0, T => T
  | n + 1, T => .mk 3 0 ⟨#[]⟩ [wrapV n T] []
theorem mayV_row (d : Nat) (T : Val) : mayV (d + 1) (.mk 3 0 ⟨#[]⟩ [T] []) = mayV d T := by
  rw [mayV, (oneV_iff 3 0 ⟨#[]⟩ [T] []).2 ⟨by decide, Or.inr rfl, Or.inr rfl, Or.inl (by decide), Or.inr rfl, by decide, by decide, by simp, fun h => absurd h (by decide), rfl⟩]
  simp [Val.items]
theorem wrapV_may : ∀ (n d : Nat) (T : Val), mayV (d + n) (wrapV n T) = mayV d T
  | 0, _, _ => rfl
  | n + 1, d, T => by
    show mayV (d + n + 1) (.mk 3 0 ⟨#[]⟩ [wrapV n T] []) = _
    rw [mayV_row, wrapV_may n d T]
theorem wrapV_six (T : Val) : mayV 6 (wrapV 6 T) = false := by
  have := wrapV_may 6 0 T
  rw [Nat.zero_add] at this
  rw [this, mayV]

/-- A word by itself; two members by their names. -/
theorem mayV_word (s : ByteArray) : mayV 6 (.mk 2 0 s [] []) = wordB s := by
  rw [mayV]
  cases h : wordB s with
  | true =>
    rw [(oneV_iff 2 0 s [] []).2 ⟨by decide, Or.inr rfl, Or.inl rfl, Or.inr rfl, Or.inr rfl, by decide, h, by simp, fun h => absurd h (by decide), rfl⟩]
    simp [Val.items]
  | false =>
    cases ho : oneV (.mk 2 0 s [] []) with
    | false => rfl
    | true => rw [oneV_iff] at ho; rw [ho.isWord] at h; cases h
theorem rises_two (a b : ByteArray) : risesL none [a, b] = (wordB a && (wordB b && lessB a b)) := by
  rw [risesL, risesL, risesL, Bool.and_true]
theorem mayV_two (a b : ByteArray) (x y : Val) (hx : mayV 5 x = true) (hy : mayV 5 y = true) : mayV 6 (.mk 4 0 ⟨#[]⟩ [x, y] [a, b]) = (wordB a && (wordB b && lessB a b)) := by
  rw [mayV, show (Val.mk 4 0 ⟨#[]⟩ [x, y] [a, b]).items = [x, y] from rfl, List.all_cons, List.all_cons, hx, hy, List.all_nil]
  simp only [Bool.and_true]
  rw [← rises_two]
  cases h : risesL none [a, b] with
  | true => exact (oneV_iff 4 0 ⟨#[]⟩ [x, y] [a, b]).2 ⟨by decide, Or.inr rfl, Or.inr rfl, Or.inl (by decide), Or.inl rfl, by decide, by decide, by simp, fun _ => rfl, h⟩
  | false =>
    cases ho : oneV (.mk 4 0 ⟨#[]⟩ [x, y] [a, b]) with
    | false => rfl
    | true => rw [oneV_iff] at ho; rw [ho.rises] at h; cases h
end Go.Proofs.YtgkapipiegfmhaaDoor
