/-
  Plain functions on rows of bytes: digits, numbers in bytes, bound texts. Conditions: none. It names nothing of the translation.
-/
import Derived.RowKit
namespace Go.Proofs.YtcdibcogboaikaaDoor

/-- A half byte's digit. -/
def hexDig (n : Nat) : UInt8 := if n < 10 then UInt8.ofNat (48 + n) else UInt8.ofNat (87 + n)
def hexL : List UInt8 → List UInt8
  | [] => []
  | c :: r => hexDig (c.toNat / 16) :: hexDig (c.toNat % 16) :: hexL r
theorem hexL_append (a b : List UInt8) : hexL (a ++ b) = hexL a ++ hexL b := by
  induction a with
  | nil => rfl
  | cons c r ih => simp [hexL, ih]
theorem hexL_length (a : List UInt8) : (hexL a).length = 2 * a.length := by
  induction a with
  | nil => rfl
  | cons c r ih => simp [hexL, ih]; omega

/-- A number's k lowest bytes, the lowest first. -/
def wideL (n k : Nat) : List UInt8 := (List.range k).map fun i => UInt8.ofNat (n / 256 ^ i % 256)
theorem wideL_length (n k : Nat) : (wideL n k).length = k := by simp [wideL]
theorem wideL_succ (n k : Nat) : wideL n (k + 1) = wideL n k ++ [UInt8.ofNat (n / 256 ^ k % 256)] := by simp [wideL, List.range_succ]

/-- A digit's number. -/
def halfB (c : UInt8) : Option Nat := if 48 ≤ c.toNat ∧ c.toNat ≤ 57 then some (c.toNat - 48) else if 97 ≤ c.toNat ∧ c.toNat ≤ 102 then some (c.toNat - 87) else none
theorem halfB_lt {c : UInt8} {x : Nat} (h : halfB c = some x) : x < 16 := by
  unfold halfB at h
  split at h
  · simp at h; omega
  · split at h
    · simp at h; omega
    · cases h
/-- What digits say. -/
def unhexL : List UInt8 → Option (List UInt8)
  | [] => some []
  | [_] => none
  | a :: b :: r => match halfB a, halfB b, unhexL r with
    | some x, some y, some l => some (UInt8.ofNat (16 * x + y) :: l)
    | _, _, _ => none
theorem unhexL_odd : ∀ (l : List UInt8), l.length % 2 = 1 → unhexL l = none
  | [], h => by simp at h
  | [_], _ => rfl
  | a :: b :: r, h => by
    have ih := unhexL_odd r (by simp at h; omega)
    simp [unhexL, ih]
/-- Two digits and the rest. -/
def joinHex (acc : List UInt8) (a b : Option Nat) (q : Option (List UInt8)) : Option (List UInt8) := match a, b, q with
  | some x, some y, some l => some (acc ++ UInt8.ofNat (16 * x + y) :: l)
  | _, _, _ => none
theorem unhexL_step : ∀ (p : List UInt8) (a b : UInt8) (q acc : List UInt8), unhexL p = some acc →
    unhexL (p ++ a :: b :: q) = joinHex acc (halfB a) (halfB b) (unhexL q)
  | [], a, b, q, acc, h => by
    simp [unhexL] at h; subst h; rfl
  | [_], a, b, q, acc, h => by simp [unhexL] at h
  | c :: d :: r, a, b, q, acc, h => by
    cases hc : halfB c with
    | none => simp [unhexL, hc] at h
    | some x =>
      cases hd : halfB d with
      | none => simp [unhexL, hd] at h
      | some y =>
        cases hr : unhexL r with
        | none => simp [unhexL, hr] at h
        | some l =>
          simp only [unhexL, hc, hd, hr, Option.some.injEq] at h
          subst h
          have ih := unhexL_step r a b q l hr
          simp only [List.cons_append, unhexL, hc, hd, ih]
          cases halfB a <;> cases halfB b <;> cases unhexL q <;> rfl

theorem unhexL_hexL : ∀ l : List UInt8, unhexL (hexL l) = some l
  | [] => rfl
  | c :: r => by
    have ih := unhexL_hexL r
    have h : ∀ m : Fin 16, halfB (hexDig m.1) = some m.1 := by decide
    have hc := c.toNat_lt
    have h1 := h ⟨c.toNat / 16, by omega⟩
    have h2 := h ⟨c.toNat % 16, by omega⟩
    simp only at h1 h2
    have e : UInt8.ofNat (16 * (c.toNat / 16) + c.toNat % 16) = c := by
      rw [Nat.div_add_mod]; simp
    show (match halfB (hexDig (c.toNat / 16)), halfB (hexDig (c.toNat % 16)), unhexL (hexL r) with
      | some x, some y, some l => some (UInt8.ofNat (16 * x + y) :: l)
      | _, _, _ => none) = _
    rw [h1, h2, ih]
    simp only [e]

/-- The number that bytes are. -/
def numL : List UInt8 → Nat
  | [] => 0
  | c :: r => c.toNat + 256 * numL r
theorem numL_lt (l : List UInt8) : numL l < 256 ^ l.length := by
  induction l with
  | nil => simp [numL]
  | cons c r ih => have := c.toNat_lt; simp only [numL, List.length_cons, Nat.pow_succ]; omega
theorem numL_append (a b : List UInt8) : numL (a ++ b) = numL a + 256 ^ a.length * numL b := by
  induction a with
  | nil => simp [numL]
  | cons c r ih => simp only [List.cons_append, numL, ih, List.length_cons, Nat.pow_succ]; rw [Nat.mul_add, ← Nat.mul_assoc, Nat.mul_comm (256 ^ r.length) 256, Nat.add_assoc]
end Go.Proofs.YtcdibcogboaikaaDoor
