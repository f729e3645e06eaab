/-
  Nets as plain functions: which may be, what the calls answer, what the laws' own functions answer. Conditions: none.
-/
import Derived.Test.YtjjefdgcbdfclaaNetAt
namespace Go.Proofs.Ytjjefdgcbdfclaa

def noN : Nt := ⟨[], 0, 0⟩
def noM : Ms := ⟨0, 0, ⟨#[]⟩, 0⟩
def tickB (n : Int) : Bool := decide (0 ≤ n) && decide (n ≤ 1099511627776)
def Ms.ok (last now : Int) (m : Ms) : Bool :=
  decide (1 ≤ m.id) && decide (m.id ≤ last) && decide (0 ≤ m.to) && decide (m.to ≤ 63) && decide (m.body.size ≤ 4096) && decide (0 ≤ m.tm) && decide (m.tm ≤ now)
def Nt.right (n : Nt) : Bool := n.fl.all (Ms.ok n.last n.now) && decide (n.fl.length ≤ 32) && tickB n.last && tickB n.now
def msEq (a b : Ms) : Bool := a.id == b.id && a.to == b.to && decide (a.body = b.body) && a.tm == b.tm
theorem msEq_iff (a b : Ms) : msEq a b = true ↔ a = b := by
  obtain ⟨a1, a2, a3, a4⟩ := a
  obtain ⟨b1, b2, b3, b4⟩ := b
  simp [msEq, and_assoc]
def eqL : List Ms → List Ms → Bool
  | [], [] => true
  | a :: l, b :: l' => msEq a b && eqL l l'
  | _, _ => false
theorem eqL_iff : ∀ l l' : List Ms, eqL l l' = true ↔ l = l'
  | [], [] => by simp [eqL]
  | [], _ :: _ => by simp [eqL]
  | _ :: _, [] => by simp [eqL]
  | a :: l, b :: l' => by simp [eqL, msEq_iff, eqL_iff l l']
def likeN (a b : Nt) : Bool := eqL a.fl b.fl && a.last == b.last && a.now == b.now
theorem likeN_iff (a b : Nt) : likeN a b = true ↔ a = b := by
  obtain ⟨a1, a2, a3⟩ := a
  obtain ⟨b1, b2, b3⟩ := b
  simp [likeN, eqL_iff, and_assoc]
def cutM (m : Ms) : Ms := ⟨m.id, m.to, m.body.extract 0 (min m.body.size 4100), m.tm⟩
def fewN (n : Nt) : Nt := ⟨(n.fl.take 34).map cutM, n.last, n.now⟩

/-! ### What the calls answer -/
def sendA (n : Nt) (to : Int) (body : ByteArray) : Nt × Int × Int :=
  if n.right = false ∨ to < 0 ∨ 63 < to then (noN, 0, 1)
  else if 4096 < body.size then (noN, 0, 2)
  else if n.fl.length = 32 ∨ n.last = 1099511627776 then (noN, 0, 13)
  else (⟨n.fl ++ [⟨n.last + 1, to, body, n.now⟩], n.last + 1, n.now⟩, n.last + 1, 0)
def placeE (n : Nt) (p : Int) : Int := if n.right = false then 1 else if p < 0 ∨ (n.fl.length : Int) ≤ p then 9 else 0
def takeA (n : Nt) (p : Int) : Nt × Ms × Int :=
  if placeE n p = 0 then (⟨n.fl.take p.toNat ++ n.fl.drop (p.toNat + 1), n.last, n.now⟩, n.fl.getD p.toNat noM, 0) else (noN, noM, placeE n p)
def twiceA (n : Nt) (p : Int) : Nt × Int :=
  if placeE n p = 0 then (if n.fl.length = 32 then (noN, 13) else (⟨n.fl ++ [n.fl.getD p.toNat noM], n.last, n.now⟩, 0)) else (noN, placeE n p)
def loseA (n : Nt) (p : Int) : Nt × Int := ((takeA n p).1, (takeA n p).2.2)
/-- The places, from one on, of messages that were sent at a time at most. -/
def lateL (t : Int) : Nat → List Ms → List Nat
  | _, [] => []
  | k, m :: l => if m.tm ≤ t then k :: lateL t (k + 1) l else lateL t (k + 1) l
def lateA (n : Nt) (ticks : Int) : List Nat := if n.right = false ∨ ticks < 0 then [] else lateL (n.now - ticks) 0 n.fl
def passA (n : Nt) (ticks : Int) : Nt × Int :=
  if n.right = false ∨ ticks < 0 then (noN, 1) else (⟨n.fl, n.last, if ticks < 1099511627776 - n.now then n.now + ticks else 1099511627776⟩, 0)
end Go.Proofs.Ytjjefdgcbdfclaa
