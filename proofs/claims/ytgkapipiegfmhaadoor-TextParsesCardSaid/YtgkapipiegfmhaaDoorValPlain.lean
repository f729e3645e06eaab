/-
  Values of a text as plain functions: which may be, which are like. Conditions: none.
-/
import Derived.Test.YtgkapipiegfmhaaDoorVal
import Derived.KernelRfl
namespace Go.Proofs.YtgkapipiegfmhaaDoor

def wordC (c : UInt8) : Bool := decide (32 ≤ c.toNat ∧ c.toNat ≤ 126) && !(c == 34) && !(c == 92)
def wordB (s : ByteArray) : Bool := s.data.toList.all wordC && decide (s.size ≤ 200)
/-- Byte by byte. -/
def lessL : List UInt8 → List UInt8 → Bool
  | [], [] => false
  | [], _ :: _ => true
  | _ :: _, [] => false
  | a :: l, b :: m => if a = b then lessL l m else decide (a.toNat < b.toNat)
def lessB (a b : ByteArray) : Bool := lessL a.data.toList b.data.toList
/-- Words that rise, behind one (or none). -/
def risesL : Option ByteArray → List ByteArray → Bool
  | _, [] => true
  | none, s :: l => wordB s && risesL (some s) l
  | some p, s :: l => wordB s && lessB p s && risesL (some s) l
/-- May a value be, but for its items? -/
def oneV (T : Val) : Bool :=
  decide (1 ≤ T.kind ∧ T.kind ≤ 4) && (T.kind == 1 || T.num == 0) && (T.kind == 2 || decide (T.word.size = 0)) && (decide (3 ≤ T.kind) || decide (T.items.length = 0)) && (T.kind == 4 || decide (T.names.length = 0)) &&
  decide (0 ≤ T.num ∧ T.num ≤ 1099511627776) && wordB T.word && decide (T.items.length ≤ 16) && (!(T.kind == 4) || decide (T.names.length = T.items.length)) && risesL none T.names
/-- May a value be, that is so deep at most? -/
def mayV : Nat → Val → Bool
  | 0, _ => false
  | d + 1, T => oneV T && T.items.all (mayV d)
mutual
/-- Are two like? -/
def likeV : Val → Val → Bool
  | .mk k n s l ns, .mk k' n' s' l' ns' => k == k' && n == n' && decide (s = s') && decide (ns = ns') && likeL l l'
def likeL : List Val → List Val → Bool
  | [], [] => true
  | a :: l, b :: m => likeV a b && likeL l m
  | _, _ => false
end
theorem likeL_length : ∀ (l m : List Val), likeL l m = true → l.length = m.length
  | [], [], _ => rfl
  | _ :: l, _ :: m, h => by
    unfold likeL at h
    rw [Bool.and_eq_true] at h
    rw [List.length_cons, List.length_cons, likeL_length l m h.2]
  | [], _ :: _, h => by unfold likeL at h; cases h
  | _ :: _, [], h => by unfold likeL at h; cases h
theorem likeL_drop : ∀ (k : Nat) (l m : List Val) (h : k < l.length) (h' : k < m.length), likeL (l.drop k) (m.drop k) = (likeV l[k] m[k] && likeL (l.drop (k + 1)) (m.drop (k + 1)))
  | 0, a :: l, b :: m, _, _ => by simp only [List.drop_zero, List.drop_succ_cons]; rw [likeL]; rfl
  | k + 1, a :: l, b :: m, h, h' => by
    simp only [List.drop_succ_cons]
    exact likeL_drop k l m (by simpa using h) (by simpa using h')
end Go.Proofs.YtgkapipiegfmhaaDoor
