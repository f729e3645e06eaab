/-
  Values of a text as trees; what lies in memory reads as a tree. Conditions: none.
  Values of a text as plain functions: which may be, which are like. Conditions: none.
  The text of a value as a plain function, and how long it may be. Conditions: none.
  The document's reader as a plain function: what is read is the text's value, and the text of a value that may be is read. Conditions: none.
  The document's reader as a plain function: the text of a value that may be is read as that value. Conditions: none.
  The program's reader as a plain function: what is read is the text's value, and the text of a value that may be is read. Conditions: none.
  The texts' laws as plain facts: what is like is the same; a row around a value; a smaller depth. Conditions: none.
-/
import Derived.Test.YtepcaglekgeamaaGreatDoorChecked
import Derived.Below
import Derived.RowKit
import Derived.Deep.Fields
import Derived.ChangeArms
import Derived.ChangeSame
import Derived.DataReads
import Derived.WideShapes
import Derived.OpenShut
import Derived.KernelRfl
import Derived.Lib.ItoaLen
import Derived.Lib.Strings
import Derived.Lib.ItoaMem
import Derived.Lib.AtoiAll
namespace Go.Proofs.YtepcaglekgeamaaGreatDoor
open Go.ChangeShapes Go.WideShapes Go.RowKit Go.Deep
inductive Val where
  | mk (kind n : Int) (s : ByteArray) (items : List Val) (names : List ByteArray)

def Val.kind : Val → Int | .mk k _ _ _ _ => k

def Val.num : Val → Int | .mk _ n _ _ _ => n

def Val.word : Val → ByteArray | .mk _ _ s _ _ => s

def Val.items : Val → List Val | .mk _ _ _ l _ => l

def Val.names : Val → List ByteArray | .mk _ _ _ _ l => l

def StrsAt (w : World) (v : Value) (ss : List ByteArray) : Prop :=
  (ss = [] ∧ (v = .slice none 0 0 ∨ ∃ a cap, v = .slice (some a) 0 cap ∧ cap ≤ maxLen)) ∨
  ∃ b o cap, v = .slice (some ⟨b, o, none⟩) ss.length cap ∧ 0 < ss.length ∧ ss.length ≤ cap ∧ cap ≤ maxLen ∧ ∀ i (h : i < ss.length), w.cell? ⟨b, o + i, none⟩ = some (.string ss[i])

theorem StrsAt.keep {w w' : World} {v : Value} {ss : List ByteArray} (h : StrsAt w v ss) (hb : Below w.heap.size w w') : StrsAt w' v ss := by
  rcases h with h | ⟨b, o, cap, h1, h2, h3, h4, h5⟩
  · exact Or.inl h
  · exact Or.inr ⟨b, o, cap, h1, h2, h3, h4, fun i hi => (hb.cell (World.block_lt_of_cell? _ _ (h5 i hi))).trans (h5 i hi)⟩

def Fives (w : World) (iv : Value) (n : Nat) (ev : Nat → Value) : Prop :=
  (n = 0 ∧ (iv = .slice none 0 0 ∨ ∃ a cap, iv = .slice (some a) 0 cap ∧ cap ≤ maxLen)) ∨
  ∃ b o cap, iv = .slice (some ⟨b, o, none⟩) n cap ∧ 0 < n ∧ n ≤ cap ∧ cap ≤ maxLen ∧
    ∀ i, i < n → ∃ c0 c1 c2 c3 c4, ev i = .agg #[c0, c1, c2, c3, c4] ∧ w.cell? ⟨b, o + i * 5, none⟩ = some c0 ∧ w.cell? ⟨b, o + i * 5 + 1, none⟩ = some c1 ∧ w.cell? ⟨b, o + i * 5 + 2, none⟩ = some c2 ∧ w.cell? ⟨b, o + i * 5 + 3, none⟩ = some c3 ∧ w.cell? ⟨b, o + i * 5 + 4, none⟩ = some c4

theorem Fives.keep {w w' : World} {iv : Value} {n : Nat} {ev : Nat → Value} (h : Fives w iv n ev) (hb : Below w.heap.size w w') : Fives w' iv n ev := by
  rcases h with h | ⟨b, o, cap, h1, h2, h3, h4, h5⟩
  · exact Or.inl h
  · refine Or.inr ⟨b, o, cap, h1, h2, h3, h4, fun i hi => ?_⟩
    obtain ⟨c0, c1, c2, c3, c4, e, k0, k1, k2, k3, k4⟩ := h5 i hi
    have k : ∀ {p : Addr} {v : Value}, w.cell? p = some v → w'.cell? p = some v := fun hc => (hb.cell (World.block_lt_of_cell? _ _ hc)).trans hc
    exact ⟨c0, c1, c2, c3, c4, e, k k0, k k1, k k2, k k3, k k4⟩
inductive IsVal (w : World) : Value → Val → Prop where
  | mk (kind n : Int) (s : ByteArray) (iv nv : Value) (items : List Val) (names : List ByteArray) (ev : Nat → Value)
      (hk : -9223372036854775808 ≤ kind ∧ kind ≤ 9223372036854775807) (hn : -9223372036854775808 ≤ n ∧ n ≤ 9223372036854775807) (hs : s.size ≤ maxLen)
      (hN : StrsAt w nv names) (hz : ∀ x ∈ names, x.size ≤ maxLen) (hI : Fives w iv items.length ev)
      (hsub : ∀ (i : Nat) (h : i < items.length), IsVal w (ev i) items[i]) :
      IsVal w (.agg #[.int .i64 kind, .int .i64 n, .string s, iv, nv]) (.mk kind n s items names)

theorem IsVal.keep {w w' : World} (hb : Below w.heap.size w w') : ∀ {v : Value} {T : Val}, IsVal w v T → IsVal w' v T := by
  intro v T h
  induction h with
  | mk kind n s iv nv items names ev hk hn hs hN hz hI _ ih => exact .mk kind n s iv nv items names ev hk hn hs (hN.keep hb) hz (hI.keep hb) ih

theorem exists_list {α : Type} {P : Nat → α → Prop} : ∀ n : Nat, (∀ i, i < n → ∃ x, P i x) → ∃ l : List α, l.length = n ∧ ∀ (i : Nat) (h : i < l.length), P i l[i]
  | 0, _ => ⟨[], rfl, fun i h => absurd h (Nat.not_lt_zero _)⟩
  | n + 1, h => by
    obtain ⟨l, hl, hp⟩ := exists_list n fun i hi => h i (by omega)
    obtain ⟨x, hx⟩ := h n (by omega)
    refine ⟨l ++ [x], by simp [hl], fun i hi => ?_⟩
    by_cases e : i < l.length
    · rw [List.getElem_append_left e]; exact hp i e
    · have : i = n := by simp [hl] at hi; omega
      subst this
      rw [List.getElem_append_right (by omega)]
      simpa [hl] using hx

theorem slice_cells {H : Type} {enc : TypeId × Value → H} {W : World} {fuel m : Nat} {t e : TypeId} {v : Value} {x : DataW H × List MemPlace} (ht : Tryz.prog.underlying t = some (.slice e)) (hm : Tryz.prog.cellsOf e = m) (hm0 : 0 < m)
    (h : DataW.trod enc Tryz.prog W 0 (fun _ => true) true fuel t [v] = some x) :
    (v = .slice none 0 0 ∨ ∃ a cap, v = .slice (some a) 0 cap ∧ cap ≤ maxLen) ∨
    ∃ (b o len cap : Nat), v = .slice (some ⟨b, o, none⟩) len cap ∧ 0 < len ∧ len ≤ cap ∧ cap ≤ maxLen ∧
      ∀ i, i < len → ∃ (cs : List Value) (n : Nat) (y : DataW H × List MemPlace), n < fuel ∧ cs.length = m ∧ (∀ j, j < m → W.cell? ⟨b, o + (i * m + j), none⟩ = cs[j]?) ∧ DataW.trod enc Tryz.prog W 0 (fun _ => true) true n e cs = some y := by
  rcases DataW.trod_slice ht h with ⟨h1, -⟩ | ⟨a, len, cap, elems, rest, n, hf, h1, -, -, hl, hc, hel, hat, -, -⟩
  · exact Or.inl (Or.inl (by simpa using h1))
  · have hv : v = .slice (some a) len cap := by simpa using h1
    subst hv
    rw [hm] at hat
    cases len with
    | zero => exact Or.inl (Or.inr ⟨a, cap, rfl, hc⟩)
    | succ len =>
      have hread : ∀ i, i < len + 1 → ∃ (cs : List Value) (y : DataW H × List MemPlace), W.cells? 0 (a.add (i * m)) m = some cs ∧ DataW.trod enc Tryz.prog W 0 (fun _ => true) true n e cs = some y := fun i hi => by
        have h2 := hat i hi
        have h3 : elems[i]? = some (elems[i]'(by omega)) := List.getElem?_eq_getElem (by omega)
        rw [h3, Option.bind_eq_some_iff] at h2
        obtain ⟨cs, h4, h5⟩ := h2
        exact ⟨cs, _, h4, h5⟩
      obtain ⟨b, o, sp⟩ := a
      have hsp : sp = none := by
        obtain ⟨cs, y, h4, -⟩ := hread 0 (by omega)
        obtain ⟨-, hcl, hca⟩ := World.cells?_some h4
        have h5 := hca 0 hm0
        rw [List.getElem?_eq_getElem (by omega)] at h5
        cases sp with
        | none => rfl
        | some q =>
          exfalso
          rw [Nat.zero_mul] at h5
          unfold Addr.add at h5
          simp only [if_true] at h5
          unfold World.cell? at h5
          split at h5 <;> simp at h5
      subst hsp
      refine Or.inr ⟨b, o, len + 1, cap, rfl, by omega, hl, hc, fun i hi => ?_⟩
      obtain ⟨cs, y, h4, h5⟩ := hread i hi
      obtain ⟨-, hcl, hca⟩ := World.cells?_some h4
      refine ⟨cs, n, y, by omega, hcl, fun j hj => ?_, h5⟩
      have := hca j hj
      rw [add_plain, add_plain, Nat.add_assoc] at this
      exact this
end Go.Proofs.YtepcaglekgeamaaGreatDoor
namespace Go.Proofs.YtepcaglekgeamaaGreatDoor

def wordC (c : UInt8) : Bool := decide (32 ≤ c.toNat ∧ c.toNat ≤ 126) && !(c == 34) && !(c == 92)

def wordB (s : ByteArray) : Bool := s.data.toList.all wordC && decide (s.size ≤ 200)

def lessL : List UInt8 → List UInt8 → Bool
  | [], [] => false
  | [], _ :: _ => true
  | _ :: _, [] => false
  | a :: l, b :: m => if a = b then lessL l m else decide (a.toNat < b.toNat)

def lessB (a b : ByteArray) : Bool := lessL a.data.toList b.data.toList

def risesL : Option ByteArray → List ByteArray → Bool
  | _, [] => true
  | none, s :: l => wordB s && risesL (some s) l
  | some p, s :: l => wordB s && lessB p s && risesL (some s) l

def oneV (T : Val) : Bool :=
  decide (1 ≤ T.kind ∧ T.kind ≤ 4) && (T.kind == 1 || T.num == 0) && (T.kind == 2 || decide (T.word.size = 0)) && (decide (3 ≤ T.kind) || decide (T.items.length = 0)) && (T.kind == 4 || decide (T.names.length = 0)) &&
  decide (0 ≤ T.num ∧ T.num ≤ 1099511627776) && wordB T.word && decide (T.items.length ≤ 16) && (!(T.kind == 4) || decide (T.names.length = T.items.length)) && risesL none T.names

def mayV : Nat → Val → Bool
  | 0, _ => false
  | d + 1, T => oneV T && T.items.all (mayV d)

mutual
/-- Are two like? -/
def likeV : Val → Val → Bool
  | .mk k n s l ns, .mk k' n' s' l' ns' => k == k' && n == n' && decide (s = s') && decide (ns = ns') && likeL l l'
def likeL : List Val → List Val → Bool
  | [], [] => true
  | a :: l, b :: m => likeV a b && likeL l m
  | _, _ => false
end

theorem likeL_length : ∀ (l m : List Val), likeL l m = true → l.length = m.length
  | [], [], _ => rfl
  | _ :: l, _ :: m, h => by
    unfold likeL at h
    rw [Bool.and_eq_true] at h
    rw [List.length_cons, List.length_cons, likeL_length l m h.2]
  | [], _ :: _, h => by unfold likeL at h; cases h
  | _ :: _, [], h => by unfold likeL at h; cases h

theorem likeL_drop : ∀ (k : Nat) (l m : List Val) (h : k < l.length) (h' : k < m.length), likeL (l.drop k) (m.drop k) = (likeV l[k] m[k] && likeL (l.drop (k + 1)) (m.drop (k + 1)))
  | 0, a :: l, b :: m, _, _ => by simp only [List.drop_zero, List.drop_succ_cons]; rw [likeL]; rfl
  | k + 1, a :: l, b :: m, h, h' => by
    simp only [List.drop_succ_cons]
    exact likeL_drop k l m (by simpa using h) (by simpa using h')
end Go.Proofs.YtepcaglekgeamaaGreatDoor
namespace Go.Proofs.YtepcaglekgeamaaGreatDoor

mutual
/-- The text of a value. -/
def textL : Val → List UInt8
  | .mk k n s l ns => if k = 1 then Lib.itoa n else if k = 2 then 34 :: s.data.toList ++ [34] else if k = 4 then 123 :: bodyL true true l ns ++ [125] else 91 :: bodyL false true l ns ++ [93]
/-- The items, parted by commas; with their names, where there are names. -/
def bodyL (four first : Bool) : List Val → List ByteArray → List UInt8
  | [], _ => []
  | x :: l, ns => (if first then [] else [44]) ++ (if four then 34 :: (ns.headD ⟨#[]⟩).data.toList ++ [34, 58] else []) ++ textL x ++ bodyL four false l ns.tail
end

theorem textL_eq (k n : Int) (s : ByteArray) (l : List Val) (ns : List ByteArray) : textL (.mk k n s l ns) = if k = 1 then Lib.itoa n else if k = 2 then 34 :: s.data.toList ++ [34] else if k = 4 then 123 :: bodyL true true l ns ++ [125] else 91 :: bodyL false true l ns ++ [93] := by rw [textL]

theorem bodyL_drop (four first : Bool) (l : List Val) (ns : List ByteArray) (j : Nat) (h : j < l.length) : bodyL four first (l.drop j) (ns.drop j) = (if first then [] else [44]) ++ (if four then 34 :: (ns[j]?.getD ⟨#[]⟩).data.toList ++ [34, 58] else []) ++ textL l[j] ++ bodyL four false (l.drop (j + 1)) (ns.drop (j + 1)) := by
  have e1 : (ns.drop j).headD ⟨#[]⟩ = ns[j]?.getD ⟨#[]⟩ := by
    rw [List.headD_eq_head?_getD, List.head?_drop]
  rw [List.drop_eq_getElem_cons h, bodyL, e1, List.tail_drop]

theorem wordB_size (s : ByteArray) (h : wordB s = true) : s.size ≤ 200 := by
  unfold wordB at h
  rw [Bool.and_eq_true, decide_eq_true_eq] at h
  exact h.2

theorem risesL_words : ∀ (p : Option ByteArray) (l : List ByteArray), risesL p l = true → ∀ s ∈ l, wordB s = true
  | _, [], _, s, hs => by simp at hs
  | none, a :: l, h, s, hs => by
    rw [risesL, Bool.and_eq_true] at h
    rcases List.mem_cons.1 hs with rfl | hs
    · exact h.1
    · exact risesL_words _ l h.2 s hs
  | some p, a :: l, h, s, hs => by
    rw [risesL, Bool.and_eq_true, Bool.and_eq_true] at h
    rcases List.mem_cons.1 hs with rfl | hs
    · exact h.1.1
    · exact risesL_words _ l h.2 s hs

structure OneV (k n : Int) (s : ByteArray) (l : List Val) (ns : List ByteArray) : Prop where
  kind : 1 ≤ k ∧ k ≤ 4
  num : k = 1 ∨ n = 0
  word : k = 2 ∨ s.size = 0
  items : 3 ≤ k ∨ l.length = 0
  names : k = 4 ∨ ns.length = 0
  most : 0 ≤ n ∧ n ≤ 1099511627776
  isWord : wordB s = true
  few : l.length ≤ 16
  same : k = 4 → ns.length = l.length
  rises : risesL none ns = true

theorem oneV_iff (k n : Int) (s : ByteArray) (l : List Val) (ns : List ByteArray) : oneV (.mk k n s l ns) = true ↔ OneV k n s l ns := by
  have e0 : oneV (.mk k n s l ns) = (decide ((1 : Int) ≤ k ∧ k ≤ 4) && (k == 1 || n == 0) && (k == 2 || decide (s.size = 0)) && (decide ((3 : Int) ≤ k) || decide (l.length = 0)) && (k == 4 || decide (ns.length = 0)) &&
    decide (0 ≤ n ∧ n ≤ 1099511627776) && wordB s && decide (l.length ≤ 16) && (!(k == 4) || decide (ns.length = l.length)) && risesL none ns) := rfl
  rw [e0]
  simp only [Bool.and_eq_true, Bool.or_eq_true, decide_eq_true_eq, beq_iff_eq, Bool.not_eq_true', beq_eq_false_iff_ne]
  constructor
  · rintro ⟨⟨⟨⟨⟨⟨⟨⟨⟨h1, h2⟩, h3⟩, h4⟩, h5⟩, h6⟩, h7⟩, h8⟩, h9⟩, h10⟩
    exact ⟨h1, h2, h3, h4, h5, h6, h7, h8, fun e => h9.resolve_left (fun h => h e), h10⟩
  · rintro ⟨h1, h2, h3, h4, h5, h6, h7, h8, h9, h10⟩
    refine ⟨⟨⟨⟨⟨⟨⟨⟨⟨h1, h2⟩, h3⟩, h4⟩, h5⟩, h6⟩, h7⟩, h8⟩, ?_⟩, h10⟩
    by_cases e : k = 4
    · exact Or.inr (h9 e)
    · exact Or.inl e
end Go.Proofs.YtepcaglekgeamaaGreatDoor
namespace Go.Proofs.YtepcaglekgeamaaGreatDoor

def digitC (c : UInt8) : Bool := decide (48 ≤ c.toNat ∧ c.toNat ≤ 57)

def wordEnd : List UInt8 → Option (List UInt8 × List UInt8)
  | [] => none
  | c :: l => if c = 34 then some ([], l) else (wordEnd l).map fun p => (c :: p.1, p.2)

def quoteL : List UInt8 → Option (List UInt8 × List UInt8)
  | [] => none
  | c :: l => if c = 34 then wordEnd l else none

def digitsL (n : Nat) : List UInt8 → Option (Nat × List UInt8)
  | [] => some (n, [])
  | c :: l => if digitC c then (if n > 1099511627776 then none else digitsL (10 * n + (c.toNat - 48)) l) else some (n, c :: l)

def numberL (s : List UInt8) : Option (Val × List UInt8) :=
  match digitsL 0 s with
  | none => none
  | some (n, r) => if r.length = s.length ∨ ¬ Lib.itoa n = s.take (s.length - r.length) then none else some (.mk 1 n ⟨#[]⟩ [] [], r)

def nameL (four : Bool) (names : List ByteArray) (s : List UInt8) : Option (List ByteArray × List UInt8) :=
  if four then
    match quoteL s with
    | some (k, c :: r) => if c = 58 then some (names ++ [⟨k.toArray⟩], r) else none
    | _ => none
  else some (names, s)

def itemsL (rd : List UInt8 → Option (Val × List UInt8)) (four : Bool) (en : UInt8) : Nat → List Val → List ByteArray → List UInt8 → Option (List Val × List ByteArray × List UInt8)
  | 0, _, _, _ => none
  | f + 1, items, names, s =>
    match nameL four names s with
    | none => none
    | some (names', s') =>
      match rd s' with
      | none => none
      | some (_, []) => none
      | some (x, c :: r) => if c = en then some (items ++ [x], names', r) else if c = 44 then itemsL rd four en f (items ++ [x]) names' r else none

def readL : Nat → List UInt8 → Option (Val × List UInt8)
  | 0, _ => none
  | _ + 1, [] => none
  | d + 1, c :: l =>
    if c = 34 then (wordEnd l).map fun p => (.mk 2 0 ⟨p.1.toArray⟩ [] [], p.2)
    else if c ≠ 91 ∧ c ≠ 123 then numberL (c :: l)
    else if l.head? = some (if c = 123 then 125 else 93) then some (.mk (if c = 123 then 4 else 3) 0 ⟨#[]⟩ [] [], l.tail)
    else (itemsL (readL d) (c == 123) (if c = 123 then 125 else 93) 17 [] [] l).map fun p => (.mk (if c = 123 then 4 else 3) 0 ⟨#[]⟩ p.1 p.2.1, p.2.2)

theorem wordEnd_sound : ∀ (s w r : List UInt8), wordEnd s = some (w, r) → s = w ++ 34 :: r
  | [], _, _, h => by rw [wordEnd] at h; cases h
  | c :: l, w, r, h => by
    rw [wordEnd] at h
    split at h
    · simp only [Option.some.injEq, Prod.mk.injEq] at h; obtain ⟨rfl, rfl⟩ := h; simp_all
    · simp only [Option.map_eq_some_iff, Prod.mk.injEq] at h
      obtain ⟨p, hp, rfl, rfl⟩ := h
      rw [wordEnd_sound l p.1 p.2 hp]; rfl

theorem digitsL_rest : ∀ (s : List UInt8) (n m : Nat) (r : List UInt8), digitsL n s = some (m, r) → ∃ p, s = p ++ r
  | [], n, m, r, h => by rw [digitsL] at h; simp only [Option.some.injEq, Prod.mk.injEq] at h; exact ⟨[], h.2⟩
  | c :: l, n, m, r, h => by
    rw [digitsL] at h
    split at h
    · split at h
      · cases h
      · obtain ⟨p, hp⟩ := digitsL_rest l _ m r h
        exact ⟨c :: p, by rw [hp]; rfl⟩
    · simp only [Option.some.injEq, Prod.mk.injEq] at h; exact ⟨[], h.2⟩

theorem numberL_sound (s : List UInt8) (T : Val) (r : List UInt8) (h : numberL s = some (T, r)) : s = textL T ++ r := by
  unfold numberL at h
  split at h
  · cases h
  · rename_i n r' hd
    split at h
    · cases h
    · rename_i hc
      simp only [Option.some.injEq, Prod.mk.injEq] at h
      obtain ⟨rfl, rfl⟩ := h
      obtain ⟨p, hp⟩ := digitsL_rest s 0 n r' hd
      rw [textL_eq, if_pos rfl]
      have h2 : Lib.itoa n = s.take (s.length - r'.length) := Classical.byContradiction fun e => hc (Or.inr e)
      rw [h2, hp]
      simp

theorem bodyL_false (four : Bool) (x : Val) (l : List Val) (ns : List ByteArray) : bodyL four false (x :: l) ns = 44 :: bodyL four true (x :: l) ns := by
  rw [bodyL, bodyL]; simp

theorem bodyL_cons (four first : Bool) (x : Val) (l : List Val) (ns : List ByteArray) : bodyL four first (x :: l) ns = (if first then [] else [44]) ++ (if four then 34 :: (ns.headD ⟨#[]⟩).data.toList ++ [34, 58] else []) ++ textL x ++ bodyL four false l ns.tail := by rw [bodyL]

theorem itemsL_sound (rd : List UInt8 → Option (Val × List UInt8)) (four : Bool) (en : UInt8) (hrd : ∀ s x r, rd s = some (x, r) → s = textL x ++ r) :
    ∀ (f : Nat) (items : List Val) (names : List ByteArray) (s : List UInt8) (I : List Val) (N : List ByteArray) (r : List UInt8), itemsL rd four en f items names s = some (I, N, r) →
      ∃ x l ns, I = items ++ x :: l ∧ N = names ++ ns ∧ s = bodyL four true (x :: l) ns ++ en :: r ∧ (four = false → ns = []) ∧ (four = true → ns.length = l.length + 1)
  | 0, _, _, _, _, _, _, h => by rw [itemsL] at h; cases h
  | f + 1, items, names, s, I, N, r, h => by
    rw [itemsL] at h
    split at h
    · cases h
    · rename_i names' s' hn
      have hname : ∃ ns0, names' = names ++ ns0 ∧ (four = false → ns0 = []) ∧ (four = true → ∃ k, ns0 = [k]) ∧ s = (if four then 34 :: (ns0.headD ⟨#[]⟩).data.toList ++ [34, 58] else []) ++ s' := by
        unfold nameL at hn
        split at hn
        · rename_i hf
          split at hn
          · rename_i k c r' hq
            split at hn
            · rename_i hc
              simp only [Option.some.injEq, Prod.mk.injEq] at hn
              obtain ⟨rfl, rfl⟩ := hn
              refine ⟨[⟨k.toArray⟩], rfl, fun e => by simp [hf] at e, fun _ => ⟨_, rfl⟩, ?_⟩
              cases s with
              | nil => rw [quoteL] at hq; cases hq
              | cons a s =>
                rw [quoteL] at hq
                split at hq
                · rename_i ha
                  rw [wordEnd_sound s k _ hq, ha, hc, if_pos hf]; simp
                · cases hq
            · cases hn
          · cases hn
        · rename_i hf
          simp only [Option.some.injEq, Prod.mk.injEq] at hn
          obtain ⟨rfl, rfl⟩ := hn
          exact ⟨[], by simp, fun _ => rfl, fun e => absurd e hf, by rw [if_neg hf]; rfl⟩
      obtain ⟨ns0, rfl, hz, ho, hs⟩ := hname
      split at h
      · cases h
      · cases h
      · rename_i x c r' hx
        have hx' := hrd _ _ _ hx
        split at h
        · rename_i hc
          simp only [Option.some.injEq, Prod.mk.injEq] at h
          obtain ⟨rfl, rfl, rfl⟩ := h
          refine ⟨x, [], ns0, rfl, rfl, ?_, hz, fun e => by obtain ⟨k, rfl⟩ := ho e; rfl⟩
          rw [hs, hx', hc, bodyL, bodyL]; simp
        · split at h
          · rename_i hc
            obtain ⟨y, l, ns, rfl, rfl, hr, z1, z2⟩ := itemsL_sound rd four en hrd f _ _ r' I N r h
            refine ⟨x, y :: l, ns0 ++ ns, by simp, by simp, ?_, fun e => by rw [hz e, z1 e]; rfl, fun e => by obtain ⟨k, rfl⟩ := ho e; simp [z2 e]⟩
            rw [hs, hx', hc, hr, bodyL_cons four true x (y :: l), bodyL_false]
            cases four with
            | false => rw [hz rfl, z1 rfl]; simp
            | true => obtain ⟨k, rfl⟩ := ho rfl; simp
          · cases h

theorem readL_sound : ∀ (d : Nat) (s : List UInt8) (T : Val) (r : List UInt8), readL d s = some (T, r) → s = textL T ++ r
  | 0, _, _, _, h => by rw [readL] at h; cases h
  | _ + 1, [], _, _, h => by rw [readL] at h; cases h
  | d + 1, c :: l, T, r, h => by
    rw [readL] at h
    split at h
    · rename_i hc
      simp only [Option.map_eq_some_iff, Prod.mk.injEq] at h
      obtain ⟨p, hp, rfl, rfl⟩ := h
      rw [textL_eq, if_neg (by decide), if_pos rfl, wordEnd_sound l p.1 p.2 hp, hc]; simp
    · split at h
      · exact numberL_sound _ _ _ h
      · rename_i hc
        have hcc : c = 123 ∨ c = 91 := by
          by_cases e : c = 123
          · exact Or.inl e
          · exact Or.inr (Classical.byContradiction fun e2 => hc ⟨e2, e⟩)
        obtain ⟨en, hen⟩ : ∃ e, (if c = 123 then (125 : UInt8) else 93) = e := ⟨_, rfl⟩
        obtain ⟨K, hK⟩ : ∃ e, (if c = 123 then (4 : Int) else 3) = e := ⟨_, rfl⟩
        rw [hen, hK] at h
        split at h
        · rename_i hl
          simp only [Option.some.injEq, Prod.mk.injEq] at h
          obtain ⟨rfl, rfl⟩ := h
          cases l with
          | nil => simp at hl
          | cons a l =>
            simp only [List.head?_cons, Option.some.injEq] at hl
            subst hl
            rcases hcc with rfl | rfl
            · obtain rfl : K = 4 := by rw [← hK]; rfl
              rw [textL_eq, ← hen]; simp [bodyL]
            · obtain rfl : K = 3 := by rw [← hK]; rfl
              rw [textL_eq, ← hen]; simp [bodyL]
        · simp only [Option.map_eq_some_iff, Prod.mk.injEq] at h
          obtain ⟨⟨I, N, r'⟩, hp, rfl, rfl⟩ := h
          obtain ⟨x, l', ns, hI, hN, hr, -, -⟩ := itemsL_sound (readL d) _ _ (fun s x r h => readL_sound d s x r h) 17 [] [] l I N r' hp
          simp only [List.nil_append] at hI hN
          subst hI hN
          rcases hcc with rfl | rfl
          · obtain rfl : K = 4 := by rw [← hK]; rfl
            rw [textL_eq, hr, ← hen]; simp
          · obtain rfl : K = 3 := by rw [← hK]; rfl
            rw [textL_eq, hr, ← hen]; simp
end Go.Proofs.YtepcaglekgeamaaGreatDoor
namespace Go.Proofs.YtepcaglekgeamaaGreatDoor

theorem wordEnd_complete : ∀ (w r : List UInt8), (∀ c ∈ w, c ≠ 34) → wordEnd (w ++ 34 :: r) = some (w, r)
  | [], r, _ => by rw [List.nil_append, wordEnd, if_pos rfl]
  | c :: w, r, h => by
    rw [List.cons_append, wordEnd, if_neg (h c (List.mem_cons_self ..)), wordEnd_complete w r fun x hx => h x (List.mem_cons_of_mem _ hx)]; rfl

theorem wordB_quotes (s : ByteArray) (h : wordB s = true) : ∀ c ∈ s.data.toList, c ≠ 34 := by
  unfold wordB at h
  rw [Bool.and_eq_true] at h
  intro c hc e
  have := List.all_eq_true.1 h.1 c hc
  rw [e] at this
  exact absurd this (by decide)

theorem digit_of (k : Nat) (h : k < 10) : digitC (UInt8.ofNat (48 + k)) = true ∧ (UInt8.ofNat (48 + k)).toNat - 48 = k := by
  have e : (UInt8.ofNat (48 + k)).toNat = 48 + k := by rw [UInt8.toNat_ofNat']; omega
  unfold digitC
  rw [e]
  exact ⟨decide_eq_true (by omega), by omega⟩

theorem digitsL_dec (t : List UInt8) : ∀ n : Nat, n ≤ 1099511627776 → digitsL 0 (Lib.decDigits n ++ t) = digitsL n t := by
  intro n
  induction n using Nat.strongRecOn generalizing t with
  | _ n ih =>
    intro hn
    by_cases h : n < 10
    · obtain ⟨h1, h2⟩ := digit_of n h
      rw [Lib.decDigits_one h, List.cons_append, List.nil_append, digitsL, if_pos h1, if_neg (by omega), h2, Nat.mul_zero, Nat.zero_add]
    · obtain ⟨h1, h2⟩ := digit_of (n % 10) (by omega)
      rw [Lib.decDigits, dif_neg h, List.append_assoc, ih (n / 10) (by omega) _ (by omega), List.cons_append, List.nil_append, digitsL, if_pos h1, if_neg (by omega), h2, show 10 * (n / 10) + n % 10 = n by omega]

theorem dec_head : ∀ n : Nat, ∃ c l, Lib.decDigits n = c :: l ∧ digitC c = true := by
  intro n
  induction n using Nat.strongRecOn with
  | _ n ih =>
    by_cases h : n < 10
    · exact ⟨_, _, Lib.decDigits_one h, (digit_of n h).1⟩
    · obtain ⟨c, l, h1, h2⟩ := ih (n / 10) (by omega)
      exact ⟨c, l ++ [UInt8.ofNat (48 + n % 10)], by rw [Lib.decDigits, dif_neg h, h1, List.cons_append], h2⟩

def Ends (r : List UInt8) : Prop := ∀ c l, r = c :: l → digitC c = false

theorem digitsL_ends (n : Nat) (r : List UInt8) (h : Ends r) : digitsL n r = some (n, r) := by
  cases r with
  | nil => rw [digitsL]
  | cons c l => rw [digitsL, if_neg (by rw [h c l rfl]; decide)]

theorem numberL_complete (n : Int) (h0 : 0 ≤ n) (h1 : n ≤ 1099511627776) (r : List UInt8) (hr : Ends r) : numberL (Lib.itoa n ++ r) = some (.mk 1 n ⟨#[]⟩ [] [], r) := by
  obtain ⟨m, rfl⟩ : ∃ m : Nat, n = m := ⟨n.toNat, by omega⟩
  unfold numberL
  rw [Lib.itoa_nonneg, digitsL_dec r m (by omega), digitsL_ends m r hr]
  obtain ⟨c, l, hd, -⟩ := dec_head m
  simp only
  rw [if_neg]
  · rintro (h | h)
    · rw [hd] at h; simp at h; omega
    · apply h; rw [Lib.itoa_nonneg]; simp

theorem textL_head (k n : Int) (s : ByteArray) (l : List Val) (ns : List ByteArray) (h : OneV k n s l ns) : ∃ c t, textL (.mk k n s l ns) = c :: t ∧ c ≠ 93 ∧ c ≠ 125 := by
  rw [textL_eq]
  split
  · obtain ⟨m, rfl⟩ : ∃ m : Nat, n = m := ⟨n.toNat, by have := h.most.1; omega⟩
    obtain ⟨c, t, hd, hc⟩ := dec_head m
    refine ⟨c, t, by rw [Lib.itoa_nonneg, hd], ?_, ?_⟩ <;> (rintro rfl; exact absurd hc (by decide))
  · split
    · exact ⟨34, _, rfl, by decide, by decide⟩
    · split
      · exact ⟨123, _, rfl, by decide, by decide⟩
      · exact ⟨91, _, rfl, by decide, by decide⟩

theorem itemsL_complete (rd : List UInt8 → Option (Val × List UInt8)) (four : Bool) (en : UInt8) (he : en ≠ 44) (hd : digitC en = false) :
    ∀ (l : List Val) (ns : List ByteArray) (f : Nat) (items : List Val) (names : List ByteArray) (r : List UInt8), l ≠ [] → l.length ≤ f → (four = true → ns.length = l.length) → (four = false → ns = []) → (∀ s ∈ ns, wordB s = true) →
      (∀ x ∈ l, ∀ r, Ends r → rd (textL x ++ r) = some (x, r)) → itemsL rd four en f items names (bodyL four true l ns ++ en :: r) = some (items ++ l, names ++ ns, r)
  | [], _, _, _, _, _, h, _, _, _, _, _ => absurd rfl h
  | _ :: _, _, 0, _, _, _, _, h, _, _, _, _ => absurd h (by simp)
  | x :: l, ns, f + 1, items, names, r, _, hf, h1, h2, hw, hx => by
    have hname : ∀ u, nameL four names ((if four then 34 :: (ns.headD ⟨#[]⟩).data.toList ++ [34, 58] else []) ++ u) = some (names ++ ns.take 1, u) := by
      intro u
      unfold nameL
      cases four with
      | false => rw [h2 rfl]; simp
      | true =>
        cases ns with
        | nil => have := h1 rfl; simp at this
        | cons a ns =>
          have e : (34 :: a.data.toList ++ [34, 58]) ++ u = 34 :: (a.data.toList ++ 34 :: (58 :: u)) := by simp
          simp only [if_true, List.headD_cons]
          rw [e, quoteL, if_pos rfl, wordEnd_complete _ _ (wordB_quotes a (hw a (List.mem_cons_self ..)))]
          simp
    have e1 : ∀ v, bodyL four true (x :: l) ns ++ v = (if four then 34 :: (ns.headD ⟨#[]⟩).data.toList ++ [34, 58] else []) ++ (textL x ++ (bodyL four false l ns.tail ++ v)) := by
      intro v; rw [bodyL_cons]; simp
    rw [e1, itemsL, hname]
    simp only
    cases l with
    | nil =>
      have hns : ns.take 1 = ns := by
        cases four with
        | false => rw [h2 rfl]; rfl
        | true => have := h1 rfl; simp at this; exact List.take_of_length_le (by omega)
      rw [bodyL, List.nil_append, hx x (List.mem_cons_self ..) _ (fun c t e => by cases e; exact hd)]
      simp only
      rw [if_pos trivial, hns]
    | cons y l =>
      rw [bodyL_false, List.cons_append, hx x (List.mem_cons_self ..) _ (fun c t e => by cases e; decide)]
      simp only
      rw [if_neg (Ne.symm he), if_pos trivial, itemsL_complete rd four en he hd (y :: l) ns.tail f _ _ r (by simp) (by simpa using hf) (fun e => by have := h1 e; rw [List.length_tail, this]; rfl) (fun e => by rw [h2 e]; rfl) (fun s hs => hw s (List.mem_of_mem_tail hs)) (fun z hz => hx z (List.mem_cons_of_mem _ hz))]
      have e3 : ns.take 1 ++ ns.tail = ns := by rw [← List.drop_one, List.take_append_drop]
      rw [List.append_assoc, List.append_assoc, e3]; rfl

theorem bytes_nil (s : ByteArray) (h : s.size = 0) : s = ⟨#[]⟩ := ByteArray.ext (Array.eq_empty_of_size_eq_zero h)

theorem readL_complete : ∀ (d : Nat) (T : Val) (r : List UInt8), mayV d T = true → Ends r → readL d (textL T ++ r) = some (T, r)
  | 0, T, _, h, _ => by rw [mayV] at h; cases h
  | d + 1, .mk k n s l ns, r, h, hr => by
    rw [mayV, Bool.and_eq_true, oneV_iff] at h
    obtain ⟨h1, h2⟩ := h
    have h2 : ∀ x ∈ l, mayV d x = true := List.all_eq_true.1 h2
    have hk : k = 1 ∨ k = 2 ∨ k = 3 ∨ k = 4 := by have := h1.kind; omega
    have hrd : ∀ x ∈ l, ∀ r, Ends r → readL d (textL x ++ r) = some (x, r) := fun x hx r hr => readL_complete d x r (h2 x hx) hr
    have hbody : ∀ four en v, en = 93 ∨ en = 125 → l ≠ [] → (bodyL four true l ns ++ v).head? ≠ some en := by
      intro four en v he hl
      cases l with
      | nil => exact absurd rfl hl
      | cons x l =>
        rw [bodyL_cons]
        cases four with
        | true => simp; rcases he with rfl | rfl <;> decide
        | false =>
          have hox : ∃ c t, textL x = c :: t ∧ c ≠ 93 ∧ c ≠ 125 := by
            have hm := h2 x (List.mem_cons_self ..)
            cases d with
            | zero => rw [mayV] at hm; cases hm
            | succ d =>
              cases x with
              | mk k n s l ns =>
                rw [mayV, Bool.and_eq_true, oneV_iff] at hm
                exact textL_head k n s l ns hm.1
          obtain ⟨c, t, ht, c1, c2⟩ := hox
          rw [ht]
          simp
          rcases he with rfl | rfl
          · exact c1
          · exact c2
    rcases hk with rfl | rfl | rfl | rfl
    · have es := bytes_nil s (h1.word.resolve_left (by decide))
      have el : l = [] := List.length_eq_zero_iff.1 (h1.items.resolve_left (by decide))
      have en : ns = [] := List.length_eq_zero_iff.1 (h1.names.resolve_left (by decide))
      subst es el en
      have hn := numberL_complete n h1.most.1 h1.most.2 r hr
      rw [textL_eq, if_pos rfl]
      obtain ⟨m, rfl⟩ : ∃ m : Nat, n = m := ⟨n.toNat, by have := h1.most.1; omega⟩
      rw [Lib.itoa_nonneg] at hn ⊢
      obtain ⟨c, t, hd, hc⟩ := dec_head m
      rw [hd, List.cons_append] at hn ⊢
      rw [readL, if_neg (by rintro rfl; exact absurd hc (by decide)), if_pos ⟨by rintro rfl; exact absurd hc (by decide), by rintro rfl; exact absurd hc (by decide)⟩, hn]
    · have en0 : n = 0 := h1.num.resolve_left (by decide)
      have el : l = [] := List.length_eq_zero_iff.1 (h1.items.resolve_left (by decide))
      have en : ns = [] := List.length_eq_zero_iff.1 (h1.names.resolve_left (by decide))
      subst en0 el en
      rw [textL_eq, if_neg (by decide), if_pos rfl, List.cons_append, List.cons_append, readL, if_pos rfl, List.append_assoc, List.cons_append, List.nil_append, wordEnd_complete _ _ (wordB_quotes s h1.isWord)]
      simp
    · have en0 : n = 0 := h1.num.resolve_left (by decide)
      have es := bytes_nil s (h1.word.resolve_left (by decide))
      have en : ns = [] := List.length_eq_zero_iff.1 (h1.names.resolve_left (by decide))
      subst en0 es en
      rw [textL_eq, if_neg (by decide), if_neg (by decide), if_neg (by decide), List.cons_append, List.cons_append, List.append_assoc, List.cons_append, List.nil_append, readL, if_neg (by decide), if_neg (by decide)]
      by_cases hl : l = []
      · subst hl; rw [bodyL]; rfl
      · have e9 : (if (91 : UInt8) = 123 then (125 : UInt8) else 93) = 93 := rfl
        rw [e9, if_neg (hbody _ _ _ (Or.inl rfl) hl)]
        have := itemsL_complete (readL d) false 93 (by decide) (by decide) l [] 17 [] [] r hl (by have := h1.few; omega) (by simp) (by simp) (by simp) hrd
        show (itemsL (readL d) false 93 17 [] [] _).map _ = _
        rw [this]; rfl
    · have en0 : n = 0 := h1.num.resolve_left (by decide)
      have es := bytes_nil s (h1.word.resolve_left (by decide))
      subst en0 es
      rw [textL_eq, if_neg (by decide), if_neg (by decide), if_pos rfl, List.cons_append, List.cons_append, List.append_assoc, List.cons_append, List.nil_append, readL, if_neg (by decide), if_neg (by decide)]
      by_cases hl : l = []
      · subst hl
        have en : ns = [] := List.length_eq_zero_iff.1 (h1.same rfl)
        subst en
        rw [bodyL]; rfl
      · have e9 : (if (123 : UInt8) = 123 then (125 : UInt8) else 93) = 125 := rfl
        rw [e9, if_neg (hbody _ _ _ (Or.inr rfl) hl)]
        have := itemsL_complete (readL d) true 125 (by decide) (by decide) l ns 17 [] [] r hl (by have := h1.few; omega) (fun _ => h1.same rfl) (by simp) (risesL_words _ _ h1.rises) hrd
        show (itemsL (readL d) true 125 17 [] [] _).map _ = _
        rw [this]; rfl

theorem readL_iff (d : Nat) (s : List UInt8) (T : Val) (hT : mayV d T = true) : readL d s = some (T, []) ↔ s = textL T := by
  constructor
  · intro h; have := readL_sound d s T [] h; rwa [List.append_nil] at this
  · rintro rfl
    have := readL_complete d T [] hT (fun c l e => by cases e)
    rwa [List.append_nil] at this
end Go.Proofs.YtepcaglekgeamaaGreatDoor
namespace Go.Proofs.YtepcaglekgeamaaGreatDoor

def wholeL (s : List UInt8) : Option (Val × List UInt8) :=
  match Lib.atoiAll (s.takeWhile digitC) with
  | .ok n => if Lib.itoa n = s.takeWhile digitC then some (.mk 1 n ⟨#[]⟩ [] [], s.dropWhile digitC) else none
  | Lib.NumEnd.syntax => none
  | .range => none

def parseL : Nat → List UInt8 → Option (Val × List UInt8)
  | 0, _ => none
  | _ + 1, [] => none
  | d + 1, c :: l =>
    if c = 34 then (wordEnd l).map fun p => (.mk 2 0 ⟨p.1.toArray⟩ [] [], p.2)
    else if c ≠ 91 ∧ c ≠ 123 then wholeL (c :: l)
    else if l.head? = some (if c = 123 then 125 else 93) then some (.mk (if c = 123 then 4 else 3) 0 ⟨#[]⟩ [] [], l.tail)
    else (itemsL (parseL d) (c == 123) (if c = 123 then 125 else 93) (l.length + 1) [] [] l).map fun p => (.mk (if c = 123 then 4 else 3) 0 ⟨#[]⟩ p.1 p.2.1, p.2.2)

theorem wholeL_sound (s : List UInt8) (T : Val) (r : List UInt8) (h : wholeL s = some (T, r)) : s = textL T ++ r := by
  unfold wholeL at h
  split at h
  · split at h
    · rename_i n _ e
      simp only [Option.some.injEq, Prod.mk.injEq] at h
      obtain ⟨rfl, rfl⟩ := h
      rw [textL_eq, if_pos rfl, e, List.takeWhile_append_dropWhile]
    · cases h
  · cases h
  · cases h

theorem parseL_sound : ∀ (d : Nat) (s : List UInt8) (T : Val) (r : List UInt8), parseL d s = some (T, r) → s = textL T ++ r
  | 0, _, _, _, h => by rw [parseL] at h; cases h
  | _ + 1, [], _, _, h => by rw [parseL] at h; cases h
  | d + 1, c :: l, T, r, h => by
    rw [parseL] at h
    split at h
    · rename_i hc
      simp only [Option.map_eq_some_iff, Prod.mk.injEq] at h
      obtain ⟨p, hp, rfl, rfl⟩ := h
      rw [textL_eq, if_neg (by decide), if_pos rfl, wordEnd_sound l p.1 p.2 hp, hc]; simp
    · split at h
      · exact wholeL_sound _ _ _ h
      · rename_i hc
        have hcc : c = 123 ∨ c = 91 := by
          by_cases e : c = 123
          · exact Or.inl e
          · exact Or.inr (Classical.byContradiction fun e2 => hc ⟨e2, e⟩)
        obtain ⟨en, hen⟩ : ∃ e, (if c = 123 then (125 : UInt8) else 93) = e := ⟨_, rfl⟩
        obtain ⟨K, hK⟩ : ∃ e, (if c = 123 then (4 : Int) else 3) = e := ⟨_, rfl⟩
        rw [hen, hK] at h
        split at h
        · rename_i hl
          simp only [Option.some.injEq, Prod.mk.injEq] at h
          obtain ⟨rfl, rfl⟩ := h
          cases l with
          | nil => simp at hl
          | cons a l =>
            simp only [List.head?_cons, Option.some.injEq] at hl
            subst hl
            rcases hcc with rfl | rfl
            · obtain rfl : K = 4 := by rw [← hK]; rfl
              rw [textL_eq, ← hen]; simp [bodyL]
            · obtain rfl : K = 3 := by rw [← hK]; rfl
              rw [textL_eq, ← hen]; simp [bodyL]
        · simp only [Option.map_eq_some_iff, Prod.mk.injEq] at h
          obtain ⟨⟨I, N, r'⟩, hp, rfl, rfl⟩ := h
          obtain ⟨x, l', ns, hI, hN, hr, -, -⟩ := itemsL_sound (parseL d) _ _ (fun s x r h => parseL_sound d s x r h) _ [] [] l I N r' hp
          simp only [List.nil_append] at hI hN
          subst hI hN
          rcases hcc with rfl | rfl
          · obtain rfl : K = 4 := by rw [← hK]; rfl
            rw [textL_eq, hr, ← hen]; simp
          · obtain rfl : K = 3 := by rw [← hK]; rfl
            rw [textL_eq, hr, ← hen]; simp

theorem digitC_iff (c : UInt8) : digitC c = true ↔ 48 ≤ c.toNat ∧ c.toNat ≤ 57 := by unfold digitC; exact decide_eq_true_iff

theorem parseUint10_dec (t : List UInt8) : ∀ n : Nat, n ≤ 1099511627776 → Lib.parseUint10 0 (Lib.decDigits n ++ t) = Lib.parseUint10 n t := by
  intro n
  induction n using Nat.strongRecOn generalizing t with
  | _ n ih =>
    intro hn
    by_cases h : n < 10
    · obtain ⟨h1, h2⟩ := digit_of n h
      rw [Lib.decDigits_one h, List.cons_append, List.nil_append, Lib.parseUint10, if_pos ((digitC_iff _).1 h1), if_neg (by omega), h2, if_neg (by omega), Nat.zero_mul, Nat.zero_add]
    · obtain ⟨h1, h2⟩ := digit_of (n % 10) (by omega)
      rw [Lib.decDigits, dif_neg h, List.append_assoc, ih (n / 10) (by omega) _ (by omega), List.cons_append, List.nil_append, Lib.parseUint10, if_pos ((digitC_iff _).1 h1), if_neg (by omega), h2, if_neg (by omega), show n / 10 * 10 + n % 10 = n by omega]

theorem dec_digits : ∀ n : Nat, ∀ c ∈ Lib.decDigits n, digitC c = true := by
  intro n
  induction n using Nat.strongRecOn with
  | _ n ih =>
    intro c hc
    by_cases h : n < 10
    · rw [Lib.decDigits_one h] at hc
      obtain rfl := List.mem_singleton.1 hc
      exact (digit_of n h).1
    · rw [Lib.decDigits, dif_neg h, List.mem_append] at hc
      rcases hc with hc | hc
      · exact ih (n / 10) (by omega) c hc
      · obtain rfl := List.mem_singleton.1 hc
        exact (digit_of (n % 10) (by omega)).1

theorem atoiAll_dec (n : Nat) (hn : n ≤ 1099511627776) : Lib.atoiAll (Lib.decDigits n) = .ok n := by
  obtain ⟨c, l, hd, hc⟩ := dec_head n
  have hu := parseUint10_dec [] n hn
  rw [List.append_nil, hd, show Lib.parseUint10 n [] = .ok n from rfl] at hu
  have h1 := (digitC_iff c).1 hc
  have hm : Lib.parseMag (c :: l) = .ok n := by unfold Lib.parseMag; rw [if_neg (by simp)]; exact hu
  rw [hd]
  unfold Lib.atoiAll
  simp only
  rw [if_neg (by omega), hm]
  simp only
  rw [if_neg (by omega), if_neg (by omega), if_neg (by omega)]

theorem takeWhile_ends (p : List UInt8) (r : List UInt8) (hp : ∀ c ∈ p, digitC c = true) (hr : Ends r) : (p ++ r).takeWhile digitC = p ∧ (p ++ r).dropWhile digitC = r := by
  have e1 : r.takeWhile digitC = [] ∧ r.dropWhile digitC = r := by
    cases r with
    | nil => exact ⟨rfl, rfl⟩
    | cons c l =>
      have := hr c l rfl
      exact ⟨by rw [List.takeWhile_cons, this]; rfl, by rw [List.dropWhile_cons, this]; rfl⟩
  constructor
  · rw [List.takeWhile_append_of_pos hp, e1.1, List.append_nil]
  · rw [List.dropWhile_append_of_pos hp, e1.2]

theorem wholeL_complete (n : Int) (h0 : 0 ≤ n) (h1 : n ≤ 1099511627776) (r : List UInt8) (hr : Ends r) : wholeL (Lib.itoa n ++ r) = some (.mk 1 n ⟨#[]⟩ [] [], r) := by
  obtain ⟨m, rfl⟩ : ∃ m : Nat, n = m := ⟨n.toNat, by omega⟩
  obtain ⟨e1, e2⟩ := takeWhile_ends (Lib.decDigits m) r (dec_digits m) hr
  unfold wholeL
  rw [Lib.itoa_nonneg, e1, e2, atoiAll_dec m (by omega)]
  simp only
  rw [Lib.itoa_nonneg, if_pos rfl]

theorem bodyL_long (four : Bool) : ∀ (first : Bool) (l : List Val) (ns : List ByteArray), (∀ x ∈ l, textL x ≠ []) → l.length ≤ (bodyL four first l ns).length
  | _, [], _, _ => Nat.zero_le _
  | first, x :: l, ns, h => by
    have h1 := bodyL_long four false l ns.tail fun y hy => h y (List.mem_cons_of_mem _ hy)
    have h2 := List.length_pos_iff.2 (h x (List.mem_cons_self ..))
    rw [bodyL_cons, List.length_append, List.length_append, List.length_cons]
    omega

theorem parseL_complete : ∀ (d : Nat) (T : Val) (r : List UInt8), mayV d T = true → Ends r → parseL d (textL T ++ r) = some (T, r)
  | 0, T, _, h, _ => by rw [mayV] at h; cases h
  | d + 1, .mk k n s l ns, r, h, hr => by
    rw [mayV, Bool.and_eq_true, oneV_iff] at h
    obtain ⟨h1, h2⟩ := h
    have h2 : ∀ x ∈ l, mayV d x = true := List.all_eq_true.1 h2
    have hk : k = 1 ∨ k = 2 ∨ k = 3 ∨ k = 4 := by have := h1.kind; omega
    have hrd : ∀ x ∈ l, ∀ r, Ends r → parseL d (textL x ++ r) = some (x, r) := fun x hx r hr => parseL_complete d x r (h2 x hx) hr
    have hox : ∀ x ∈ l, ∃ c t, textL x = c :: t ∧ c ≠ 93 ∧ c ≠ 125 := by
      intro x hx
      have hm := h2 x hx
      cases d with
      | zero => rw [mayV] at hm; cases hm
      | succ d =>
        cases x with
        | mk k n s l ns =>
          rw [mayV, Bool.and_eq_true, oneV_iff] at hm
          exact textL_head k n s l ns hm.1
    have hbody : ∀ four en v, en = 93 ∨ en = 125 → l ≠ [] → (bodyL four true l ns ++ v).head? ≠ some en := by
      intro four en v he hl
      cases l with
      | nil => exact absurd rfl hl
      | cons x l =>
        rw [bodyL_cons]
        cases four with
        | true => simp; rcases he with rfl | rfl <;> decide
        | false =>
          obtain ⟨c, t, ht, c1, c2⟩ := hox x (List.mem_cons_self ..)
          rw [ht]
          simp
          rcases he with rfl | rfl
          · exact c1
          · exact c2
    have hlen : ∀ four (u : List UInt8), l.length ≤ (bodyL four true l ns ++ u).length + 1 := fun four u => by
      have := bodyL_long four true l ns fun x hx => by obtain ⟨c, t, ht, -⟩ := hox x hx; rw [ht]; simp
      rw [List.length_append]; omega
    rcases hk with rfl | rfl | rfl | rfl
    · have es := bytes_nil s (h1.word.resolve_left (by decide))
      have el : l = [] := List.length_eq_zero_iff.1 (h1.items.resolve_left (by decide))
      have en : ns = [] := List.length_eq_zero_iff.1 (h1.names.resolve_left (by decide))
      subst es el en
      have hn := wholeL_complete n h1.most.1 h1.most.2 r hr
      rw [textL_eq, if_pos rfl]
      obtain ⟨m, rfl⟩ : ∃ m : Nat, n = m := ⟨n.toNat, by have := h1.most.1; omega⟩
      rw [Lib.itoa_nonneg] at hn ⊢
      obtain ⟨c, t, hd, hc⟩ := dec_head m
      rw [hd, List.cons_append] at hn ⊢
      rw [parseL, if_neg (by rintro rfl; exact absurd hc (by decide)), if_pos ⟨by rintro rfl; exact absurd hc (by decide), by rintro rfl; exact absurd hc (by decide)⟩, hn]
    · have en0 : n = 0 := h1.num.resolve_left (by decide)
      have el : l = [] := List.length_eq_zero_iff.1 (h1.items.resolve_left (by decide))
      have en : ns = [] := List.length_eq_zero_iff.1 (h1.names.resolve_left (by decide))
      subst en0 el en
      rw [textL_eq, if_neg (by decide), if_pos rfl, List.cons_append, List.cons_append, parseL, if_pos rfl, List.append_assoc, List.cons_append, List.nil_append, wordEnd_complete _ _ (wordB_quotes s h1.isWord)]
      simp
    · have en0 : n = 0 := h1.num.resolve_left (by decide)
      have es := bytes_nil s (h1.word.resolve_left (by decide))
      have en : ns = [] := List.length_eq_zero_iff.1 (h1.names.resolve_left (by decide))
      subst en0 es en
      rw [textL_eq, if_neg (by decide), if_neg (by decide), if_neg (by decide), List.cons_append, List.cons_append, List.append_assoc, List.cons_append, List.nil_append, parseL, if_neg (by decide), if_neg (by decide)]
      by_cases hl : l = []
      · subst hl; rw [bodyL]; rfl
      · have e9 : (if (91 : UInt8) = 123 then (125 : UInt8) else 93) = 93 := rfl
        rw [e9, if_neg (hbody _ _ _ (Or.inl rfl) hl)]
        have := itemsL_complete (parseL d) false 93 (by decide) (by decide) l [] _ [] [] r hl (hlen false (93 :: r)) (by simp) (by simp) (by simp) hrd
        show (itemsL (parseL d) false 93 _ [] [] _).map _ = _
        rw [this]; rfl
    · have en0 : n = 0 := h1.num.resolve_left (by decide)
      have es := bytes_nil s (h1.word.resolve_left (by decide))
      subst en0 es
      rw [textL_eq, if_neg (by decide), if_neg (by decide), if_pos rfl, List.cons_append, List.cons_append, List.append_assoc, List.cons_append, List.nil_append, parseL, if_neg (by decide), if_neg (by decide)]
      by_cases hl : l = []
      · subst hl
        have en : ns = [] := List.length_eq_zero_iff.1 (h1.same rfl)
        subst en
        rw [bodyL]; rfl
      · have e9 : (if (123 : UInt8) = 123 then (125 : UInt8) else 93) = 125 := rfl
        rw [e9, if_neg (hbody _ _ _ (Or.inr rfl) hl)]
        have := itemsL_complete (parseL d) true 125 (by decide) (by decide) l ns _ [] [] r hl (hlen true (125 :: r)) (fun _ => h1.same rfl) (by simp) (risesL_words _ _ h1.rises) hrd
        show (itemsL (parseL d) true 125 _ [] [] _).map _ = _
        rw [this]; rfl

theorem itemsL_congr (rd rd' : List UInt8 → Option (Val × List UInt8)) (four : Bool) (en : UInt8) : ∀ (f : Nat) (items : List Val) (names : List ByteArray) (s : List UInt8),
    (∀ s' : List UInt8, s'.length ≤ s.length → rd s' = rd' s') → (∀ s' x r, rd s' = some (x, r) → r.length ≤ s'.length) → itemsL rd four en f items names s = itemsL rd' four en f items names s
  | 0, _, _, _, _, _ => by rw [itemsL, itemsL]
  | f + 1, items, names, s, h, hl => by
    rw [itemsL, itemsL]
    cases hn : nameL four names s with
    | none => rfl
    | some p =>
      obtain ⟨names', s'⟩ := p
      have hs' : s'.length ≤ s.length := by
        unfold nameL at hn
        split at hn
        · split at hn
          · rename_i k c r' hq
            split at hn
            · simp only [Option.some.injEq, Prod.mk.injEq] at hn
              obtain ⟨-, rfl⟩ := hn
              cases s with
              | nil => rw [quoteL] at hq; cases hq
              | cons a s =>
                rw [quoteL] at hq
                split at hq
                · have := wordEnd_sound s k _ hq
                  rw [this]; simp; omega
                · cases hq
            · cases hn
          · cases hn
        · simp only [Option.some.injEq, Prod.mk.injEq] at hn
          rw [hn.2]; exact Nat.le_refl _
      simp only
      rw [← h s' hs']
      cases hx : rd s' with
      | none => rfl
      | some q =>
        obtain ⟨x, r⟩ := q
        cases r with
        | nil => rfl
        | cons c r =>
          have hr := hl s' x _ hx
          simp only
          split
          · rfl
          · split
            · exact itemsL_congr rd rd' four en f _ _ r (fun u hu => h u (by simp at hr; omega)) hl
            · rfl

theorem parseL_enough : ∀ (n : Nat) (s : List UInt8), s.length ≤ n → ∀ d, n < d → parseL d s = parseL (n + 1) s
  | n, [], _, d, hd => by
    cases d with
    | zero => omega
    | succ d => rw [parseL, parseL]
  | 0, c :: l, h, _, _ => by simp at h
  | n + 1, c :: l, h, d, hd => by
    cases d with
    | zero => omega
    | succ d =>
      have hll : l.length ≤ n := by simpa using h
      rw [parseL, parseL]
      rw [itemsL_congr (parseL d) (parseL (n + 1)) _ _ _ [] [] l (fun s' hs' => parseL_enough n s' (by omega) d (by omega)) (fun s' x r hx => by
        have := parseL_sound d s' x r hx
        rw [this]; simp)]

theorem itemsL_mono (rd rd' : List UInt8 → Option (Val × List UInt8)) (four : Bool) (en : UInt8) (h : ∀ s p, rd s = some p → rd' s = some p) : ∀ (f : Nat) (items : List Val) (names : List ByteArray) (s : List UInt8) (q : List Val × List ByteArray × List UInt8),
    itemsL rd four en f items names s = some q → itemsL rd' four en f items names s = some q
  | 0, _, _, _, _, hq => by rw [itemsL] at hq; cases hq
  | f + 1, items, names, s, q, hq => by
    rw [itemsL] at hq ⊢
    cases hn : nameL four names s with
    | none => rw [hn] at hq; cases hq
    | some p =>
      obtain ⟨names', s'⟩ := p
      rw [hn] at hq
      simp only at hq ⊢
      cases hx : rd s' with
      | none => rw [hx] at hq; cases hq
      | some u =>
        rw [hx] at hq
        rw [h s' u hx]
        obtain ⟨x, r⟩ := u
        cases r with
        | nil => cases hq
        | cons c r =>
          simp only at hq ⊢
          by_cases hc : c = en
          · rw [if_pos hc] at hq ⊢; exact hq
          · rw [if_neg hc] at hq ⊢
            by_cases hc2 : c = 44
            · rw [if_pos hc2] at hq ⊢
              exact itemsL_mono rd rd' four en h f _ _ r q hq
            · rw [if_neg hc2] at hq; cases hq

theorem parseL_mono : ∀ (d : Nat) (s : List UInt8) (p : Val × List UInt8), parseL d s = some p → parseL (d + 1) s = some p
  | 0, _, _, h => by rw [parseL] at h; cases h
  | _ + 1, [], _, h => by rw [parseL] at h; cases h
  | d + 1, c :: l, p, h => by
    rw [parseL] at h ⊢
    split
    · rename_i h1; rw [if_pos h1] at h; exact h
    · rename_i h1
      rw [if_neg h1] at h
      split
      · rename_i h2; rw [if_pos h2] at h; exact h
      · rename_i h2
        rw [if_neg h2] at h
        generalize (if c = 123 then (125 : UInt8) else 93) = en at h ⊢
        generalize (if c = 123 then (4 : Int) else 3) = K at h ⊢
        by_cases h3 : l.head? = some en
        · rw [if_pos h3] at h ⊢; exact h
        · rw [if_neg h3] at h ⊢
          rw [Option.map_eq_some_iff] at h ⊢
          obtain ⟨q, hq, hp⟩ := h
          exact ⟨q, itemsL_mono _ _ _ _ (fun s p hs => parseL_mono d s p hs) _ _ _ _ _ hq, hp⟩

theorem parseL_up (d k : Nat) (s : List UInt8) (p : Val × List UInt8) (h : parseL d s = some p) : parseL (d + k) s = some p := by
  induction k with
  | zero => exact h
  | succ k ih => exact parseL_mono _ _ _ ih

def parseV (s : ByteArray) : Option Val :=
  match parseL (s.size + 1) s.data.toList with
  | some (T, []) => if mayV 6 T then some T else none
  | _ => none

theorem parseV_iff (s : ByteArray) (T : Val) : parseV s = some T ↔ mayV 6 T = true ∧ textL T = s.data.toList := by
  have key : ∀ T, mayV 6 T = true → textL T = s.data.toList → parseL (s.size + 1) s.data.toList = some (T, []) := by
    intro T hm ht
    have h1 := parseL_complete 6 T [] hm (fun c l e => by cases e)
    rw [List.append_nil, ht] at h1
    have hs := Lib.size_eq s
    by_cases h6 : s.size < 6
    · rw [← parseL_enough s.size s.data.toList (by omega) 6 h6]; exact h1
    · have h2 := parseL_up 6 (s.size - 5) _ _ h1
      rw [show 6 + (s.size - 5) = s.size + 1 by omega] at h2
      exact h2
  unfold parseV
  constructor
  · intro h
    split at h
    · rename_i T' he
      split at h
      · rename_i hm
        obtain rfl := Option.some.inj h
        have := parseL_sound _ _ _ _ he
        rw [List.append_nil] at this
        exact ⟨hm, this.symm⟩
      · cases h
    · cases h
  · rintro ⟨hm, ht⟩
    rw [key T hm ht]
    simp only
    rw [if_pos hm]
end Go.Proofs.YtepcaglekgeamaaGreatDoor
namespace Go.Proofs.YtepcaglekgeamaaGreatDoor

mutual
theorem likeV_eq : ∀ (T U : Val), likeV T U = true → T = U
  | .mk k n s l ns, .mk k' n' s' l' ns', h => by
    rw [likeV] at h
    simp only [Bool.and_eq_true, beq_iff_eq, decide_eq_true_eq] at h
    obtain ⟨⟨⟨⟨rfl, rfl⟩, rfl⟩, rfl⟩, h⟩ := h
    rw [likeL_eq l l' h]
theorem likeL_eq : ∀ (l m : List Val), likeL l m = true → l = m
  | [], [], _ => rfl
  | a :: l, b :: m, h => by
    rw [likeL, Bool.and_eq_true] at h
    rw [likeV_eq a b h.1, likeL_eq l m h.2]
  | [], _ :: _, h => by unfold likeL at h; cases h
  | _ :: _, [], h => by unfold likeL at h; cases h
end

mutual
theorem likeV_refl : ∀ (T : Val), likeV T T = true
  | .mk k n s l ns => by
    rw [likeV, likeL_refl l]
    simp
theorem likeL_refl : ∀ (l : List Val), likeL l l = true
  | [] => by rw [likeL]
  | a :: l => by rw [likeL, likeV_refl a, likeL_refl l]; rfl
end

theorem likeV_iff (T U : Val) : likeV T U = true ↔ T = U := ⟨likeV_eq T U, fun e => by rw [e]; exact likeV_refl U⟩
end Go.Proofs.YtepcaglekgeamaaGreatDoor
