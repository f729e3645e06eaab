/-
  The document's reader as a plain function: what is read is the text's value, and the text of a value that may be is read. Conditions: none.
-/
import Derived.Test.YtgkapipiegfmhaaDoorTextPlain
import Derived.Lib.ItoaMem
namespace Go.Proofs.YtgkapipiegfmhaaDoor

def digitC (c : UInt8) : Bool := decide (48 ≤ c.toNat ∧ c.toNat ≤ 57)
/-- The word behind a quote. -/
def wordEnd : List UInt8 → Option (List UInt8 × List UInt8)
  | [] => none
  | c :: l => if c = 34 then some ([], l) else (wordEnd l).map fun p => (c :: p.1, p.2)
def quoteL : List UInt8 → Option (List UInt8 × List UInt8)
  | [] => none
  | c :: l => if c = 34 then wordEnd l else none
/-- The number of the digits ahead; what is behind. -/
def digitsL (n : Nat) : List UInt8 → Option (Nat × List UInt8)
  | [] => some (n, [])
  | c :: l => if digitC c then (if n > 1099511627776 then none else digitsL (10 * n + (c.toNat - 48)) l) else some (n, c :: l)
def numberL (s : List UInt8) : Option (Val × List UInt8) :=
  match digitsL 0 s with
  | none => none
  | some (n, r) => if r.length = s.length ∨ ¬ Lib.itoa n = s.take (s.length - r.length) then none else some (.mk 1 n ⟨#[]⟩ [] [], r)
/-- A member's name and the colon; a row has none. -/
def nameL (four : Bool) (names : List ByteArray) (s : List UInt8) : Option (List ByteArray × List UInt8) :=
  if four then
    match quoteL s with
    | some (k, c :: r) => if c = 58 then some (names ++ [⟨k.toArray⟩], r) else none
    | _ => none
  else some (names, s)
def itemsL (rd : List UInt8 → Option (Val × List UInt8)) (four : Bool) (en : UInt8) : Nat → List Val → List ByteArray → List UInt8 → Option (List Val × List ByteArray × List UInt8)
  | 0, _, _, _ => none
  | f + 1, items, names, s =>
    match nameL four names s with
    | none => none
    | some (names', s') =>
      match rd s' with
      | none => none
      | some (_, []) => none
      | some (x, c :: r) => if c = en then some (items ++ [x], names', r) else if c = 44 then itemsL rd four en f (items ++ [x]) names' r else none
def readL : Nat → List UInt8 → Option (Val × List UInt8)
  | 0, _ => none
  | _ + 1, [] => none
  | d + 1, c :: l =>
    if c = 34 then (wordEnd l).map fun p => (.mk 2 0 ⟨p.1.toArray⟩ [] [], p.2)
    else if c ≠ 91 ∧ c ≠ 123 then numberL (c :: l)
    else if l.head? = some (if c = 123 then 125 else 93) then some (.mk (if c = 123 then 4 else 3) 0 ⟨#[]⟩ [] [], l.tail)
    else (itemsL (readL d) (c == 123) (if c = 123 then 125 else 93) 17 [] [] l).map fun p => (.mk (if c = 123 then 4 else 3) 0 ⟨#[]⟩ p.1 p.2.1, p.2.2)

/-! ### What is read is the text's -/
theorem wordEnd_sound : ∀ (s w r : List UInt8), wordEnd s = some (w, r) → s = w ++ 34 :: r
  | [], _, _, h => by rw [wordEnd] at h; cases h
  | c :: l, w, r, h => by
    rw [wordEnd] at h
    split at h
    · simp only [Option.some.injEq, Prod.mk.injEq] at h; obtain ⟨rfl, rfl⟩ := h; simp_all
    · simp only [Option.map_eq_some_iff, Prod.mk.injEq] at h
      obtain ⟨p, hp, rfl, rfl⟩ := h
      rw [wordEnd_sound l p.1 p.2 hp]; rfl
theorem digitsL_rest : ∀ (s : List UInt8) (n m : Nat) (r : List UInt8), digitsL n s = some (m, r) → ∃ p, s = p ++ r
  | [], n, m, r, h => by rw [digitsL] at h; simp only [Option.some.injEq, Prod.mk.injEq] at h; exact ⟨[], h.2⟩
  | c :: l, n, m, r, h => by
    rw [digitsL] at h
    split at h
    · split at h
      · cases h
      · obtain ⟨p, hp⟩ := digitsL_rest l _ m r h
        exact ⟨c :: p, by rw [hp]; rfl⟩
    · simp only [Option.some.injEq, Prod.mk.injEq] at h; exact ⟨[], h.2⟩
theorem numberL_sound (s : List UInt8) (T : Val) (r : List UInt8) (h : numberL s = some (T, r)) : s = textL T ++ r := by
  unfold numberL at h
  split at h
  · cases h
  · rename_i n r' hd
    split at h
    · cases h
    · rename_i hc
      simp only [Option.some.injEq, Prod.mk.injEq] at h
      obtain ⟨rfl, rfl⟩ := h
      obtain ⟨p, hp⟩ := digitsL_rest s 0 n r' hd
      rw [textL_eq, if_pos rfl]
      have h2 : Lib.itoa n = s.take (s.length - r'.length) := Classical.byContradiction fun e => hc (Or.inr e)
      rw [h2, hp]
      simp
theorem bodyL_false (four : Bool) (x : Val) (l : List Val) (ns : List ByteArray) : bodyL four false (x :: l) ns = 44 :: bodyL four true (x :: l) ns := by
  rw [bodyL, bodyL]; simp
theorem bodyL_cons (four first : Bool) (x : Val) (l : List Val) (ns : List ByteArray) : bodyL four first (x :: l) ns = (if first then [] else [44]) ++ (if four then 34 :: (ns.headD ⟨#[]⟩).data.toList ++ [34, 58] else []) ++ textL x ++ bodyL four false l ns.tail := by rw [bodyL]
/-- What the loop has read. -/
theorem itemsL_sound (rd : List UInt8 → Option (Val × List UInt8)) (four : Bool) (en : UInt8) (hrd : ∀ s x r, rd s = some (x, r) → s = textL x ++ r) :
    ∀ (f : Nat) (items : List Val) (names : List ByteArray) (s : List UInt8) (I : List Val) (N : List ByteArray) (r : List UInt8), itemsL rd four en f items names s = some (I, N, r) →
      ∃ x l ns, I = items ++ x :: l ∧ N = names ++ ns ∧ s = bodyL four true (x :: l) ns ++ en :: r ∧ (four = false → ns = []) ∧ (four = true → ns.length = l.length + 1)
  | 0, _, _, _, _, _, _, h => by rw [itemsL] at h; cases h
  | f + 1, items, names, s, I, N, r, h => by
    rw [itemsL] at h
    split at h
    · cases h
    · rename_i names' s' hn
      have hname : ∃ ns0, names' = names ++ ns0 ∧ (four = false → ns0 = []) ∧ (four = true → ∃ k, ns0 = [k]) ∧ s = (if four then 34 :: (ns0.headD ⟨#[]⟩).data.toList ++ [34, 58] else []) ++ s' := by
        unfold nameL at hn
        split at hn
        · rename_i hf
          split at hn
          · rename_i k c r' hq
            split at hn
            · rename_i hc
              simp only [Option.some.injEq, Prod.mk.injEq] at hn
              obtain ⟨rfl, rfl⟩ := hn
              refine ⟨[⟨k.toArray⟩], rfl, fun e => by simp [hf] at e, fun _ => ⟨_, rfl⟩, ?_⟩
              cases s with
              | nil => rw [quoteL] at hq; cases hq
              | cons a s =>
                rw [quoteL] at hq
                split at hq
                · rename_i ha
                  rw [wordEnd_sound s k _ hq, ha, hc, if_pos hf]; simp
                · cases hq
            · cases hn
          · cases hn
        · rename_i hf
          simp only [Option.some.injEq, Prod.mk.injEq] at hn
          obtain ⟨rfl, rfl⟩ := hn
          exact ⟨[], by simp, fun _ => rfl, fun e => absurd e hf, by rw [if_neg hf]; rfl⟩
      obtain ⟨ns0, rfl, hz, ho, hs⟩ := hname
      split at h
      · cases h
      · cases h
      · rename_i x c r' hx
        have hx' := hrd _ _ _ hx
        split at h
        · rename_i hc
          simp only [Option.some.injEq, Prod.mk.injEq] at h
          obtain ⟨rfl, rfl, rfl⟩ := h
          refine ⟨x, [], ns0, rfl, rfl, ?_, hz, fun e => by obtain ⟨k, rfl⟩ := ho e; rfl⟩
          rw [hs, hx', hc, bodyL, bodyL]; simp
        · split at h
          · rename_i hc
            obtain ⟨y, l, ns, rfl, rfl, hr, z1, z2⟩ := itemsL_sound rd four en hrd f _ _ r' I N r h
            refine ⟨x, y :: l, ns0 ++ ns, by simp, by simp, ?_, fun e => by rw [hz e, z1 e]; rfl, fun e => by obtain ⟨k, rfl⟩ := ho e; simp [z2 e]⟩
            rw [hs, hx', hc, hr, bodyL_cons four true x (y :: l), bodyL_false]
            cases four with
            | false => rw [hz rfl, z1 rfl]; simp
            | true => obtain ⟨k, rfl⟩ := ho rfl; simp
          · cases h
theorem readL_sound : ∀ (d : Nat) (s : List UInt8) (T : Val) (r : List UInt8), readL d s = some (T, r) → s = textL T ++ r
  | 0, _, _, _, h => by rw [readL] at h; cases h
  | _ + 1, [], _, _, h => by rw [readL] at h; cases h
  | d + 1, c :: l, T, r, h => by
    rw [readL] at h
    split at h
    · rename_i hc
      simp only [Option.map_eq_some_iff, Prod.mk.injEq] at h
      obtain ⟨p, hp, rfl, rfl⟩ := h
      rw [textL_eq, if_neg (by decide), if_pos rfl, wordEnd_sound l p.1 p.2 hp, hc]; simp
    · split at h
      · exact numberL_sound _ _ _ h
      · rename_i hc
        have hcc : c = 123 ∨ c = 91 := by
          by_cases e : c = 123
          · exact Or.inl e
          · exact Or.inr (Classical.byContradiction fun e2 => hc ⟨e2, e⟩)
        obtain ⟨en, hen⟩ : ∃ e, (if c = 123 then (125 : UInt8) else 93) = e := ⟨_, rfl⟩
        obtain ⟨K, hK⟩ : ∃ e, (if c = 123 then (4 : Int) else 3) = e := ⟨_, rfl⟩
        rw [hen, hK] at h
        split at h
        · rename_i hl
          simp only [Option.some.injEq, Prod.mk.injEq] at h
          obtain ⟨rfl, rfl⟩ := h
          cases l with
          | nil => simp at hl
          | cons a l =>
            simp only [List.head?_cons, Option.some.injEq] at hl
            subst hl
            rcases hcc with rfl | rfl
            · obtain rfl : K = 4 := by rw [← hK]; rfl
              rw [textL_eq, ← hen]; simp [bodyL]
            · obtain rfl : K = 3 := by rw [← hK]; rfl
              rw [textL_eq, ← hen]; simp [bodyL]
        · simp only [Option.map_eq_some_iff, Prod.mk.injEq] at h
          obtain ⟨⟨I, N, r'⟩, hp, rfl, rfl⟩ := h
          obtain ⟨x, l', ns, hI, hN, hr, -, -⟩ := itemsL_sound (readL d) _ _ (fun s x r h => readL_sound d s x r h) 17 [] [] l I N r' hp
          simp only [List.nil_append] at hI hN
          subst hI hN
          rcases hcc with rfl | rfl
          · obtain rfl : K = 4 := by rw [← hK]; rfl
            rw [textL_eq, hr, ← hen]; simp
          · obtain rfl : K = 3 := by rw [← hK]; rfl
            rw [textL_eq, hr, ← hen]; simp
end Go.Proofs.YtgkapipiegfmhaaDoor
