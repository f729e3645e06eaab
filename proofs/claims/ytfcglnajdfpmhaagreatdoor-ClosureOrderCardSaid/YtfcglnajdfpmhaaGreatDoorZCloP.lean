/-
  Objects, walks and what is whole as plain functions, and what follows of them. Conditions: none.
  What the manifests' laws ask, of the plain functions: what is printed is parsed, what is parsed is printed, which blobs are needed. Conditions: none.
-/
import Derived.Test.YtfcglnajdfpmhaaGreatDoorZMan0
/-! Objects, walks and what is whole as plain functions, and what follows of them. Conditions: none. -/
namespace Go.Proofs.YtfcglnajdfpmhaaGreatDoor

/-- An object: its digest, its data. -/
abbrev Obj := ByteArray × ByteArray
/-- The data of a digest: that of the first object of it, if it fits. -/
def findO : List Obj → ByteArray → ByteArray × Int
  | [], _ => (⟨#[]⟩, 9)
  | o :: l, d => if o.1 = d then (if fitsD o.1 o.2 = 0 then (o.2, 0) else (⟨#[]⟩, 10)) else findO l d
theorem findO_cases : ∀ (l : List Obj) (d : ByteArray), (findO l d).2 = 0 ∨ findO l d = (⟨#[]⟩, 9) ∨ findO l d = (⟨#[]⟩, 10)
  | [], d => Or.inr (Or.inl rfl)
  | o :: l, d => by
    rw [findO]
    split
    · split
      · exact Or.inl rfl
      · exact Or.inr (Or.inr rfl)
    · exact findO_cases l d
/-- There is none just if no object has it. -/
theorem findO_none : ∀ (l : List Obj) (d : ByteArray), (findO l d).2 = 9 ↔ ∀ o ∈ l, o.1 ≠ d
  | [], d => by simp [findO]
  | o :: l, d => by
    rw [findO]
    split
    · rename_i h
      constructor
      · intro h9
        split at h9 <;> simp at h9
      · intro hn
        exact absurd h (hn o (List.mem_cons_self ..))
    · rename_i h
      rw [findO_none l d]
      constructor
      · intro hn o' ho
        rcases List.mem_cons.1 ho with rfl | ho
        · exact h
        · exact hn o' ho
      · intro hn o' ho
        exact hn o' (List.mem_cons_of_mem _ ho)
theorem findO_none' {l : List Obj} {d : ByteArray} (h : ∀ o ∈ l, o.1 ≠ d) : findO l d = (⟨#[]⟩, 9) := by
  have h9 := (findO_none l d).2 h
  rcases findO_cases l d with h0 | h0 | h0
  · rw [h0] at h9; cases h9
  · exact h0
  · rw [h0] at h9; cases h9
theorem findO_append : ∀ (l m : List Obj) (d : ByteArray), findO (l ++ m) d = if (findO l d).2 = 9 then findO m d else findO l d
  | [], m, d => by simp [findO]
  | o :: l, m, d => by
    rw [List.cons_append, findO, findO, findO_append l m d]
    by_cases h : o.1 = d
    · rw [if_pos h, if_pos h]
      by_cases hf : fitsD o.1 o.2 = 0
      · rw [if_pos hf, if_neg (by decide : ¬ (0 : Int) = 9)]
      · rw [if_neg hf, if_neg (by decide : ¬ (10 : Int) = 9)]
    · rw [if_neg h, if_neg h]
theorem findO_without (g : ByteArray) : ∀ (l : List Obj) (d : ByteArray), findO (l.filter fun o => decide (o.1 ≠ g)) d = if d = g then (⟨#[]⟩, 9) else findO l d
  | [], d => by rw [List.filter_nil, findO]; simp
  | o :: l, d => by
    have ih := findO_without g l d
    by_cases h : o.1 = g
    · rw [List.filter_cons_of_neg (by simpa using h), ih]
      by_cases hd : d = g
      · rw [if_pos hd, if_pos hd]
      · rw [if_neg hd, if_neg hd, findO, if_neg]
        intro e
        exact hd (e.symm.trans h)
    · rw [List.filter_cons_of_pos (by simpa using h), findO, ih]
      by_cases hd : d = g
      · rw [if_pos hd, if_pos hd, if_neg]
        intro e
        exact h (e.trans hd)
      · rw [if_neg hd, if_neg hd, findO]

/-- A walk so far. -/
structure Wk where
  ms : List ByteArray
  bs : List ByteArray
/-- Kids, one behind the other, up to the first error. -/
def kidsL (f : Wk → ByteArray → Except Int Wk) : Wk → List ByteArray → Except Int Wk
  | t, [] => .ok t
  | t, k :: ks => match f t k with
    | .ok t' => kidsL f t' ks
    | .error e => .error e
theorem kidsL_ok {f : Wk → ByteArray → Except Int Wk} {t t1 : Wk} {k : ByteArray} (ks : List ByteArray) (h : f t k = .ok t1) : kidsL f t (k :: ks) = kidsL f t1 ks := by simp only [kidsL, h]
theorem kidsL_bad {f : Wk → ByteArray → Except Int Wk} {t : Wk} {k : ByteArray} {e : Int} (ks : List ByteArray) (h : f t k = .error e) : kidsL f t (k :: ks) = .error e := by simp only [kidsL, h]
def manO (l : List Obj) (d : ByteArray) : Man := (parseM (findO l d).1).1
def errO (l : List Obj) (d : ByteArray) : Int := if (findO l d).2 = 0 then (parseM (findO l d).1).2 else (findO l d).2
/-- A walk, so many deep. -/
def walkL (l : List Obj) : Nat → Wk → ByteArray → Except Int Wk
  | 0, t, d => if d ∈ t.ms then .ok t else .error 7
  | n + 1, t, d =>
    if d ∈ t.ms then .ok t
    else if errO l d = 0 then
      match kidsL (walkL l n) t (manO l d).kids with
      | .ok t' => .ok ⟨t'.ms ++ [d], onceL t'.bs (blobsM (manO l d))⟩
      | .error e => .error e
    else .error (errO l d)
def noWk : Wk := ⟨[], []⟩
def ofL (l : List Obj) (d : ByteArray) : Wk × Int := match walkL l 4 noWk d with
  | .ok t => (t, 0)
  | .error e => (noWk, e)
/-- The first error of blobs. -/
def blobsO (l : List Obj) : List ByteArray → Int
  | [] => 0
  | b :: bs => if (findO l b).2 = 0 then blobsO l bs else (findO l b).2
def fullL (l : List Obj) (d : ByteArray) : Int := match walkL l 4 noWk d with
  | .ok t => blobsO l t.bs
  | .error e => e

/-! ### How a walk ends -/
theorem walkL_in {l : List Obj} {n : Nat} {t : Wk} {d : ByteArray} (h : d ∈ t.ms) : walkL l n t d = .ok t := by
  cases n with
  | zero => rw [walkL, if_pos h]
  | succ n => rw [walkL, if_pos h]
theorem walkL_zero {l : List Obj} {t : Wk} {d : ByteArray} (h : d ∉ t.ms) : walkL l 0 t d = .error 7 := by rw [walkL, if_neg h]
theorem walkL_bad {l : List Obj} {n : Nat} {t : Wk} {d : ByteArray} (h : d ∉ t.ms) (he : errO l d ≠ 0) : walkL l (n + 1) t d = .error (errO l d) := by rw [walkL, if_neg h, if_neg he]
theorem walkL_kids {l : List Obj} {n : Nat} {t : Wk} {d : ByteArray} (h : d ∉ t.ms) (he : errO l d = 0) : walkL l (n + 1) t d = match kidsL (walkL l n) t (manO l d).kids with
    | .ok t' => .ok ⟨t'.ms ++ [d], onceL t'.bs (blobsM (manO l d))⟩
    | .error e => .error e := by rw [walkL, if_neg h, if_pos he]
theorem kidsL_err {f : Wk → ByteArray → Except Int Wk} (hf : ∀ t k e, f t k = .error e → e ≠ 0) : ∀ (ks : List ByteArray) (t : Wk) (e : Int), kidsL f t ks = .error e → e ≠ 0
  | [], t, e, h => by rw [kidsL] at h; cases h
  | k :: ks, t, e, h => by
    rw [kidsL] at h
    cases hk : f t k with
    | ok t' => rw [hk] at h; exact kidsL_err hf ks t' e h
    | error x => rw [hk] at h; cases h; exact hf _ _ _ hk
theorem walkL_err (l : List Obj) : ∀ (n : Nat) (t : Wk) (d : ByteArray) (e : Int), walkL l n t d = .error e → e ≠ 0
  | 0, t, d, e, h => by
    rw [walkL] at h
    split at h
    · cases h
    · cases h; decide
  | n + 1, t, d, e, h => by
    by_cases hd : d ∈ t.ms
    · rw [walkL_in hd] at h; cases h
    · by_cases he : errO l d = 0
      · rw [walkL_kids hd he] at h
        cases hk : kidsL (walkL l n) t (manO l d).kids with
        | ok t' => rw [hk] at h; cases h
        | error x => rw [hk] at h; cases h; exact kidsL_err (walkL_err l n) _ _ _ hk
      · rw [walkL_bad hd he] at h; cases h; exact he
/-- What a walk that ends well adds. -/
theorem walkL_ok (l : List Obj) (n : Nat) (t t' : Wk) (d : ByteArray) (h : walkL l n t d = .ok t') :
    (d ∈ t.ms ∧ t' = t) ∨ ∃ m t1, n = m + 1 ∧ d ∉ t.ms ∧ errO l d = 0 ∧ kidsL (walkL l m) t (manO l d).kids = .ok t1 ∧ t' = ⟨t1.ms ++ [d], onceL t1.bs (blobsM (manO l d))⟩ := by
  by_cases hd : d ∈ t.ms
  · rw [walkL_in hd] at h; cases h; exact Or.inl ⟨hd, rfl⟩
  · cases n with
    | zero => rw [walkL_zero hd] at h; cases h
    | succ m =>
      by_cases he : errO l d = 0
      · rw [walkL_kids hd he] at h
        cases hk : kidsL (walkL l m) t (manO l d).kids with
        | ok t1 => rw [hk] at h; cases h; exact Or.inr ⟨m, t1, rfl, hd, he, hk, rfl⟩
        | error x => rw [hk] at h; cases h
      · rw [walkL_bad hd he] at h; cases h

/-! ### Order -/
/-- Each manifest behind its kids, none twice; its blobs among the blobs, each once. -/
structure Ordered (l : List Obj) (t : Wk) : Prop where
  nodup : t.ms.Nodup
  kids : ∀ a x b, t.ms = a ++ x :: b → errO l x = 0 ∧ ∀ k ∈ (manO l x).kids, k ∈ a
  bnodup : t.bs.Nodup
  blobs : ∀ x ∈ t.ms, ∀ b ∈ blobsM (manO l x), b ∈ t.bs
theorem Ordered.none (l : List Obj) : Ordered l noWk := ⟨List.nodup_nil, fun a x b h => by simp [noWk] at h, List.nodup_nil, fun x h => by simp [noWk] at h⟩
/-- Behind an element that stands once. -/
theorem nodup_split {l a b c e : List ByteArray} {x : ByteArray} (h : l.Nodup) (h1 : l = a ++ x :: b) (h2 : l = c ++ x :: e) : a = c := by
  subst h1
  induction a generalizing c with
  | nil =>
    cases c with
    | nil => rfl
    | cons y c =>
      rw [List.nil_append, List.cons_append, List.cons.injEq] at h2
      obtain ⟨rfl, h3⟩ := h2
      rw [List.nil_append, List.nodup_cons] at h
      exact absurd (by rw [h3]; simp) h.1
  | cons y a ih =>
    rw [List.cons_append, List.nodup_cons] at h
    cases c with
    | nil =>
      rw [List.nil_append, List.cons_append, List.cons.injEq] at h2
      obtain ⟨rfl, h3⟩ := h2
      exact absurd (by simp) h.1
    | cons z c =>
      rw [List.cons_append, List.cons_append, List.cons.injEq] at h2
      obtain ⟨rfl, h3⟩ := h2
      rw [ih h.2 h3]
/-- A manifest behind its kids is not among what its own kids add. -/
theorem Ordered.apart {l : List Obj} {t : Wk} {d k : ByteArray} {a : List ByteArray} (h : Ordered l t) (hk : k ∈ (manO l d).kids) (hms : t.ms = a ++ [k]) : d ∉ t.ms := by
  intro hd
  obtain ⟨p, q, hpq⟩ := List.append_of_mem hd
  have h1 := (h.kids p d q hpq).2 k hk
  obtain ⟨p1, p2, hp⟩ := List.append_of_mem h1
  have h2 : t.ms = p1 ++ k :: (p2 ++ d :: q) := by rw [hpq, hp]; simp
  have e := nodup_split h.nodup hms h2
  have hn := h.nodup
  rw [hms, e] at h2
  have h3 := congrArg List.length h2
  simp at h3
theorem kidsL_ordered {l : List Obj} {f : Wk → ByteArray → Except Int Wk} {d : ByteArray} (hf : ∀ t k t', Ordered l t → f t k = .ok t' → Ordered l t' ∧ (k ∈ t.ms ∧ t' = t ∨ (∃ a, t'.ms = a ++ [k])) ∧ (∀ x ∈ t.ms, x ∈ t'.ms)) :
    ∀ (ks : List ByteArray) (t t' : Wk), (∀ k ∈ ks, k ∈ (manO l d).kids) → Ordered l t → d ∉ t.ms → kidsL f t ks = .ok t' → Ordered l t' ∧ d ∉ t'.ms ∧ (∀ k ∈ ks, k ∈ t'.ms) ∧ ∀ x ∈ t.ms, x ∈ t'.ms
  | [], t, t', _, ho, hd, h => by
    rw [kidsL] at h; cases h
    exact ⟨ho, hd, (fun k hk => by cases hk), fun _ h => h⟩
  | k :: ks, t, t', hks, ho, hd, h => by
    rw [kidsL] at h
    cases hk : f t k with
    | error x => rw [hk] at h; cases h
    | ok t1 =>
      rw [hk] at h
      obtain ⟨h1, h2, h3⟩ := hf t k t1 ho hk
      have hd1 : d ∉ t1.ms := by
        rcases h2 with ⟨-, rfl⟩ | ⟨a, ha⟩
        · exact hd
        · exact h1.apart (hks k (List.mem_cons_self ..)) ha
      have hk1 : k ∈ t1.ms := by
        rcases h2 with ⟨hk, rfl⟩ | ⟨a, ha⟩
        · exact hk
        · rw [ha]; simp
      obtain ⟨g1, g2, g3, g4⟩ := kidsL_ordered hf ks t1 t' (fun x hx => hks x (List.mem_cons_of_mem _ hx)) h1 hd1 h
      refine ⟨g1, g2, fun x hx => ?_, fun x hx => g4 x (h3 x hx)⟩
      rcases List.mem_cons.1 hx with rfl | hx
      · exact g4 _ hk1
      · exact g3 x hx
theorem Ordered.snoc {l : List Obj} {t : Wk} {d : ByteArray} (h : Ordered l t) (hd : d ∉ t.ms) (he : errO l d = 0) (hk : ∀ k ∈ (manO l d).kids, k ∈ t.ms) : Ordered l ⟨t.ms ++ [d], onceL t.bs (blobsM (manO l d))⟩ := by
  refine ⟨?_, fun a x b e => ?_, onceL_nodup _ _ h.bnodup, fun x hx b hb => ?_⟩
  · rw [List.nodup_append]
    exact ⟨h.nodup, by simp, fun x hx y hy => by rw [List.mem_singleton.1 hy]; exact fun e => hd (e ▸ hx)⟩
  · simp only at e
    rcases List.eq_nil_or_concat b with rfl | ⟨b', y, rfl⟩
    · obtain ⟨rfl, e2⟩ := List.append_inj' e rfl
      obtain rfl : d = x := by simpa using e2
      exact ⟨he, hk⟩
    · have e1 : t.ms ++ [d] = (a ++ x :: b') ++ [y] := by rw [e]; simp
      obtain ⟨e2, -⟩ := List.append_inj' e1 rfl
      exact h.kids a x b' e2
  · rw [onceL_mem]
    rcases List.mem_append.1 hx with hx | hx
    · exact Or.inl (h.blobs x hx b hb)
    · rw [List.mem_singleton] at hx
      subst hx
      exact Or.inr hb
theorem walkL_ordered (l : List Obj) : ∀ (n : Nat) (t : Wk) (d : ByteArray) (t' : Wk), Ordered l t → walkL l n t d = .ok t' → Ordered l t' ∧ (d ∈ t.ms ∧ t' = t ∨ (∃ a, t'.ms = a ++ [d])) ∧ (∀ x ∈ t.ms, x ∈ t'.ms)
  | n, t, d, t', ho, h => by
    rcases walkL_ok l n t t' d h with ⟨h1, rfl⟩ | ⟨m, t1, rfl, hd, he, hk, rfl⟩
    · exact ⟨ho, Or.inl ⟨h1, rfl⟩, fun _ h => h⟩
    · obtain ⟨g1, g2, g3, g4⟩ := kidsL_ordered (l := l) (f := walkL l m) (d := d) (fun t k t' ho h => walkL_ordered l m t k t' ho h) _ t t1 (fun k hk => hk) ho hd hk
      exact ⟨g1.snoc g2 he g3, Or.inr ⟨_, rfl⟩, fun x hx => List.mem_append_left _ (g4 x hx)⟩
/-- A walk from nothing. -/
theorem walkL_whole {l : List Obj} {d : ByteArray} {t : Wk} (h : walkL l 4 noWk d = .ok t) : Ordered l t ∧ ∃ a, t.ms = a ++ [d] := by
  obtain ⟨h1, h2, -⟩ := walkL_ordered l 4 noWk d t (Ordered.none l) h
  refine ⟨h1, ?_⟩
  rcases h2 with ⟨h3, -⟩ | h3
  · simp [noWk] at h3
  · exact h3

/-! ### Objects that are more, or fewer -/
theorem errO_of {l m : List Obj} {d : ByteArray} (h : findO m d = findO l d) : errO m d = errO l d ∧ manO m d = manO l d := by
  unfold errO manO
  rw [h]
  exact ⟨rfl, rfl⟩
theorem errO_none {m : List Obj} {d : ByteArray} (h : findO m d = (⟨#[]⟩, 9)) : errO m d = 9 := by
  unfold errO
  rw [h]
  rfl
/-- Where each object that is asked for is the same, or not there: the walk is the same, or tells that something is not there; and all that it walks is there. -/
theorem kidsL_fewer {l m : List Obj} {f g : Wk → ByteArray → Except Int Wk} (hf : ∀ t k t', f t k = .ok t' → g t k = .ok t' ∨ g t k = .error 9) :
    ∀ (ks : List ByteArray) (t t' : Wk), kidsL f t ks = .ok t' → kidsL g t ks = .ok t' ∨ kidsL g t ks = .error 9
  | [], t, t', h => by rw [kidsL] at h; cases h; exact Or.inl rfl
  | k :: ks, t, t', h => by
    rw [kidsL] at h
    cases hk : f t k with
    | error x => rw [hk] at h; cases h
    | ok t1 =>
      rw [hk] at h
      rcases hf t k t1 hk with hg | hg
      · rw [kidsL_ok ks hg]; exact kidsL_fewer (l := l) (m := m) hf ks t1 t' h
      · rw [kidsL_bad ks hg]; exact Or.inr rfl
theorem walkL_fewer {l m : List Obj} (hlm : ∀ x, findO m x = findO l x ∨ findO m x = (⟨#[]⟩, 9)) : ∀ (n : Nat) (t : Wk) (d : ByteArray) (t' : Wk), walkL l n t d = .ok t' → walkL m n t d = .ok t' ∨ walkL m n t d = .error 9
  | n, t, d, t', h => by
    rcases walkL_ok l n t t' d h with ⟨h1, rfl⟩ | ⟨n, t1, rfl, hd, he, hk, rfl⟩
    · exact Or.inl (walkL_in h1)
    · rcases hlm d with e | e
      · obtain ⟨e1, e2⟩ := errO_of e
        rw [walkL_kids hd (e1.trans he), e2]
        rcases kidsL_fewer (l := l) (m := m) (fun t k t' h => walkL_fewer hlm n t k t' h) _ t t1 hk with hg | hg
        · rw [hg]; exact Or.inl rfl
        · rw [hg]; exact Or.inr rfl
      · have e9 := errO_none e
        rw [walkL_bad hd (by rw [e9]; decide), e9]
        exact Or.inr rfl
theorem kidsL_incl {f : Wk → ByteArray → Except Int Wk} (hi : ∀ t k t', f t k = .ok t' → ∀ x ∈ t.ms, x ∈ t'.ms) : ∀ (ks : List ByteArray) (t t' : Wk), kidsL f t ks = .ok t' → ∀ x ∈ t.ms, x ∈ t'.ms
  | [], t, t', h => by rw [kidsL] at h; cases h; exact fun _ h => h
  | k :: ks, t, t', h => by
    rw [kidsL] at h
    cases hk : f t k with
    | error x => rw [hk] at h; cases h
    | ok u => rw [hk] at h; exact fun x hx => kidsL_incl hi ks u t' h x (hi t k u hk x hx)
/-- All that a walk walks is asked for. -/
theorem kidsL_asks {l m : List Obj} {f g : Wk → ByteArray → Except Int Wk} (hf : ∀ t k t', f t k = .ok t' → (∀ x ∈ t'.ms, x ∈ t.ms ∨ findO m x = findO l x) → g t k = .ok t') (hi : ∀ t k t', f t k = .ok t' → ∀ x ∈ t.ms, x ∈ t'.ms) :
    ∀ (ks : List ByteArray) (t t' : Wk), kidsL f t ks = .ok t' → (∀ x ∈ t'.ms, x ∈ t.ms ∨ findO m x = findO l x) → kidsL g t ks = .ok t' ∧ ∀ x ∈ t.ms, x ∈ t'.ms
  | [], t, t', h, _ => by rw [kidsL] at h; cases h; exact ⟨rfl, fun _ h => h⟩
  | k :: ks, t, t', h, ha => by
    rw [kidsL] at h
    cases hk : f t k with
    | error x => rw [hk] at h; cases h
    | ok t1 =>
      rw [hk] at h
      have hsub := kidsL_incl hi ks t1 t' h
      have g1 := hf t k t1 hk fun x hx => ha x (hsub x hx)
      obtain ⟨g2, g3⟩ := kidsL_asks hf hi ks t1 t' h fun x hx => (ha x hx).imp (hi t k t1 hk x) id
      rw [kidsL, g1]
      exact ⟨g2, fun x hx => g3 x (hi t k t1 hk x hx)⟩
theorem walkL_incl (l : List Obj) : ∀ (n : Nat) (t : Wk) (d : ByteArray) (t' : Wk), walkL l n t d = .ok t' → ∀ x ∈ t.ms, x ∈ t'.ms
  | n, t, d, t', h => by
    rcases walkL_ok l n t t' d h with ⟨h1, rfl⟩ | ⟨n, t1, rfl, hd, he, hk, rfl⟩
    · exact fun _ h => h
    · intro x hx
      refine List.mem_append_left _ ?_
      clear h he hd
      generalize (manO l d).kids = ks at hk
      induction ks generalizing t with
      | nil => rw [kidsL] at hk; cases hk; exact hx
      | cons k ks ih =>
        rw [kidsL] at hk
        cases hf : walkL l n t k with
        | error e => rw [hf] at hk; cases hk
        | ok u => rw [hf] at hk; exact ih u (walkL_incl l n t k u hf x hx) hk
/-- Where all that is walked is the same, so is the walk. -/
theorem walkL_same {l m : List Obj} : ∀ (n : Nat) (t : Wk) (d : ByteArray) (t' : Wk), walkL l n t d = .ok t' → (∀ x ∈ t'.ms, x ∈ t.ms ∨ findO m x = findO l x) → walkL m n t d = .ok t'
  | n, t, d, t', h, ha => by
    rcases walkL_ok l n t t' d h with ⟨h1, rfl⟩ | ⟨n, t1, rfl, hd, he, hk, rfl⟩
    · exact walkL_in h1
    · have hdm : findO m d = findO l d := by
        rcases ha d (by simp) with h | h
        · exact absurd h hd
        · exact h
      obtain ⟨e1, e2⟩ := errO_of hdm
      obtain ⟨g, -⟩ := kidsL_asks (l := l) (m := m) (f := walkL l n) (g := walkL m n) (fun t k t' h ha => walkL_same n t k t' h ha) (fun t k t' h => walkL_incl l n t k t' h) _ t t1 hk fun x hx => ha x (List.mem_append_left _ hx)
      rw [walkL_kids hd (e1.trans he), e2, g]
/-- All that a walk adds is there. -/
theorem walkL_there (l : List Obj) : ∀ (n : Nat) (t : Wk) (d : ByteArray) (t' : Wk), walkL l n t d = .ok t' → ∀ x ∈ t'.ms, x ∈ t.ms ∨ errO l x = 0
  | n, t, d, t', h => by
    rcases walkL_ok l n t t' d h with ⟨h1, rfl⟩ | ⟨n, t1, rfl, hd, he, hk, rfl⟩
    · exact fun x hx => Or.inl hx
    · intro x hx
      rcases List.mem_append.1 hx with hx | hx
      · clear h he hd
        generalize (manO l d).kids = ks at hk
        induction ks generalizing t with
        | nil => rw [kidsL] at hk; cases hk; exact Or.inl hx
        | cons k ks ih =>
          rw [kidsL] at hk
          cases hf : walkL l n t k with
          | error e => rw [hf] at hk; cases hk
          | ok u =>
            rw [hf] at hk
            rcases ih u hk with h | h
            · exact walkL_there l n t k u hf x h
            · exact Or.inr h
      · rw [List.mem_singleton] at hx
        subst hx
        exact Or.inr he
theorem errO_find {l : List Obj} {d : ByteArray} (h : errO l d = 0) : (findO l d).2 = 0 := by
  unfold errO at h
  split at h
  · assumption
  · rename_i hn; exact absurd h hn
theorem blobsO_ok {l : List Obj} : ∀ {bs : List ByteArray}, blobsO l bs = 0 ↔ ∀ b ∈ bs, (findO l b).2 = 0
  | [] => by simp [blobsO]
  | b :: bs => by
    rw [blobsO]
    split
    · rename_i h
      rw [blobsO_ok]
      constructor
      · intro h2 x hx
        rcases List.mem_cons.1 hx with rfl | hx
        · exact h
        · exact h2 x hx
      · intro h2 x hx; exact h2 x (List.mem_cons_of_mem _ hx)
    · rename_i h
      constructor
      · intro h2; exact absurd h2 h
      · intro h2; exact h2 b (List.mem_cons_self ..)
theorem blobsO_fewer {l m : List Obj} (hlm : ∀ x, findO m x = findO l x ∨ findO m x = (⟨#[]⟩, 9)) : ∀ {bs : List ByteArray}, blobsO l bs = 0 → blobsO m bs = 0 ∨ blobsO m bs = 9
  | [], _ => Or.inl rfl
  | b :: bs, h => by
    have hb := blobsO_ok.1 h
    rw [blobsO]
    rcases hlm b with e | e
    · rw [e, if_pos (hb b (List.mem_cons_self ..))]
      exact blobsO_fewer hlm (blobsO_ok.2 fun x hx => hb x (List.mem_cons_of_mem _ hx))
    · rw [e]; exact Or.inr rfl
theorem blobsO_find (l : List Obj) (b : List ByteArray) : blobsO l b = 0 ∨ blobsO l b = 9 ∨ blobsO l b = 10 := by
  induction b with
  | nil => exact Or.inl rfl
  | cons x b ih =>
    rw [blobsO]
    split
    · exact ih
    · rename_i h
      rcases findO_cases l x with h0 | h0 | h0
      · exact absurd h0 h
      · rw [h0]; exact Or.inr (Or.inl rfl)
      · rw [h0]; exact Or.inr (Or.inr rfl)
/-- What is whole, in parts. -/
theorem fullL_ok {l : List Obj} {d : ByteArray} : fullL l d = 0 ↔ ∃ t, walkL l 4 noWk d = .ok t ∧ ∀ b ∈ t.bs, (findO l b).2 = 0 := by
  unfold fullL
  cases h : walkL l 4 noWk d with
  | error e =>
    constructor
    · intro h0; exact absurd h0 (walkL_err l 4 noWk d e h)
    · rintro ⟨t, ht, -⟩; cases ht
  | ok t =>
    simp only
    rw [blobsO_ok]
    constructor
    · intro h; exact ⟨t, rfl, h⟩
    · rintro ⟨t', ht, h⟩; cases ht; exact h
theorem fullL_fewer {l m : List Obj} {d : ByteArray} (hlm : ∀ x, findO m x = findO l x ∨ findO m x = (⟨#[]⟩, 9)) (h : fullL l d = 0) : fullL m d = 0 ∨ fullL m d = 9 := by
  obtain ⟨t, ht, hb⟩ := fullL_ok.1 h
  unfold fullL
  rcases walkL_fewer hlm 4 noWk d t ht with e | e
  · rw [e]; exact blobsO_fewer hlm (blobsO_ok.2 hb)
  · rw [e]; exact Or.inr rfl
/-- Objects behind the others. -/
theorem fullL_more {l more : List Obj} {d : ByteArray} (h : fullL l d = 0) : fullL (l ++ more) d = 0 := by
  obtain ⟨t, ht, hb⟩ := fullL_ok.1 h
  have hkeep : ∀ x, (findO l x).2 = 0 → findO (l ++ more) x = findO l x := fun x hx => by
    rw [findO_append, if_neg (by rw [hx]; decide)]
  refine fullL_ok.2 ⟨t, walkL_same 4 noWk d t ht fun x hx => Or.inr (hkeep x ?_), fun b hbt => by rw [hkeep b (hb b hbt)]; exact hb b hbt⟩
  rcases walkL_there l 4 noWk d t ht x hx with h | h
  · simp [noWk] at h
  · exact errO_find h
/-- Without the last one of all. -/
theorem findO_dropLast (l : List Obj) (x : ByteArray) : findO l.dropLast x = findO l x ∨ findO l.dropLast x = (⟨#[]⟩, 9) := by
  rcases List.eq_nil_or_concat l with rfl | ⟨l', o, rfl⟩
  · exact Or.inl rfl
  · rw [List.concat_eq_append, List.dropLast_concat, findO_append]
    rcases findO_cases l' x with h | h | h
    · rw [if_neg (by rw [h]; decide)]; exact Or.inl rfl
    · exact Or.inr h
    · rw [if_neg (by rw [h]; decide)]; exact Or.inl rfl
/-- Without one that it needs, or does not need. -/
theorem fullL_lacks {l : List Obj} {d g : ByteArray} {t : Wk} (h : fullL l d = 0) (ht : walkL l 4 noWk d = .ok t) : fullL (l.filter fun o => decide (o.1 ≠ g)) d = if g ∈ t.ms ∨ g ∈ t.bs then 9 else 0 := by
  obtain ⟨t', ht', hb⟩ := fullL_ok.1 h
  rw [ht] at ht'
  cases ht'
  have hw := findO_without g l
  have hlm : ∀ x, findO (l.filter fun o => decide (o.1 ≠ g)) x = findO l x ∨ findO (l.filter fun o => decide (o.1 ≠ g)) x = (⟨#[]⟩, 9) := fun x => by
    rw [hw]
    split
    · exact Or.inr rfl
    · exact Or.inl rfl
  by_cases hms : g ∈ t.ms
  · rw [if_pos (Or.inl hms)]
    unfold fullL
    rcases walkL_fewer hlm 4 noWk d t ht with e | e
    · rcases walkL_there _ 4 noWk d t e g hms with h | h
      · simp [noWk] at h
      · have := errO_find h
        rw [hw, if_pos rfl] at this
        cases this
    · rw [e]
  · have e : walkL (l.filter fun o => decide (o.1 ≠ g)) 4 noWk d = .ok t := walkL_same 4 noWk d t ht fun x hx => Or.inr (by rw [hw, if_neg (fun e : x = g => hms (e ▸ hx))])
    by_cases hbs : g ∈ t.bs
    · rw [if_pos (Or.inr hbs)]
      unfold fullL
      rw [e]
      simp only
      rcases blobsO_fewer hlm (blobsO_ok.2 hb) with h0 | h9
      · have := blobsO_ok.1 h0 g hbs
        rw [hw, if_pos rfl] at this
        cases this
      · exact h9
    · rw [if_neg (by simp [hms, hbs])]
      exact fullL_ok.2 ⟨t, e, fun b hbt => by rw [hw, if_neg (fun e : b = g => hbs (e ▸ hbt))]; exact hb b hbt⟩
end Go.Proofs.YtfcglnajdfpmhaaGreatDoor
/-! What the manifests' laws ask, of the plain functions: what is printed is parsed, what is parsed is printed, which blobs are needed. Conditions: none. -/
namespace Go.Proofs.YtfcglnajdfpmhaaGreatDoor

theorem parseM_cases (s : ByteArray) : (∃ m, parseM s = (m, 0) ∧ rightM m = true ∧ textM m = s.data.toList) ∨ ∃ e : Int, parseM s = (noMan, e) ∧ (e == 0) = false := by
  unfold parseM
  by_cases hl : 4096 < s.size
  · rw [if_pos hl]; exact Or.inr ⟨2, rfl, rfl⟩
  rw [if_neg hl]
  cases hp : parseV s with
  | none => exact Or.inr ⟨6, rfl, rfl⟩
  | some T =>
    simp only
    by_cases hc : rightM (readM T) = true ∧ likeV T (valM (readM T)) = true
    · rw [if_pos hc]
      refine Or.inl ⟨_, rfl, hc.1, ?_⟩
      rw [← textL_valM, ← (likeV_iff _ _).1 hc.2]
      exact ((parseV_iff s T).1 hp).2
    · rw [if_neg hc]; exact Or.inr ⟨8, rfl, rfl⟩
theorem printM_cases (m : Man) : (∃ t, printM m = (t, 0) ∧ rightM m = true ∧ parseM t = (m, 0) ∧ t.data.toList = textM m) ∨ printM m = (⟨#[]⟩, 1) ∧ rightM m = false := by
  unfold printM
  by_cases h : rightM m = true
  · rw [if_pos h]
    refine Or.inl ⟨_, rfl, h, (parseM_iff _ m).2 ⟨h, ?_, ?_⟩, ?_⟩
    · simp
    · have := textM_le m h
      show (textM m).toArray.size ≤ 4096
      simpa using this
    · simp
  · rw [if_neg h]; exact Or.inr ⟨rfl, Bool.eq_false_iff.2 h⟩
/-- What was parsed, printed. -/
theorem print_of_parse {s : ByteArray} {m : Man} (hr : rightM m = true) (ht : textM m = s.data.toList) : printM m = (s, 0) := by
  unfold printM
  rw [if_pos hr, ht]
theorem print_same {a b : Man} {s t : ByteArray} (ha : rightM a = true) (hb : rightM b = true) (hs : s.data.toList = textM a) (ht : t.data.toList = textM b) : s = t ↔ a = b := by
  refine ⟨fun e => ?_, fun e => ?_⟩
  · subst e
    exact textM_inj a b ha hb (hs.symm.trans ht)
  · subst e
    exact ByteArray.ext (Array.toList_inj.1 (hs.trans ht.symm))
/-- The blobs of one that may be and is no index. -/
theorem blobsM_of {m : Man} (hi : m.index = false) (hr : rightM m = true) : ∃ r, blobsM m = m.config :: r ∧ (blobsM m).length ≤ m.layers.length + 1 ∧ (blobsM m).Nodup ∧ ∀ l ∈ m.layers, l.1 ∈ blobsM m := by
  have e : blobsM m = onceL [m.config] (m.layers.map Prod.fst) := by
    unfold blobsM
    rw [if_neg]
    rintro (h | h)
    · rw [hi] at h; cases h
    · rw [hr] at h; cases h
  obtain ⟨r, h⟩ := onceL_head m.config [] (m.layers.map Prod.fst)
  refine ⟨r, e.trans h, ?_, ?_, fun l hl => ?_⟩
  · rw [e]
    have := onceL_length [m.config] (m.layers.map Prod.fst)
    rw [List.length_map] at this
    simp at this
    omega
  · rw [e]; exact onceL_nodup _ _ (by simp)
  · rw [e, onceL_mem]; exact Or.inr (List.mem_map.2 ⟨l, hl, rfl⟩)
theorem blobsM_none {m : Man} (h : m.index = true ∨ rightM m = false) : blobsM m = [] := by unfold blobsM; rw [if_pos h]
/-- The laws' few of a manifest. -/
def cut80 (s : ByteArray) : ByteArray := s.extract 0 (min s.size 80)
theorem cut80_size (s : ByteArray) : (cut80 s).size ≤ 80 := by unfold cut80; rw [ByteArray.size_extract]; omega
def fewM (m : Man) : Man := ⟨m.index, cut80 m.config, (m.layers.take 10).map fun l => (cut80 l.1, l.2), (m.kids.take 10).map cut80⟩
end Go.Proofs.YtfcglnajdfpmhaaGreatDoor
