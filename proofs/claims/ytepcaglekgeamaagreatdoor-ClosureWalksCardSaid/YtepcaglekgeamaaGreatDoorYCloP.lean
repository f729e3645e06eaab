/-
  Objects, walks and what is whole as plain functions, and what follows of them. Conditions: none.
  What the manifests' laws ask, of the plain functions: what is printed is parsed, what is parsed is printed, which blobs are needed. Conditions: none.
-/
import Derived.Test.YtepcaglekgeamaaGreatDoorYMan0
namespace Go.Proofs.YtepcaglekgeamaaGreatDoor

abbrev Obj := ByteArray × ByteArray

def findO : List Obj → ByteArray → ByteArray × Int
  | [], _ => (⟨#[]⟩, 9)
  | o :: l, d => if o.1 = d then (if fitsD o.1 o.2 = 0 then (o.2, 0) else (⟨#[]⟩, 10)) else findO l d

theorem findO_cases : ∀ (l : List Obj) (d : ByteArray), (findO l d).2 = 0 ∨ findO l d = (⟨#[]⟩, 9) ∨ findO l d = (⟨#[]⟩, 10)
  | [], d => Or.inr (Or.inl rfl)
  | o :: l, d => by
    rw [findO]
    split
    · split
      · exact Or.inl rfl
      · exact Or.inr (Or.inr rfl)
    · exact findO_cases l d

theorem findO_none : ∀ (l : List Obj) (d : ByteArray), (findO l d).2 = 9 ↔ ∀ o ∈ l, o.1 ≠ d
  | [], d => by simp [findO]
  | o :: l, d => by
    rw [findO]
    split
    · rename_i h
      constructor
      · intro h9
        split at h9 <;> simp at h9
      · intro hn
        exact absurd h (hn o (List.mem_cons_self ..))
    · rename_i h
      rw [findO_none l d]
      constructor
      · intro hn o' ho
        rcases List.mem_cons.1 ho with rfl | ho
        · exact h
        · exact hn o' ho
      · intro hn o' ho
        exact hn o' (List.mem_cons_of_mem _ ho)

theorem findO_none' {l : List Obj} {d : ByteArray} (h : ∀ o ∈ l, o.1 ≠ d) : findO l d = (⟨#[]⟩, 9) := by
  have h9 := (findO_none l d).2 h
  rcases findO_cases l d with h0 | h0 | h0
  · rw [h0] at h9; cases h9
  · exact h0
  · rw [h0] at h9; cases h9

structure Wk where
  ms : List ByteArray
  bs : List ByteArray

def kidsL (f : Wk → ByteArray → Except Int Wk) : Wk → List ByteArray → Except Int Wk
  | t, [] => .ok t
  | t, k :: ks => match f t k with
    | .ok t' => kidsL f t' ks
    | .error e => .error e

theorem kidsL_ok {f : Wk → ByteArray → Except Int Wk} {t t1 : Wk} {k : ByteArray} (ks : List ByteArray) (h : f t k = .ok t1) : kidsL f t (k :: ks) = kidsL f t1 ks := by simp only [kidsL, h]

theorem kidsL_bad {f : Wk → ByteArray → Except Int Wk} {t : Wk} {k : ByteArray} {e : Int} (ks : List ByteArray) (h : f t k = .error e) : kidsL f t (k :: ks) = .error e := by simp only [kidsL, h]

def manO (l : List Obj) (d : ByteArray) : Man := (parseM (findO l d).1).1

def errO (l : List Obj) (d : ByteArray) : Int := if (findO l d).2 = 0 then (parseM (findO l d).1).2 else (findO l d).2

def walkL (l : List Obj) : Nat → Wk → ByteArray → Except Int Wk
  | 0, t, d => if d ∈ t.ms then .ok t else .error 7
  | n + 1, t, d =>
    if d ∈ t.ms then .ok t
    else if errO l d = 0 then
      match kidsL (walkL l n) t (manO l d).kids with
      | .ok t' => .ok ⟨t'.ms ++ [d], onceL t'.bs (blobsM (manO l d))⟩
      | .error e => .error e
    else .error (errO l d)

def noWk : Wk := ⟨[], []⟩

def ofL (l : List Obj) (d : ByteArray) : Wk × Int := match walkL l 4 noWk d with
  | .ok t => (t, 0)
  | .error e => (noWk, e)

def blobsO (l : List Obj) : List ByteArray → Int
  | [] => 0
  | b :: bs => if (findO l b).2 = 0 then blobsO l bs else (findO l b).2

def fullL (l : List Obj) (d : ByteArray) : Int := match walkL l 4 noWk d with
  | .ok t => blobsO l t.bs
  | .error e => e

theorem walkL_in {l : List Obj} {n : Nat} {t : Wk} {d : ByteArray} (h : d ∈ t.ms) : walkL l n t d = .ok t := by
  cases n with
  | zero => rw [walkL, if_pos h]
  | succ n => rw [walkL, if_pos h]

theorem walkL_zero {l : List Obj} {t : Wk} {d : ByteArray} (h : d ∉ t.ms) : walkL l 0 t d = .error 7 := by rw [walkL, if_neg h]

theorem walkL_bad {l : List Obj} {n : Nat} {t : Wk} {d : ByteArray} (h : d ∉ t.ms) (he : errO l d ≠ 0) : walkL l (n + 1) t d = .error (errO l d) := by rw [walkL, if_neg h, if_neg he]

theorem walkL_kids {l : List Obj} {n : Nat} {t : Wk} {d : ByteArray} (h : d ∉ t.ms) (he : errO l d = 0) : walkL l (n + 1) t d = match kidsL (walkL l n) t (manO l d).kids with
    | .ok t' => .ok ⟨t'.ms ++ [d], onceL t'.bs (blobsM (manO l d))⟩
    | .error e => .error e := by rw [walkL, if_neg h, if_pos he]

theorem kidsL_err {f : Wk → ByteArray → Except Int Wk} (hf : ∀ t k e, f t k = .error e → e ≠ 0) : ∀ (ks : List ByteArray) (t : Wk) (e : Int), kidsL f t ks = .error e → e ≠ 0
  | [], t, e, h => by rw [kidsL] at h; cases h
  | k :: ks, t, e, h => by
    rw [kidsL] at h
    cases hk : f t k with
    | ok t' => rw [hk] at h; exact kidsL_err hf ks t' e h
    | error x => rw [hk] at h; cases h; exact hf _ _ _ hk

theorem walkL_err (l : List Obj) : ∀ (n : Nat) (t : Wk) (d : ByteArray) (e : Int), walkL l n t d = .error e → e ≠ 0
  | 0, t, d, e, h => by
    rw [walkL] at h
    split at h
    · cases h
    · cases h; decide
  | n + 1, t, d, e, h => by
    by_cases hd : d ∈ t.ms
    · rw [walkL_in hd] at h; cases h
    · by_cases he : errO l d = 0
      · rw [walkL_kids hd he] at h
        cases hk : kidsL (walkL l n) t (manO l d).kids with
        | ok t' => rw [hk] at h; cases h
        | error x => rw [hk] at h; cases h; exact kidsL_err (walkL_err l n) _ _ _ hk
      · rw [walkL_bad hd he] at h; cases h; exact he

theorem walkL_ok (l : List Obj) (n : Nat) (t t' : Wk) (d : ByteArray) (h : walkL l n t d = .ok t') :
    (d ∈ t.ms ∧ t' = t) ∨ ∃ m t1, n = m + 1 ∧ d ∉ t.ms ∧ errO l d = 0 ∧ kidsL (walkL l m) t (manO l d).kids = .ok t1 ∧ t' = ⟨t1.ms ++ [d], onceL t1.bs (blobsM (manO l d))⟩ := by
  by_cases hd : d ∈ t.ms
  · rw [walkL_in hd] at h; cases h; exact Or.inl ⟨hd, rfl⟩
  · cases n with
    | zero => rw [walkL_zero hd] at h; cases h
    | succ m =>
      by_cases he : errO l d = 0
      · rw [walkL_kids hd he] at h
        cases hk : kidsL (walkL l m) t (manO l d).kids with
        | ok t1 => rw [hk] at h; cases h; exact Or.inr ⟨m, t1, rfl, hd, he, hk, rfl⟩
        | error x => rw [hk] at h; cases h
      · rw [walkL_bad hd he] at h; cases h
end Go.Proofs.YtepcaglekgeamaaGreatDoor
namespace Go.Proofs.YtepcaglekgeamaaGreatDoor

theorem parseM_cases (s : ByteArray) : (∃ m, parseM s = (m, 0) ∧ rightM m = true ∧ textM m = s.data.toList) ∨ ∃ e : Int, parseM s = (noMan, e) ∧ (e == 0) = false := by
  unfold parseM
  by_cases hl : 4096 < s.size
  · rw [if_pos hl]; exact Or.inr ⟨2, rfl, rfl⟩
  rw [if_neg hl]
  cases hp : parseV s with
  | none => exact Or.inr ⟨6, rfl, rfl⟩
  | some T =>
    simp only
    by_cases hc : rightM (readM T) = true ∧ likeV T (valM (readM T)) = true
    · rw [if_pos hc]
      refine Or.inl ⟨_, rfl, hc.1, ?_⟩
      rw [← textL_valM, ← (likeV_iff _ _).1 hc.2]
      exact ((parseV_iff s T).1 hp).2
    · rw [if_neg hc]; exact Or.inr ⟨8, rfl, rfl⟩

theorem printM_cases (m : Man) : (∃ t, printM m = (t, 0) ∧ rightM m = true ∧ parseM t = (m, 0) ∧ t.data.toList = textM m) ∨ printM m = (⟨#[]⟩, 1) ∧ rightM m = false := by
  unfold printM
  by_cases h : rightM m = true
  · rw [if_pos h]
    refine Or.inl ⟨_, rfl, h, (parseM_iff _ m).2 ⟨h, ?_, ?_⟩, ?_⟩
    · simp
    · have := textM_le m h
      show (textM m).toArray.size ≤ 4096
      simpa using this
    · simp
  · rw [if_neg h]; exact Or.inr ⟨rfl, Bool.eq_false_iff.2 h⟩

theorem blobsM_of {m : Man} (hi : m.index = false) (hr : rightM m = true) : ∃ r, blobsM m = m.config :: r ∧ (blobsM m).length ≤ m.layers.length + 1 ∧ (blobsM m).Nodup ∧ ∀ l ∈ m.layers, l.1 ∈ blobsM m := by
  have e : blobsM m = onceL [m.config] (m.layers.map Prod.fst) := by
    unfold blobsM
    rw [if_neg]
    rintro (h | h)
    · rw [hi] at h; cases h
    · rw [hr] at h; cases h
  obtain ⟨r, h⟩ := onceL_head m.config [] (m.layers.map Prod.fst)
  refine ⟨r, e.trans h, ?_, ?_, fun l hl => ?_⟩
  · rw [e]
    have := onceL_length [m.config] (m.layers.map Prod.fst)
    rw [List.length_map] at this
    simp at this
    omega
  · rw [e]; exact onceL_nodup _ _ (by simp)
  · rw [e, onceL_mem]; exact Or.inr (List.mem_map.2 ⟨l, hl, rfl⟩)

theorem blobsM_none {m : Man} (h : m.index = true ∨ rightM m = false) : blobsM m = [] := by unfold blobsM; rw [if_pos h]
end Go.Proofs.YtepcaglekgeamaaGreatDoor
