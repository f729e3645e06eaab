/-
  Blobs as plain data: which may be; what the document's End comes to. Conditions: none.
  Blobs as plain data: what it is that they may be; what the program's calls come to; what stays. Conditions: none.
  Rows of pairs that a call makes; what an append takes, nil or not; parts of a row of pairs. Conditions: none.
-/
import Derived.Test.YtodjhmphneoifaaGreatDoorZBlb1
import Derived.Test.YtodjhmphneoifaaGreatDoorZDig1
import Derived.Test.YtodjhmphneoifaaGreatDoorZOct1
import Derived.OwnWalk
import Derived.Laws.AppendOwnNone
import Derived.Laws.AppendOwn
import Derived.Deep.OwnRows
/-! Blobs as plain data: which may be; what the document's End comes to. Conditions: none. -/
namespace Go.Proofs.YtodjhmphneoifaaGreatDoor

/-! ### Which may be -/
def objOk (b : Blb) (i : Nat) (o : ByteArray × ByteArray) : Bool := decide (o.2.size ≤ 4096) && (fitsD o.1 o.2 == 0) && (atL b.objs o.1 == (i : Int))
def objsF (b : Blb) : Nat → List (ByteArray × ByteArray) → Bool
  | _, [] => true
  | k, o :: r => objOk b k o && objsF b (k + 1) r
theorem objsF_step (b : Blb) (l : List (ByteArray × ByteArray)) (k : Nat) (h : k < l.length) : objsF b k (l.drop k) = (objOk b k l[k] && objsF b (k + 1) (l.drop (k + 1))) := by
  rw [List.drop_eq_getElem_cons h]; rfl
theorem objsF_end (b : Blb) (l : List (ByteArray × ByteArray)) (k : Nat) (h : l.length ≤ k) : objsF b k (l.drop k) = true := by
  rw [List.drop_of_length_le h]; rfl
def upOk (last p : Int) (u : Int × ByteArray) : Bool := decide (u.2.size ≤ 4096) && decide (p < u.1) && decide (u.1 ≤ last)
def upsF (last : Int) : Int → List (Int × ByteArray) → Bool
  | _, [] => true
  | p, u :: r => upOk last p u && upsF last u.1 r
theorem upsF_step (last p : Int) (l : List (Int × ByteArray)) (k : Nat) (h : k < l.length) : upsF last p (l.drop k) = (upOk last p l[k] && upsF last l[k].1 (l.drop (k + 1))) := by
  rw [List.drop_eq_getElem_cons h]; rfl
theorem upsF_end (last p : Int) (l : List (Int × ByteArray)) (k : Nat) (h : l.length ≤ k) : upsF last p (l.drop k) = true := by
  rw [List.drop_of_length_le h]; rfl
def numsOk (b : Blb) : Bool := decide (b.objs.length ≤ 64) && decide (b.ups.length ≤ 16) && decide (0 ≤ b.last) && decide (b.last ≤ 1099511627776) && decide (0 ≤ b.quota) && decide (b.quota ≤ 1048576) && decide ((usedL b.objs : Int) ≤ b.quota)
def rightBlb (b : Blb) : Bool := objsF b 0 b.objs && upsF b.last 0 b.ups && numsOk b
/-! ### What calls come to -/
def nilBlb : Blb := ⟨[], 0, [], 0⟩
def withoutB (b : Blb) (k : Nat) : Blb := ⟨b.objs, b.quota, b.ups.take k ++ b.ups.drop (k + 1), b.last⟩
/-- The document's End, of blobs that may be. -/
def endL (b : Blb) (id : Int) (dg : ByteArray) : Blb × Int :=
  if upL b.ups id < 0 then (nilBlb, 9)
  else if (parseD dg).2 ≠ 0 then (nilBlb, 6)
  else if fitsD dg (b.ups.getD (upL b.ups id).toNat (0, ⟨#[]⟩)).2 ≠ 0 then (nilBlb, 10)
  else if 0 ≤ atL b.objs dg then (withoutB b (upL b.ups id).toNat, 0)
  else if b.objs.length = 64 then (nilBlb, 13)
  else if b.quota < (usedL b.objs : Int) + ((b.ups.getD (upL b.ups id).toNat (0, ⟨#[]⟩)).2.size : Nat) then (nilBlb, 12)
  else (withoutB ⟨b.objs ++ [(dg, (b.ups.getD (upL b.ups id).toNat (0, ⟨#[]⟩)).2)], b.quota, b.ups, b.last⟩ (upL b.ups id).toNat, 0)
end Go.Proofs.YtodjhmphneoifaaGreatDoor
/-! Blobs as plain data: what it is that they may be; what the program's calls come to; what stays. Conditions: none. -/
namespace Go.Proofs.YtodjhmphneoifaaGreatDoor

/-! ### The first place -/
theorem findL_none {α : Type} {p : α → Bool} {l : List α} (h : ∀ x ∈ l, p x = false) : findL p l = -1 := by
  rcases findL_cases p l with ⟨h1, -⟩ | ⟨j, hj, -, h2, -⟩
  · exact h1
  · rw [h _ (List.getElem_mem hj)] at h2; cases h2
theorem findL_some {α : Type} {p : α → Bool} {l : List α} {j : Nat} (hj : j < l.length) (h1 : p l[j] = true) (h2 : ∀ i (hi : i < j), p (l[i]'(by omega)) = false) : findL p l = (j : Int) := by
  rcases findL_cases p l with ⟨-, h⟩ | ⟨k, hk, e, h3, h4⟩
  · rw [h _ (List.getElem_mem hj)] at h1; cases h1
  · rw [e]
    rcases Nat.lt_trichotomy j k with h | h | h
    · rw [h4 j h] at h1; cases h1
    · rw [h]
    · rw [h2 k h] at h3; cases h3
theorem findL_neg {α : Type} {p : α → Bool} {l : List α} (h : findL p l < 0) : ∀ x ∈ l, p x = false := by
  rcases findL_cases p l with ⟨-, h1⟩ | ⟨j, hj, e, -⟩
  · exact h1
  · omega

/-! ### What it is that they may be -/
theorem objsF_iff (b : Blb) : ∀ (l : List (ByteArray × ByteArray)) (k : Nat), objsF b k l = true ↔ ∀ i (h : i < l.length), objOk b (k + i) l[i] = true
  | [], k => by simp [objsF]
  | o :: r, k => by
    show (objOk b k o && objsF b (k + 1) r) = true ↔ _
    rw [Bool.and_eq_true, objsF_iff b r (k + 1)]
    constructor
    · rintro ⟨h1, h2⟩ i hi
      cases i with
      | zero => exact h1
      | succ i =>
        have := h2 i (by simpa using hi)
        rw [show k + (i + 1) = k + 1 + i by omega]
        simpa using this
    · intro h
      refine ⟨h 0 (by simp), fun i hi => ?_⟩
      have := h (i + 1) (by simpa using hi)
      rw [show k + (i + 1) = k + 1 + i by omega] at this
      simpa using this
theorem upsF_iff (last : Int) : ∀ (l : List (Int × ByteArray)) (p : Int), upsF last p l = true ↔ l.Pairwise (fun a c => a.1 < c.1) ∧ ∀ u ∈ l, u.2.size ≤ 4096 ∧ p < u.1 ∧ u.1 ≤ last
  | [], p => by simp [upsF]
  | u :: r, p => by
    show (upOk last p u && upsF last u.1 r) = true ↔ _
    rw [Bool.and_eq_true, upsF_iff last r u.1]
    unfold upOk
    simp only [Bool.and_eq_true, decide_eq_true_eq, List.pairwise_cons, List.mem_cons, forall_eq_or_imp]
    constructor
    · rintro ⟨⟨⟨h1, h2⟩, h3⟩, h4, h5⟩
      exact ⟨⟨fun x hx => (h5 x hx).2.1, h4⟩, ⟨h1, h2, h3⟩, fun x hx => ⟨(h5 x hx).1, by have := (h5 x hx).2.1; omega, (h5 x hx).2.2⟩⟩
    · rintro ⟨⟨h1, h2⟩, ⟨h3, h4, h5⟩, h6⟩
      exact ⟨⟨⟨h3, h4⟩, h5⟩, h2, fun x hx => ⟨(h6 x hx).1, h1 x hx, (h6 x hx).2.2⟩⟩
structure RightP (b : Blb) : Prop where
  objs : b.objs.length ≤ 64
  ups : b.ups.length ≤ 16
  data : ∀ o ∈ b.objs, o.2.size ≤ 4096 ∧ fitsD o.1 o.2 = 0
  once : b.objs.Pairwise (fun a c => a.1 ≠ c.1)
  rise : b.ups.Pairwise (fun a c => a.1 < c.1)
  short : ∀ u ∈ b.ups, u.2.size ≤ 4096 ∧ 0 < u.1 ∧ u.1 ≤ b.last
  last : 0 ≤ b.last ∧ b.last ≤ 1099511627776
  quota : 0 ≤ b.quota ∧ b.quota ≤ 1048576
  used : (usedL b.objs : Int) ≤ b.quota
theorem atL_self {l : List (ByteArray × ByteArray)} {i : Nat} (hi : i < l.length) : atL l l[i].1 = (i : Int) ↔ ∀ j (hj : j < i), (l[j]'(by omega)).1 ≠ l[i].1 := by
  constructor
  · intro h j hj e
    unfold atL at h
    rcases findL_cases (fun o : ByteArray × ByteArray => decide (o.1 = l[i].1)) l with ⟨h1, -⟩ | ⟨k, hk, e1, -, h3⟩
    · rw [h1] at h; omega
    · rw [e1] at h
      have := h3 j (by omega)
      simp only [decide_eq_false_iff_not] at this
      exact this e
  · intro h
    exact findL_some (p := fun o : ByteArray × ByteArray => decide (o.1 = l[i].1)) hi (by simp) fun j hj => by simpa using h j hj
theorem right_iff (b : Blb) : rightBlb b = true ↔ RightP b := by
  unfold rightBlb numsOk
  simp only [Bool.and_eq_true, decide_eq_true_eq, objsF_iff, upsF_iff]
  constructor
  · rintro ⟨⟨h1, h2, h3⟩, ⟨⟨⟨⟨⟨h4, h5⟩, h6⟩, h7⟩, h8⟩, h9⟩, h10⟩
    have h0 : ∀ i (h : i < b.objs.length), b.objs[i].2.size ≤ 4096 ∧ fitsD b.objs[i].1 b.objs[i].2 = 0 ∧ atL b.objs b.objs[i].1 = (i : Int) := fun i hi => by
      have := h1 i hi
      unfold objOk at this
      simp only [Bool.and_eq_true, decide_eq_true_eq, beq_iff_eq, Nat.zero_add] at this
      exact ⟨this.1.1, this.1.2, this.2⟩
    refine ⟨h4, h5, fun o ho => ?_, ?_, h2, h3, ⟨h6, h7⟩, ⟨h8, h9⟩, h10⟩
    · obtain ⟨i, hi, rfl⟩ := List.getElem_of_mem ho
      exact ⟨(h0 i hi).1, (h0 i hi).2.1⟩
    · rw [List.pairwise_iff_getElem]
      intro i j hi hj hij
      exact (atL_self hj).1 (h0 j hj).2.2 i hij
  · intro h
    refine ⟨⟨fun i hi => ?_, h.rise, h.short⟩, ⟨⟨⟨⟨⟨h.objs, h.ups⟩, h.last.1⟩, h.last.2⟩, h.quota.1⟩, h.quota.2⟩, h.used⟩
    have h1 := h.data _ (List.getElem_mem hi)
    unfold objOk
    simp only [Bool.and_eq_true, decide_eq_true_eq, beq_iff_eq, Nat.zero_add]
    refine ⟨⟨h1.1, h1.2⟩, (atL_self hi).2 fun j hj => ?_⟩
    exact (List.pairwise_iff_getElem.1 h.once) j i (by omega) hi hj

/-! ### What calls come to -/
def newB (q : Int) : Blb × Int := if 0 ≤ q ∧ q ≤ 1048576 then (⟨[], q, [], 0⟩, 0) else (nilBlb, 1)
def dataB (b : Blb) (d : ByteArray) : ByteArray × Int :=
  if rightBlb b then (if atL b.objs d < 0 then (⟨#[]⟩, 9) else ((b.objs.getD (atL b.objs d).toNat (⟨#[]⟩, ⟨#[]⟩)).2, 0)) else (⟨#[]⟩, 1)
def sizeB (b : Blb) (d : ByteArray) : Int × Int := (((dataB b d).1.size : Nat), (dataB b d).2)
def readB (b : Blb) (d : ByteArray) (from' many : Int) : ByteArray × Int :=
  if (dataB b d).2 ≠ 0 then (⟨#[]⟩, (dataB b d).2)
  else if from' < 0 ∨ ((dataB b d).1.size : Int) < from' ∨ many < 0 then (⟨#[]⟩, 11)
  else (((dataB b d).1.extract from'.toNat (dataB b d).1.size).extract 0 (min many.toNat ((dataB b d).1.size - from'.toNat)), 0)
def placeB (b : Blb) (id : Int) : Int × Int := if rightBlb b then (if upL b.ups id < 0 then (0, 9) else (upL b.ups id, 0)) else (0, 1)
def upD (b : Blb) (k : Int) : ByteArray := (b.ups.getD k.toNat (0, ⟨#[]⟩)).2
def beginB (b : Blb) : Blb × Int × Int :=
  if rightBlb b then (if b.ups.length = 16 ∨ b.last = 1099511627776 then (nilBlb, 0, 13) else (⟨b.objs, b.quota, b.ups ++ [(b.last + 1, ⟨#[]⟩)], b.last + 1⟩, b.last + 1, 0)) else (nilBlb, 0, 1)
def setUp (b : Blb) (k : Nat) (s : ByteArray) : Blb := ⟨b.objs, b.quota, b.ups.set k ((b.ups.getD k (0, ⟨#[]⟩)).1, s), b.last⟩
def pushB (b : Blb) (id off : Int) (s : ByteArray) : Blb × Int :=
  if (placeB b id).2 ≠ 0 then (nilBlb, (placeB b id).2)
  else if off ≠ ((upD b (placeB b id).1).size : Nat) then (nilBlb, 11)
  else if 4096 < (upD b (placeB b id).1).size + s.size then (nilBlb, 2)
  else (setUp b (placeB b id).1.toNat (upD b (placeB b id).1 ++ s), 0)
def offB (b : Blb) (id : Int) : Int × Int := if (placeB b id).2 ≠ 0 then (0, (placeB b id).2) else (((upD b (placeB b id).1).size : Nat), 0)
def dropB (b : Blb) (id : Int) : Blb × Int := if (placeB b id).2 ≠ 0 then (nilBlb, (placeB b id).2) else (withoutB b (placeB b id).1.toNat, 0)
def endB (b : Blb) (id : Int) (d : ByteArray) : Blb × Int := if rightBlb b then endL b id d else (nilBlb, 1)

/-! ### What may be stays such -/
theorem findL_place {α : Type} {p : α → Bool} {l : List α} (h : ¬ findL p l < 0) : ∃ j, ∃ hj : j < l.length, findL p l = (j : Int) ∧ (findL p l).toNat = j ∧ p l[j] = true := by
  rcases findL_cases p l with ⟨h1, -⟩ | ⟨j, hj, e, h2, -⟩
  · omega
  · exact ⟨j, hj, e, by omega, h2⟩
theorem getD_of_lt {α : Type} {l : List α} {j : Nat} (hj : j < l.length) (x : α) : l.getD j x = l[j] := by simp [List.getD, hj]
theorem map_set_fst (l : List (Int × ByteArray)) (j : Nat) (hj : j < l.length) (s : ByteArray) : (l.set j (l[j].1, s)).map (·.1) = l.map (·.1) := by
  rw [List.map_set]
  exact List.ext_getElem (by simp) fun i h1 h2 => by
    rw [List.getElem_set]
    split
    · rename_i e; subst e; simp
    · rfl
theorem RightP.begun {b : Blb} (h : RightP b) (hu : b.ups.length ≠ 16) (hl : b.last ≠ 1099511627776) : RightP ⟨b.objs, b.quota, b.ups ++ [(b.last + 1, ⟨#[]⟩)], b.last + 1⟩ := by
  have h1 := h.ups
  have h2 := h.last
  refine ⟨h.objs, by rw [List.length_append, List.length_singleton]; omega, h.data, h.once, ?_, ?_, ⟨by show 0 ≤ b.last + 1; omega, by show b.last + 1 ≤ _; omega⟩, h.quota, h.used⟩
  · rw [List.pairwise_append]
    refine ⟨h.rise, List.pairwise_singleton _ _, fun a ha c hc => ?_⟩
    obtain rfl := List.mem_singleton.1 hc
    have := (h.short a ha).2.2
    show a.1 < b.last + 1
    omega
  · intro u hu
    rcases List.mem_append.1 hu with hu | hu
    · have := h.short u hu
      exact ⟨this.1, this.2.1, by show u.1 ≤ b.last + 1; omega⟩
    · obtain rfl := List.mem_singleton.1 hu
      exact ⟨Nat.zero_le _, by show 0 < b.last + 1; omega, Int.le_refl _⟩
theorem RightP.pushed {b : Blb} (h : RightP b) {j : Nat} (hj : j < b.ups.length) {s : ByteArray} (hs : s.size ≤ 4096) : RightP (setUp b j s) := by
  have hm : ∀ u ∈ b.ups.set j (b.ups[j].1, s), u.2.size ≤ 4096 ∧ 0 < u.1 ∧ u.1 ≤ b.last := fun u hu => by
    rcases List.mem_or_eq_of_mem_set hu with hu | rfl
    · exact h.short u hu
    · exact ⟨hs, (h.short _ (List.getElem_mem hj)).2⟩
  unfold setUp
  rw [getD_of_lt hj]
  refine ⟨h.objs, by rw [List.length_set]; exact h.ups, h.data, h.once, ?_, hm, h.last, h.quota, h.used⟩
  have := List.pairwise_map.2 h.rise
  rw [← map_set_fst b.ups j hj s] at this
  exact List.pairwise_map.1 this
theorem RightP.without {b : Blb} (h : RightP b) (j : Nat) : RightP (withoutB b j) := by
  have hs : (b.ups.take j ++ b.ups.drop (j + 1)).Sublist b.ups := by
    have h1 : (b.ups.drop (j + 1)).Sublist (b.ups.drop j) := List.drop_sublist_drop_left _ (Nat.le_succ j)
    have := List.Sublist.append (List.Sublist.refl (b.ups.take j)) h1
    rwa [List.take_append_drop] at this
  exact ⟨h.objs, Nat.le_trans hs.length_le h.ups, h.data, h.once, h.rise.sublist hs, fun u hu => h.short u (hs.subset hu), h.last, h.quota, h.used⟩
theorem RightP.more {b : Blb} (h : RightP b) {d s : ByteArray} (hf : fitsD d s = 0) (hs : s.size ≤ 4096) (hno : ∀ o ∈ b.objs, o.1 ≠ d) (hn : b.objs.length ≠ 64) (hq : ¬ b.quota < (usedL b.objs : Int) + (s.size : Nat)) :
    RightP ⟨b.objs ++ [(d, s)], b.quota, b.ups, b.last⟩ := by
  have h1 := h.objs
  refine ⟨by rw [List.length_append, List.length_singleton]; omega, h.ups, fun o ho => ?_, ?_, h.rise, h.short, h.last, h.quota, ?_⟩
  · rcases List.mem_append.1 ho with ho | ho
    · exact h.data o ho
    · obtain rfl := List.mem_singleton.1 ho
      exact ⟨hs, hf⟩
  · rw [List.pairwise_append]
    refine ⟨h.once, List.pairwise_singleton _ _, fun a ha c hc => ?_⟩
    obtain rfl := List.mem_singleton.1 hc
    exact hno a ha
  · show (usedL (b.objs ++ [(d, s)]) : Int) ≤ b.quota
    rw [usedL_snoc]
    show (((usedL b.objs + s.size : Nat)) : Int) ≤ b.quota
    omega
theorem atL_neg {l : List (ByteArray × ByteArray)} {d : ByteArray} (h : ¬ 0 ≤ atL l d) : ∀ o ∈ l, o.1 ≠ d := fun o ho => by
  have := findL_neg (p := fun o : ByteArray × ByteArray => decide (o.1 = d)) (l := l) (by unfold atL at h; omega) o ho
  simpa using this
/-- What the document's End leaves. -/
theorem endL_stays {b : Blb} (h : RightP b) {id : Int} {d : ByteArray} (he : (endL b id d).2 = 0) : RightP (endL b id d).1 ∧ ∃ l, (endL b id d).1.objs = b.objs ++ l := by
  unfold endL at he ⊢
  split at he
  · cases he
  rename_i hu
  rw [if_neg hu]
  obtain ⟨j, hj, -, ht, -⟩ := findL_place (p := fun u : Int × ByteArray => u.1 == id) hu
  have hg : b.ups.getD (upL b.ups id).toNat (0, ⟨#[]⟩) = b.ups[j] := by
    unfold upL; rw [ht]; exact getD_of_lt hj _
  rw [hg] at he ⊢
  split at he
  · cases he
  rename_i hp
  rw [if_neg hp]
  split at he
  · cases he
  rename_i hf
  rw [if_neg hf]
  split at he
  · rename_i ha
    rw [if_pos ha]
    exact ⟨h.without _, [], (List.append_nil _).symm⟩
  rename_i ha
  rw [if_neg ha]
  split at he
  · cases he
  rename_i hn
  rw [if_neg hn]
  split at he
  · cases he
  rename_i hq
  rw [if_neg hq]
  exact ⟨(h.more (Decidable.not_not.1 hf) (h.short _ (List.getElem_mem hj)).1 (atL_neg ha) hn hq).without _, _, rfl⟩
theorem place_ok {b : Blb} {id : Int} (h : ¬ (placeB b id).2 ≠ 0) : RightP b ∧ ∃ j, ∃ hj : j < b.ups.length, placeB b id = ((j : Int), 0) ∧ upD b j = b.ups[j].2 ∧ b.ups[j].1 = id ∧ upL b.ups id = (j : Int) := by
  unfold placeB at h ⊢
  by_cases hr : rightBlb b = true
  · rw [if_pos hr] at h ⊢
    by_cases hu : upL b.ups id < 0
    · rw [if_pos hu] at h; exact absurd h (by decide)
    · rw [if_neg hu]
      obtain ⟨j, hj, e, -, hp⟩ := findL_place (p := fun u : Int × ByteArray => u.1 == id) hu
      refine ⟨(right_iff b).1 hr, j, hj, by unfold upL; rw [e], ?_, by simpa using hp, e⟩
      unfold upD
      rw [Int.toNat_natCast, getD_of_lt hj]
  · rw [if_neg hr] at h; exact absurd h (by decide)
theorem begin_stays {b : Blb} (he : (beginB b).2.2 = 0) : RightP (beginB b).1 ∧ ∃ l, (beginB b).1.objs = b.objs ++ l := by
  unfold beginB at he ⊢
  split at he
  · rename_i hr
    rw [if_pos hr]
    split at he
    · cases he
    · rename_i h
      rw [if_neg h]
      exact ⟨((right_iff b).1 hr).begun (fun e => h (Or.inl e)) (fun e => h (Or.inr e)), [], (List.append_nil _).symm⟩
  · cases he
theorem push_stays {b : Blb} {id off : Int} {s : ByteArray} (he : (pushB b id off s).2 = 0) : RightP (pushB b id off s).1 ∧ ∃ l, (pushB b id off s).1.objs = b.objs ++ l := by
  unfold pushB at he ⊢
  split at he
  · rename_i h; exact absurd he h
  rename_i h
  rw [if_neg h]
  obtain ⟨hr, j, hj, e, e2, -⟩ := place_ok h
  rw [e] at he ⊢
  simp only [e2, Int.toNat_natCast] at he ⊢
  split at he
  · cases he
  rename_i h1
  rw [if_neg h1]
  split at he
  · cases he
  rename_i h2
  rw [if_neg h2]
  exact ⟨hr.pushed hj (by rw [ByteArray.size_append]; omega), [], (List.append_nil _).symm⟩
theorem end_stays {b : Blb} {id : Int} {d : ByteArray} (he : (endB b id d).2 = 0) : RightP (endB b id d).1 ∧ ∃ l, (endB b id d).1.objs = b.objs ++ l := by
  unfold endB at he ⊢
  split at he
  · rename_i hr
    rw [if_pos hr]
    exact endL_stays ((right_iff b).1 hr) he
  · cases he
theorem drop_stays {b : Blb} {id : Int} (he : (dropB b id).2 = 0) : RightP (dropB b id).1 ∧ ∃ l, (dropB b id).1.objs = b.objs ++ l := by
  unfold dropB at he ⊢
  split at he
  · rename_i h; exact absurd he h
  rename_i h
  rw [if_neg h]
  exact ⟨(place_ok h).1.without _, [], (List.append_nil _).symm⟩
end Go.Proofs.YtodjhmphneoifaaGreatDoor
/-! Rows of pairs that a call makes; what an append takes, nil or not; parts of a row of pairs. Conditions: none. -/
namespace Go.Proofs.YtodjhmphneoifaaGreatDoor
open Go.RowKit Go.WideShapes

abbrev zeroV : Value := .int .i64 0
theorem infoObj : (Tryz.prog.info? 43).map (fun i => (i.zero, i.size, i.bytes)) = some (some (.agg #[.string ⟨#[]⟩, .string ⟨#[]⟩]), 2, 32) := by kernel_rfl
theorem infoUp : (Tryz.prog.info? 40).map (fun i => (i.zero, i.size, i.bytes)) = some (some (.agg #[.int .i64 0, .string ⟨#[]⟩]), 2, 24) := by kernel_rfl

/-! ### The cells of pairs -/
def cellsL (l : List (Value × Value)) : List Value := l.flatMap fun p => [p.1, p.2]
theorem cellsL_cons (p : Value × Value) (l : List (Value × Value)) : cellsL (p :: l) = p.1 :: p.2 :: cellsL l := by simp [cellsL]
theorem cellsL_append (l l' : List (Value × Value)) : cellsL (l ++ l') = cellsL l ++ cellsL l' := by simp [cellsL]
theorem cellsL_length (l : List (Value × Value)) : (cellsL l).length = l.length * 2 := by
  induction l with
  | nil => rfl
  | cons p l ih => rw [cellsL_cons, List.length_cons, List.length_cons, List.length_cons, ih]; omega
theorem cellsL_at (l : List (Value × Value)) (i : Nat) (h : i < l.length) : (cellsL l)[i * 2]? = some l[i].1 ∧ (cellsL l)[i * 2 + 1]? = some l[i].2 := by
  induction l generalizing i with
  | nil => simp at h
  | cons p l ih =>
    rw [cellsL_cons]
    cases i with
    | zero => exact ⟨rfl, rfl⟩
    | succ i =>
      have := ih i (by simpa using h)
      rw [show (i + 1) * 2 = i * 2 + 1 + 1 by omega]
      simpa using this

/-! ### What an append takes -/
def SrcOf (size : Nat) (w : World) (x : Value) (m : Nat) (news : List Value) : Prop :=
  (x = .slice none 0 0 ∧ news = [] ∧ m = 0) ∨ ∃ ad c, x = .slice (some ad) m c ∧ news.length = m * size ∧ ∀ j u, news[j]? = some u → w.cell? (ad.add j) = some u
theorem PairsAt.src {w : World} {v : Value} {l : List (Value × Value)} (h : PairsAt w v l) : SrcOf 2 w v l.length (cellsL l) := by
  rcases h with ⟨rfl, rfl | ⟨a, cap, rfl, -⟩⟩ | ⟨b, o, cap, rfl, -, -, -, h5⟩
  · exact Or.inl ⟨rfl, rfl, rfl⟩
  · exact Or.inr ⟨a, cap, rfl, rfl, fun j u hj => by simp [cellsL] at hj⟩
  · refine Or.inr ⟨_, _, rfl, cellsL_length l, fun j u hj => ?_⟩
    have hj' : j < l.length * 2 := by rw [← cellsL_length]; exact (List.getElem?_eq_some_iff.1 hj).1
    rw [add_plain]
    have h6 := h5 (j / 2) (by omega)
    have h7 := cellsL_at l (j / 2) (by omega)
    rcases Nat.mod_two_eq_zero_or_one j with e | e
    · have e2 : j / 2 * 2 = j := by omega
      rw [e2] at h6 h7
      rw [h7.1] at hj
      rw [h6.1, hj]
    · have e2 : j / 2 * 2 + 1 = j := by omega
      rw [Nat.add_assoc, e2] at h6
      rw [e2] at h7
      rw [h7.2] at hj
      rw [h6.2, hj]
theorem SrcOf.keep {size m : Nat} {w w' : World} {x : Value} {news : List Value} (h : SrcOf size w x m news) (hb : Below w.heap.size w w') : SrcOf size w' x m news := by
  rcases h with h | ⟨ad, c, h1, h2, h3⟩
  · exact Or.inl h
  · exact Or.inr ⟨ad, c, h1, h2, fun j u hj => (hb.cell (World.block_lt_of_cell? _ _ (h3 j u hj))).trans (h3 j u hj)⟩
theorem wpList_append_src {P : Program} (w : World) {ops : Array Oper} {rest : List Oper} {o : Oper} {a : Act} {Q : Exit → Act → World → Prop} (hgd : o.guard = none) (s x : Operand) (t : TypeId)
    (ho : o.op = .call { callee := .builtin .append, args := #[s, x], argTypes := #[t, t] })
    (base : Nat) (e : TypeId) (i : TypeInfo) (z : Value) (size bytes : Nat) (ht : P.underlying t = some (.slice e)) (hi : P.info? e = some i) (hz : i.zero = some z)
    (hsize : i.size = size) (hby : i.bytes = bytes) (hzs : z.cells.size = size) (hsz : 0 < size)
    (v : Value) (n : Nat) (xs : List Value) (hs : a.eval s = v) (hown : w.ownsRow base e size v n xs)
    (xv : Value) (m : Nat) (news : List Value) (hx : a.eval x = xv) (hsrc : SrcOf size w xv m news) (h1 : ∀ u ∈ news, u.oneCell' = true)
    (h63 : n + m ≤ maxLen) (hbytes : (n + m) * bytes ≤ 140737488355328) (hbase : base ≤ w.heap.size)
    (h : ∀ v' w', w'.ownsRow base e size v' (n + m) (xs ++ news) → w.grownBy w' v.ownBlock → wpList P ops Q rest (a.put o.dst v') w') : wpList P ops Q (o :: rest) a w := by
  rcases hsrc with ⟨rfl, rfl, rfl⟩ | ⟨ad, c, rfl, hl, hnews⟩
  · exact wpList_append_own_none hgd s x t ho base e i size ht hi v n xs hs hown hx (h v w (by simpa using hown) (World.grownBy.refl w _))
  · exact wpList_append_own w hgd s x t ho base e i z size bytes ht hi hz hsize hby hzs hsz v n xs hs hown ad m c news hx hl hnews h1 h63 hbytes hbase fun v' w' h2 h3 _ => h v' w' h2 h3

theorem PairsAt.of_own {w : World} {B n : Nat} {e : TypeId} {v : Value} {l : List (Value × Value)} (h : w.ownsRow B e 2 v n (cellsL l)) (hn : l.length = n) : PairsAt w v l := by
  subst hn
  rcases h.2 with ⟨rfl, h0⟩ | ⟨g, cap, cur, rfl, hb, hg, h1, h2, h3, h4⟩
  · exact Or.inl ⟨List.length_eq_zero_iff.1 h0, Or.inl rfl⟩
  · rcases Nat.eq_zero_or_pos l.length with h0 | hp
    · refine Or.inl ⟨List.length_eq_zero_iff.1 h0, Or.inr ⟨_, cap, by rw [h0], h2⟩⟩
    · refine Or.inr ⟨g, 0, cap, rfl, hp, h1, h2, fun i hi => ?_⟩
      have k1 := h.cells (g := g) rfl (i * 2) _ (cellsL_at l i hi).1
      have k2 := h.cells (g := g) rfl (i * 2 + 1) _ (cellsL_at l i hi).2
      rw [add_plain] at k1 k2
      rw [← Nat.add_assoc] at k2
      exact ⟨k1, k2⟩
theorem PairsAt.shape3 {w : World} {v : Value} {l : List (Value × Value)} (h : PairsAt w v l) : ∃ a cap, v = .slice a l.length cap ∧ l.length ≤ cap ∧ cap ≤ maxLen := by
  rcases h with ⟨rfl, rfl | ⟨a, cap, rfl, hc⟩⟩ | ⟨b, o, cap, rfl, h2, h3, h4, -⟩
  · exact ⟨none, 0, rfl, Nat.le_refl _, by decide⟩
  · exact ⟨_, _, rfl, Nat.zero_le _, hc⟩
  · exact ⟨_, _, rfl, h3, h4⟩
theorem PairsAt.take {w : World} {a : Option Addr} {n c : Nat} {l : List (Value × Value)} (h : PairsAt w (.slice a n c) l) (hn : l.length = n) (k : Nat) (hk : k ≤ n) (l' : List (Value × Value)) (hl : l' = l.take k) : PairsAt w (.slice a k c) l' := by
  subst hl
  subst hn
  rcases h with ⟨rfl, e⟩ | ⟨b, o, cap, e, h2, h3, h4, h5⟩
  · obtain rfl : k = 0 := by simpa using hk
    refine Or.inl ⟨rfl, ?_⟩
    rcases e with e | ⟨a2, cap, e, hc⟩
    · exact Or.inl (by simpa using e)
    · exact Or.inr ⟨a2, cap, by simpa using e, hc⟩
  · simp only [Value.slice.injEq] at e
    obtain ⟨rfl, -, rfl⟩ := e
    have hl : (l.take k).length = k := by rw [List.length_take]; omega
    rcases Nat.eq_zero_or_pos k with rfl | hp
    · exact Or.inl ⟨rfl, Or.inr ⟨_, _, rfl, h4⟩⟩
    · refine Or.inr ⟨b, o, c, by rw [hl], by omega, by omega, h4, fun i hi => ?_⟩
      simp only [List.getElem_take]
      exact h5 i (by omega)
/-- A row of pairs from a place on. -/
theorem PairsAt.drop {w : World} {a : Addr} {n c : Nat} {l : List (Value × Value)} (h : PairsAt w (.slice (some a) n c) l) (hn : l.length = n) (k : Nat) (hk : k ≤ n) (hc : ¬ c = k) : PairsAt w (.slice (some (a.add (k * 2))) (n - k) (c - k)) (l.drop k) := by
  subst hn
  rcases h with ⟨rfl, e⟩ | ⟨b, o, cap, e, h2, h3, h4, h5⟩
  · obtain rfl : k = 0 := by simpa using hk
    refine Or.inl ⟨rfl, Or.inr ⟨_, _, rfl, ?_⟩⟩
    rcases e with e | ⟨a2, cap, e, hm⟩
    · cases e
    · simp only [Value.slice.injEq] at e; omega
  · simp only [Value.slice.injEq, Option.some.injEq] at e
    obtain ⟨rfl, -, rfl⟩ := e
    rw [add_plain]
    rcases Nat.lt_or_ge k l.length with hlt | hge
    · refine Or.inr ⟨b, o + k * 2, c - k, by rw [List.length_drop], by rw [List.length_drop]; omega, by rw [List.length_drop]; omega, by omega, fun i hi => ?_⟩
      rw [List.length_drop] at hi
      have := h5 (k + i) (by omega)
      rw [List.getElem_drop, show o + k * 2 + i * 2 = o + (k + i) * 2 by omega]
      exact this
    · obtain rfl : k = l.length := by omega
      exact Or.inl ⟨by simp, Or.inr ⟨_, c - l.length, by rw [Nat.sub_self], by omega⟩⟩
theorem one_ups (l : List (Int × ByteArray)) : ∀ u ∈ cellsL (l.map upCell), u.oneCell' = true := by
  intro u hu
  simp only [cellsL, List.mem_flatMap, List.mem_map] at hu
  obtain ⟨p, ⟨x, -, rfl⟩, hp⟩ := hu
  simp only [upCell, List.mem_cons, List.not_mem_nil, or_false] at hp
  rcases hp with rfl | rfl <;> rfl
theorem one_objs (l : List (ByteArray × ByteArray)) : ∀ u ∈ cellsL (l.map objCell), u.oneCell' = true := by
  intro u hu
  simp only [cellsL, List.mem_flatMap, List.mem_map] at hu
  obtain ⟨p, ⟨x, -, rfl⟩, hp⟩ := hu
  simp only [objCell, List.mem_cons, List.not_mem_nil, or_false] at hp
  rcases hp with rfl | rfl <;> rfl
end Go.Proofs.YtodjhmphneoifaaGreatDoor
