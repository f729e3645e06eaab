/-
  Plain facts for DiskCrashes: writes at places made of any numbers; a crash in which all are kept; each half behind a crash. Conditions: none.
-/
import Derived.Test.YtcjngaapiomkbaaLawKNow
namespace Go.Proofs.Ytcjngaapiomkbaa
open Go.RowKit Go.WideShapes

def plc (n : Nat) (a : Int) : Int := (a.tmod (n : Int) + (n : Int)).tmod (n : Int)
theorem plc_in (n : Nat) (h4 : 4 ≤ n) (a : Int) : 0 ≤ plc n a ∧ plc n a < (n : Int) := by
  obtain ⟨r, k, e1, -, -, e2, hk⟩ := place_of a n h4
  unfold plc
  rw [e1, e2]; omega
def atOf (ws : List (Int × ByteArray)) (i : Nat) : Int := (ws.getD i (0, ⟨#[]⟩)).1
def cwL (n : Nat) (ws : List (Int × ByteArray)) (k : Nat) : List (Int × ByteArray) := (List.range k).map fun i => (plc n (atOf ws i), secB (UInt8.ofNat i))
theorem cwL_step (n : Nat) (ws : List (Int × ByteArray)) (k : Nat) : cwL n ws (k + 1) = cwL n ws k ++ [(plc n (atOf ws k), secB (UInt8.ofNat k))] := by
  unfold cwL; rw [List.range_succ, List.map_append]; rfl
theorem cwL_length (n : Nat) (ws : List (Int × ByteArray)) (k : Nat) : (cwL n ws k).length = k := by simp [cwL]
def crD (ss : List ByteArray) (n : Nat) (ws : List (Int × ByteArray)) (k : Nat) : Dsk := ⟨ss, cwL n ws k⟩
theorem crD_step (ss : List ByteArray) (n : Nat) (ws : List (Int × ByteArray)) (k : Nat) : crD ss n ws (k + 1) = addW (crD ss n ws k) (plc n (atOf ws k), secB (UInt8.ofNat k)) := by
  unfold crD addW; rw [cwL_step]
theorem crD_dirty (ss : List ByteArray) (n : Nat) (ws : List (Int × ByteArray)) (k : Nat) : (crD ss n ws k).dirty.length = k := cwL_length n ws k
theorem crD_right {ss : List ByteArray} {n : Nat} {ws : List (Int × ByteArray)} (h : RightIs ⟨ss, []⟩) (hn : ss.length = n) (k : Nat) (hk : k ≤ 100) : RightIs (crD ss n ws k) :=
  ⟨h.secs, h.least, h.most, by rw [crD_dirty]; omega, fun w hw => by
    simp only [crD, cwL, List.mem_map] at hw
    obtain ⟨i, -, rfl⟩ := hw
    have h4 : 4 ≤ n := by rw [← hn]; exact h.least
    have := plc_in n h4 (atOf ws i)
    exact ⟨this.1, by show plc n _ < ((ss.length : Nat) : Int); rw [hn]; exact this.2, secB_size _⟩⟩
theorem left_kept (k : Nat) : ∀ (l : List (Int × ByteArray)) (s : ByteArray) (m : Nat), l.length ≤ m → leftL k s l (List.replicate m 1) = standsL k s l
  | [], _, m, _ => by cases m <;> rfl
  | w :: l, s, 0, h => by simp at h
  | w :: l, s, m + 1, h => by
    rw [List.replicate_succ]
    show leftL k (if w.1 = (k : Int) then (if (1 : Int) = 1 then w.2 else _) else s) l _ = standsL k (if w.1 = (k : Int) then w.2 else s) l
    rw [if_pos rfl]
    exact left_kept k l _ m (by simpa using h)
theorem left_none (k : Nat) (l : List (Int × ByteArray)) (s : ByteArray) : leftL k s l [] = s := by cases l <;> rfl
theorem clean_back (ss : List ByteArray) (n : Nat) (hn : ss.length = n) : clean n (fun i => ss.getD i ⟨#[]⟩) = ⟨ss, []⟩ := by
  unfold clean
  congr 1
  subst hn
  apply List.ext_getElem
  · simp
  · intro i h1 h2
    simp [List.getD, h2]

/-- The first half of s is s0's, or that of one of these at place i. -/
def fstB (i : Nat) (s : ByteArray) (w : Int × ByteArray) : Bool := (w.1 == (i : Int)) && ((w.2.extract 0 64).toList == (s.extract 0 64).toList)
def lstB (i : Nat) (s : ByteArray) (w : Int × ByteArray) : Bool := (w.1 == (i : Int)) && ((w.2.extract 64 128).toList == (s.extract 64 128).toList)
theorem left_first (i : Nat) : ∀ (l : List (Int × ByteArray)) (s0 : ByteArray) (fs : List Int), s0.size = 128 → (∀ w ∈ l, w.2.size = 128) →
    (((leftL i s0 l fs).extract 0 64).toList == (s0.extract 0 64).toList || l.any (fstB i (leftL i s0 l fs))) = true
  | [], s0, fs, _, _ => by
    show ((s0.extract 0 64).toList == (s0.extract 0 64).toList || _) = true
    rw [beq_self_eq_true, Bool.true_or]
  | w :: l, s0, [], _, _ => by
    show ((s0.extract 0 64).toList == (s0.extract 0 64).toList || _) = true
    rw [beq_self_eq_true, Bool.true_or]
  | w :: l, s0, f :: fs, h0, hw => by
    have hx := hw w (List.mem_cons_self ..)
    have hr : ∀ w ∈ l, w.2.size = 128 := fun y hy => hw y (List.mem_cons_of_mem _ hy)
    obtain ⟨s1, hs1⟩ : ∃ s, (if w.1 = (i : Int) then (if f = 1 then w.2 else if f = 2 then tornB s0 w.2 else s0) else s0) = s := ⟨_, rfl⟩
    show (((leftL i (if w.1 = (i : Int) then (if f = 1 then w.2 else if f = 2 then tornB s0 w.2 else s0) else s0) l fs).extract 0 64).toList == _ || _) = true
    rw [hs1]
    have e : leftL i s0 (w :: l) (f :: fs) = leftL i s1 l fs := by rw [← hs1]; rfl
    rw [e]
    have hz : s1.size = 128 := by
      rw [← hs1]
      split
      · split
        · exact hx
        · split
          · exact torn_size h0 hx
          · exact h0
      · exact h0
    have ih := left_first i l s1 fs hz hr
    rw [Bool.or_eq_true] at ih ⊢
    rcases ih with ih | ih
    · by_cases hq : w.1 = (i : Int)
      · rw [if_pos hq] at hs1
        by_cases h1 : s1.extract 0 64 = w.2.extract 0 64
        · right
          rw [List.any_cons, Bool.or_eq_true]
          left
          rw [beq_iff_eq] at ih
          unfold fstB
          rw [show (w.1 == (i : Int)) = true from beq_iff_eq.2 hq, Bool.true_and, ih, h1, beq_self_eq_true]
        · by_cases hf : f = 1
          · rw [if_pos hf] at hs1
            exact absurd (by rw [hs1]) h1
          · rw [if_neg hf] at hs1
            by_cases hf2 : f = 2
            · rw [if_pos hf2] at hs1
              exact absurd (by rw [← hs1]; exact torn_first s0 w.2 hx) h1
            · rw [if_neg hf2] at hs1
              left; rw [hs1]; exact ih
      · rw [if_neg hq] at hs1
        left; rw [hs1]; exact ih
    · right
      rw [List.any_cons, Bool.or_eq_true]
      exact Or.inr ih
theorem left_last (i : Nat) : ∀ (l : List (Int × ByteArray)) (s0 : ByteArray) (fs : List Int), s0.size = 128 → (∀ w ∈ l, w.2.size = 128) →
    (((leftL i s0 l fs).extract 64 128).toList == (s0.extract 64 128).toList || l.any (lstB i (leftL i s0 l fs))) = true
  | [], s0, fs, _, _ => by
    show ((s0.extract 64 128).toList == (s0.extract 64 128).toList || _) = true
    rw [beq_self_eq_true, Bool.true_or]
  | w :: l, s0, [], _, _ => by
    show ((s0.extract 64 128).toList == (s0.extract 64 128).toList || _) = true
    rw [beq_self_eq_true, Bool.true_or]
  | w :: l, s0, f :: fs, h0, hw => by
    have hx := hw w (List.mem_cons_self ..)
    have hr : ∀ w ∈ l, w.2.size = 128 := fun y hy => hw y (List.mem_cons_of_mem _ hy)
    obtain ⟨s1, hs1⟩ : ∃ s, (if w.1 = (i : Int) then (if f = 1 then w.2 else if f = 2 then tornB s0 w.2 else s0) else s0) = s := ⟨_, rfl⟩
    show (((leftL i (if w.1 = (i : Int) then (if f = 1 then w.2 else if f = 2 then tornB s0 w.2 else s0) else s0) l fs).extract 64 128).toList == _ || _) = true
    rw [hs1]
    have e : leftL i s0 (w :: l) (f :: fs) = leftL i s1 l fs := by rw [← hs1]; rfl
    rw [e]
    have hz : s1.size = 128 := by
      rw [← hs1]
      split
      · split
        · exact hx
        · split
          · exact torn_size h0 hx
          · exact h0
      · exact h0
    have ih := left_last i l s1 fs hz hr
    rw [Bool.or_eq_true] at ih ⊢
    rcases ih with ih | ih
    · by_cases hq : w.1 = (i : Int)
      · rw [if_pos hq] at hs1
        by_cases hf : f = 1
        · rw [if_pos hf] at hs1
          right
          rw [List.any_cons, Bool.or_eq_true]
          left
          rw [beq_iff_eq] at ih
          unfold lstB
          rw [show (w.1 == (i : Int)) = true from beq_iff_eq.2 hq, Bool.true_and, ih, hs1, beq_self_eq_true]
        · rw [if_neg hf] at hs1
          by_cases hf2 : f = 2
          · rw [if_pos hf2] at hs1
            left
            rw [beq_iff_eq] at ih ⊢
            rw [ih, ← hs1, torn_last s0 w.2 h0 hx]
          · rw [if_neg hf2] at hs1
            left; rw [hs1]; exact ih
      · rw [if_neg hq] at hs1
        left; rw [hs1]; exact ih
    · right
      rw [List.any_cons, Bool.or_eq_true]
      exact Or.inr ih
end Go.Proofs.Ytcjngaapiomkbaa
