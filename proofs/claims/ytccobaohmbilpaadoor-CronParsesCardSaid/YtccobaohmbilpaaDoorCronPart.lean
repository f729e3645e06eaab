/-
  A part of a schedule's field as the program reads it: it is as the document says. Conditions: none. It names nothing of the translation.
-/
import Derived.Test.YtccobaohmbilpaaDoorCronPlain
import Derived.Lib.AtoiAll
import Derived.Lib.ItoaLen
import Derived.Lib.SplitLaws
namespace Go.Proofs.YtccobaohmbilpaaDoor

theorem goC_mid (b : UInt8) : ∀ (x r now : List UInt8), (∀ c ∈ x, c ≠ b) → goC b now (x ++ b :: r) = (now ++ x) :: goC b [] r
  | [], r, now, _ => by simp [goC]
  | c :: x, r, now, h => by
    have hc := h c (by simp)
    simp only [List.cons_append, goC]
    rw [if_neg hc, goC_mid b x r (now ++ [c]) (fun d hd => h d (by simp [hd]))]
    simp
theorem goC_end (b : UInt8) : ∀ (x now : List UInt8), (∀ c ∈ x, c ≠ b) → goC b now x = [now ++ x]
  | [], now, _ => by simp [goC]
  | c :: x, now, h => by
    have hc := h c (by simp)
    simp only [goC]
    rw [if_neg hc, goC_end b x (now ++ [c]) (fun d hd => h d (by simp [hd]))]
    simp
/-- A text cut at a byte: what is ahead, what is behind, whether it is there. -/
def cutB (b : UInt8) : List UInt8 → List UInt8 × List UInt8 × Bool
  | [] => ([], [], false)
  | c :: l => if c = b then ([], l, true) else ((c :: (cutB b l).1), (cutB b l).2.1, (cutB b l).2.2)
theorem cutB_hit {b c : UInt8} (l : List UInt8) (h : c = b) : cutB b (c :: l) = ([], l, true) := by rw [cutB, if_pos h]
theorem cutB_miss {b c : UInt8} (l : List UInt8) (h : ¬ c = b) : cutB b (c :: l) = (c :: (cutB b l).1, (cutB b l).2.1, (cutB b l).2.2) := by rw [cutB, if_neg h]
theorem cutB_sound (b : UInt8) : ∀ l, (∀ c ∈ (cutB b l).1, c ≠ b) ∧ (((cutB b l).2.2 = true ∧ l = (cutB b l).1 ++ b :: (cutB b l).2.1) ∨ ((cutB b l).2.2 = false ∧ (cutB b l).1 = l ∧ (cutB b l).2.1 = []))
  | [] => ⟨by simp [cutB], Or.inr ⟨rfl, rfl, rfl⟩⟩
  | c :: l => by
    obtain ⟨h1, h2⟩ := cutB_sound b l
    by_cases h : c = b
    · rw [cutB_hit l h]; exact ⟨by simp, Or.inl ⟨rfl, by rw [h]; rfl⟩⟩
    · rw [cutB_miss l h]
      refine ⟨fun d hd => ?_, ?_⟩
      · rcases List.mem_cons.1 hd with hd | hd
        · rw [hd]; exact h
        · exact h1 d hd
      · rcases h2 with ⟨a, e⟩ | ⟨a, e, f⟩
        · exact Or.inl ⟨a, by conv => lhs; rw [e]
                              rfl⟩
        · exact Or.inr ⟨a, by show c :: (cutB b l).1 = c :: l; rw [e], f⟩
theorem cut_one (b : UInt8) : ∀ l : List UInt8, Lib.cut l [b] = if (cutB b l).2.2 then cutB b l else (l, [], false) := by
  intro l
  have hidx : ∀ l : List UInt8, Lib.index l [b] = if (cutB b l).2.2 then ((cutB b l).1.length : Int) else -1 := fun l => by
    induction l with
    | nil => rfl
    | cons c l ih =>
      rw [Lib.index, ih]
      by_cases h : c = b
      · rw [cutB_hit l h, if_pos (by rw [h]; simp [List.isPrefixOf])]; rfl
      · rw [cutB_miss l h, if_neg (by simp [List.isPrefixOf]; exact fun e => h e.symm)]
        simp only
        cases (cutB b l).2.2 with
        | false => rfl
        | true =>
          simp only [if_true]
          rw [if_neg (by rw [beq_iff_eq]; omega)]
          simp
  unfold Lib.cut
  rw [hidx]
  obtain ⟨-, h2⟩ := cutB_sound b l
  rcases h2 with ⟨a, e⟩ | ⟨a, e, f⟩
  · rw [if_pos a, if_pos a, if_pos (by omega), Int.toNat_natCast]
    generalize hc : cutB b l = q at a e ⊢
    obtain ⟨x, r, t⟩ := q
    simp only at a e
    subst a
    rw [e]
    simp
  · rw [if_neg (by rw [a]; simp), if_neg (by rw [a]; simp)]

/-- Two numbers, a star, or neither: from where to where. -/
inductive Spn
  | alone
  | bad
  | ok (a b : Nat)
def spanOf : Option Nat → Option Nat → Spn
  | some a, some b => if a ≤ b then .ok a b else .bad
  | _, _ => .bad
def spanS (s : List UInt8) (low high : Nat) : Spn :=
  if s = [42] then .ok low high else if (cutB 45 s).2.2 then spanOf (numberL (cutB 45 s).1 low high) (numberL (cutB 45 s).2.1 low high) else .alone
/-- The bits from a to b, each k-th. -/
def setN (a b k : Nat) : Nat := bitsOf (fun v => hitP (a, b, k) v) (b + 1)
inductive Mny
  | alone
  | bad
  | ok (n : Nat)
def manyOf : Spn → Bool → Option Nat → Mny
  | .alone, _, _ => .alone
  | .bad, _, _ => .bad
  | .ok a b, false, _ => .ok (setN a b 1)
  | .ok a b, true, some k => .ok (setN a b k)
  | .ok _ _, true, none => .bad
def manyS (s : List UInt8) (low high : Nat) : Mny :=
  manyOf (spanS (cutB 47 s).1 low high) (cutB 47 s).2.2 (numberL (cutB 47 s).2.1 1 59)
def partS (s : List UInt8) (low high : Nat) : Option Nat :=
  match manyS s low high with
  | .ok n => some n
  | .bad => none
  | .alone => (numberL s low high).map (2 ^ ·)

theorem numberL_mark {l : List UInt8} {c : UInt8} (low high : Nat) (hc : c ∈ l) (hd : digitB c = false) : numberL l low high = none := by
  unfold numberL
  have : l.all digitB = false := by rw [List.all_eq_false]; exact ⟨c, hc, by rw [hd]; decide⟩
  rw [this]; rfl
theorem setN_one (a : Nat) : setN a a 1 = 2 ^ a := by
  unfold setN
  rw [bitsOf]
  have h0 : bitsOf (fun v => hitP (a, a, 1) v) a = 0 := by
    have : bitsOf (fun v => hitP (a, a, 1) v) a = bitsOf (fun _ => false) a := bitsOf_congr a fun i hi => by
      unfold hitP; simp; omega
    rw [this]
    induction a with
    | zero => rfl
    | succ a ih =>
      rw [bitsOf, show bitsOf (fun _ => false) a = 0 from by
        clear ih this
        induction a with
        | zero => rfl
        | succ a ih => rw [bitsOf, ih]; rfl]; rfl
  rw [h0]
  unfold hitP; simp
theorem span_range (A B : Option Nat) : (∀ a b, spanOf A B = .ok a b → rangeOf 2 A B = some (a, b)) ∧ (spanOf A B = .bad → rangeOf 2 A B = none) ∧ spanOf A B ≠ .alone := by
  match A, B with
  | none, none => exact ⟨fun a b h => (by cases h), fun _ => rfl, fun h => (by cases h)⟩
  | none, some q => exact ⟨fun a b h => (by cases h), fun _ => rfl, fun h => (by cases h)⟩
  | some p, none => exact ⟨fun a b h => (by cases h), fun _ => rfl, fun h => (by cases h)⟩
  | some p, some q =>
    by_cases h : p ≤ q
    · have s1 : spanOf (some p) (some q) = .ok p q := if_pos h
      have s2 : rangeOf 2 (some p) (some q) = some (p, q) := if_pos ⟨Nat.le_refl _, h⟩
      rw [s1, s2]
      exact ⟨fun a b e => (by injection e with e1 e2; rw [e1, e2]), fun e => (by cases e), fun e => (by cases e)⟩
    · have s1 : spanOf (some p) (some q) = .bad := if_neg h
      have s2 : rangeOf 2 (some p) (some q) = none := if_neg (by omega)
      rw [s1, s2]
      exact ⟨fun a b e => (by cases e), fun _ => rfl, fun e => (by cases e)⟩
/-- A SPAN is a range as the document says it. -/
theorem rangeL_of {s : List UInt8} {low high : Nat} : (∀ a b, spanS s low high = .ok a b → rangeL s low high = some (a, b) ∧ (s = [42] ∨ (goC 45 [] s).length ≠ 1)) ∧
    (spanS s low high = .bad → rangeL s low high = none) ∧
    (spanS s low high = .alone → s ≠ [42] ∧ (goC 45 [] s).length = 1 ∧ rangeL s low high = (numberL s low high).map fun n => (n, n)) := by
  unfold spanS rangeL
  by_cases hs : s = [42]
  · rw [if_pos hs, if_pos hs]
    refine ⟨fun a b h => ?_, fun h => (by cases h), fun h => (by cases h)⟩
    injection h with h1 h2
    subst h1; subst h2
    exact ⟨rfl, Or.inl hs⟩
  · rw [if_neg hs, if_neg hs]
    obtain ⟨h1, h2⟩ := cutB_sound 45 s
    rcases h2 with ⟨a, e⟩ | ⟨a, e, f⟩
    · have hg : goC 45 [] s = (cutB 45 s).1 :: goC 45 [] (cutB 45 s).2.1 := by
        conv => lhs; rw [e]
        rw [goC_mid 45 _ _ _ h1]; rfl
      rw [if_pos a, hg]
      generalize (cutB 45 s).1 = x at h1 hg ⊢
      generalize (cutB 45 s).2.1 = r at hg ⊢
      have hl : (x :: goC 45 [] r).length ≠ 1 := by
        rw [List.length_cons]
        have := List.length_pos_iff.2 (goC_ne 45 r [])
        omega
      have hlast : (x :: goC 45 [] r).getLastD [] = (goC 45 [] r).getLastD [] := by
        cases hgr : goC 45 [] r with
        | nil => exact absurd hgr (goC_ne 45 r [])
        | cons y l => rfl
      rw [hlast, List.headD_cons]
      have hr : goC 45 [] r = [r] ∨ (2 ≤ (goC 45 [] r).length ∧ numberL r low high = none) := by
        obtain ⟨h3, h4⟩ := cutB_sound 45 r
        rcases h4 with ⟨a', e'⟩ | ⟨a', e', -⟩
        · right
          constructor
          · rw [e', goC_mid 45 _ _ _ h3, List.length_cons]
            have := List.length_pos_iff.2 (goC_ne 45 (cutB 45 r).2.1 [])
            omega
          · exact numberL_mark (c := 45) low high (by rw [e']; simp) (by decide)
        · left
          rw [e'] at h3
          rw [goC_end 45 r [] h3]; rfl
      rcases hr with hr | ⟨hr, hn⟩
      · rw [hr]
        obtain ⟨g1, g2, g3⟩ := span_range (numberL x low high) (numberL r low high)
        exact ⟨fun a b h => ⟨g1 a b h, Or.inr (by simp)⟩, g2, fun h => absurd h g3⟩
      · rw [hn]
        have hns : spanOf (numberL x low high) none = .bad := by cases numberL x low high <;> rfl
        rw [hns]
        refine ⟨fun a b h => (by cases h), fun _ => ?_, fun h => (by cases h)⟩
        rw [List.length_cons]
        cases numberL x low high <;> cases numberL ((goC 45 [] r).getLastD []) low high <;> first | rfl | (rw [rangeOf, if_neg (by omega)])
    · rw [e] at h1
      rw [if_neg (by rw [a]; simp), goC_end 45 s [] h1]
      refine ⟨fun a b h => (by cases h), fun h => (by cases h), fun _ => ⟨hs, rfl, ?_⟩⟩
      show rangeOf 1 (numberL s low high) (numberL s low high) = _
      cases numberL s low high with
      | none => rfl
      | some n => rw [rangeOf, if_pos ⟨by decide, Nat.le_refl _⟩]; rfl
/-- A PART, as the program reads it, is as the document says. -/
theorem partS_eq (s : List UInt8) (low high : Nat) : partS s low high = (partL s low high).map fun p => setN p.1 p.2.1 p.2.2 := by
  unfold partS manyS partL
  obtain ⟨h1, h2⟩ := cutB_sound 47 s
  rcases h2 with ⟨a, e⟩ | ⟨a, e, f⟩
  · have hg : goC 47 [] s = (cutB 47 s).1 :: goC 47 [] (cutB 47 s).2.1 := by
      conv => lhs; rw [e]
      rw [goC_mid 47 _ _ _ h1]; rfl
    have hsn : numberL s low high = none := numberL_mark (c := 47) low high (by rw [e]; simp) (by decide)
    rw [a, hg, hsn, List.headD_cons]
    generalize (cutB 47 s).1 = x
    generalize (cutB 47 s).2.1 = r
    have hr : goC 47 [] r = [r] ∨ (2 ≤ (goC 47 [] r).length ∧ numberL r 1 59 = none) := by
      obtain ⟨h3, h4⟩ := cutB_sound 47 r
      rcases h4 with ⟨a', e'⟩ | ⟨a', e', -⟩
      · right
        constructor
        · rw [e', goC_mid 47 _ _ _ h3, List.length_cons]
          have := List.length_pos_iff.2 (goC_ne 47 (cutB 47 r).2.1 [])
          omega
        · exact numberL_mark (c := 47) 1 59 (by rw [e']; simp) (by decide)
      · left
        rw [e'] at h3
        rw [goC_end 47 r [] h3]; rfl
    obtain ⟨r1, r2, r3⟩ := @rangeL_of x low high
    cases hsp : spanS x low high with
    | bad => rw [r2 hsp]; rfl
    | alone =>
      obtain ⟨n1, n2, n3⟩ := r3 hsp
      rw [n3]
      simp only [manyOf, Option.map_none]
      cases numberL x low high with
      | none => rfl
      | some n =>
        simp only [Option.map_some]
        rcases hr with hr | ⟨hr, hn⟩
        · rw [hr]
          simp only
          cases numberL r 1 59 with
          | none => rfl
          | some k =>
            simp only
            rw [if_neg (by rintro (h | h); exact n1 h; exact h n2)]
            rfl
        · cases hgr : goC 47 [] r with
          | nil => exact absurd hgr (goC_ne 47 r [])
          | cons y l => cases l with
            | nil => rw [hgr] at hr; simp at hr
            | cons z l => rfl
    | ok p q =>
      obtain ⟨m1, m2⟩ := r1 p q hsp
      rw [m1]
      simp only [manyOf]
      rcases hr with hr | ⟨hr, hn⟩
      · rw [hr]
        simp only
        cases numberL r 1 59 with
        | none => rfl
        | some k =>
          simp only
          rw [if_pos m2]; rfl
      · rw [hn]
        cases hgr : goC 47 [] r with
        | nil => exact absurd hgr (goC_ne 47 r [])
        | cons y l => cases l with
          | nil => rw [hgr] at hr; simp at hr
          | cons z l => rfl
  · rw [e] at h1
    rw [a, e, goC_end 47 s [] h1]
    simp only [List.nil_append, List.headD_cons]
    obtain ⟨r1, r2, r3⟩ := @rangeL_of s low high
    cases hsp : spanS s low high with
    | bad => rw [r2 hsp]; rfl
    | alone =>
      obtain ⟨n1, n2, n3⟩ := r3 hsp
      rw [n3]
      simp only [manyOf]
      cases numberL s low high with
      | none => rfl
      | some n => simp only [Option.map_some, setN_one]
    | ok p q =>
      obtain ⟨m1, m2⟩ := r1 p q hsp
      rw [m1]; rfl
end Go.Proofs.YtccobaohmbilpaaDoor
