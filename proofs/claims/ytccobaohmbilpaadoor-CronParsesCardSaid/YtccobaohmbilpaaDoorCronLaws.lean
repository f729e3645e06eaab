/-
  What the laws of schedules say, as plain facts: five stars fire at each tick, one minute of each hour, one day of each week; a day later. Conditions: none. It names nothing of the translation.
-/
import Derived.Test.YtccobaohmbilpaaDoorCronNum
import Derived.Test.YtccobaohmbilpaaDoorCronTime
namespace Go.Proofs.YtccobaohmbilpaaDoor

/-- The time of a tick. -/
noncomputable def clkAt (t : Nat) : Clk := Classical.choose (at_exists t)
theorem clkAt_is (t : Nat) : IsAt t (clkAt t) := Classical.choose_spec (at_exists t)
theorem IsAt.eq {t : Nat} {c : Clk} (h : IsAt t c) : c = clkAt t := h.one (clkAt_is t)
noncomputable def firesT (c : Crn) (t : Nat) : Bool := firesB c (clkAt t)
theorem clkAt_minute (t : Nat) : (clkAt t).minute = t % 60 := by
  have h := (clkAt_is t).tick
  have h1 := (clkAt_is t).right.minute
  unfold Clk.tick at h
  omega
theorem clkAt_hour (t : Nat) : (clkAt t).hour = t / 60 % 24 := by
  have h := (clkAt_is t).tick
  have h1 := (clkAt_is t).right.minute
  have h2 := (clkAt_is t).right.hour
  unfold Clk.tick at h
  omega
theorem clkAt_week (t : Nat) : (clkAt t).week = (t / 1440 + 4) % 7 := (clkAt_is t).week
theorem clkAt_day (t : Nat) : 1 ≤ (clkAt t).day ∧ (clkAt t).day ≤ 31 := ⟨(clkAt_is t).right.day1, Nat.le_trans (clkAt_is t).right.day2 (daysM_le _ _).1⟩
theorem clkAt_year (t : Nat) (h : t ≤ 1099511627776) : (clkAt t).year ≤ 3000000 := by
  have hd := tick_days (clkAt_is t).right
  rw [(clkAt_is t).tick] at hd
  have hr := (clkAt_is t).right
  by_cases hy : (clkAt t).year ≤ 3000000
  · exact hy
  · have h1 := aheadY_mono ((clkAt t).year - 3000001) 3000001 (by decide)
    rw [show 3000001 + ((clkAt t).year - 3000001) = (clkAt t).year by omega] at h1
    have h2 : aheadY 3000001 = 1095727500 := by decide
    have h3 : aheadY 1970 = 719162 := by decide
    unfold Clk.days at hd
    omega

/-- A day later. -/
theorem next_day (t : Nat) : (clkAt (t + 1440)).day = (clkAt t).day + 1 ∨ (clkAt (t + 1440)).day = 1 := by
  have ha := clkAt_is t
  obtain ⟨a, e⟩ : ∃ a, clkAt t = a := ⟨_, rfl⟩
  rw [e] at ha ⊢
  have r := ha.right
  have ht := ha.tick
  have hge := aheadY_mono (a.year - 1970) 1970 (by decide)
  rw [show 1970 + (a.year - 1970) = a.year by have := r.year; omega] at hge
  have h1 := r.day1
  have h2 := r.day2
  have h3 := r.month1
  have h4 := r.month2
  have h5 := r.year
  have h28 := fun m y => (daysM_le m y).2
  unfold Clk.tick Clk.days at ht
  by_cases hd : a.day < daysM a.month a.year
  · have hn : IsAt (t + 1440) ⟨a.minute, a.hour, a.day + 1, a.month, a.year, weekOf (t + 1440)⟩ :=
      ⟨⟨r.minute, r.hour, by show 1 ≤ a.day + 1; omega, by show a.day + 1 ≤ _; exact hd, h3, h4, h5⟩, by
        show 1440 * (aheadY a.year - aheadY 1970 + aheadM a.year a.month + (a.day + 1 - 1)) + 60 * a.hour + a.minute = t + 1440
        omega, rfl⟩
    rw [← hn.eq]; exact Or.inl rfl
  · right
    by_cases hm : a.month < 12
    · have hs := aheadM_succ a.year a.month h3
      have hn : IsAt (t + 1440) ⟨a.minute, a.hour, 1, a.month + 1, a.year, weekOf (t + 1440)⟩ :=
        ⟨⟨r.minute, r.hour, Nat.le_refl _, by show 1 ≤ daysM (a.month + 1) a.year; have := h28 (a.month + 1) a.year; omega, by show 1 ≤ a.month + 1; omega, by show a.month + 1 ≤ 12; omega, h5⟩, by
          show 1440 * (aheadY a.year - aheadY 1970 + aheadM a.year (a.month + 1) + (1 - 1)) + 60 * a.hour + a.minute = t + 1440
          omega, rfl⟩
      rw [← hn.eq]
    · have hm12 : a.month = 12 := by omega
      have hs : aheadM a.year 13 = aheadM a.year 12 + daysM 12 a.year := aheadM_succ a.year 12 (by decide)
      have hall := aheadM_all a.year
      have hy := aheadY_succ a.year (by omega)
      rw [hm12] at ht hd h2
      have hn : IsAt (t + 1440) ⟨a.minute, a.hour, 1, 1, a.year + 1, weekOf (t + 1440)⟩ :=
        ⟨⟨r.minute, r.hour, Nat.le_refl _, by show 1 ≤ daysM 1 (a.year + 1); have := h28 1 (a.year + 1); omega, Nat.le_refl _, by show 1 ≤ 12; decide, by show 1970 ≤ a.year + 1; omega⟩, by
          show 1440 * (aheadY (a.year + 1) - aheadY 1970 + aheadM (a.year + 1) 1 + (1 - 1)) + 60 * a.hour + a.minute = t + 1440
          rw [aheadM_one]
          rw [hall] at hs
          omega, rfl⟩
      rw [← hn.eq]

/-! ### Texts -/
/-- The bits of a star. -/
def starN (low high : Nat) : Nat := bitsOf (fun v => decide (low ≤ v) && [(low, high, 1)].any fun p => hitP p v) (high + 1)
theorem star_bit (low high i : Nat) : bitB (starN low high) i = decide (low ≤ i ∧ i ≤ high) := by
  unfold starN
  rw [bitB_bitsOf]
  simp only [List.any_cons, List.any_nil, Bool.or_false, hitP, Nat.mod_one]
  rw [Bool.eq_iff_iff]
  simp
  omega
theorem field_star (low high : Nat) : fieldL [42] low high = some (starN low high) := rfl
/-- The bits of a number. -/
def oneN (low high n : Nat) : Nat := bitsOf (fun v => decide (low ≤ v) && [(n, n, 1)].any fun p => hitP p v) (high + 1)
theorem one_bit {low high n : Nat} (h1 : low ≤ n) (h2 : n ≤ high) (i : Nat) : bitB (oneN low high n) i = decide (i = n) := by
  unfold oneN
  rw [bitB_bitsOf]
  simp only [List.any_cons, List.any_nil, Bool.or_false, hitP, Nat.mod_one]
  rw [Bool.eq_iff_iff]
  simp
  omega
theorem oneN_lt (low high n : Nat) (h : high < 64) : oneN low high n < 18446744073709551616 := Nat.lt_of_lt_of_le (bitsOf_lt _ _) (Nat.pow_le_pow_right (by decide : 0 < 2) (show high + 1 ≤ 64 by omega))
theorem starN_lt (low high : Nat) (h : high < 64) : starN low high < 18446744073709551616 := Nat.lt_of_lt_of_le (bitsOf_lt _ _) (Nat.pow_le_pow_right (by decide : 0 < 2) (show high + 1 ≤ 64 by omega))
theorem fieldL_lt {s : List UInt8} {low high n : Nat} (h : fieldL s low high = some n) (hh : high < 64) : n < 18446744073709551616 := by
  unfold fieldL at h
  split at h
  · injection h with h
    subst h
    exact Nat.lt_of_lt_of_le (bitsOf_lt _ _) (Nat.pow_le_pow_right (by decide : 0 < 2) (show high + 1 ≤ 64 by omega))
  · cases h
theorem number_digits {s : List UInt8} {low high n : Nat} (h : numberL s low high = some n) : ∀ c ∈ s, digitB c = true := by
  unfold numberL at h
  split at h
  · rename_i hc
    simp only [Bool.and_eq_true] at hc
    exact List.all_eq_true.1 hc.1.1.1.1.1
  · cases h
theorem number_none {s : List UInt8} {low high n : Nat} (h : numberL s low high = some n) (b : UInt8) (hb : digitB b = false) : ∀ c ∈ s, c ≠ b := fun c hc e => by
  have := number_digits h c hc
  rw [e, hb] at this
  cases this
theorem field_num {s : List UInt8} {low high n : Nat} (h : numberL s low high = some n) : fieldL s low high = some (oneN low high n) := by
  have h44 := number_none h 44 (by decide)
  have h45 := number_none h 45 (by decide)
  have h47 := number_none h 47 (by decide)
  have h42 := number_none h 42 (by decide)
  have hs : s ≠ [42] := fun e => h42 42 (by rw [e]; simp) rfl
  have hp : partL s low high = some (n, n, 1) := by
    unfold partL
    rw [goC_end 47 s [] h47]
    simp only [List.nil_append, List.headD_cons]
    have hr : rangeL s low high = some (n, n) := by
      unfold rangeL
      rw [if_neg hs, goC_end 45 s [] h45]
      show rangeOf 1 (numberL s low high) (numberL s low high) = _
      rw [h, rangeOf, if_pos ⟨by decide, Nat.le_refl _⟩]
    rw [hr]
  unfold fieldL
  rw [goC_end 44 s [] h44]
  simp only [List.nil_append, List.map_cons, List.map_nil, hp, allSome]
  rfl
/-- Five fields: a first one, and four stars. -/
theorem parse_first {s : List UInt8} {n : Nat} (h : fieldL s 0 59 = some n) (h32 : ∀ c ∈ s, c ≠ 32) (hl : s.length ≤ 100) :
    parseC (s ++ [32, 42, 32, 42, 32, 42, 32, 42]) = some ⟨n, starN 0 23, starN 1 31, starN 1 12, starN 0 6, true, true⟩ := by
  unfold parseC
  rw [if_neg (by simp; omega), goC_mid 32 s [42, 32, 42, 32, 42, 32, 42] [] h32]
  simp [goC, h, field_star]
theorem parse_last {s : List UInt8} {n : Nat} (h : fieldL s 0 6 = some n) (h32 : ∀ c ∈ s, c ≠ 32) (hs : s ≠ [42]) (hl : s.length ≤ 100) :
    parseC ([42, 32, 42, 32, 42, 32, 42, 32] ++ s) = some ⟨starN 0 59, starN 0 23, starN 1 31, starN 1 12, n, true, false⟩ := by
  unfold parseC
  rw [if_neg (by simp; omega)]
  have hg : goC 32 [] ([42, 32, 42, 32, 42, 32, 42, 32] ++ s) = [[42], [42], [42], [42], s] := by
    simp [goC, goC_end 32 s [] h32]
  rw [hg]
  simp [h, field_star, hs]
/-- Five stars. -/
def stars : Crn := ⟨starN 0 59, starN 0 23, starN 1 31, starN 1 12, starN 0 6, true, true⟩
theorem parse_stars : parseC [42, 32, 42, 32, 42, 32, 42, 32, 42] = some stars := parse_first (s := [42]) (field_star 0 59) (by decide) (by decide)
/-- One minute of each hour. -/
def every (m : Nat) : Crn := ⟨oneN 0 59 m, starN 0 23, starN 1 31, starN 1 12, starN 0 6, true, true⟩
theorem parse_every {m : Nat} (h : m < 60) : parseC (Lib.decDigits m ++ [32, 42, 32, 42, 32, 42, 32, 42]) = some (every m) := by
  have hn := number_dec (low := 0) (high := 59) (show m < 100 by omega) (by omega) (by omega)
  refine parse_first (field_num hn) (number_none hn 32 (by decide)) ?_
  unfold numberL at hn
  split at hn
  · rename_i hc
    simp only [Bool.and_eq_true, decide_eq_true_eq] at hc
    omega
  · cases hn
/-- One day of each week. -/
def weekly (d : Nat) : Crn := ⟨starN 0 59, starN 0 23, starN 1 31, starN 1 12, oneN 0 6 d, true, false⟩
theorem parse_weekly {d : Nat} (h : d < 7) : parseC ([42, 32, 42, 32, 42, 32, 42, 32] ++ [UInt8.ofNat (48 + d)]) = some (weekly d) := by
  have hn := number_dec (low := 0) (high := 6) (show d < 100 by omega) (by omega) (by omega)
  rw [dec1 (by omega)] at hn
  exact parse_last (field_num hn) (number_none hn 32 (by decide)) (fun e => number_none hn 42 (by decide) 42 (by rw [e]; simp) rfl) (by simp)
theorem day_stars (t : Nat) : bitB (starN 0 23) (clkAt t).hour = true ∧ bitB (starN 1 12) (clkAt t).month = true ∧ bitB (starN 0 59) (clkAt t).minute = true := by
  have r := (clkAt_is t).right
  have h1 := r.minute
  have h2 := r.hour
  have h3 := r.month1
  have h4 := r.month2
  refine ⟨?_, ?_, ?_⟩ <;> (rw [star_bit, decide_eq_true_eq]; omega)
theorem fires_stars (t : Nat) : firesT stars t = true := by
  obtain ⟨h1, h2, h3⟩ := day_stars t
  unfold firesT firesB dayB stars
  simp only
  rw [h1, h2, h3]; rfl
theorem fires_every {m : Nat} (h : m < 60) (t : Nat) : firesT (every m) t = decide (t % 60 = m) := by
  obtain ⟨h1, h2, -⟩ := day_stars t
  unfold firesT firesB dayB every
  simp only
  rw [h1, h2, one_bit (by omega) (by omega), clkAt_minute]
  simp
theorem fires_weekly {d : Nat} (h : d < 7) (t : Nat) : firesT (weekly d) t = decide ((t / 1440 + 4) % 7 = d) := by
  obtain ⟨h1, h2, h3⟩ := day_stars t
  unfold firesT firesB dayB weekly
  simp only
  rw [h1, h2, h3, one_bit (by omega) (by omega), clkAt_week]
  simp
/-- How many of the first k hold. -/
def cnt (f : Nat → Bool) : Nat → Nat
  | 0 => 0
  | k + 1 => cnt f k + if f k then 1 else 0
theorem cnt_le (f : Nat → Bool) : ∀ k, cnt f k ≤ k
  | 0 => Nat.le_refl _
  | k + 1 => by have := cnt_le f k; unfold cnt; split <;> omega
theorem cnt_zero (f : Nat → Bool) : ∀ k, (∀ i, i < k → f i = false) → cnt f k = 0
  | 0, _ => rfl
  | k + 1, h => by rw [cnt, cnt_zero f k fun i hi => h i (by omega), h k (by omega)]; rfl
theorem cnt_one (f : Nat → Bool) (a : Nat) (ha : f a = true) : ∀ k, a < k → (∀ i, i < k → i ≠ a → f i = false) → cnt f k = 1
  | 0, h, _ => by omega
  | k + 1, h, hf => by
    rw [cnt]
    by_cases e : a = k
    · rw [cnt_zero f k fun i hi => hf i (by omega) (by omega), ← e, ha]; rfl
    · rw [cnt_one f a ha k (by omega) fun i hi hn => hf i (by omega) hn, hf k (by omega) (fun h => e h.symm)]; rfl
theorem cnt_every {m : Nat} (h : m < 60) (t : Nat) : cnt (fun k => firesT (every m) (t + k)) 60 = 1 := by
  refine cnt_one _ ((m + 60 - t % 60) % 60) ?_ 60 (by omega) fun i hi hn => ?_
  · show firesT (every m) _ = true
    rw [fires_every h, decide_eq_true_eq]; omega
  · show firesT (every m) _ = false
    rw [fires_every h, decide_eq_false_iff_not]; omega
theorem cnt_weekly {d : Nat} (h : d < 7) (t : Nat) : cnt (fun k => firesT (weekly d) (t + 1440 * k)) 7 = 1 := by
  have e : ∀ k, (t + 1440 * k) / 1440 = t / 1440 + k := fun k => by omega
  refine cnt_one _ ((d + 14 - (t / 1440 + 4) % 7) % 7) ?_ 7 (by omega) fun i hi hn => ?_
  · show firesT (weekly d) _ = true
    rw [fires_weekly h, decide_eq_true_eq, e]; omega
  · show firesT (weekly d) _ = false
    rw [fires_weekly h, decide_eq_false_iff_not, e]; omega
end Go.Proofs.YtccobaohmbilpaaDoor
