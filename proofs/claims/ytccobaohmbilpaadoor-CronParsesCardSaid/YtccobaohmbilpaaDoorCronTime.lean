/-
  A tick's time as the program finds it: by cycles, hundreds, fours and ones of years, then by months; it is the tick's. Conditions: none. It names nothing of the translation.
-/
import Derived.Test.YtccobaohmbilpaaDoorCronPlain
namespace Go.Proofs.YtccobaohmbilpaaDoor

/-- The year of a day, and what is left of it. -/
theorem year_is {d q r h r1 f r2 o b : Nat} (e1 : d = 146097 * q + r) (b1 : r < 146097) (e2 : r = 36524 * h + r1) (b2 : h < 3 ∧ r1 < 36524 ∨ h = 3)
    (e3 : r1 = 1461 * f + r2) (b3 : r2 < 1461) (e4 : r2 = 365 * o + b) (b4 : o < 3 ∧ b < 365 ∨ o = 3) :
    aheadY (1601 + 400 * q + 100 * h + 4 * f + o) + b = 584388 + d ∧ b < daysY (1601 + 400 * q + 100 * h + 4 * f + o) := by
  have hf : f ≤ 24 := by omega
  have ho : o ≤ 3 := by omega
  have hh : h ≤ 3 := by omega
  obtain ⟨y, hy⟩ : ∃ y, 1601 + 400 * q + 100 * h + 4 * f + o = y + 1 := ⟨1600 + 400 * q + 100 * h + 4 * f + o, by omega⟩
  rw [hy]
  have d4 : y / 4 = 400 + 100 * q + 25 * h + f := by omega
  have d100 : y / 100 = 16 + 4 * q + h := by omega
  have d400 : y / 400 = 4 + q := by omega
  constructor
  · unfold aheadY
    rw [Nat.add_sub_cancel, d4, d100, d400]
    omega
  · have hb : b ≤ 365 := by omega
    unfold daysY
    by_cases h365 : b = 365
    · have ho3 : o = 3 := by omega
      have hl : longY (y + 1) = true := by
        unfold longY
        have m4 : (y + 1) % 4 = 0 := by omega
        rw [m4]
        by_cases hf24 : f = 24
        · have hh3 : h = 3 := by omega
          have m400 : (y + 1) % 400 = 0 := by omega
          rw [m400]; simp
        · have m100 : (y + 1) % 100 ≠ 0 := by omega
          simp [m100]
      rw [hl, if_pos rfl]; omega
    · have : b < 365 := by omega
      split <;> omega

/-- The months ahead of a day, counted. -/
theorem at_is {t date mi Y b m : Nat} (hd : t / 1440 = date) (hm : t % 1440 = mi) (hy : aheadY Y + b = 584388 + (date + 134774)) (hY : 1601 ≤ Y) (hb : b < daysY Y) (h1 : 1 ≤ m) (h2 : m ≤ 12) (h3 : aheadM Y m ≤ b) (h4 : b - aheadM Y m < daysM m Y) :
    IsAt t ⟨mi % 60, mi / 60, b - aheadM Y m + 1, m, Y, (date + 4) % 7⟩ := by
  have h70 : aheadY 1970 = 719162 := rfl
  have hge : 1970 ≤ Y := by
    by_cases h : 1970 ≤ Y
    · exact h
    · have := aheadY_mono (1970 - (Y + 1)) (Y + 1) (by omega)
      rw [show Y + 1 + (1970 - (Y + 1)) = 1970 by omega, aheadY_succ Y (by omega), h70] at this
      omega
  refine ⟨⟨by show mi % 60 < 60; omega, by show mi / 60 < 24; omega, by show 1 ≤ _ + 1; omega, by show b - aheadM Y m + 1 ≤ daysM m Y; omega, h1, h2, hge⟩, ?_, ?_⟩
  · show 1440 * (aheadY Y - aheadY 1970 + aheadM Y m + (b - aheadM Y m + 1 - 1)) + 60 * (mi / 60) + mi % 60 = t
    have hg := aheadY_mono (Y - 1970) 1970 (by decide)
    rw [show 1970 + (Y - 1970) = Y by omega] at hg
    omega
  · show (date + 4) % 7 = (t / 1440 + 4) % 7
    rw [hd]
/-- A month's days, by the table. -/
def monthT : List Nat := [0, 31, 28, 31, 30, 31, 30, 31, 31, 30, 31, 30, 31]
theorem monthT_is : ∀ m, m ≤ 12 → 1 ≤ m → ∀ y, daysM m y = if m = 2 ∧ longY y = true then monthT.getD m 0 + 1 else monthT.getD m 0 := by
  intro m hm hm1 y
  have hc : m = 1 ∨ m = 2 ∨ m = 3 ∨ m = 4 ∨ m = 5 ∨ m = 6 ∨ m = 7 ∨ m = 8 ∨ m = 9 ∨ m = 10 ∨ m = 11 ∨ m = 12 := by omega
  unfold daysM
  rcases hc with rfl | rfl | rfl | rfl | rfl | rfl | rfl | rfl | rfl | rfl | rfl | rfl <;> cases longY y <;> rfl
end Go.Proofs.YtccobaohmbilpaaDoor
