/-
  Times and schedules as plain functions: days of months and years, a time's tick, which bits of a field fire, which text is a schedule's. Conditions: none. It names nothing of the translation.
-/
import Derived.RowKit
namespace Go.Proofs.YtccobaohmbilpaaDoor

/-! ### Days -/
def longY (y : Nat) : Bool := y % 4 == 0 && (y % 100 != 0 || y % 400 == 0)
def daysM (m y : Nat) : Nat := if m = 2 then (if longY y then 29 else 28) else if m = 4 ∨ m = 6 ∨ m = 9 ∨ m = 11 then 30 else 31
/-- The days of a year ahead of a month. -/
def aheadM (y : Nat) : Nat → Nat
  | 0 => 0
  | m + 1 => if m = 0 then 0 else aheadM y m + daysM m y
theorem aheadM_succ (y m : Nat) (h : 1 ≤ m) : aheadM y (m + 1) = aheadM y m + daysM m y := by
  rw [aheadM, if_neg (by omega)]
theorem aheadM_one (y : Nat) : aheadM y 1 = 0 := rfl
theorem daysM_le (m y : Nat) : daysM m y ≤ 31 ∧ 28 ≤ daysM m y := by unfold daysM; constructor <;> (repeat' split) <;> omega
theorem aheadM_mono (y : Nat) : ∀ (k m : Nat), 1 ≤ m → aheadM y m ≤ aheadM y (m + k)
  | 0, _, _ => Nat.le_refl _
  | k + 1, m, h => by
    rw [← Nat.add_assoc, aheadM_succ y (m + k) (by omega)]
    have := aheadM_mono y k m h
    omega
/-- The days of a year. -/
def daysY (y : Nat) : Nat := if longY y then 366 else 365
theorem aheadM_all (y : Nat) : aheadM y 13 = daysY y := by
  unfold daysY
  cases h : longY y <;> simp [aheadM, daysM, h]
/-- All days ahead of a year, from the year 1 on. -/
def aheadY (y : Nat) : Nat := 365 * (y - 1) + (y - 1) / 4 - (y - 1) / 100 + (y - 1) / 400
theorem aheadY_succ (y : Nat) (h : 1 ≤ y) : aheadY (y + 1) = aheadY y + daysY y := by
  obtain ⟨x, rfl⟩ : ∃ x, y = x + 1 := ⟨y - 1, by omega⟩
  have hd : ∀ k : Nat, (x + 1) / k = x / k + if (x + 1) % k = 0 then 1 else 0 := fun k => by
    rw [Nat.succ_div]
    by_cases h : (x + 1) % k = 0
    · rw [if_pos h, if_pos (Nat.dvd_of_mod_eq_zero h)]
    · rw [if_neg h, if_neg (fun e => h (Nat.mod_eq_zero_of_dvd e))]
  unfold aheadY daysY longY
  rw [Nat.add_sub_cancel, Nat.add_sub_cancel, hd 4, hd 100, hd 400]
  have h1 : x / 100 ≤ x / 4 := by omega
  have m1 : (x + 1) % 400 = 0 → (x + 1) % 100 = 0 := by omega
  have m2 : (x + 1) % 100 = 0 → (x + 1) % 4 = 0 := by omega
  generalize x / 4 = p at h1 ⊢
  generalize x / 100 = q at h1 ⊢
  generalize x / 400 = r
  generalize (x + 1) % 4 = a at m2 ⊢
  generalize (x + 1) % 100 = b at m1 m2 ⊢
  generalize (x + 1) % 400 = c at m1 ⊢
  by_cases ha : a = 0
  · by_cases hb : b = 0
    · by_cases hc : c = 0
      · subst ha; subst hb; subst hc; simp; omega
      · subst ha; subst hb; simp [hc]; omega
    · have hc : c ≠ 0 := fun h => hb (m1 h)
      subst ha; simp [hb, hc]; omega
  · have hb : b ≠ 0 := fun h => ha (m2 h)
    have hc : c ≠ 0 := fun h => hb (m1 h)
    simp [ha, hb, hc]; omega
theorem aheadY_mono : ∀ (k y : Nat), 1 ≤ y → aheadY y ≤ aheadY (y + k)
  | 0, _, _ => Nat.le_refl _
  | k + 1, y, h => by
    rw [← Nat.add_assoc, aheadY_succ (y + k) (by omega)]
    have := aheadY_mono k y h
    omega
/-- 400 years have 146097 days. -/
theorem aheadY_cycle (y k : Nat) (h : 1 ≤ y) : aheadY (y + 400 * k) = aheadY y + 146097 * k := by
  unfold aheadY
  obtain ⟨x, rfl⟩ : ∃ x, y = x + 1 := ⟨y - 1, by omega⟩
  rw [show x + 1 + 400 * k - 1 = x + 400 * k by omega, Nat.add_sub_cancel]
  omega
theorem longY_cycle (y k : Nat) : longY (y + 400 * k) = longY y := by
  unfold longY
  rw [show (y + 400 * k) % 4 = y % 4 by omega, show (y + 400 * k) % 100 = y % 100 by omega, show (y + 400 * k) % 400 = y % 400 by omega]

/-! ### Times -/
/-- A time by its parts. -/
structure Clk where
  minute : Nat
  hour : Nat
  day : Nat
  month : Nat
  year : Nat
  week : Nat
/-- Its parts may be. -/
structure Clk.Right (c : Clk) : Prop where
  minute : c.minute < 60
  hour : c.hour < 24
  day1 : 1 ≤ c.day
  day2 : c.day ≤ daysM c.month c.year
  month1 : 1 ≤ c.month
  month2 : c.month ≤ 12
  year : 1970 ≤ c.year
def Clk.days (c : Clk) : Nat := aheadY c.year - aheadY 1970 + aheadM c.year c.month + (c.day - 1)
def Clk.tick (c : Clk) : Nat := 1440 * c.days + 60 * c.hour + c.minute
/-- Of a day there is one date. -/
theorem date_unique {c d : Clk} (hc : c.Right) (hd : d.Right) (h : c.days = d.days) : c.year = d.year ∧ c.month = d.month ∧ c.day = d.day := by
  have within : ∀ x : Clk, x.Right → aheadM x.year x.month + (x.day - 1) < daysY x.year := fun x hx => by
    have h1 := aheadM_mono x.year (12 - x.month) (x.month + 1) (by have := hx.month1; omega)
    rw [show x.month + 1 + (12 - x.month) = 13 by have := hx.month2; omega, aheadM_all, aheadM_succ _ _ hx.month1] at h1
    have := hx.day1
    have := hx.day2
    omega
  have hy0 : ∀ x : Clk, x.Right → aheadY 1970 ≤ aheadY x.year := fun x hx => by
    have := aheadY_mono (x.year - 1970) 1970 (by decide)
    rwa [show 1970 + (x.year - 1970) = x.year by have := hx.year; omega] at this
  have lt : ∀ x z : Clk, x.Right → z.Right → x.year < z.year → x.days < z.days := fun x z hx hz hlt => by
    have h1 := within x hx
    have h2 := aheadY_mono (z.year - (x.year + 1)) (x.year + 1) (by omega)
    rw [show x.year + 1 + (z.year - (x.year + 1)) = z.year by omega, aheadY_succ x.year (by have := hx.year; omega)] at h2
    have h3 := hy0 x hx
    unfold Clk.days
    omega
  have hy : c.year = d.year := by
    rcases Nat.lt_trichotomy c.year d.year with h1 | h1 | h1
    · have := lt c d hc hd h1; omega
    · exact h1
    · have := lt d c hd hc h1; omega
  have lm : ∀ x z : Clk, x.Right → z.Right → x.year = z.year → x.month < z.month → x.days < z.days := fun x z hx hz he hlt => by
    have h1 := aheadM_mono x.year (z.month - (x.month + 1)) (x.month + 1) (by omega)
    rw [show x.month + 1 + (z.month - (x.month + 1)) = z.month by omega, aheadM_succ _ _ hx.month1] at h1
    have := hx.day1
    have := hx.day2
    unfold Clk.days
    rw [← he]
    omega
  have hm : c.month = d.month := by
    rcases Nat.lt_trichotomy c.month d.month with h1 | h1 | h1
    · have := lm c d hc hd hy h1; omega
    · exact h1
    · have := lm d c hd hc hy.symm h1; omega
  refine ⟨hy, hm, ?_⟩
  have := hc.day1
  have := hd.day1
  unfold Clk.days at h
  rw [hy, hm] at h
  omega
/-- Of a tick there is one time. -/
theorem tick_unique {c d : Clk} (hc : c.Right) (hd : d.Right) (h : c.tick = d.tick) : c.year = d.year ∧ c.month = d.month ∧ c.day = d.day ∧ c.hour = d.hour ∧ c.minute = d.minute := by
  have h1 := hc.minute
  have h2 := hc.hour
  have h3 := hd.minute
  have h4 := hd.hour
  unfold Clk.tick at h
  obtain ⟨x, y, z⟩ := date_unique hc hd (by omega)
  exact ⟨x, y, z, by omega, by omega⟩
theorem tick_days {c : Clk} (hc : c.Right) : c.tick / 1440 = c.days := by
  have h1 := hc.minute
  have h2 := hc.hour
  unfold Clk.tick
  omega
/-- The day of the week of a tick. -/
def weekOf (tick : Nat) : Nat := (tick / 1440 + 4) % 7
/-- The time of a tick: it is. -/
structure IsAt (t : Nat) (c : Clk) : Prop where
  right : c.Right
  tick : c.tick = t
  week : c.week = weekOf t
theorem IsAt.one {t : Nat} {c d : Clk} (hc : IsAt t c) (hd : IsAt t d) : c = d := by
  obtain ⟨h1, h2, h3, h4, h5⟩ := tick_unique hc.right hd.right (hc.tick.trans hd.tick.symm)
  have h6 := hc.week.trans hd.week.symm
  cases c; cases d
  simp only [Clk.mk.injEq] at *
  exact ⟨h5, h4, h3, h2, h1, h6⟩
/-- A year is found by counting. -/
theorem year_of (n y : Nat) (hy : 1 ≤ y) (h1 : aheadY y ≤ n) : ∃ z, y ≤ z ∧ aheadY z ≤ n ∧ n < aheadY (z + 1) := by
  have hk : ∃ k, n < aheadY (y + k) := by
    refine ⟨n + 1, ?_⟩
    have grow : ∀ k, aheadY y + 365 * k ≤ aheadY (y + k) := fun k => by
      induction k with
      | zero => exact Nat.le_refl _
      | succ k ih =>
        rw [← Nat.add_assoc, aheadY_succ (y + k) (by omega)]
        have h365 : 365 ≤ daysY (y + k) := by unfold daysY; split <;> decide
        rw [Nat.mul_succ, ← Nat.add_assoc]
        exact Nat.add_le_add ih h365
    have := grow (n + 1)
    omega
  obtain ⟨k, hk⟩ := hk
  induction k with
  | zero => rw [Nat.add_zero] at hk; omega
  | succ k ih =>
    by_cases h : n < aheadY (y + k)
    · exact ih h
    · exact ⟨y + k, by omega, by omega, by rw [Nat.add_assoc]; exact hk⟩
theorem month_of (y n : Nat) (h : n < daysY y) : ∃ m, 1 ≤ m ∧ m ≤ 12 ∧ aheadM y m ≤ n ∧ n < aheadM y (m + 1) := by
  have go : ∀ k, k ≤ 12 → n < aheadM y (k + 1) → ∃ m, 1 ≤ m ∧ m ≤ k ∧ aheadM y m ≤ n ∧ n < aheadM y (m + 1) := fun k => by
    induction k with
    | zero => intro _ h; rw [Nat.zero_add, aheadM_one] at h; omega
    | succ k ih =>
      intro hk h
      by_cases h2 : n < aheadM y (k + 1)
      · obtain ⟨m, a, b, c, d⟩ := ih (by omega) h2
        exact ⟨m, a, by omega, c, d⟩
      · exact ⟨k + 1, by omega, by omega, by omega, h⟩
  exact go 12 (by omega) (by rw [aheadM_all]; exact h)
/-- Each tick has a time. -/
theorem at_exists (t : Nat) : ∃ c, IsAt t c := by
  obtain ⟨y, h1, h2, h3⟩ := year_of (aheadY 1970 + t / 1440) 1970 (by decide) (by omega)
  rw [aheadY_succ y (by omega)] at h3
  obtain ⟨m, h4, h5, h6, h7⟩ := month_of y (aheadY 1970 + t / 1440 - aheadY y) (by omega)
  rw [aheadM_succ y m h4] at h7
  have h8 := aheadY_mono (y - 1970) 1970 (by decide)
  rw [show 1970 + (y - 1970) = y by omega] at h8
  refine ⟨⟨t % 60, t / 60 % 24, aheadY 1970 + t / 1440 - aheadY y - aheadM y m + 1, m, y, weekOf t⟩, ⟨by show t % 60 < 60; omega, by show t / 60 % 24 < 24; omega, by show 1 ≤ _ + 1; omega, by show aheadY 1970 + t / 1440 - aheadY y - aheadM y m + 1 ≤ daysM m y; omega, h4, h5, h1⟩, ?_, rfl⟩
  show 1440 * (aheadY y - aheadY 1970 + aheadM y m + (aheadY 1970 + t / 1440 - aheadY y - aheadM y m + 1 - 1)) + 60 * (t / 60 % 24) + t % 60 = t
  omega

/-! ### Bits -/
def bitB (n k : Nat) : Bool := n / 2 ^ k % 2 == 1
/-- The bits of the values for which f holds, of those below k. -/
def bitsOf (f : Nat → Bool) : Nat → Nat
  | 0 => 0
  | k + 1 => bitsOf f k + (if f k then 2 ^ k else 0)
theorem bitsOf_lt (f : Nat → Bool) : ∀ k, bitsOf f k < 2 ^ k
  | 0 => Nat.zero_lt_one
  | k + 1 => by
    have := bitsOf_lt f k
    unfold bitsOf
    split <;> (rw [Nat.pow_succ]; omega)
theorem bitB_bitsOf (f : Nat → Bool) : ∀ (k i : Nat), bitB (bitsOf f k) i = (decide (i < k) && f i)
  | 0, i => by simp [bitB, bitsOf]
  | k + 1, i => by
    have ih := bitB_bitsOf f k i
    have hlt := bitsOf_lt f k
    unfold bitB at ih ⊢
    unfold bitsOf
    rcases Nat.lt_trichotomy i k with h | h | h
    · have hp : 2 ^ k = 2 ^ i * (2 * 2 ^ (k - i - 1)) := by
        rw [← Nat.pow_succ', ← Nat.pow_add]; congr 1; omega
      have e : (bitsOf f k + (if f k then 2 ^ k else 0)) / 2 ^ i % 2 = bitsOf f k / 2 ^ i % 2 := by
        split
        · rw [hp, Nat.add_mul_div_left _ _ (Nat.two_pow_pos i)]; omega
        · rfl
      rw [e, ih, decide_eq_true h, decide_eq_true (show i < k + 1 by omega)]
    · subst h
      have e : bitsOf f i / 2 ^ i = 0 := Nat.div_eq_of_lt hlt
      cases hf : f i with
      | true =>
        have e2 : (bitsOf f i + 2 ^ i) / 2 ^ i = 1 := by rw [Nat.add_div_right _ (Nat.two_pow_pos i), e]
        simp [e2]
      | false => simp [e]
    · have h2 : bitsOf f k + (if f k then 2 ^ k else 0) < 2 ^ i := by
        have := bitsOf_lt f (k + 1)
        unfold bitsOf at this
        exact Nat.lt_of_lt_of_le this (Nat.pow_le_pow_right (by decide) (by omega))
      rw [Nat.div_eq_of_lt h2, decide_eq_false (show ¬ i < k + 1 by omega)]
      rfl
theorem bitsOf_congr {f g : Nat → Bool} : ∀ k, (∀ i, i < k → f i = g i) → bitsOf f k = bitsOf g k
  | 0, _ => rfl
  | k + 1, h => by
    unfold bitsOf
    rw [bitsOf_congr k fun i hi => h i (by omega), h k (by omega)]

/-! ### Texts of schedules -/
/-- A text's pieces between bytes of one kind; 'now' is what the piece has. -/
def goC (b : UInt8) : List UInt8 → List UInt8 → List (List UInt8)
  | now, [] => [now]
  | now, c :: l => if c = b then now :: goC b [] l else goC b (now ++ [c]) l
theorem goC_ne (b : UInt8) : ∀ (l now : List UInt8), goC b now l ≠ []
  | [], _ => by simp [goC]
  | c :: l, now => by unfold goC; split <;> simp [goC_ne b l]
/-- What digits say. -/
def digitB (c : UInt8) : Bool := decide (48 ≤ c.toNat ∧ c.toNat ≤ 57)
def numV (l : List UInt8) : Nat := l.foldl (fun n c => 10 * n + (c.toNat - 48)) 0
/-- A number of one or two digits, within bounds. -/
def numberL (l : List UInt8) (low high : Nat) : Option Nat :=
  if l.all digitB && decide (1 ≤ l.length) && decide (l.length ≤ 2) && !(l.length == 2 && decide (numV l < 10)) && decide (low ≤ numV l) && decide (numV l ≤ high) then some (numV l) else none
def numI (l : List UInt8) (low high : Nat) : Int := match numberL l low high with | some n => (n : Int) | none => -1
theorem numberL_le {l : List UInt8} {low high n : Nat} (h : numberL l low high = some n) : low ≤ n ∧ n ≤ high := by
  unfold numberL at h
  split at h
  · rename_i hc
    simp only [Bool.and_eq_true, decide_eq_true_eq] at hc
    obtain rfl := Option.some.inj h
    exact ⟨hc.1.2, hc.2⟩
  · cases h
def rangeOf (n : Nat) : Option Nat → Option Nat → Option (Nat × Nat)
  | some a, some b => if n ≤ 2 ∧ a ≤ b then some (a, b) else none
  | _, _ => none
/-- From where to where a part goes. -/
def rangeL (h : List UInt8) (low high : Nat) : Option (Nat × Nat) :=
  if h = [42] then some (low, high) else
  rangeOf (goC 45 [] h).length (numberL ((goC 45 [] h).headD []) low high) (numberL ((goC 45 [] h).getLastD []) low high)
/-- A part: from where, to where, which step. -/
def partL (s : List UInt8) (low high : Nat) : Option (Nat × Nat × Nat) :=
  match rangeL ((goC 47 [] s).headD []) low high with
  | none => none
  | some (a, b) =>
    match goC 47 [] s with
    | [_] => some (a, b, 1)
    | [h, t] => match numberL t 1 59 with
      | some k => if h = [42] ∨ (goC 45 [] h).length ≠ 1 then some (a, b, k) else none
      | none => none
    | _ => none
def hitP (p : Nat × Nat × Nat) (v : Nat) : Bool := decide (p.1 ≤ v) && decide (v ≤ p.2.1) && (v - p.1) % p.2.2 == 0
/-- All that are there, if none lacks. -/
def allSome {α : Type} : List (Option α) → Option (List α)
  | [] => some []
  | none :: _ => none
  | some a :: l => match allSome l with | some r => some (a :: r) | none => none
/-- Which values of a field fire. -/
def fieldL (s : List UInt8) (low high : Nat) : Option Nat :=
  match allSome ((goC 44 [] s).map fun x => partL x low high) with
  | some ps => some (bitsOf (fun v => decide (low ≤ v) && ps.any fun p => hitP p v) (high + 1))
  | none => none
/-- Which values of each field fire. -/
structure Crn where
  minutes : Nat
  hours : Nat
  days : Nat
  months : Nat
  week : Nat
  anyDay : Bool
  anyWeek : Bool
/-- Its day fires at a time. -/
def dayB (c : Crn) (t : Clk) : Bool :=
  if c.anyWeek then (if c.anyDay then true else bitB c.days t.day) else if c.anyDay then bitB c.week t.week else (bitB c.days t.day || bitB c.week t.week)
def noCrn : Crn := ⟨0, 0, 0, 0, 0, false, false⟩
/-- Which schedule a text is. -/
def parseC (s : List UInt8) : Option Crn :=
  if 200 < s.length then none else
  match goC 32 [] s with
  | [a, b, c, d, e] => match fieldL a 0 59, fieldL b 0 23, fieldL c 1 31, fieldL d 1 12, fieldL e 0 6 with
    | some m, some h, some x, some o, some w => some ⟨m, h, x, o, w, decide (c = [42]), decide (e = [42])⟩
    | _, _, _, _, _ => none
  | _ => none
def firesB (c : Crn) (t : Clk) : Bool := bitB c.minutes t.minute && bitB c.hours t.hour && bitB c.months t.month && dayB c t
end Go.Proofs.YtccobaohmbilpaaDoor
