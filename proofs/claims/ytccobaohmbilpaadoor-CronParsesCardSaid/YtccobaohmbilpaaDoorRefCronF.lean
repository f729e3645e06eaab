/-
  The document's own firing of a schedule at a time, by contracts. Conditions: bits of 64, a time whose parts are at most 1000.
-/
import Derived.Test.YtccobaohmbilpaaDoorRefCronT
namespace Go.Proofs.YtccobaohmbilpaaDoor
open Go.RowKit

set_option maxRecDepth 100000 in
theorem refSet_t (b n : Nat) (w : World) (hb : b < 18446744073709551616) (hn : n ≤ 1000) :
    Calls Tryd.prog 26 #[.int .u64 b, .int .i64 n] w fun e w' => e = .returned (.bool (bitB b n)) ∧ w = w' := by
  have HO := Lib.hid (show bitB b n = (b / 2 ^ n % 2 == 1) from rfl)
  have HX := Lib.hid (show ∀ i, b / 2 ^ (i + 1) = b / 2 ^ i / 2 ∧ b / 2 ^ i < 18446744073709551616 from fun i => ⟨by rw [Nat.pow_succ, Nat.div_div_eq_div_mul], Nat.lt_of_le_of_lt (Nat.div_le_self _ _) hb⟩)
  have H0 := Lib.hid (show b / 2 ^ 0 = b from by simp)
  go_enter Tryd.func26, Tryd.ntmps26
  go_wp2_with fail
  go_loop [0, 5] (fun xv iv => ∃ (i x : Nat), i ≤ n ∧ xv = .int .u64 x ∧ iv = .int .i64 i ∧ b / 2 ^ i = x) (fun _ i => n - (intOf i).toNat)
  case atStart => exact ⟨0, b, Nat.zero_le _, rfl, rfl, H0.out⟩
  case round =>
    obtain ⟨i, x, hi, rfl, rfl, hx⟩ := hrel
    have hs := HX.out i
    rw [hx] at hs
    have hxl := hs.2
    have HN := Lib.hid hs.1
    have HXI := Lib.hid hx
    clear hs hx
    by_cases hlt : i < n
    · have e2 : (x : Int) / 2 = ((x / 2 : Nat) : Int) := by omega
      obtain ⟨y, hy⟩ : ∃ y, x / 2 = y := ⟨_, rfl⟩
      rw [hy] at e2 HN
      have hyl : y < 18446744073709551616 := by omega
      clear hy
      go_wp2_with fail
      go_round
      case rel => exact ⟨i + 1, y, by omega, rfl, by go_num, HN.out⟩
      case measure => simp [intOf]; omega
    · obtain rfl : i = n := by omega
      obtain ⟨r, hr⟩ : ∃ r, x % 2 = r := ⟨_, rfl⟩
      have e2 : (x : Int) % 2 = (r : Int) := by omega
      have hr2 : r < 2 := by omega
      have HR := Lib.hid (show bitB b i = ((r : Int) == 1) from by
        rw [HO.out, HXI.out, hr, Bool.eq_iff_iff, beq_iff_eq, beq_iff_eq]; omega)
      clear hr
      go_wp2_with fail
      go_ret
      exact ⟨by rw [HR.out]; rfl, rfl⟩

/-- A schedule as a value. -/
def crnV (c : Crn) : Value := .agg #[.int .u64 c.minutes, .int .u64 c.hours, .int .u64 c.days, .int .u64 c.months, .int .u64 c.week, .bool c.anyDay, .bool c.anyWeek]
structure Crn.Bits (c : Crn) : Prop where
  minutes : c.minutes < 18446744073709551616
  hours : c.hours < 18446744073709551616
  days : c.days < 18446744073709551616
  months : c.months < 18446744073709551616
  week : c.week < 18446744073709551616
structure Clk.Small (c : Clk) : Prop where
  minute : c.minute ≤ 1000
  hour : c.hour ≤ 1000
  day : c.day ≤ 1000
  month : c.month ≤ 1000
  week : c.week ≤ 1000

set_option maxRecDepth 100000 in
set_option maxHeartbeats 4000000 in
theorem refFires_t (c : Crn) (t : Clk) (w : World) (hc : c.Bits) (ht : t.Small) :
    Calls Tryd.prog 17 #[crnV c, clkV t] w fun e w' => e = .returned (.bool (firesB c t)) ∧ Below w.heap.size w w' := by
  have SD := Lib.hid (fun w1 => refSet_t c.days t.day w1 hc.days ht.day)
  have SW := Lib.hid (fun w1 => refSet_t c.week t.week w1 hc.week ht.week)
  have SM := Lib.hid (fun w1 => refSet_t c.minutes t.minute w1 hc.minutes ht.minute)
  have SH := Lib.hid (fun w1 => refSet_t c.hours t.hour w1 hc.hours ht.hour)
  have SO := Lib.hid (fun w1 => refSet_t c.months t.month w1 hc.months ht.month)
  have HB := Lib.hid (Below.then (below_new w (.cells #[.int .u64 c.minutes, .int .u64 c.hours, .int .u64 c.days, .int .u64 c.months, .int .u64 c.week, .bool c.anyDay, .bool c.anyWeek] 24)) (below_new _ (.cells #[.int .i64 t.minute, .int .i64 t.hour, .int .i64 t.day, .int .i64 t.month, .int .i64 t.year, .int .i64 t.week] 33)))
  have HO := Lib.hid (show firesB c t = (bitB c.minutes t.minute && bitB c.hours t.hour && bitB c.months t.month && (if c.anyWeek then (if c.anyDay then true else bitB c.days t.day) else if c.anyDay then bitB c.week t.week else (bitB c.days t.day || bitB c.week t.week))) from rfl)
  obtain ⟨bd, hbd⟩ : ∃ b, bitB c.days t.day = b := ⟨_, rfl⟩
  obtain ⟨bw, hbw⟩ : ∃ b, bitB c.week t.week = b := ⟨_, rfl⟩
  obtain ⟨bm, hbm⟩ : ∃ b, bitB c.minutes t.minute = b := ⟨_, rfl⟩
  obtain ⟨bh, hbh⟩ : ∃ b, bitB c.hours t.hour = b := ⟨_, rfl⟩
  obtain ⟨bo, hbo⟩ : ∃ b, bitB c.months t.month = b := ⟨_, rfl⟩
  rw [hbd] at SD HO
  rw [hbw] at SW HO
  rw [hbm] at SM HO
  rw [hbh] at SH HO
  rw [hbo] at SO HO
  clear hbd hbw hbm hbh hbo hc ht
  obtain ⟨c1, c2, c3, c4, c5, ad, aw⟩ := c
  obtain ⟨t1, t2, t3, t4, t5, t6⟩ := t
  simp only at SD SW SM SH SO HB HO ⊢
  unfold crnV clkV
  go_enter Tryd.func17, Tryd.ntmps17
  go_wp2_with fail
  refine (SD.out _).mono ?_
  rintro e w1 ⟨rfl, hw1⟩
  subst hw1
  go_wp2_with fail
  refine (SW.out _).mono ?_
  rintro e w1 ⟨rfl, hw1⟩
  subst hw1
  cases bd with
  | false =>
    cases ad with
    | false =>
      cases aw with
      | false =>
        go_wp2_with fail
        refine (SM.out _).mono ?_
        rintro e w1 ⟨rfl, hw1⟩
        subst hw1
        cases bm with
        | false =>
          go_wp2_with fail
          go_ret
          exact ⟨by rw [HO.out]; rfl, HB.out⟩
        | true =>
          go_wp2_with fail
          refine (SH.out _).mono ?_
          rintro e w1 ⟨rfl, hw1⟩
          subst hw1
          cases bh with
          | false =>
            go_wp2_with fail
            go_ret
            exact ⟨by rw [HO.out]; rfl, HB.out⟩
          | true =>
            go_wp2_with fail
            refine (SO.out _).mono ?_
            rintro e w1 ⟨rfl, hw1⟩
            subst hw1
            cases bo with
            | false =>
              go_wp2_with fail
              go_ret
              exact ⟨by rw [HO.out]; rfl, HB.out⟩
            | true =>
              cases bw with
              | false =>
                go_wp2_with fail
                go_ret
                exact ⟨by rw [HO.out]; rfl, HB.out⟩
              | true =>
                go_wp2_with fail
                go_ret
                exact ⟨by rw [HO.out]; rfl, HB.out⟩
      | true =>
        go_wp2_with fail
        refine (SM.out _).mono ?_
        rintro e w1 ⟨rfl, hw1⟩
        subst hw1
        cases bm with
        | false =>
          go_wp2_with fail
          go_ret
          exact ⟨by rw [HO.out]; rfl, HB.out⟩
        | true =>
          go_wp2_with fail
          refine (SH.out _).mono ?_
          rintro e w1 ⟨rfl, hw1⟩
          subst hw1
          cases bh with
          | false =>
            go_wp2_with fail
            go_ret
            exact ⟨by rw [HO.out]; rfl, HB.out⟩
          | true =>
            go_wp2_with fail
            refine (SO.out _).mono ?_
            rintro e w1 ⟨rfl, hw1⟩
            subst hw1
            cases bo with
            | false =>
              go_wp2_with fail
              go_ret
              exact ⟨by rw [HO.out]; rfl, HB.out⟩
            | true =>
              cases bw with
              | false =>
                go_wp2_with fail
                go_ret
                exact ⟨by rw [HO.out]; rfl, HB.out⟩
              | true =>
                go_wp2_with fail
                go_ret
                exact ⟨by rw [HO.out]; rfl, HB.out⟩
    | true =>
      cases aw with
      | false =>
        go_wp2_with fail
        refine (SM.out _).mono ?_
        rintro e w1 ⟨rfl, hw1⟩
        subst hw1
        cases bm with
        | false =>
          go_wp2_with fail
          go_ret
          exact ⟨by rw [HO.out]; rfl, HB.out⟩
        | true =>
          go_wp2_with fail
          refine (SH.out _).mono ?_
          rintro e w1 ⟨rfl, hw1⟩
          subst hw1
          cases bh with
          | false =>
            go_wp2_with fail
            go_ret
            exact ⟨by rw [HO.out]; rfl, HB.out⟩
          | true =>
            go_wp2_with fail
            refine (SO.out _).mono ?_
            rintro e w1 ⟨rfl, hw1⟩
            subst hw1
            cases bo with
            | false =>
              go_wp2_with fail
              go_ret
              exact ⟨by rw [HO.out]; rfl, HB.out⟩
            | true =>
              cases bw with
              | false =>
                go_wp2_with fail
                go_ret
                exact ⟨by rw [HO.out]; rfl, HB.out⟩
              | true =>
                go_wp2_with fail
                go_ret
                exact ⟨by rw [HO.out]; rfl, HB.out⟩
      | true =>
        go_wp2_with fail
        refine (SM.out _).mono ?_
        rintro e w1 ⟨rfl, hw1⟩
        subst hw1
        cases bm with
        | false =>
          go_wp2_with fail
          go_ret
          exact ⟨by rw [HO.out]; rfl, HB.out⟩
        | true =>
          go_wp2_with fail
          refine (SH.out _).mono ?_
          rintro e w1 ⟨rfl, hw1⟩
          subst hw1
          cases bh with
          | false =>
            go_wp2_with fail
            go_ret
            exact ⟨by rw [HO.out]; rfl, HB.out⟩
          | true =>
            go_wp2_with fail
            refine (SO.out _).mono ?_
            rintro e w1 ⟨rfl, hw1⟩
            subst hw1
            cases bo with
            | false =>
              go_wp2_with fail
              go_ret
              exact ⟨by rw [HO.out]; rfl, HB.out⟩
            | true =>
              cases bw with
              | false =>
                go_wp2_with fail
                go_ret
                exact ⟨by rw [HO.out]; rfl, HB.out⟩
              | true =>
                go_wp2_with fail
                go_ret
                exact ⟨by rw [HO.out]; rfl, HB.out⟩
  | true =>
    cases ad with
    | false =>
      cases aw with
      | false =>
        go_wp2_with fail
        refine (SM.out _).mono ?_
        rintro e w1 ⟨rfl, hw1⟩
        subst hw1
        cases bm with
        | false =>
          go_wp2_with fail
          go_ret
          exact ⟨by rw [HO.out]; rfl, HB.out⟩
        | true =>
          go_wp2_with fail
          refine (SH.out _).mono ?_
          rintro e w1 ⟨rfl, hw1⟩
          subst hw1
          cases bh with
          | false =>
            go_wp2_with fail
            go_ret
            exact ⟨by rw [HO.out]; rfl, HB.out⟩
          | true =>
            go_wp2_with fail
            refine (SO.out _).mono ?_
            rintro e w1 ⟨rfl, hw1⟩
            subst hw1
            cases bo with
            | false =>
              go_wp2_with fail
              go_ret
              exact ⟨by rw [HO.out]; rfl, HB.out⟩
            | true =>
              cases bw with
              | false =>
                go_wp2_with fail
                go_ret
                exact ⟨by rw [HO.out]; rfl, HB.out⟩
              | true =>
                go_wp2_with fail
                go_ret
                exact ⟨by rw [HO.out]; rfl, HB.out⟩
      | true =>
        go_wp2_with fail
        refine (SM.out _).mono ?_
        rintro e w1 ⟨rfl, hw1⟩
        subst hw1
        cases bm with
        | false =>
          go_wp2_with fail
          go_ret
          exact ⟨by rw [HO.out]; rfl, HB.out⟩
        | true =>
          go_wp2_with fail
          refine (SH.out _).mono ?_
          rintro e w1 ⟨rfl, hw1⟩
          subst hw1
          cases bh with
          | false =>
            go_wp2_with fail
            go_ret
            exact ⟨by rw [HO.out]; rfl, HB.out⟩
          | true =>
            go_wp2_with fail
            refine (SO.out _).mono ?_
            rintro e w1 ⟨rfl, hw1⟩
            subst hw1
            cases bo with
            | false =>
              go_wp2_with fail
              go_ret
              exact ⟨by rw [HO.out]; rfl, HB.out⟩
            | true =>
              cases bw with
              | false =>
                go_wp2_with fail
                go_ret
                exact ⟨by rw [HO.out]; rfl, HB.out⟩
              | true =>
                go_wp2_with fail
                go_ret
                exact ⟨by rw [HO.out]; rfl, HB.out⟩
    | true =>
      cases aw with
      | false =>
        go_wp2_with fail
        refine (SM.out _).mono ?_
        rintro e w1 ⟨rfl, hw1⟩
        subst hw1
        cases bm with
        | false =>
          go_wp2_with fail
          go_ret
          exact ⟨by rw [HO.out]; rfl, HB.out⟩
        | true =>
          go_wp2_with fail
          refine (SH.out _).mono ?_
          rintro e w1 ⟨rfl, hw1⟩
          subst hw1
          cases bh with
          | false =>
            go_wp2_with fail
            go_ret
            exact ⟨by rw [HO.out]; rfl, HB.out⟩
          | true =>
            go_wp2_with fail
            refine (SO.out _).mono ?_
            rintro e w1 ⟨rfl, hw1⟩
            subst hw1
            cases bo with
            | false =>
              go_wp2_with fail
              go_ret
              exact ⟨by rw [HO.out]; rfl, HB.out⟩
            | true =>
              cases bw with
              | false =>
                go_wp2_with fail
                go_ret
                exact ⟨by rw [HO.out]; rfl, HB.out⟩
              | true =>
                go_wp2_with fail
                go_ret
                exact ⟨by rw [HO.out]; rfl, HB.out⟩
      | true =>
        go_wp2_with fail
        refine (SM.out _).mono ?_
        rintro e w1 ⟨rfl, hw1⟩
        subst hw1
        cases bm with
        | false =>
          go_wp2_with fail
          go_ret
          exact ⟨by rw [HO.out]; rfl, HB.out⟩
        | true =>
          go_wp2_with fail
          refine (SH.out _).mono ?_
          rintro e w1 ⟨rfl, hw1⟩
          subst hw1
          cases bh with
          | false =>
            go_wp2_with fail
            go_ret
            exact ⟨by rw [HO.out]; rfl, HB.out⟩
          | true =>
            go_wp2_with fail
            refine (SO.out _).mono ?_
            rintro e w1 ⟨rfl, hw1⟩
            subst hw1
            cases bo with
            | false =>
              go_wp2_with fail
              go_ret
              exact ⟨by rw [HO.out]; rfl, HB.out⟩
            | true =>
              cases bw with
              | false =>
                go_wp2_with fail
                go_ret
                exact ⟨by rw [HO.out]; rfl, HB.out⟩
              | true =>
                go_wp2_with fail
                go_ret
                exact ⟨by rw [HO.out]; rfl, HB.out⟩
end Go.Proofs.YtccobaohmbilpaaDoor
