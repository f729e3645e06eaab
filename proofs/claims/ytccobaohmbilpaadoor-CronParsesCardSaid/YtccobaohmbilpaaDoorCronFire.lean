/-
  The program's bits, a tick's time and whether a schedule fires, by contracts. Conditions: the table of the months lies where it lies.
-/
import Derived.Test.YtccobaohmbilpaaDoorCronClock
import Derived.Test.YtccobaohmbilpaaDoorCronLaws
import Derived.Laws.BitsAllLaws
import Derived.BigQuiet
namespace Go.Proofs.YtccobaohmbilpaaDoor
open Go.RowKit

theorem pow_lt {n : Nat} (hn : n < 64) : 2 ^ n < 18446744073709551616 := by
  have : (2 : Nat) ^ n ≤ 2 ^ 63 := Nat.pow_le_pow_right (by decide) (by omega)
  have e : (2 : Nat) ^ 63 = 9223372036854775808 := by decide
  omega
set_option maxRecDepth 100000 in
theorem bit_t (n : Nat) (w : World) (hn : n < 64) :
    Calls Tryd.prog 40 #[.int .i64 n] w fun e w' => e = .returned (.int .u64 (2 ^ n : Nat)) ∧ w = w' := by
  go_enter Tryd.func40, Tryd.ntmps40
  go_wp2_with fail
  go_ret
  refine ⟨?_, rfl⟩
  have hp := pow_lt hn
  have hq : IntKind.u64.wrap (2 ^ n) = ((2 ^ n : Nat) : Int) := by
    have e : ((2 ^ n : Nat) : Int) = (2 : Int) ^ n := by rw [Int.natCast_pow]; rfl
    rw [IntKind.wrap_u64, ← e]
    clear e
    generalize 2 ^ n = p at hp ⊢
    omega
  show Ending.returned (.int .u64 (IntKind.u64.wrap (2 ^ n))) = _
  rw [hq]

set_option maxRecDepth 100000 in
theorem has_t (s n : Nat) (w : World) (hs : s < 18446744073709551616) (hn : n < 64) :
    Calls Tryd.prog 32 #[.int .u64 s, .int .i64 n] w fun e w' => e = .returned (.bool (bitB s n)) ∧ w = w' := by
  have B := Lib.hid (bit_t n w hn)
  have hp0 : 0 < 2 ^ n := Nat.two_pow_pos n
  have HA := Lib.hid (u64_and_nat s (2 ^ n) hs (pow_lt hn))
  have HO := Lib.hid (show bitB s n = (((s &&& 2 ^ n : Nat) : Int) != 0) from by
    rw [nat_bit]
    unfold bitB
    rw [Bool.eq_iff_iff, beq_iff_eq, bne_iff_ne]
    have : s / 2 ^ n % 2 = 0 ∨ s / 2 ^ n % 2 = 1 := by omega
    have hp1 := Nat.two_pow_pos n
    generalize 2 ^ n = p at this hp1 ⊢
    rcases this with h | h
    · rw [h, Nat.zero_mul]; simp
    · rw [h, Nat.one_mul]; exact ⟨fun _ => by omega, fun _ => rfl⟩)
  obtain ⟨p, hp⟩ : ∃ p, 2 ^ n = p := ⟨_, rfl⟩
  rw [hp] at B HA HO
  clear hp hp0
  go_enter Tryd.func32, Tryd.ntmps32
  go_wp2_with fail
  refine B.out.mono ?_
  rintro e w1 ⟨rfl, hw1⟩
  subst hw1
  go_wp2_with fail
  go_ret
  refine ⟨?_, rfl⟩
  show Ending.returned (.bool (bits BinOp.and IntKind.u64 (s : Int) (p : Int) != 0)) = _
  rw [HA.out, ← HO.out]

/-- Seven cells lie at block B: a schedule. -/
def Crn7 (w : World) (B : Nat) (c : Crn) : Prop := w.heap[B]? = some (.cells #[.int .u64 c.minutes, .int .u64 c.hours, .int .u64 c.days, .int .u64 c.months, .int .u64 c.week, .bool c.anyDay, .bool c.anyWeek] 24 (0, 0))
theorem Crn7.keep {w w' : World} {B : Nat} {c : Crn} (h : Crn7 w B c) (hb : Below w.heap.size w w') : Crn7 w' B c := (hb.block B (Array.getElem?_eq_some_iff.1 h).1).trans h
theorem Crn7.cells {w : World} {B : Nat} {c : Crn} (h : Crn7 w B c) : w.cell? ⟨B, 0, none⟩ = some (.int .u64 c.minutes) ∧ w.cell? ⟨B, 1, none⟩ = some (.int .u64 c.hours) ∧ w.cell? ⟨B, 2, none⟩ = some (.int .u64 c.days) ∧ w.cell? ⟨B, 3, none⟩ = some (.int .u64 c.months) ∧ w.cell? ⟨B, 4, none⟩ = some (.int .u64 c.week) ∧ w.cell? ⟨B, 5, none⟩ = some (.bool c.anyDay) ∧ w.cell? ⟨B, 6, none⟩ = some (.bool c.anyWeek) := by
  unfold Crn7 at h
  simp [World.cell?, h]
theorem Crn7.new (w : World) (c : Crn) : Crn7 (w.alloc (.cells #[.int .u64 c.minutes, .int .u64 c.hours, .int .u64 c.days, .int .u64 c.months, .int .u64 c.week, .bool c.anyDay, .bool c.anyWeek] 24)) w.heap.size c := heap_alloc_new w _
/-- The parts of a time are below 64, but the year. -/
structure Clk.Lt (c : Clk) : Prop where
  minute : c.minute < 64
  hour : c.hour < 64
  day : c.day < 64
  month : c.month < 64
  week : c.week < 64
theorem clkAt_lt (t : Nat) : (clkAt t).Lt := by
  have r := (clkAt_is t).right
  have h1 := r.minute
  have h2 := r.hour
  have h3 := clkAt_day t
  have h4 := r.month2
  have h5 := clkAt_week t
  exact ⟨by omega, by omega, by omega, by omega, by omega⟩

set_option maxRecDepth 100000 in
set_option maxHeartbeats 4000000 in
theorem firesOn_t (c : Crn) (t : Clk) (w : World) (hc : c.Bits) (ht : t.Lt) :
    Calls Tryd.prog 33 #[crnV c, clkV t] w fun e w' => e = .returned (.bool (dayB c t)) ∧ Below w.heap.size w w' := by
  have G := Lib.hid (fun (s n : Nat) (w1 : World) (hs : s < 18446744073709551616) (hn : n < 64) => has_t s n w1 hs hn)
  have HB := Lib.hid (Below.then (below_new w (.cells #[.int .u64 c.minutes, .int .u64 c.hours, .int .u64 c.days, .int .u64 c.months, .int .u64 c.week, .bool c.anyDay, .bool c.anyWeek] 24)) (below_new _ (.cells #[.int .i64 t.minute, .int .i64 t.hour, .int .i64 t.day, .int .i64 t.month, .int .i64 t.year, .int .i64 t.week] 33)))
  have HO := Lib.hid (show dayB c t = (if c.anyWeek then (if c.anyDay then true else bitB c.days t.day) else if c.anyDay then bitB c.week t.week else (bitB c.days t.day || bitB c.week t.week)) from rfl)
  have b1 := hc.days
  have b2 := hc.week
  have b3 := ht.day
  have b4 := ht.week
  clear hc ht
  obtain ⟨c1, c2, c3, c4, c5, ad, aw⟩ := c
  obtain ⟨t1, t2, t3, t4, t5, t6⟩ := t
  simp only at b1 b2 b3 b4 HB HO ⊢
  unfold crnV clkV
  cases ad <;> cases aw <;> cases hbd : bitB c3 t3 <;> cases hbw : bitB c5 t6
  all_goals
    rw [hbd, hbw] at HO
    go_enter Tryd.func33, Tryd.ntmps33
    go_wp2_with fail
    go_quiet ((go_at_call 32; exact Calls.quiet_of_same ((G.out _ _ _ (by assumption) (by assumption)).mono fun _ _ ⟨h1, h2⟩ => ⟨h1, h2.symm⟩)))
    go_wp2_with fail
    go_ret
    exact ⟨by rw [HO.out]; first | rfl | (show Ending.returned (.bool (bitB c3 t3)) = _; rw [hbd]; rfl) | (show Ending.returned (.bool (bitB c5 t6)) = _; rw [hbw]; rfl), below_drewN HB.out nq⟩

set_option maxRecDepth 100000 in
set_option maxHeartbeats 4000000 in
theorem firesAt_t (c : Crn) (t : Clk) (w : World) (hc : c.Bits) (ht : t.Lt) :
    Calls Tryd.prog 25 #[crnV c, clkV t] w fun e w' => e = .returned (.bool (firesB c t)) ∧ Below w.heap.size w w' := by
  have SM := Lib.hid (fun w1 => has_t c.minutes t.minute w1 hc.minutes ht.minute)
  have SH := Lib.hid (fun w1 => has_t c.hours t.hour w1 hc.hours ht.hour)
  have SO := Lib.hid (fun w1 => has_t c.months t.month w1 hc.months ht.month)
  have SD := Lib.hid (fun w1 => firesOn_t c t w1 hc ht)
  have HB := Lib.hid (Below.then (below_new w (.cells #[.int .u64 c.minutes, .int .u64 c.hours, .int .u64 c.days, .int .u64 c.months, .int .u64 c.week, .bool c.anyDay, .bool c.anyWeek] 24)) (below_new _ (.cells #[.int .i64 t.minute, .int .i64 t.hour, .int .i64 t.day, .int .i64 t.month, .int .i64 t.year, .int .i64 t.week] 33)))
  have HO := Lib.hid (show firesB c t = (bitB c.minutes t.minute && bitB c.hours t.hour && bitB c.months t.month && dayB c t) from rfl)
  obtain ⟨bm, hbm⟩ : ∃ b, bitB c.minutes t.minute = b := ⟨_, rfl⟩
  obtain ⟨bh, hbh⟩ : ∃ b, bitB c.hours t.hour = b := ⟨_, rfl⟩
  obtain ⟨bo, hbo⟩ : ∃ b, bitB c.months t.month = b := ⟨_, rfl⟩
  obtain ⟨bd, hbd⟩ : ∃ b, dayB c t = b := ⟨_, rfl⟩
  rw [hbm] at SM HO
  rw [hbh] at SH HO
  rw [hbo] at SO HO
  rw [hbd] at SD HO
  clear hbm hbh hbo hbd hc ht
  obtain ⟨c1, c2, c3, c4, c5, ad, aw⟩ := c
  obtain ⟨t1, t2, t3, t4, t5, t6⟩ := t
  unfold crnV clkV at *
  simp only at SM SH SO SD HB HO ⊢
  cases bm with
  | false =>
    go_enter Tryd.func25, Tryd.ntmps25
    go_wp2_with fail
    refine (SM.out _).mono ?_
    rintro e w1 ⟨rfl, hw1⟩
    subst hw1
    go_wp2_with fail
    go_ret
    exact ⟨by rw [HO.out]; rfl, HB.out⟩
  | true =>
    cases bh with
    | false =>
      go_enter Tryd.func25, Tryd.ntmps25
      go_wp2_with fail
      refine (SM.out _).mono ?_
      rintro e w1 ⟨rfl, hw1⟩
      subst hw1
      go_wp2_with fail
      refine (SH.out _).mono ?_
      rintro e w1 ⟨rfl, hw1⟩
      subst hw1
      go_wp2_with fail
      go_ret
      exact ⟨by rw [HO.out]; rfl, HB.out⟩
    | true =>
      cases bo with
      | false =>
        go_enter Tryd.func25, Tryd.ntmps25
        go_wp2_with fail
        refine (SM.out _).mono ?_
        rintro e w1 ⟨rfl, hw1⟩
        subst hw1
        go_wp2_with fail
        refine (SH.out _).mono ?_
        rintro e w1 ⟨rfl, hw1⟩
        subst hw1
        go_wp2_with fail
        refine (SO.out _).mono ?_
        rintro e w1 ⟨rfl, hw1⟩
        subst hw1
        go_wp2_with fail
        go_ret
        exact ⟨by rw [HO.out]; rfl, HB.out⟩
      | true =>
        go_enter Tryd.func25, Tryd.ntmps25
        go_wp2_with fail
        refine (SM.out _).mono ?_
        rintro e w1 ⟨rfl, hw1⟩
        subst hw1
        go_wp2_with fail
        refine (SH.out _).mono ?_
        rintro e w1 ⟨rfl, hw1⟩
        subst hw1
        go_wp2_with fail
        refine (SO.out _).mono ?_
        rintro e w1 ⟨rfl, hw1⟩
        subst hw1
        go_wp2_with fail
        refine (SD.out _).mono ?_
        rintro e w1 ⟨rfl, hw1⟩
        have HW := Lib.hid (Below.then HB.out hw1)
        clear hw1
        go_wp2_with fail
        go_ret
        exact ⟨by rw [HO.out]; rfl, HW.out⟩

/-- It is a tick. -/
def tickB (t : Int) : Bool := decide (0 ≤ t) && decide (t ≤ 1099511627776)
set_option maxRecDepth 100000 in
theorem isTick_t (t : Int) (w : World) :
    Calls Tryd.prog 22 #[.int .i64 t] w fun e w' => e = .returned (.bool (tickB t)) ∧ w = w' := by
  have HO := Lib.hid (show tickB t = (decide (0 ≤ t) && decide (t ≤ 1099511627776)) from rfl)
  by_cases h0 : 0 ≤ t
  · by_cases h1 : t ≤ 1099511627776
    · go_enter Tryd.func22, Tryd.ntmps22
      go_wp2_with fail
      go_ret
      exact ⟨by rw [HO.out, decide_eq_true h0, decide_eq_true h1]; first | rfl | simp [h0, h1], rfl⟩
    · go_enter Tryd.func22, Tryd.ntmps22
      go_wp2_with fail
      go_ret
      exact ⟨by rw [HO.out, decide_eq_true h0, decide_eq_false (by omega)]; first | rfl | simp [h0, h1], rfl⟩
  · go_enter Tryd.func22, Tryd.ntmps22
    go_wp2_with fail
    go_ret
    exact ⟨by rw [HO.out, decide_eq_false (by omega)]; first | rfl | simp [h0], rfl⟩
end Go.Proofs.YtccobaohmbilpaaDoor
