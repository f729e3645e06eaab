/-
  The program's time of a tick, by contracts. Conditions: the table of the months lies where it lies.
-/
import Derived.Test.YtccobaohmbilpaaDoorRefCronF
import Derived.Test.YtccobaohmbilpaaDoorCronTime
import Derived.Lib.MinMax
namespace Go.Proofs.YtccobaohmbilpaaDoor
open Go.RowKit

/-- The months' table lies in the world. -/
structure Months (w : World) : Prop where
  size : 13 ≤ w.heap.size
  cell : ∀ i, i ≤ 12 → w.cell? ⟨3, i, none⟩ = some (.int .i64 (monthT.getD i 0 : Nat))
theorem Months.keep {w w' : World} (h : Months w) (hb : Below w.heap.size w w') : Months w' where
  size := Nat.le_trans h.size hb.size
  cell := fun i hi => (hb.cell (World.block_lt_of_cell? _ _ (h.cell i hi))).trans (h.cell i hi)

set_option maxRecDepth 100000 in
theorem isLong_t (y : Nat) (w : World) (hy : y ≤ 1000000000000) :
    Calls Tryd.prog 54 #[.int .i64 y] w fun e w' => e = .returned (.bool (longY y)) ∧ w = w' := by
  have HO := Lib.hid (show longY y = (y % 4 == 0 && (y % 100 != 0 || y % 400 == 0)) from rfl)
  obtain ⟨a, ha⟩ : ∃ a, y % 4 = a := ⟨_, rfl⟩
  obtain ⟨b, hb⟩ : ∃ b, y % 100 = b := ⟨_, rfl⟩
  obtain ⟨c, hc⟩ : ∃ c, y % 400 = c := ⟨_, rfl⟩
  have ea : (y : Int) % 4 = (a : Int) := by omega
  have eb : (y : Int) % 100 = (b : Int) := by omega
  have ec : (y : Int) % 400 = (c : Int) := by omega
  rw [ha, hb, hc] at HO
  have z : ∀ n : Nat, ((n : Int) == 0) = (n == 0) := fun n => by rw [Bool.eq_iff_iff, beq_iff_eq, beq_iff_eq]; omega
  have za := z a
  have zb : ((b : Int) != 0) = (b != 0) := by rw [bne, z b]; rfl
  have zc := z c
  obtain ⟨p, hp⟩ : ∃ p, (a == 0) = p := ⟨_, rfl⟩
  obtain ⟨q, hq⟩ : ∃ q, (b != 0) = q := ⟨_, rfl⟩
  obtain ⟨r, hr⟩ : ∃ r, (c == 0) = r := ⟨_, rfl⟩
  rw [hp] at za HO
  rw [hq] at zb HO
  rw [hr] at zc HO
  clear ha hb hc hp hq hr z
  cases p with
  | false =>
    go_enter Tryd.func54, Tryd.ntmps54
    go_wp2_with fail
    go_ret
    exact ⟨by rw [HO.out]; rfl, rfl⟩
  | true =>
    cases q with
    | true =>
      go_enter Tryd.func54, Tryd.ntmps54
      go_wp2_with fail
      go_ret
      exact ⟨by rw [HO.out]; rfl, rfl⟩
    | false =>
      go_enter Tryd.func54, Tryd.ntmps54
      go_wp2_with fail
      go_ret
      exact ⟨by rw [HO.out]; rfl, rfl⟩

set_option maxRecDepth 100000 in
theorem daysOf_t (y m : Nat) (w : World) (hm1 : 1 ≤ m) (hm2 : m ≤ 12) (hy : y ≤ 1000000000000) (ht : Months w) :
    Calls Tryd.prog 42 #[.int .i64 y, .int .i64 m] w fun e w' => e = .returned (.int .i64 (daysM m y : Nat)) ∧ w = w' := by
  have L := Lib.hid (fun w1 => isLong_t y w1 hy)
  have hc := ht.cell m hm2
  have HO := Lib.hid (monthT_is m hm2 hm1 y)
  obtain ⟨l, hl⟩ : ∃ l, longY y = l := ⟨_, rfl⟩
  obtain ⟨d, hd⟩ : ∃ d, monthT.getD m 0 = d := ⟨_, rfl⟩
  have hd31 : d ≤ 31 := by
    have hc : m = 1 ∨ m = 2 ∨ m = 3 ∨ m = 4 ∨ m = 5 ∨ m = 6 ∨ m = 7 ∨ m = 8 ∨ m = 9 ∨ m = 10 ∨ m = 11 ∨ m = 12 := by omega
    subst hd
    rcases hc with rfl | rfl | rfl | rfl | rfl | rfl | rfl | rfl | rfl | rfl | rfl | rfl <;> decide
  rw [hl] at L HO
  rw [hd] at hc HO
  clear hl hd ht
  by_cases h2 : m = 2
  · subst h2
    cases l with
    | true =>
      go_enter Tryd.func42, Tryd.ntmps42
      go_wp2_with fail
      refine (L.out _).mono ?_
      rintro e w1 ⟨rfl, hw1⟩
      subst hw1
      go_wp2_with fail
      go_ret
      exact ⟨by rw [HO.out]; rfl, rfl⟩
    | false =>
      go_enter Tryd.func42, Tryd.ntmps42
      go_wp2_with fail
      refine (L.out _).mono ?_
      rintro e w1 ⟨rfl, hw1⟩
      subst hw1
      go_wp2_with fail
      go_ret
      exact ⟨by rw [HO.out]; rfl, rfl⟩
  · have HO2 := Lib.hid (show daysM m y = d from by rw [HO.out, if_neg (fun h => h2 h.1)])
    have h2i : ((m : Int) == 2) = false := beq_eq_false_iff_ne.2 (by omega)
    clear HO L h2
    go_enter Tryd.func42, Tryd.ntmps42
    go_wp2_with fail
    go_ret
    exact ⟨by rw [HO2.out]; rfl, rfl⟩

set_option maxRecDepth 100000 in
theorem monthOf_t (y b : Nat) (w : World) (hy : y ≤ 1000000000000) (hb : b < daysY y) (ht : Months w) :
    Calls Tryd.prog 31 #[.int .i64 y, .int .i64 b] w fun e w' => (∃ m, 1 ≤ m ∧ m ≤ 12 ∧ aheadM y m ≤ b ∧ b - aheadM y m < daysM m y ∧ e = .returned (.tuple #[.int .i64 m, .int .i64 (b - aheadM y m + 1 : Nat)])) ∧ w = w' := by
  have hb366 : b < 366 := by
    have : daysY y ≤ 366 := by unfold daysY; split <;> decide
    omega
  have HB := Lib.hid hb
  have HT := Lib.hid ht
  clear hb ht
  go_enter Tryd.func31, Tryd.ntmps31
  go_wp2_with fail
  go_loop [1, 4] (fun bv mv => ∃ m r : Nat, 1 ≤ m ∧ m ≤ 12 ∧ bv = .int .i64 r ∧ mv = .int .i64 m ∧ aheadM y m + r = b) (fun _ m => 13 - (intOf m).toNat)
  case atStart => exact ⟨1, b, Nat.le_refl _, by decide, rfl, rfl, by rw [aheadM_one, Nat.zero_add]⟩
  case round =>
    obtain ⟨m, r, hm1, hm2, rfl, rfl, hr⟩ := hrel
    have hrb : r ≤ b := by omega
    have HR := Lib.hid hr
    have HS := Lib.hid (aheadM_succ y m hm1)
    have D := Lib.hid (daysOf_t y m w hm1 hm2 hy HT.out)
    have hd31 := (daysM_le m y).1
    obtain ⟨d, hd⟩ : ∃ d, daysM m y = d := ⟨_, rfl⟩
    have HD := Lib.hid hd
    rw [hd] at D hd31 HS
    clear hr hd
    by_cases hge : d ≤ r
    · have hm13 : m + 1 ≤ 12 := by
        by_cases h : m = 12
        · subst h
          have h1 : aheadM y 13 = aheadM y 12 + d := HS.out
          have h2 := HR.out
          have h3 := HB.out
          rw [← aheadM_all] at h3
          omega
        · omega
      go_wp2_with fail
      refine D.out.mono ?_
      rintro e w1 ⟨rfl, hw1⟩
      subst hw1
      go_wp2_with fail
      refine D.out.mono ?_
      rintro e w1 ⟨rfl, hw1⟩
      subst hw1
      go_wp2_with fail
      go_round
      case rel => exact ⟨m + 1, r - d, by omega, hm13, by congr 1; omega, by go_num, by have := HS.out; have := HR.out; omega⟩
      case measure => simp [intOf]; omega
    · have HE := Lib.hid (show aheadM y m ≤ b ∧ r = b - aheadM y m from by have := HR.out; omega)
      go_wp2_with fail
      refine D.out.mono ?_
      rintro e w1 ⟨rfl, hw1⟩
      subst hw1
      go_wp2_with fail
      go_ret2
      exact ⟨⟨m, hm1, hm2, HE.out.1, by rw [HD.out, ← HE.out.2]; omega, by rw [← HE.out.2]; rfl⟩, rfl⟩

set_option maxRecDepth 100000 in
theorem yearOf_t (d : Nat) (w : World) (hd : d ≤ 800000000) :
    Calls Tryd.prog 30 #[.int .i64 d] w fun e w' => (∃ Y b, aheadY Y + b = 584388 + d ∧ b < daysY Y ∧ 1601 ≤ Y ∧ Y ≤ 3000000 ∧ e = .returned (.tuple #[.int .i64 (Y : Nat), .int .i64 (b : Nat)])) ∧ w = w' := by
  obtain ⟨q, hq⟩ : ∃ q, d / 146097 = q := ⟨_, rfl⟩
  obtain ⟨r, hr⟩ : ∃ r, d % 146097 = r := ⟨_, rfl⟩
  obtain ⟨h0, hh0⟩ : ∃ h, r / 36524 = h := ⟨_, rfl⟩
  obtain ⟨h, hh⟩ : ∃ h, min h0 3 = h := ⟨_, rfl⟩
  obtain ⟨r1, hr1⟩ : ∃ x, r - h * 36524 = x := ⟨_, rfl⟩
  obtain ⟨f, hf⟩ : ∃ x, r1 / 1461 = x := ⟨_, rfl⟩
  obtain ⟨r2, hr2⟩ : ∃ x, r1 % 1461 = x := ⟨_, rfl⟩
  obtain ⟨o0, ho0⟩ : ∃ x, r2 / 365 = x := ⟨_, rfl⟩
  obtain ⟨o, ho⟩ : ∃ x, min o0 3 = x := ⟨_, rfl⟩
  obtain ⟨b, hb⟩ : ∃ x, r2 - o * 365 = x := ⟨_, rfl⟩
  have e1 : (d : Int) / 146097 = (q : Int) := by omega
  have e2 : (d : Int) % 146097 = (r : Int) := by omega
  have e3 : (r : Int) / 36524 = (h0 : Int) := by omega
  have e4 : min (h0 : Int) 3 = (h : Int) := by omega
  have e5 : (r : Int) - h * 36524 = (r1 : Int) := by omega
  have e6 : (r1 : Int) / 1461 = (f : Int) := by omega
  have e7 : (r1 : Int) % 1461 = (r2 : Int) := by omega
  have e8 : (r2 : Int) / 365 = (o0 : Int) := by omega
  have e9 : min (o0 : Int) 3 = (o : Int) := by omega
  have e10 : (r2 : Int) - o * 365 = (b : Int) := by omega
  have k1 : d = 146097 * q + r := by omega
  have k2 : r < 146097 := by omega
  have k3 : r = 36524 * h + r1 := by omega
  have k4 : h < 3 ∧ r1 < 36524 ∨ h = 3 := by omega
  have k5 : r1 = 1461 * f + r2 := by omega
  have k6 : r2 < 1461 := by omega
  have k7 : r2 = 365 * o + b := by omega
  have k8 : o < 3 ∧ b < 365 ∨ o = 3 := by omega
  have HY := Lib.hid (year_is k1 k2 k3 k4 k5 k6 k7 k8)
  have b1 : q ≤ 5476 := by omega
  have b2 : h ≤ 3 := by omega
  have b3 : f ≤ 24 := by omega
  have b4 : o ≤ 3 := by omega
  have b5 : r ≤ 146097 := by omega
  have b6 : r1 ≤ 146097 := by omega
  have b7 : r2 ≤ 1461 := by omega
  have b8 : h0 ≤ 10 := by omega
  have b9 : o0 ≤ 10 := by omega
  clear hq hr hh0 hh hr1 hf hr2 ho0 ho hb k1 k2 k3 k4 k5 k6 k7 k8
  go_enter Tryd.func30, Tryd.ntmps30
  go_wp2_with fail
  go_ret2
  refine ⟨⟨_, b, HY.out.1, HY.out.2, by omega, by omega, ?_⟩, rfl⟩
  have : (1601 + (q : Int) * 400 + h * 100 + f * 4 + o) = ((1601 + 400 * q + 100 * h + 4 * f + o : Nat) : Int) := by omega
  rw [← this]
  rfl
end Go.Proofs.YtccobaohmbilpaaDoor
