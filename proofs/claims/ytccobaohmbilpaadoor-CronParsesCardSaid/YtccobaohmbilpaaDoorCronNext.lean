/-
  The next tick at which a schedule fires, by a contract. Conditions: the table of the months lies where it lies.
-/
import Derived.Test.YtccobaohmbilpaaDoorCronAt
namespace Go.Proofs.YtccobaohmbilpaaDoor
open Go.RowKit

/-- How Next ends. -/
def NextEnds (c : Crn) (t most : Int) (e : Ending) : Prop :=
  ((tickB t && (decide (0 ≤ most) && decide (most ≤ 100000))) = false ∧ e = .returned (.tuple #[.int .i64 0, .int .i64 1])) ∨
  ∃ n m : Nat, t = (n : Int) ∧ most = (m : Int) ∧ n ≤ 1099511627776 ∧ m ≤ 100000 ∧
    ((∃ k : Nat, n < k ∧ k ≤ n + m ∧ k ≤ 1099511627776 ∧ firesT c k = true ∧ (∀ j, n < j → j < k → firesT c j = false) ∧ e = .returned (.tuple #[.int .i64 (k : Nat), .int .i64 0])) ∨
     ((∀ j, n < j → j ≤ n + m → j ≤ 1099511627776 → firesT c j = false) ∧ e = .returned (.tuple #[.int .i64 0, .int .i64 9])))

set_option maxRecDepth 100000 in
set_option maxHeartbeats 4000000 in
theorem Next_t (c : Crn) (t most : Int) (w : World) (hc : c.Bits) (hM : Months w) :
    Calls Tryd.prog 15 #[crnV c, .int .i64 t, .int .i64 most] w fun e w' => NextEnds c t most e ∧ Below w.heap.size w w' := by
  have I := Lib.hid (fun w1 => isTick_t t w1)
  obtain ⟨W, hW⟩ : ∃ W, w.alloc (.cells #[.int .u64 c.minutes, .int .u64 c.hours, .int .u64 c.days, .int .u64 c.months, .int .u64 c.week, .bool c.anyDay, .bool c.anyWeek] 24) = W := ⟨_, rfl⟩
  have hB := below_new w (.cells #[.int .u64 c.minutes, .int .u64 c.hours, .int .u64 c.days, .int .u64 c.months, .int .u64 c.week, .bool c.anyDay, .bool c.anyWeek] 24)
  have hC := Crn7.new w c
  rw [hW] at hB hC
  have HB := Lib.hid hB
  have HW := Lib.hid hW
  have HC := Lib.hid hC
  have HM := Lib.hid hM
  have HCB := Lib.hid hc
  have NO := Lib.hid (show ∀ e, (tickB t && (decide (0 ≤ most) && decide (most ≤ 100000))) = false → e = .returned (.tuple #[.int .i64 0, .int .i64 1]) → NextEnds c t most e from fun e h1 h2 => Or.inl ⟨h1, h2⟩)
  clear hW hB hC hM hc
  cases hb : tickB t with
  | false =>
    rw [hb] at I
    have N := Lib.hid (NO.out _ (by rw [hb]; rfl) rfl)
    clear hb
    unfold crnV
    go_enter Tryd.func15, Tryd.ntmps15
    go_wp2_with fail
    refine (I.out _).mono ?_
    rintro e w1 ⟨rfl, hw1⟩
    subst hw1
    go_wp2_with fail
    go_ret2
    exact ⟨N.out, by rw [HW.out]; exact HB.out⟩
  | true =>
    by_cases h0 : most < 0
    · rw [hb] at I
      have N := Lib.hid (NO.out _ (by rw [hb, decide_eq_false (show ¬ 0 ≤ most by omega)]; rfl) rfl)
      clear hb
      unfold crnV
      go_enter Tryd.func15, Tryd.ntmps15
      go_wp2_with fail
      refine (I.out _).mono ?_
      rintro e w1 ⟨rfl, hw1⟩
      subst hw1
      go_wp2_with fail
      go_ret2
      exact ⟨N.out, by rw [HW.out]; exact HB.out⟩
    · by_cases h1 : 100000 < most
      · rw [hb] at I
        have N := Lib.hid (NO.out _ (by rw [hb, decide_eq_false (show ¬ most ≤ 100000 by omega), Bool.and_false]; rfl) rfl)
        clear hb
        unfold crnV
        go_enter Tryd.func15, Tryd.ntmps15
        go_wp2_with fail
        refine (I.out _).mono ?_
        rintro e w1 ⟨rfl, hw1⟩
        subst hw1
        go_wp2_with fail
        go_ret2
        exact ⟨N.out, by rw [HW.out]; exact HB.out⟩
      · obtain ⟨n, rfl, hn⟩ := tickB_true hb
        obtain ⟨m, rfl⟩ : ∃ m : Nat, most = (m : Int) := ⟨most.toNat, by omega⟩
        have hm : m ≤ 100000 := by omega
        rw [hb] at I
        have Y := Lib.hid (show ∀ e k, n < k → k ≤ n + m → k ≤ 1099511627776 → firesT c k = true → (∀ j, n < j → j < k → firesT c j = false) → e = .returned (.tuple #[.int .i64 (k : Nat), .int .i64 0]) → NextEnds c n m e from fun e k g1 g2 g3 g4 g5 g6 => Or.inr ⟨n, m, rfl, rfl, hn, hm, Or.inl ⟨k, g1, g2, g3, g4, g5, g6⟩⟩)
        have Z := Lib.hid (show ∀ e, (∀ j, n < j → j ≤ n + m → j ≤ 1099511627776 → firesT c j = false) → e = .returned (.tuple #[.int .i64 0, .int .i64 9]) → NextEnds c n m e from fun e g1 g2 => Or.inr ⟨n, m, rfl, rfl, hn, hm, Or.inr ⟨g1, g2⟩⟩)
        obtain ⟨l, hl⟩ : ∃ l, min (n + m) 1099511627776 = l := ⟨_, rfl⟩
        have el : min ((n : Int) + m) 1099511627776 = (l : Int) := by omega
        have hl1 : l ≤ n + m ∧ l ≤ 1099511627776 := by omega
        have HL := Lib.hid (show ∀ j, j ≤ n + m → j ≤ 1099511627776 → j ≤ l from fun j a b => by omega)
        have hnl : n ≤ l := by omega
        clear hb NO hl h0 h1
        unfold crnV
        go_enter Tryd.func15, Tryd.ntmps15
        go_wp2_with fail
        refine (I.out _).mono ?_
        rintro e w1 ⟨rfl, hw1⟩
        subst hw1
        go_wp2_with fail
        rw [HW.out]
        go_loopw [9] (fun nv wr => ∃ k : Nat, nv = .int .i64 k ∧ n < k ∧ k ≤ l + 1 ∧ (∀ j, n < j → j < k → firesT c j = false) ∧ Below W.heap.size W wr) (fun nv _ => l + 1 - (intOf nv).toNat)
        case atStart => exact ⟨n + 1, by go_num, by omega, by omega, fun j a b => by omega, Below.refl _ _⟩
        case round =>
          obtain ⟨k, rfl, hk1, hk2, hno, hbr⟩ := hrel
          have HNO := Lib.hid hno
          clear hno
          by_cases hkl : k ≤ l
          · have hC := HC.out.keep hbr
            have CK := Lib.hid (show ∀ w', Below wr.heap.size wr w' → Calls Tryd.prog 23 #[.int .i64 k] w' fun e w2 => e = .returned (clkV (clkAt k)) ∧ Below wr.heap.size wr w2 ∧ (w2.cell? ⟨w.heap.size, 0, none⟩ = some (.int .u64 c.minutes) ∧ w2.cell? ⟨w.heap.size, 1, none⟩ = some (.int .u64 c.hours) ∧ w2.cell? ⟨w.heap.size, 2, none⟩ = some (.int .u64 c.days) ∧ w2.cell? ⟨w.heap.size, 3, none⟩ = some (.int .u64 c.months) ∧ w2.cell? ⟨w.heap.size, 4, none⟩ = some (.int .u64 c.week) ∧ w2.cell? ⟨w.heap.size, 5, none⟩ = some (.bool c.anyDay) ∧ w2.cell? ⟨w.heap.size, 6, none⟩ = some (.bool c.anyWeek)) from fun w' h =>
              (clock_t k w' (by omega) (((HM.out.keep HB.out).keep hbr).keep h)).mono fun e w2 h2 => ⟨h2.1, Below.then h h2.2, (hC.keep (Below.then h h2.2)).cells⟩)
            have FA := Lib.hid (show ∀ w', Below wr.heap.size wr w' → Calls Tryd.prog 25 #[crnV c, clkV (clkAt k)] w' fun e w2 => e = .returned (.bool (firesB c (clkAt k))) ∧ Below wr.heap.size wr w2 ∧ (w2.cell? ⟨w.heap.size, 0, none⟩ = some (.int .u64 c.minutes) ∧ w2.cell? ⟨w.heap.size, 1, none⟩ = some (.int .u64 c.hours) ∧ w2.cell? ⟨w.heap.size, 2, none⟩ = some (.int .u64 c.days) ∧ w2.cell? ⟨w.heap.size, 3, none⟩ = some (.int .u64 c.months) ∧ w2.cell? ⟨w.heap.size, 4, none⟩ = some (.int .u64 c.week) ∧ w2.cell? ⟨w.heap.size, 5, none⟩ = some (.bool c.anyDay) ∧ w2.cell? ⟨w.heap.size, 6, none⟩ = some (.bool c.anyWeek)) from fun w' h =>
              (firesAt_t c (clkAt k) w' HCB.out (clkAt_lt k)).mono fun e w2 h2 => ⟨h2.1, Below.then h h2.2, (hC.keep (Below.then h h2.2)).cells⟩)
            obtain ⟨k0, k1, k2, k3, k4, k5, k6⟩ := hC.cells
            have hbw := Below.refl wr.heap.size wr
            have HBR := Lib.hid hbr
            have HO := Lib.hid (show firesT c k = firesB c (clkAt k) from rfl)
            obtain ⟨b, hb⟩ : ∃ b, firesB c (clkAt k) = b := ⟨_, rfl⟩
            rw [hb] at FA HO
            obtain ⟨q, hq⟩ : ∃ q, clkAt k = q := ⟨_, rfl⟩
            rw [hq] at CK FA
            unfold clkV at CK
            unfold clkV crnV at FA
            clear hC hbr hq hb HC HM HCB I
            obtain ⟨c1, c2, c3, c4, c5, ad, aw⟩ := c
            simp only at k0 k1 k2 k3 k4 k5 k6 CK FA ⊢
            go_wp2_with fail
            cases b with
            | true =>
              go_region_held (fun w' => w'.cell? ⟨w.heap.size, 0, none⟩ = some (.int .u64 c1) ∧ w'.cell? ⟨w.heap.size, 1, none⟩ = some (.int .u64 c2) ∧ w'.cell? ⟨w.heap.size, 2, none⟩ = some (.int .u64 c3) ∧ w'.cell? ⟨w.heap.size, 3, none⟩ = some (.int .u64 c4) ∧ w'.cell? ⟨w.heap.size, 4, none⟩ = some (.int .u64 c5) ∧ w'.cell? ⟨w.heap.size, 5, none⟩ = some (.bool ad) ∧ w'.cell? ⟨w.heap.size, 6, none⟩ = some (.bool aw)) (first | exact ⟨k0, k1, k2, k3, k4, k5, k6⟩ | exact ⟨p0, p1, p2, p3, p4, p5, p6⟩ | go_keep) (first
                | (go_simp; go_at_call 23; refine (CK.out _ (by first | exact hbw | exact hbw.drew)).mono ?_; rintro e w3 ⟨rfl, hb3, ⟨p0, p1, p2, p3, p4, p5, p6⟩⟩)
                | (go_simp; go_at_call 25; refine (FA.out _ (by first | exact hb3 | exact hb3.drew)).mono ?_; rintro e w4 ⟨rfl, hb4, ⟨p0, p1, p2, p3, p4, p5, p6⟩⟩))
              all_goals
                go_wp2_with fail
                go_ret2
                exact ⟨Y.out _ k hk1 (by omega) (by omega) HO.out HNO.out rfl, HB.out.trans ((HBR.out.trans (hb4.mono HBR.out.size)).mono HB.out.size)⟩
            | false =>
              go_region_held (fun w' => w'.cell? ⟨w.heap.size, 0, none⟩ = some (.int .u64 c1) ∧ w'.cell? ⟨w.heap.size, 1, none⟩ = some (.int .u64 c2) ∧ w'.cell? ⟨w.heap.size, 2, none⟩ = some (.int .u64 c3) ∧ w'.cell? ⟨w.heap.size, 3, none⟩ = some (.int .u64 c4) ∧ w'.cell? ⟨w.heap.size, 4, none⟩ = some (.int .u64 c5) ∧ w'.cell? ⟨w.heap.size, 5, none⟩ = some (.bool ad) ∧ w'.cell? ⟨w.heap.size, 6, none⟩ = some (.bool aw)) (first | exact ⟨k0, k1, k2, k3, k4, k5, k6⟩ | exact ⟨p0, p1, p2, p3, p4, p5, p6⟩ | go_keep) (first
                | (go_simp; go_at_call 23; refine (CK.out _ (by first | exact hbw | exact hbw.drew)).mono ?_; rintro e w3 ⟨rfl, hb3, ⟨p0, p1, p2, p3, p4, p5, p6⟩⟩)
                | (go_simp; go_at_call 25; refine (FA.out _ (by first | exact hb3 | exact hb3.drew)).mono ?_; rintro e w4 ⟨rfl, hb4, ⟨p0, p1, p2, p3, p4, p5, p6⟩⟩))
              all_goals
                go_wp2_with fail
                go_roundw
                case rel => exact ⟨k + 1, by go_num, by omega, by omega, fun j a b => by
                  by_cases h : j = k
                  · rw [h]; exact HO.out
                  · exact HNO.out j a (by omega), HBR.out.trans (hb4.mono HBR.out.size)⟩
                case measure => simp [intOf]; omega
          · have hkl' : k = l + 1 := by omega
            subst hkl'
            go_wp2_with fail
            go_ret2
            exact ⟨Z.out _ (fun j a b d => HNO.out j a (by have := HL.out j b d; omega)) rfl, HB.out.trans (hbr.mono HB.out.size)⟩
end Go.Proofs.YtccobaohmbilpaaDoor
