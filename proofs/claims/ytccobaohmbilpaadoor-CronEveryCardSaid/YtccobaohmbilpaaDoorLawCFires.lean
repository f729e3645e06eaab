/-
  CronFires, the law's function, returns true at every input: its walk. Conditions: the package-level variables as CEnv says; numbers of 64 bits.
-/
import Derived.Test.YtccobaohmbilpaaDoorLawCNext
namespace Go.Proofs.YtccobaohmbilpaaDoor
open Go.RowKit

theorem Clk.Lt.small {c : Clk} (h : c.Lt) : c.Small := ⟨by have := h.minute; omega, by have := h.hour; omega, by have := h.day; omega, by have := h.month; omega, by have := h.week; omega⟩
theorem next_bad {c : Crn} {t most : Int} {e : Ending} (h : NextEnds c t most e) (hb : (tickB t && (decide (0 ≤ most) && decide (most ≤ 100000))) = false) : e = .returned (.tuple #[.int .i64 0, .int .i64 1]) := by
  rcases h with ⟨-, rfl⟩ | ⟨n, m, rfl, rfl, hn, hm, -⟩
  · rfl
  · rw [tickB_nat hn, decide_eq_true (show (0 : Int) ≤ (m : Int) by omega), decide_eq_true (show (m : Int) ≤ 100000 by omega)] at hb
    exact absurd hb (by decide)
theorem next_good {c : Crn} {n m : Nat} {e : Ending} (h : NextEnds c n m e) (hn : n ≤ 1099511627776) (hm : m ≤ 100000) :
    (∃ k : Nat, n < k ∧ k ≤ n + m ∧ k ≤ 1099511627776 ∧ firesT c k = true ∧ (∀ j, n < j → j < k → firesT c j = false) ∧ e = .returned (.tuple #[.int .i64 (k : Nat), .int .i64 0])) ∨
     ((∀ j, n < j → j ≤ n + m → j ≤ 1099511627776 → firesT c j = false) ∧ e = .returned (.tuple #[.int .i64 0, .int .i64 9])) := by
  rcases h with ⟨hb, -⟩ | ⟨n', m', hn', hm', -, -, h⟩
  · rw [tickB_nat hn, decide_eq_true (show (0 : Int) ≤ (m : Int) by omega), decide_eq_true (show (m : Int) ≤ 100000 by omega)] at hb
    exact absurd hb (by decide)
  · obtain rfl : n' = n := by omega
    obtain rfl : m' = m := by omega
    exact h

set_option maxRecDepth 100000 in
set_option maxHeartbeats 8000000 in
theorem fires_walk (c : Crn) (tick most : Int) (w : World) {aA aN aO : Addr} (hc : c.Bits) (he : CEnv w aA aN aO) :
    Calls Tryd.prog 5 #[crnV c, .int .i64 tick, .int .i64 most] w fun e w' => e = .returned (.bool true) ∧ Below w.heap.size w w' := by
  obtain ⟨W, hW⟩ : ∃ W, w.alloc (.cells #[.int .u64 c.minutes, .int .u64 c.hours, .int .u64 c.days, .int .u64 c.months, .int .u64 c.week, .bool c.anyDay, .bool c.anyWeek] 24) = W := ⟨_, rfl⟩
  have hN : Crn7 W w.heap.size c := hW ▸ Crn7.new w c
  have hB : Below w.heap.size w W := hW ▸ below_new w _
  have HW := Lib.hid hW
  have HN := Lib.hid hN
  have HB := Lib.hid hB
  have HE := Lib.hid (he.keep hB)
  have TT := Lib.hid (fun (t : Int) w1 (h : CEnv w1 aA aN aO) => At_t t w1 h.months)
  have NX := Lib.hid (fun (t o : Int) w1 (h : CEnv w1 aA aN aO) => Next_t c t o w1 hc h.months)
  have FI := Lib.hid (fun (t : Int) w1 (h : CEnv w1 aA aN aO) => Fires_t c t w1 hc h.months)
  have RF := Lib.hid (fun (t : Nat) w1 => (show Calls Tryd.prog 17 #[crnV c, clkV (clkAt t)] w1 fun e w' => e = .returned (.bool (firesT c t)) ∧ Below w1.heap.size w1 w' from refFires_t c (clkAt t) w1 hc (clkAt_lt t).small))
  have AL := Lib.hid (fun w1 (h : CEnv w1 aA aN aO) => alive_t w1 h)
  clear hW hN hB he hc
  obtain ⟨f, hf⟩ : ∃ f, firesT c = f := ⟨_, rfl⟩
  have NB := Lib.hid (fun t o e (h : NextEnds c t o e) hb => next_bad h hb)
  have NG := Lib.hid (fun (n m : Nat) e (h : NextEnds c n m e) hn hm => next_good h hn hm)
  obtain ⟨E, hE⟩ : ∃ E, NextEnds c = E := ⟨_, rfl⟩
  rw [hf] at FI RF NG
  rw [hE] at NX NB NG
  clear hf hE
  obtain ⟨c1, c2, c3, c4, c5, b5, b6⟩ := c
  unfold crnV at *
  simp only at NX FI RF HW ⊢
  cases hb : tickB tick with
  | false =>
    have hT : atOut tick = .tuple #[.agg #[.int .i64 0, .int .i64 0, .int .i64 0, .int .i64 0, .int .i64 0, .int .i64 0], .int .i64 1] := by
      unfold atOut; rw [hb, if_neg (by decide)]; rfl
    have T0 := Lib.hid (TT.out tick W HE.out)
    rw [hT] at T0
    have F0 := Lib.hid (FI.out tick)
    rw [hb, Bool.false_and] at F0
    have N0 := Lib.hid (fun e h => NB.out tick most e h (by rw [hb]; rfl))
    clear hb hT
    go_enter Tryd.func5, Tryd.ntmps5
    go_upto_region 1 with fail
    rw [HW.out]
    go_wp2_with fail
    refine T0.out.mono ?_
    rintro e w1 ⟨rfl, hb1⟩
    obtain ⟨W1, hW1⟩ : ∃ X, w1.alloc (.cells #[.int .i64 0, .int .i64 0, .int .i64 0, .int .i64 0, .int .i64 0, .int .i64 0] 33) = X := ⟨_, rfl⟩
    have hQ1 : Clk6 W1 w1.heap.size ⟨0, 0, 0, 0, 0, 0⟩ := hW1 ▸ Clk6.new w1 ⟨0, 0, 0, 0, 0, 0⟩
    have hbb1 : Below W.heap.size W W1 := hW1 ▸ Below.then hb1 (below_new w1 _)
    have HQ1 := Lib.hid hQ1
    have HN1 := Lib.hid (HN.out.keep hbb1)
    have HE1 := Lib.hid (HE.out.keep hbb1)
    have HB1 := Lib.hid (HB.out.trans (hbb1.mono HB.out.size))
    have HW1 := Lib.hid hW1
    have HX := Lib.hid (NX.out tick most W1 HE1.out)
    obtain ⟨k0, k1, k2, k3, k4, k5, k6⟩ := HN1.out.cells
    clear hW1 hQ1 hbb1 hb1
    go_upto_region 2 with fail
    rw [HW1.out]
    go_wp2_with fail
    refine HX.out.mono ?_
    rintro e w2 ⟨hend, hb2⟩
    have HN2 := Lib.hid (HN1.out.keep hb2)
    have HQ2 := Lib.hid (HQ1.out.keep hb2)
    have HE2 := Lib.hid (HE1.out.keep hb2)
    have HB2 := Lib.hid (HB1.out.trans (hb2.mono HB1.out.size))
    clear hb2 k0 k1 k2 k3 k4 k5 k6
    have he2 := N0.out e hend
    subst he2
    clear hend
    obtain ⟨k0, k1, k2, k3, k4, k5, k6⟩ := HN2.out.cells
    go_wp2_with fail
    refine (F0.out _ HE2.out).mono ?_
    rintro e w3 ⟨rfl, hb3⟩
    have HN3 := Lib.hid (HN2.out.keep hb3)
    have HQ3 := Lib.hid (HQ2.out.keep hb3)
    have HE3 := Lib.hid (HE2.out.keep hb3)
    have HB3 := Lib.hid (HB2.out.trans (hb3.mono HB2.out.size))
    clear hb3 k0 k1 k2 k3 k4 k5 k6
    have HN4 := HN3
    have HE4 := HE3
    have HB4 := HB3
    go_wp2_with fail
    refine (AL.out _ HE4.out).mono ?_
    rintro e w5 ⟨rfl, hb5⟩
    have HN5 := Lib.hid (HN4.out.keep hb5)
    have HE5 := Lib.hid (HE4.out.keep hb5)
    have HB5 := Lib.hid (HB4.out.trans (hb5.mono HB4.out.size))
    clear hb5
    go_wp2_with fail
    go_ret
    exact ⟨by first | rfl | simp, HB5.out⟩
  | true =>
    obtain ⟨t, rfl, ht⟩ := tickB_true hb
    have T0 := Lib.hid (TT.out t W HE.out)
    rw [atOut_nat ht] at T0
    have F0 := Lib.hid (FI.out t)
    rw [hb, Bool.true_and, Int.toNat_natCast] at F0
    have R0 := Lib.hid (RF.out t)
    obtain ⟨b, hfb⟩ : ∃ b, f t = b := ⟨_, rfl⟩
    rw [hfb] at F0 R0
    have hbb : (b != b) = false := by simp
    obtain ⟨q, hq⟩ : ∃ q, clkAt t = q := ⟨_, rfl⟩
    rw [hq] at T0 R0
    clear hfb hq
    obtain ⟨q0, q1, q2, q3, q4, q5⟩ := q
    unfold clkV at T0 R0
    simp only at T0 R0
    by_cases hm0 : most < 0
    · have N0 := Lib.hid (fun e h => NB.out t most e h (by rw [decide_eq_false (show ¬ 0 ≤ most by omega), Bool.false_and, Bool.and_false]))
      clear hb
      go_enter Tryd.func5, Tryd.ntmps5
      go_upto_region 1 with fail
      rw [HW.out]
      go_wp2_with fail
      refine T0.out.mono ?_
      rintro e w1 ⟨rfl, hb1⟩
      obtain ⟨W1, hW1⟩ : ∃ X, w1.alloc (.cells #[.int .i64 q0, .int .i64 q1, .int .i64 q2, .int .i64 q3, .int .i64 q4, .int .i64 q5] 33) = X := ⟨_, rfl⟩
      have hQ1 : Clk6 W1 w1.heap.size ⟨q0, q1, q2, q3, q4, q5⟩ := hW1 ▸ Clk6.new w1 ⟨q0, q1, q2, q3, q4, q5⟩
      have hbb1 : Below W.heap.size W W1 := hW1 ▸ Below.then hb1 (below_new w1 _)
      have HQ1 := Lib.hid hQ1
      have HN1 := Lib.hid (HN.out.keep hbb1)
      have HE1 := Lib.hid (HE.out.keep hbb1)
      have HB1 := Lib.hid (HB.out.trans (hbb1.mono HB.out.size))
      have HW1 := Lib.hid hW1
      have HX := Lib.hid (NX.out t most W1 HE1.out)
      obtain ⟨k0, k1, k2, k3, k4, k5, k6⟩ := HN1.out.cells
      clear hW1 hQ1 hbb1 hb1
      go_upto_region 2 with fail
      rw [HW1.out]
      go_wp2_with fail
      refine HX.out.mono ?_
      rintro e w2 ⟨hend, hb2⟩
      have HN2 := Lib.hid (HN1.out.keep hb2)
      have HQ2 := Lib.hid (HQ1.out.keep hb2)
      have HE2 := Lib.hid (HE1.out.keep hb2)
      have HB2 := Lib.hid (HB1.out.trans (hb2.mono HB1.out.size))
      clear hb2 k0 k1 k2 k3 k4 k5 k6
      have he2 := N0.out e hend
      subst he2
      clear hend
      obtain ⟨k0, k1, k2, k3, k4, k5, k6⟩ := HN2.out.cells
      go_wp2_with fail
      refine (F0.out _ HE2.out).mono ?_
      rintro e w3 ⟨rfl, hb3⟩
      have HN3 := Lib.hid (HN2.out.keep hb3)
      have HQ3 := Lib.hid (HQ2.out.keep hb3)
      have HE3 := Lib.hid (HE2.out.keep hb3)
      have HB3 := Lib.hid (HB2.out.trans (hb3.mono HB2.out.size))
      clear hb3 k0 k1 k2 k3 k4 k5 k6
      obtain ⟨k0, k1, k2, k3, k4, k5, k6⟩ := HN3.out.cells
      obtain ⟨y0, y1, y2, y3, y4, y5⟩ := HQ3.out.cells
      go_wp2_with fail
      refine (R0.out _).mono ?_
      rintro e w4 ⟨rfl, hb4⟩
      have HN4 := Lib.hid (HN3.out.keep hb4)
      have HE4 := Lib.hid (HE3.out.keep hb4)
      have HB4 := Lib.hid (HB3.out.trans (hb4.mono HB3.out.size))
      clear hb4 k0 k1 k2 k3 k4 k5 k6 y0 y1 y2 y3 y4 y5
      go_wp2_with fail
      refine (AL.out _ HE4.out).mono ?_
      rintro e w5 ⟨rfl, hb5⟩
      have HN5 := Lib.hid (HN4.out.keep hb5)
      have HE5 := Lib.hid (HE4.out.keep hb5)
      have HB5 := Lib.hid (HB4.out.trans (hb5.mono HB4.out.size))
      clear hb5
      go_wp2_with fail
      go_ret
      exact ⟨by first | rfl | simp, HB5.out⟩
    · by_cases hm1 : 100000 < most
      · have N0 := Lib.hid (fun e h => NB.out t most e h (by rw [decide_eq_false (show ¬ most ≤ 100000 by omega), Bool.and_false, Bool.and_false]))
        clear hb
        go_enter Tryd.func5, Tryd.ntmps5
        go_upto_region 1 with fail
        rw [HW.out]
        go_wp2_with fail
        refine T0.out.mono ?_
        rintro e w1 ⟨rfl, hb1⟩
        obtain ⟨W1, hW1⟩ : ∃ X, w1.alloc (.cells #[.int .i64 q0, .int .i64 q1, .int .i64 q2, .int .i64 q3, .int .i64 q4, .int .i64 q5] 33) = X := ⟨_, rfl⟩
        have hQ1 : Clk6 W1 w1.heap.size ⟨q0, q1, q2, q3, q4, q5⟩ := hW1 ▸ Clk6.new w1 ⟨q0, q1, q2, q3, q4, q5⟩
        have hbb1 : Below W.heap.size W W1 := hW1 ▸ Below.then hb1 (below_new w1 _)
        have HQ1 := Lib.hid hQ1
        have HN1 := Lib.hid (HN.out.keep hbb1)
        have HE1 := Lib.hid (HE.out.keep hbb1)
        have HB1 := Lib.hid (HB.out.trans (hbb1.mono HB.out.size))
        have HW1 := Lib.hid hW1
        have HX := Lib.hid (NX.out t most W1 HE1.out)
        obtain ⟨k0, k1, k2, k3, k4, k5, k6⟩ := HN1.out.cells
        clear hW1 hQ1 hbb1 hb1
        go_upto_region 2 with fail
        rw [HW1.out]
        go_wp2_with fail
        refine HX.out.mono ?_
        rintro e w2 ⟨hend, hb2⟩
        have HN2 := Lib.hid (HN1.out.keep hb2)
        have HQ2 := Lib.hid (HQ1.out.keep hb2)
        have HE2 := Lib.hid (HE1.out.keep hb2)
        have HB2 := Lib.hid (HB1.out.trans (hb2.mono HB1.out.size))
        clear hb2 k0 k1 k2 k3 k4 k5 k6
        have he2 := N0.out e hend
        subst he2
        clear hend
        obtain ⟨k0, k1, k2, k3, k4, k5, k6⟩ := HN2.out.cells
        go_wp2_with fail
        refine (F0.out _ HE2.out).mono ?_
        rintro e w3 ⟨rfl, hb3⟩
        have HN3 := Lib.hid (HN2.out.keep hb3)
        have HQ3 := Lib.hid (HQ2.out.keep hb3)
        have HE3 := Lib.hid (HE2.out.keep hb3)
        have HB3 := Lib.hid (HB2.out.trans (hb3.mono HB2.out.size))
        clear hb3 k0 k1 k2 k3 k4 k5 k6
        obtain ⟨k0, k1, k2, k3, k4, k5, k6⟩ := HN3.out.cells
        obtain ⟨y0, y1, y2, y3, y4, y5⟩ := HQ3.out.cells
        go_wp2_with fail
        refine (R0.out _).mono ?_
        rintro e w4 ⟨rfl, hb4⟩
        have HN4 := Lib.hid (HN3.out.keep hb4)
        have HE4 := Lib.hid (HE3.out.keep hb4)
        have HB4 := Lib.hid (HB3.out.trans (hb4.mono HB3.out.size))
        clear hb4 k0 k1 k2 k3 k4 k5 k6 y0 y1 y2 y3 y4 y5
        go_wp2_with fail
        refine (AL.out _ HE4.out).mono ?_
        rintro e w5 ⟨rfl, hb5⟩
        have HN5 := Lib.hid (HN4.out.keep hb5)
        have HE5 := Lib.hid (HE4.out.keep hb5)
        have HB5 := Lib.hid (HB4.out.trans (hb5.mono HB4.out.size))
        clear hb5
        go_wp2_with fail
        go_ret
        exact ⟨by first | rfl | simp, HB5.out⟩
      · obtain ⟨m, rfl⟩ : ∃ m : Nat, most = (m : Int) := ⟨most.toNat, by omega⟩
        have hm : m ≤ 100000 := by omega
        have N0 := Lib.hid (fun e h => NG.out t m e h ht hm)
        clear hb hm0 hm1
        go_enter Tryd.func5, Tryd.ntmps5
        go_upto_region 1 with fail
        rw [HW.out]
        go_wp2_with fail
        refine T0.out.mono ?_
        rintro e w1 ⟨rfl, hb1⟩
        obtain ⟨W1, hW1⟩ : ∃ X, w1.alloc (.cells #[.int .i64 q0, .int .i64 q1, .int .i64 q2, .int .i64 q3, .int .i64 q4, .int .i64 q5] 33) = X := ⟨_, rfl⟩
        have hQ1 : Clk6 W1 w1.heap.size ⟨q0, q1, q2, q3, q4, q5⟩ := hW1 ▸ Clk6.new w1 ⟨q0, q1, q2, q3, q4, q5⟩
        have hbb1 : Below W.heap.size W W1 := hW1 ▸ Below.then hb1 (below_new w1 _)
        have HQ1 := Lib.hid hQ1
        have HN1 := Lib.hid (HN.out.keep hbb1)
        have HE1 := Lib.hid (HE.out.keep hbb1)
        have HB1 := Lib.hid (HB.out.trans (hbb1.mono HB.out.size))
        have HW1 := Lib.hid hW1
        have HX := Lib.hid (NX.out t m W1 HE1.out)
        obtain ⟨k0, k1, k2, k3, k4, k5, k6⟩ := HN1.out.cells
        clear hW1 hQ1 hbb1 hb1
        go_upto_region 2 with fail
        rw [HW1.out]
        go_wp2_with fail
        refine HX.out.mono ?_
        rintro e w2 ⟨hend, hb2⟩
        have HN2 := Lib.hid (HN1.out.keep hb2)
        have HQ2 := Lib.hid (HQ1.out.keep hb2)
        have HE2 := Lib.hid (HE1.out.keep hb2)
        have HB2 := Lib.hid (HB1.out.trans (hb2.mono HB1.out.size))
        clear hb2 k0 k1 k2 k3 k4 k5 k6
        rcases N0.out e hend with ⟨k, g1, g2, g3, g4, g5, rfl⟩ | ⟨g1, rfl⟩
        · have HG4 := Lib.hid g4
          have HG5 := Lib.hid g5
          clear g4 g5 hend
          obtain ⟨k0, k1, k2, k3, k4, k5, k6⟩ := HN2.out.cells
          go_wp2_with fail
          refine (F0.out _ HE2.out).mono ?_
          rintro e w3 ⟨rfl, hb3⟩
          have HN3 := Lib.hid (HN2.out.keep hb3)
          have HQ3 := Lib.hid (HQ2.out.keep hb3)
          have HE3 := Lib.hid (HE2.out.keep hb3)
          have HB3 := Lib.hid (HB2.out.trans (hb3.mono HB2.out.size))
          clear hb3 k0 k1 k2 k3 k4 k5 k6
          obtain ⟨k0, k1, k2, k3, k4, k5, k6⟩ := HN3.out.cells
          obtain ⟨y0, y1, y2, y3, y4, y5⟩ := HQ3.out.cells
          go_wp2_with fail
          refine (R0.out _).mono ?_
          rintro e w4 ⟨rfl, hb4⟩
          have HN4 := Lib.hid (HN3.out.keep hb4)
          have HE4 := Lib.hid (HE3.out.keep hb4)
          have HB4 := Lib.hid (HB3.out.trans (hb4.mono HB3.out.size))
          clear hb4 k0 k1 k2 k3 k4 k5 k6 y0 y1 y2 y3 y4 y5
          go_wp2_with fail
          refine (AL.out _ HE4.out).mono ?_
          rintro e w5 ⟨rfl, hb5⟩
          have HN5 := Lib.hid (HN4.out.keep hb5)
          have HE5 := Lib.hid (HE4.out.keep hb5)
          have HB5 := Lib.hid (HB4.out.trans (hb5.mono HB4.out.size))
          clear hb5
          by_cases h400 : 400 < m
          · go_wp2_with fail
            go_ret
            exact ⟨by first | rfl | simp, HB5.out⟩
          · skip
            go_wp2_with fail
            go_loopw [11] (fun jv wr => ∃ j : Nat, jv = .int .i64 j ∧ t < j ∧ j ≤ k ∧ Below w5.heap.size w5 wr) (fun jv _ => k + 1 - (intOf jv).toNat)
            case atStart => exact ⟨t + 1, by go_num, by omega, by omega, Below.refl _ _⟩
            case round =>
              obtain ⟨j, rfl, hj1, hj2, hbr⟩ := hrel
              have HBR := Lib.hid hbr
              have HER := Lib.hid (HE5.out.keep hbr)
              have HNR := Lib.hid (HN5.out.keep hbr)
              clear hbr
              by_cases hlt : j < k
              · have hv := HG5.out j hj1 hlt
                have T1 := Lib.hid (TT.out j wr HER.out)
                rw [atOut_nat (show j ≤ 1099511627776 by omega)] at T1
                have R1 := Lib.hid (RF.out j)
                rw [hv] at R1
                clear hv
                obtain ⟨p, hp⟩ : ∃ p, clkAt j = p := ⟨_, rfl⟩
                rw [hp] at T1 R1
                clear hp
                obtain ⟨p0, p1, p2, p3, p4, p5⟩ := p
                unfold clkV at T1 R1
                simp only at T1 R1
                go_wp2_with fail
                refine T1.out.mono ?_
                rintro e w6 ⟨rfl, hb6⟩
                obtain ⟨W6, hW6⟩ : ∃ X, w6.alloc (.cells #[.int .i64 p0, .int .i64 p1, .int .i64 p2, .int .i64 p3, .int .i64 p4, .int .i64 p5] 33) = X := ⟨_, rfl⟩
                have hQ6 : Clk6 W6 w6.heap.size ⟨p0, p1, p2, p3, p4, p5⟩ := hW6 ▸ Clk6.new w6 ⟨p0, p1, p2, p3, p4, p5⟩
                have hbb6 : Below wr.heap.size wr W6 := hW6 ▸ Below.then hb6 (below_new w6 _)
                obtain ⟨y0, y1, y2, y3, y4, y5⟩ := hQ6.cells
                obtain ⟨k0, k1, k2, k3, k4, k5, k6⟩ := (HNR.out.keep hbb6).cells
                have HB6 := Lib.hid (HBR.out.trans (hbb6.mono HBR.out.size))
                have HW6 := Lib.hid hW6
                clear hW6 hQ6 hbb6 hb6
                go_upto_region 13 with fail
                rw [HW6.out]
                go_wp2_with fail
                refine (R1.out _).mono ?_
                rintro e w7 ⟨rfl, hb7⟩
                have HB7 := Lib.hid (HB6.out.trans (hb7.mono HB6.out.size))
                clear hb7 k0 k1 k2 k3 k4 k5 k6 y0 y1 y2 y3 y4 y5
                go_wp2_with fail
                go_roundw
                case rel => exact ⟨j + 1, by go_num, by omega, by omega, HB7.out⟩
                case measure => simp [intOf]; omega
              · obtain rfl : j = k := by omega
                have T1 := Lib.hid (TT.out j wr HER.out)
                rw [atOut_nat (show j ≤ 1099511627776 by omega)] at T1
                have R1 := Lib.hid (RF.out j)
                rw [HG4.out] at R1
                obtain ⟨p, hp⟩ : ∃ p, clkAt j = p := ⟨_, rfl⟩
                rw [hp] at T1 R1
                clear hp
                obtain ⟨p0, p1, p2, p3, p4, p5⟩ := p
                unfold clkV at T1 R1
                simp only at T1 R1
                go_wp2_with fail
                refine T1.out.mono ?_
                rintro e w6 ⟨rfl, hb6⟩
                obtain ⟨W6, hW6⟩ : ∃ X, w6.alloc (.cells #[.int .i64 p0, .int .i64 p1, .int .i64 p2, .int .i64 p3, .int .i64 p4, .int .i64 p5] 33) = X := ⟨_, rfl⟩
                have hQ6 : Clk6 W6 w6.heap.size ⟨p0, p1, p2, p3, p4, p5⟩ := hW6 ▸ Clk6.new w6 ⟨p0, p1, p2, p3, p4, p5⟩
                have hbb6 : Below wr.heap.size wr W6 := hW6 ▸ Below.then hb6 (below_new w6 _)
                obtain ⟨y0, y1, y2, y3, y4, y5⟩ := hQ6.cells
                obtain ⟨k0, k1, k2, k3, k4, k5, k6⟩ := (HNR.out.keep hbb6).cells
                have HB6 := Lib.hid (HBR.out.trans (hbb6.mono HBR.out.size))
                have HW6 := Lib.hid hW6
                clear hW6 hQ6 hbb6 hb6
                go_upto_region 13 with fail
                rw [HW6.out]
                go_wp2_with fail
                refine (R1.out _).mono ?_
                rintro e w7 ⟨rfl, hb7⟩
                have HB7 := Lib.hid (HB6.out.trans (hb7.mono HB6.out.size))
                clear hb7 k0 k1 k2 k3 k4 k5 k6 y0 y1 y2 y3 y4 y5
                go_wp2_with fail
                go_ret
                exact ⟨by first | rfl | simp, HB5.out.trans (HB7.out.mono HB5.out.size)⟩
        · have HG1 := Lib.hid g1
          clear g1 hend
          obtain ⟨k0, k1, k2, k3, k4, k5, k6⟩ := HN2.out.cells
          go_wp2_with fail
          refine (F0.out _ HE2.out).mono ?_
          rintro e w3 ⟨rfl, hb3⟩
          have HN3 := Lib.hid (HN2.out.keep hb3)
          have HQ3 := Lib.hid (HQ2.out.keep hb3)
          have HE3 := Lib.hid (HE2.out.keep hb3)
          have HB3 := Lib.hid (HB2.out.trans (hb3.mono HB2.out.size))
          clear hb3 k0 k1 k2 k3 k4 k5 k6
          obtain ⟨k0, k1, k2, k3, k4, k5, k6⟩ := HN3.out.cells
          obtain ⟨y0, y1, y2, y3, y4, y5⟩ := HQ3.out.cells
          go_wp2_with fail
          refine (R0.out _).mono ?_
          rintro e w4 ⟨rfl, hb4⟩
          have HN4 := Lib.hid (HN3.out.keep hb4)
          have HE4 := Lib.hid (HE3.out.keep hb4)
          have HB4 := Lib.hid (HB3.out.trans (hb4.mono HB3.out.size))
          clear hb4 k0 k1 k2 k3 k4 k5 k6 y0 y1 y2 y3 y4 y5
          go_wp2_with fail
          refine (AL.out _ HE4.out).mono ?_
          rintro e w5 ⟨rfl, hb5⟩
          have HN5 := Lib.hid (HN4.out.keep hb5)
          have HE5 := Lib.hid (HE4.out.keep hb5)
          have HB5 := Lib.hid (HB4.out.trans (hb5.mono HB4.out.size))
          clear hb5
          by_cases h400 : 400 < m
          · go_wp2_with fail
            go_ret
            exact ⟨by first | rfl | simp, HB5.out⟩
          · skip
            go_wp2_with fail
            go_loopw [11] (fun jv wr => ∃ j : Nat, jv = .int .i64 j ∧ t < j ∧ j ≤ t + m + 1 ∧ j ≤ 1099511627777 ∧ Below w5.heap.size w5 wr) (fun jv _ => t + m + 2 - (intOf jv).toNat)
            case atStart => exact ⟨t + 1, by go_num, by omega, by omega, by omega, Below.refl _ _⟩
            case round =>
              obtain ⟨j, rfl, hj1, hj2, hj3, hbr⟩ := hrel
              have HBR := Lib.hid hbr
              have HER := Lib.hid (HE5.out.keep hbr)
              have HNR := Lib.hid (HN5.out.keep hbr)
              clear hbr
              by_cases hlt : j ≤ t + m
              · by_cases hlt2 : j ≤ 1099511627776
                · have hv := HG1.out j hj1 hlt hlt2
                  have T1 := Lib.hid (TT.out j wr HER.out)
                  rw [atOut_nat (show j ≤ 1099511627776 by omega)] at T1
                  have R1 := Lib.hid (RF.out j)
                  rw [hv] at R1
                  clear hv
                  obtain ⟨p, hp⟩ : ∃ p, clkAt j = p := ⟨_, rfl⟩
                  rw [hp] at T1 R1
                  clear hp
                  obtain ⟨p0, p1, p2, p3, p4, p5⟩ := p
                  unfold clkV at T1 R1
                  simp only at T1 R1
                  go_wp2_with fail
                  refine T1.out.mono ?_
                  rintro e w6 ⟨rfl, hb6⟩
                  obtain ⟨W6, hW6⟩ : ∃ X, w6.alloc (.cells #[.int .i64 p0, .int .i64 p1, .int .i64 p2, .int .i64 p3, .int .i64 p4, .int .i64 p5] 33) = X := ⟨_, rfl⟩
                  have hQ6 : Clk6 W6 w6.heap.size ⟨p0, p1, p2, p3, p4, p5⟩ := hW6 ▸ Clk6.new w6 ⟨p0, p1, p2, p3, p4, p5⟩
                  have hbb6 : Below wr.heap.size wr W6 := hW6 ▸ Below.then hb6 (below_new w6 _)
                  obtain ⟨y0, y1, y2, y3, y4, y5⟩ := hQ6.cells
                  obtain ⟨k0, k1, k2, k3, k4, k5, k6⟩ := (HNR.out.keep hbb6).cells
                  have HB6 := Lib.hid (HBR.out.trans (hbb6.mono HBR.out.size))
                  have HW6 := Lib.hid hW6
                  clear hW6 hQ6 hbb6 hb6
                  go_upto_region 13 with fail
                  rw [HW6.out]
                  go_wp2_with fail
                  refine (R1.out _).mono ?_
                  rintro e w7 ⟨rfl, hb7⟩
                  have HB7 := Lib.hid (HB6.out.trans (hb7.mono HB6.out.size))
                  clear hb7 k0 k1 k2 k3 k4 k5 k6 y0 y1 y2 y3 y4 y5
                  go_wp2_with fail
                  go_roundw
                  case rel => exact ⟨j + 1, by go_num, by omega, by omega, by omega, HB7.out⟩
                  case measure => simp [intOf]; omega
                · go_wp2_with fail
                  go_ret
                  exact ⟨by first | rfl | simp, HB5.out.trans (HBR.out.mono HB5.out.size)⟩
              · go_wp2_with fail
                go_ret
                exact ⟨by first | rfl | simp, HB5.out.trans (HBR.out.mono HB5.out.size)⟩
end Go.Proofs.YtccobaohmbilpaaDoor
