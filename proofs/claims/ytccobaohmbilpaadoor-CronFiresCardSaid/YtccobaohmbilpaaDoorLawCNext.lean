/-
  CronNext, the law's function, returns true at every input: its walk. Conditions: the package-level variables as CEnv says; numbers of 64 bits.
-/
import Derived.Test.YtccobaohmbilpaaDoorLawCAlive
namespace Go.Proofs.YtccobaohmbilpaaDoor
open Go.RowKit

theorem next_one {c : Crn} {k : Nat} {e : Ending} (h1 : 1 ≤ k) (h2 : k ≤ 1099511627776) (hf : firesT c k = true) (h : NextEnds c ((k - 1 : Nat) : Int) 1 e) : e = .returned (.tuple #[.int .i64 k, .int .i64 0]) := by
  rcases h with ⟨hb, -⟩ | ⟨n, m, hn, hm, -, -, ⟨j, g1, g2, g3, g4, g5, rfl⟩ | ⟨g1, -⟩⟩
  · rw [tickB_nat (by omega)] at hb
    exact absurd hb (by decide)
  · have : j = k := by omega
    rw [this]
  · rw [g1 k (by omega) (by omega) h2] at hf
    cases hf
/-- A remainder that is made positive. -/
theorem mod_pos (x : Int) (q : Nat) (hq : 0 < q) (_hx : -9223372036854775808 ≤ x ∧ x ≤ 9223372036854775807) : ∃ (r : Int) (m : Nat), x.tmod q = r ∧ -(q : Int) < r ∧ r < q ∧ (r + q).tmod q = m ∧ (r + q) % q = m ∧ m < q := by
  have h1 := Int.tmod_lt_of_pos x (show (0 : Int) < q by omega)
  have h2 := Int.lt_tmod_of_pos x (show (0 : Int) < q by omega)
  have h3 := Int.emod_nonneg (x.tmod q + q) (show (q : Int) ≠ 0 by omega)
  have h4 := Int.emod_lt_of_pos (x.tmod q + q) (show (0 : Int) < q by omega)
  refine ⟨x.tmod q, ((x.tmod q + q) % q).toNat, rfl, h2, h1, ?_, ?_, by omega⟩
  · rw [Int.tmod_eq_emod_of_nonneg (by omega)]; omega
  · omega

set_option maxRecDepth 100000 in
set_option maxHeartbeats 8000000 in
theorem next_walk (c : Crn) (tick most : Int) (w : World) {aA aN aO : Addr} (hc : c.Bits) (ht : -9223372036854775808 ≤ tick ∧ tick ≤ 9223372036854775807) (hm : -9223372036854775808 ≤ most ∧ most ≤ 9223372036854775807) (he : CEnv w aA aN aO) :
    Calls Tryd.prog 8 #[crnV c, .int .i64 tick, .int .i64 most] w fun e w' => e = .returned (.bool true) ∧ Below w.heap.size w w' := by
  obtain ⟨r, m, e1, r1, r2, e2, e3, hm300⟩ := mod_pos most 300 (by decide) hm
  simp only [Int.cast_ofNat_Int] at e1 r1 r2 e2 e3
  obtain ⟨W, hW⟩ : ∃ W, w.alloc (.cells #[.int .u64 c.minutes, .int .u64 c.hours, .int .u64 c.days, .int .u64 c.months, .int .u64 c.week, .bool c.anyDay, .bool c.anyWeek] 24) = W := ⟨_, rfl⟩
  have hN : Crn7 W w.heap.size c := hW ▸ Crn7.new w c
  have hB : Below w.heap.size w W := hW ▸ below_new w _
  have HW := Lib.hid hW
  have HN := Lib.hid hN
  have HB := Lib.hid hB
  have HE := Lib.hid (he.keep hB)
  have NX := Lib.hid (fun (t o : Int) w1 (h : CEnv w1 aA aN aO) => Next_t c t o w1 hc h.months)
  have FI := Lib.hid (fun (t : Int) w1 (h : CEnv w1 aA aN aO) => Fires_t c t w1 hc h.months)
  have AL := Lib.hid (fun w1 (h : CEnv w1 aA aN aO) => alive_t w1 h)
  obtain ⟨k0, k1, k2, k3, k4, k5, k6⟩ := hN.cells
  clear hW hN hB hm he hc
  obtain ⟨f, hf⟩ : ∃ f, firesT c = f := ⟨_, rfl⟩
  have HF := Lib.hid (fun n => congrFun hf n)
  have N1 := Lib.hid (fun (k : Nat) e (h1 : 1 ≤ k) (h2 : k ≤ 1099511627776) (h3 : f k = true) h => next_one (c := c) (e := e) h1 h2 (by rw [hf]; exact h3) h)
  obtain ⟨E, hE⟩ : ∃ E, NextEnds c = E := ⟨_, rfl⟩
  have HEN := Lib.hid (show ∀ t o e, E t o e → NextEnds c t o e from fun t o e h => by rw [hE]; exact h)
  rw [hf] at FI
  rw [hE] at NX N1
  clear hf hE
  obtain ⟨c1, c2, c3, c4, c5, b5, b6⟩ := c
  unfold crnV at *
  simp only at k0 k1 k2 k3 k4 k5 k6 NX FI HW ⊢
  go_enter Tryd.func8, Tryd.ntmps8
  go_upto_region 1 with fail
  rw [HW.out]
  go_wp2_with fail
  refine (NX.out _ _ _ HE.out).mono ?_
  rintro e w1 ⟨hend, hb1⟩
  have HB1 := Lib.hid (HB.out.trans (hb1.mono HB.out.size))
  have HN1 := Lib.hid (HN.out.keep hb1)
  have HE1 := Lib.hid (HE.out.keep hb1)
  clear hb1 k0 k1 k2 k3 k4 k5 k6
  have hend2 := HEN.out _ _ _ hend
  clear hend
  rcases hend2 with ⟨hbad, rfl⟩ | ⟨n, m', rfl, hmm, hn, -, ⟨k, g1, g2, g3, g4, g5, rfl⟩ | ⟨-, rfl⟩⟩
  · have A := Lib.hid (AL.out _ HE1.out)
    clear hbad
    go_wp2_with fail
    refine A.out.mono ?_
    rintro e w2 ⟨rfl, hb2⟩
    have HB2 := Lib.hid (HB1.out.trans (hb2.mono HB1.out.size))
    clear hb2
    go_wp2_with fail
    go_ret
    exact ⟨by first | rfl | simp, HB2.out⟩
  · have hg4 := HF.out k
    have HG5 := Lib.hid (fun j (a : n < j) (b : j < k) => (HF.out j).symm.trans (g5 j a b))
    rw [hg4] at g4
    have HG4 := Lib.hid g4
    obtain rfl : m' = m := by omega
    clear hg4 g4 g5 hmm
    go_wp2_with fail
    go_loopw [9] (fun tv wr => ∃ t : Nat, tv = .int .i64 t ∧ n < t ∧ t ≤ k ∧ Below w1.heap.size w1 wr) (fun tv _ => k - (intOf tv).toNat)
    case atStart => exact ⟨n + 1, by go_num, by omega, by omega, Below.refl _ _⟩
    case round =>
      obtain ⟨t, rfl, ht1, ht2, hbr⟩ := hrel
      obtain ⟨k0, k1, k2, k3, k4, k5, k6⟩ := (HN1.out.keep hbr).cells
      have HBR := Lib.hid hbr
      have HER := Lib.hid (HE1.out.keep hbr)
      by_cases hlt : t < k
      · have F1 := Lib.hid (FI.out (t : Int) wr HER.out)
        rw [Int.toNat_natCast, HG5.out t ht1 hlt, Bool.and_false] at F1
        clear hbr
        go_wp2_with fail
        refine F1.out.mono ?_
        rintro e w2 ⟨rfl, hb2⟩
        have HB2 := Lib.hid (HBR.out.trans (hb2.mono HBR.out.size))
        clear hb2
        go_wp2_with fail
        go_roundw
        case rel => exact ⟨t + 1, by go_num, by omega, by omega, HB2.out⟩
        case measure => simp [intOf]; omega
      · have htk : t = k := by omega
        have ek : (k : Int) - 1 = ((k - 1 : Nat) : Int) := by omega
        have X1 := Lib.hid (NX.out ((k - 1 : Nat) : Int) 1 wr HER.out)
        have NO := Lib.hid (fun e h => N1.out k e (by omega) g3 HG4.out h)
        obtain ⟨kp, hkp⟩ : ∃ x, k - 1 = x := ⟨_, rfl⟩
        rw [hkp] at ek X1 NO
        clear hbr hkp
        go_wp2_with fail
        refine X1.out.mono ?_
        rintro e w2 ⟨hend2, hb2⟩
        have he2 := NO.out e hend2
        subst he2
        have HB2 := Lib.hid (HBR.out.trans (hb2.mono HBR.out.size))
        have HE2 := Lib.hid (HER.out.keep hb2)
        have A := Lib.hid (AL.out _ HE2.out)
        have HN2 := Lib.hid ((HN1.out.keep HBR.out).keep hb2)
        clear hend2 hb2 k0 k1 k2 k3 k4 k5 k6
        go_wp2_with fail
        refine A.out.mono ?_
        rintro e w3 ⟨rfl, hb3⟩
        obtain ⟨k0, k1, k2, k3, k4, k5, k6⟩ := (HN2.out.keep hb3).cells
        have HB3 := Lib.hid (HB2.out.trans (hb3.mono HB2.out.size))
        have F1 := Lib.hid (FI.out (k : Int) w3 (HE2.out.keep hb3))
        rw [Int.toNat_natCast, HG4.out, tickB_nat g3] at F1
        clear hb3
        go_wp2_with fail
        refine F1.out.mono ?_
        rintro e w4 ⟨rfl, hb4⟩
        have HB4 := Lib.hid (HB3.out.trans (hb4.mono HB3.out.size))
        clear hb4
        go_wp2_with fail
        go_ret
        exact ⟨by first | rfl | simp, HB1.out.trans (HB4.out.mono HB1.out.size)⟩
  · have A := Lib.hid (AL.out _ HE1.out)
    clear hmm
    go_wp2_with fail
    refine A.out.mono ?_
    rintro e w2 ⟨rfl, hb2⟩
    have HB2 := Lib.hid (HB1.out.trans (hb2.mono HB1.out.size))
    clear hb2
    go_wp2_with fail
    go_ret
    exact ⟨by first | rfl | simp, HB2.out⟩
end Go.Proofs.YtccobaohmbilpaaDoor
