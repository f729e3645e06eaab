/-
  CronDays, the law's function, returns true at every input: its walk. Conditions: the package-level variables as CEnv says; numbers of 64 bits.
-/
import Derived.Test.YtccobaohmbilpaaDoorLawCNext
namespace Go.Proofs.YtccobaohmbilpaaDoor
open Go.RowKit

theorem weekly_bits (d : Nat) : (weekly d).Bits := ⟨starN_lt _ _ (by decide), starN_lt _ _ (by decide), starN_lt _ _ (by decide), starN_lt _ _ (by decide), oneN_lt _ _ _ (by decide)⟩
/-- What a day later is. -/
structure Later (a b : Clk) : Prop where
  minute : a.minute = b.minute
  hour : a.hour = b.hour
  week : b.week = (a.week + 1) % 7
  day : b.day = a.day + 1 ∨ b.day = 1
theorem later (t : Nat) : Later (clkAt t) (clkAt (t + 1440)) := by
  refine ⟨?_, ?_, ?_, next_day t⟩
  · rw [clkAt_minute, clkAt_minute]; omega
  · rw [clkAt_hour, clkAt_hour]; omega
  · rw [clkAt_week, clkAt_week]; omega

set_option maxRecDepth 100000 in
set_option maxHeartbeats 8000000 in
theorem days_walk (tick day : Int) (w : World) {aA aN aO : Addr} (ht : -9223372036854775808 ≤ tick ∧ tick ≤ 9223372036854775807) (hd : -9223372036854775808 ≤ day ∧ day ≤ 9223372036854775807) (he : CEnv w aA aN aO) :
    Calls Tryd.prog 7 #[.int .i64 tick, .int .i64 day] w fun e w' => e = .returned (.bool true) ∧ Below w.heap.size w w' := by
  obtain ⟨r, t, e1, r1, r2, e2, e3, ht9⟩ := mod_pos tick 1000000000 (by decide) ht
  obtain ⟨s, d, e4, s1, s2, e5, e6, hd7⟩ := mod_pos day 7 (by decide) hd
  simp only [Int.cast_ofNat_Int] at e1 r1 r2 e2 e3 e4 s1 s2 e5 e6
  have PR := Lib.hid (fun (x : ByteArray) w1 (h : CEnv w1 aA aN aO) => Parse_t x w1 h)
  have TT := Lib.hid (fun (t : Int) w1 (h : CEnv w1 aA aN aO) => At_t t w1 h.months)
  have AL := Lib.hid (fun w1 (h : CEnv w1 aA aN aO) => alive_t w1 h)
  have HE := Lib.hid he
  have PW := Lib.hid (parse_weekly hd7)
  have hc0 : (UInt8.ofNat (48 + d)).toNat = 48 + d := by rw [UInt8.toNat_ofNat_of_lt' (by show 48 + d < 256; omega)]
  obtain ⟨c, hc⟩ : ∃ c, UInt8.ofNat (48 + d) = c := ⟨_, rfl⟩
  rw [hc] at PW hc0
  have hcI : (48 : Int) + d = (c.toNat : Int) := by omega
  obtain ⟨W, hW⟩ : ∃ W, w.alloc (.cells #[.int .u8 (48 + (d : Int))] 5) = W := ⟨_, rfl⟩
  have hB : Below w.heap.size w W := hW ▸ below_new w _
  have hcell : W.cell? ⟨w.heap.size, 0, none⟩ = some (.int .u8 (48 + (d : Int))) := by
    rw [← hW, World.cell?_alloc_at _ _ _ _ rfl]; rfl
  have hcv : (convert 44 9 (.slice (some ⟨w.heap.size, 0, none⟩) 1 1)).run Tryd.prog W = .ok (.string ⟨#[c]⟩) W :=
    run_convert_bytes_back (P := Tryd.prog) W 44 9 5 ⟨w.heap.size, 0, none⟩ 1 [c] Tryd.underlying44 Tryd.underlying5 Tryd.underlying9 (fun j hj => by
      obtain rfl : j = 0 := by simpa using hj
      rw [addr0_addG]; rw [hcell, hcI]; rfl)
  have HP := Lib.hid (show ∀ w1, CEnv w1 aA aN aO → Calls Tryd.prog 9 #[.string (⟨#[42, 32, 42, 32, 42, 32, 42, 32]⟩ ++ ⟨#[c]⟩)] w1 fun e w' => e = .returned (.tuple #[crnV (weekly d), .int .i64 0]) ∧ Below w1.heap.size w1 w' from fun w1 h => by
    have := PR.out (⟨#[42, 32, 42, 32, 42, 32, 42, 32]⟩ ++ ⟨#[c]⟩) w1 h
    rw [append_list, show (⟨#[42, 32, 42, 32, 42, 32, 42, 32]⟩ : ByteArray).data.toList = [42, 32, 42, 32, 42, 32, 42, 32] from rfl, show (⟨#[c]⟩ : ByteArray).data.toList = [c] from rfl, PW.out] at this
    exact this)
  have HB := Lib.hid hB
  have HW := Lib.hid hW
  have HE1 := Lib.hid (HE.out.keep hB)
  have FI := Lib.hid (fun (t : Int) w1 (h : CEnv w1 aA aN aO) => Fires_t (weekly d) t w1 (weekly_bits d) h.months)
  have CN := Lib.hid (cnt_weekly hd7 t)
  obtain ⟨f, hf⟩ : ∃ f, firesT (weekly d) = f := ⟨_, rfl⟩
  rw [hf] at FI CN
  obtain ⟨q, hq⟩ : ∃ q, weekly d = q := ⟨_, rfl⟩
  rw [hq] at HP FI
  obtain ⟨c1, c2, c3, c4, c5, b5, b6⟩ := q
  unfold crnV at HP FI
  simp only at HP FI
  clear ht hd he hc hc0 hcI hW hB hcell hf hq PR PW
  go_enter Tryd.func7, Tryd.ntmps7
  go_wp2_with fail
  rw [HW.out]
  go_simp
  go_wp2_with fail
  refine (HP.out _ HE1.out).mono ?_
  rintro e w1 ⟨rfl, hb1⟩
  obtain ⟨W1, hW1⟩ : ∃ X, w1.alloc (.cells #[.int .u64 c1, .int .u64 c2, .int .u64 c3, .int .u64 c4, .int .u64 c5, .bool b5, .bool b6] 24) = X := ⟨_, rfl⟩
  have hN1 : Crn7 W1 w1.heap.size ⟨c1, c2, c3, c4, c5, b5, b6⟩ := hW1 ▸ Crn7.new w1 ⟨c1, c2, c3, c4, c5, b5, b6⟩
  have hbb1 : Below W.heap.size W W1 := hW1 ▸ Below.then hb1 (below_new w1 _)
  have HN1 := Lib.hid hN1
  have HE2 := Lib.hid (HE1.out.keep hbb1)
  have HB1 := Lib.hid (HB.out.trans (hbb1.mono HB.out.size))
  have HW1 := Lib.hid hW1
  clear hW1 hN1 hbb1 hb1 hcv e1 e2 e3 e4 e5 e6 r1 r2 s1 s2
  go_upto_region 4 with fail
  rw [HW1.out]
  go_wp2_with fail
  refine (AL.out _ HE2.out).mono ?_
  rintro e w2 ⟨rfl, hb2⟩
  have HN2 := Lib.hid (HN1.out.keep hb2)
  have HE3 := Lib.hid (HE2.out.keep hb2)
  have HB2 := Lib.hid (HB1.out.trans (hb2.mono HB1.out.size))
  clear hb2
  go_wp2_with fail
  go_loopw [7, 37] (fun fv iv wr => ∃ k n : Nat, k ≤ 7 ∧ fv = .int .i64 n ∧ iv = .int .i64 k ∧ n ≤ k ∧ cnt (fun j => f (t + 1440 * j)) k = n ∧ Below w2.heap.size w2 wr) (fun _ iv _ => 7 - (intOf iv).toNat)
  case atStart => exact ⟨0, 0, by omega, rfl, rfl, Nat.le_refl _, rfl, Below.refl _ _⟩
  case round =>
    obtain ⟨k, n, hk, rfl, rfl, hnk, hcn, hbr⟩ := hrel
    have HCN := Lib.hid hcn
    have HBR := Lib.hid hbr
    have HER := Lib.hid (HE3.out.keep hbr)
    have HNR := Lib.hid (HN2.out.keep hbr)
    clear hcn hbr
    by_cases hlt : k < 7
    · obtain ⟨x, hx⟩ : ∃ x, t + 1440 * k = x := ⟨_, rfl⟩
      obtain ⟨y, hy⟩ : ∃ y, x + 1440 = y := ⟨_, rfl⟩
      have ex : (t : Int) + 1440 * k = (x : Int) := by omega
      have ey : (t : Int) + 1440 * ((k : Int) + 1) = (y : Int) := by omega
      have hxb : x ≤ 1000010080 := by omega
      have hyb : y ≤ 1000011520 := by omega
      have HX := Lib.hid hx
      have L := later x
      rw [hy] at L
      have p0b := (clkAt_lt x).minute
      have p2 := clkAt_day x
      have p5b := clkAt_week x
      obtain ⟨p, hp⟩ : ∃ p, clkAt x = p := ⟨_, rfl⟩
      obtain ⟨q, hq⟩ : ∃ q, clkAt y = q := ⟨_, rfl⟩
      have T1 := Lib.hid (fun w1 h => TT.out (x : Int) w1 h)
      have T2 := Lib.hid (fun w1 h => TT.out (y : Int) w1 h)
      rw [atOut_nat (by omega), hp] at T1
      rw [atOut_nat (by omega), hq] at T2
      rw [hp, hq] at L
      rw [hp] at p2 p5b
      have F1 := Lib.hid (fun w1 h => FI.out (x : Int) w1 h)
      rw [tickB_nat (by omega), Bool.true_and, Int.toNat_natCast] at F1
      obtain ⟨b, hb⟩ : ∃ b, f x = b := ⟨_, rfl⟩
      rw [hb] at F1
      have HC1 := Lib.hid (show cnt (fun j => f (t + 1440 * j)) (k + 1) = n + if b then 1 else 0 from by rw [cnt, HCN.out, hx, hb])
      obtain ⟨L0, L1, L5, L2⟩ := L
      obtain ⟨p0, p1, pd, pm, py, pw⟩ := p
      obtain ⟨q0, q1, qd, qm, qy, qw⟩ := q
      simp only at L0 L1 L5 L2 p2 p5b
      subst L0
      subst L1
      have pw6 : pw ≤ 6 := by omega
      have ew : ((pw : Int) + 1) % 7 = (qw : Int) := by omega
      have ed : ¬ (qd : Int) = (pd : Int) + 1 → (qd : Int) = 1 := fun h => by omega
      have pdb : pd ≤ 31 := p2.2
      unfold clkV at T1 T2
      simp only at T1 T2
      have HED := Lib.hid ed
      clear hx hy hp hq hb p0b p2 p5b L5 L2 ed
      go_wp2_with fail
      refine (T1.out _ HER.out).mono ?_
      rintro e w3 ⟨rfl, hb3⟩
      obtain ⟨W3, hW3⟩ : ∃ X, w3.alloc (.cells #[.int .i64 p0, .int .i64 p1, .int .i64 pd, .int .i64 pm, .int .i64 py, .int .i64 pw] 33) = X := ⟨_, rfl⟩
      have hQ3 : Clk6 W3 w3.heap.size ⟨p0, p1, pd, pm, py, pw⟩ := hW3 ▸ Clk6.new w3 ⟨p0, p1, pd, pm, py, pw⟩
      have hbb3 : Below wr.heap.size wr W3 := hW3 ▸ Below.then hb3 (below_new w3 _)
      have HQ3 := Lib.hid hQ3
      have HN3 := Lib.hid (HNR.out.keep hbb3)
      have HE4 := Lib.hid (HER.out.keep hbb3)
      have HB3 := Lib.hid (HBR.out.trans (hbb3.mono HBR.out.size))
      have HW3 := Lib.hid hW3
      clear hW3 hQ3 hbb3 hb3
      go_upto_region 11 with fail
      rw [HW3.out]
      go_wp2_with fail
      refine (T2.out _ HE4.out).mono ?_
      rintro e w4 ⟨rfl, hb4⟩
      obtain ⟨W4, hW4⟩ : ∃ X, w4.alloc (.cells #[.int .i64 p0, .int .i64 p1, .int .i64 qd, .int .i64 qm, .int .i64 qy, .int .i64 qw] 33) = X := ⟨_, rfl⟩
      have hQ4 : Clk6 W4 w4.heap.size ⟨p0, p1, qd, qm, qy, qw⟩ := hW4 ▸ Clk6.new w4 ⟨p0, p1, qd, qm, qy, qw⟩
      have hbb4 : Below W3.heap.size W3 W4 := hW4 ▸ Below.then hb4 (below_new w4 _)
      have HN4 := Lib.hid (HN3.out.keep hbb4)
      have HE5 := Lib.hid (HE4.out.keep hbb4)
      have HB4 := Lib.hid (HB3.out.trans (hbb4.mono HB3.out.size))
      have HW4 := Lib.hid hW4
      obtain ⟨x0, x1, x2, x3, x4, x5⟩ := (HQ3.out.keep hbb4).cells
      obtain ⟨y0, y1, y2, y3, y4, y5⟩ := hQ4.cells
      obtain ⟨k0, k1, k2, k3, k4, k5, k6⟩ := HN4.out.cells
      clear hW4 hQ4 hbb4 hb4
      go_upto_region 12 with fail
      rw [HW4.out]
      by_cases hqd : (qd : Int) = (pd : Int) + 1
      · go_wp2_with fail
        refine (F1.out _ HE5.out).mono ?_
        rintro e w5 ⟨rfl, hb5⟩
        have HB5 := Lib.hid (HB4.out.trans (hb5.mono HB4.out.size))
        clear hb5 k0 k1 k2 k3 k4 k5 k6 x0 x1 x2 x3 x4 x5 y0 y1 y2 y3 y4 y5
        cases b with
        | true =>
          go_wp2_with fail
          go_roundw
          case rel => exact ⟨k + 1, n + 1, by omega, by go_num, by go_num, by omega, HC1.out, HB5.out⟩
          case measure => simp [intOf]; omega
        | false =>
          go_wp2_with fail
          go_roundw
          case rel => exact ⟨k + 1, n, by omega, rfl, by go_num, by omega, HC1.out, HB5.out⟩
          case measure => simp [intOf]; omega
      · have hq1 := HED.out hqd
        go_wp2_with fail
        refine (F1.out _ HE5.out).mono ?_
        rintro e w5 ⟨rfl, hb5⟩
        have HB5 := Lib.hid (HB4.out.trans (hb5.mono HB4.out.size))
        clear hb5 k0 k1 k2 k3 k4 k5 k6 x0 x1 x2 x3 x4 x5 y0 y1 y2 y3 y4 y5
        cases b with
        | true =>
          go_wp2_with fail
          go_roundw
          case rel => exact ⟨k + 1, n + 1, by omega, by go_num, by go_num, by omega, HC1.out, HB5.out⟩
          case measure => simp [intOf]; omega
        | false =>
          go_wp2_with fail
          go_roundw
          case rel => exact ⟨k + 1, n, by omega, rfl, by go_num, by omega, HC1.out, HB5.out⟩
          case measure => simp [intOf]; omega
    · obtain rfl : k = 7 := by omega
      have hn1 : n = 1 := by rw [← HCN.out]; exact CN.out
      subst hn1
      go_wp2_with fail
      go_ret
      exact ⟨by first | rfl | simp, HB2.out.trans (HBR.out.mono HB2.out.size)⟩
end Go.Proofs.YtccobaohmbilpaaDoor
