/-
  Five stars fire at the first tick: the laws' own test, by a contract. Conditions: the package-level variables as CEnv says.
-/
import Derived.Test.YtccobaohmbilpaaDoorCronParse
import Derived.Test.YtccobaohmbilpaaDoorCronNext
namespace Go.Proofs.YtccobaohmbilpaaDoor
open Go.RowKit

theorem stars_bits : stars.Bits := ⟨starN_lt _ _ (by decide), starN_lt _ _ (by decide), starN_lt _ _ (by decide), starN_lt _ _ (by decide), starN_lt _ _ (by decide)⟩
theorem clkAt_zero : clkAt 0 = ⟨0, 0, 1, 1, 1970, 4⟩ := by
  have h : IsAt 0 ⟨0, 0, 1, 1, 1970, 4⟩ := ⟨⟨by decide, by decide, by decide, by decide, by decide, by decide, by decide⟩, by decide, by decide⟩
  exact h.eq.symm
theorem atOut_nat {n : Nat} (h : n ≤ 1099511627776) : atOut (n : Int) = .tuple #[clkV (clkAt n), .int .i64 0] := by
  unfold atOut; rw [tickB_nat h, if_pos rfl, Int.toNat_natCast]

set_option maxRecDepth 100000 in
set_option maxHeartbeats 4000000 in
theorem alive_t (w : World) {aA aN aO : Addr} (he : CEnv w aA aN aO) :
    Calls Tryd.prog 11 #[] w fun e w' => e = .returned (.bool true) ∧ Below w.heap.size w w' := by
  have P := Lib.hid (Parse_t ⟨#[42, 32, 42, 32, 42, 32, 42, 32, 42]⟩ w he)
  rw [show (⟨#[42, 32, 42, 32, 42, 32, 42, 32, 42]⟩ : ByteArray).data.toList = [42, 32, 42, 32, 42, 32, 42, 32, 42] from rfl, parse_stars] at P
  have T := Lib.hid (fun w1 (h : CEnv w1 aA aN aO) => At_t 0 w1 h.months)
  have hT : atOut 0 = .tuple #[.agg #[.int .i64 0, .int .i64 0, .int .i64 1, .int .i64 1, .int .i64 1970, .int .i64 4], .int .i64 0] := by
    rw [show (0 : Int) = ((0 : Nat) : Int) from rfl, atOut_nat (Nat.zero_le _), clkAt_zero]; rfl
  rw [hT] at T
  have F := Lib.hid (fun w1 (h : CEnv w1 aA aN aO) => Fires_t stars 0 w1 stars_bits h.months)
  have hF : (tickB 0 && firesT stars (0 : Int).toNat) = true := by rw [fires_stars]; rfl
  rw [hF] at F
  have HE := Lib.hid he
  clear hT hF he
  obtain ⟨c, hc⟩ : ∃ c, stars = c := ⟨_, rfl⟩
  rw [hc] at P F
  clear hc
  obtain ⟨c1, c2, c3, c4, c5, b5, b6⟩ := c
  unfold parseOut crnV at P
  unfold crnV at F
  simp only at P F
  go_enter Tryd.func11, Tryd.ntmps11
  go_wp2_with fail
  refine P.out.mono ?_
  rintro e w1 ⟨rfl, hb1⟩
  obtain ⟨W1, hW1⟩ : ∃ W, w1.alloc (.cells #[.int .u64 c1, .int .u64 c2, .int .u64 c3, .int .u64 c4, .int .u64 c5, .bool b5, .bool b6] 24) = W := ⟨_, rfl⟩
  have hN1 : Crn7 W1 w1.heap.size ⟨c1, c2, c3, c4, c5, b5, b6⟩ := hW1 ▸ Crn7.new w1 ⟨c1, c2, c3, c4, c5, b5, b6⟩
  have hB1 : Below w.heap.size w W1 := hW1 ▸ Below.then hb1 (below_new w1 _)
  have HN1 := Lib.hid hN1
  have HB1 := Lib.hid hB1
  have HW1 := Lib.hid hW1
  have HE1 := Lib.hid (HE.out.keep hB1)
  clear hb1 hN1 hB1 hW1
  go_upto_region 2 with fail
  rw [HW1.out]
  go_wp2_with fail
  refine (T.out _ HE1.out).mono ?_
  rintro e w2 ⟨rfl, hb2⟩
  have HB2 := Lib.hid (HB1.out.trans (hb2.mono HB1.out.size))
  obtain ⟨W2, hW2⟩ : ∃ W, w2.alloc (.cells #[.int .i64 0, .int .i64 0, .int .i64 1, .int .i64 1, .int .i64 1970, .int .i64 4] 33) = W := ⟨_, rfl⟩
  have hN2 : Clk6 W2 w2.heap.size ⟨0, 0, 1, 1, 1970, 4⟩ := hW2 ▸ Clk6.new w2 ⟨0, 0, 1, 1, 1970, 4⟩
  have hB2 : Below w2.heap.size w2 W2 := hW2 ▸ below_new w2 _
  have HN2 := Lib.hid hN2
  have HW2 := Lib.hid hW2
  have HB3 := Lib.hid (HB2.out.trans (hB2.mono HB2.out.size))
  have HE2 := Lib.hid (HE.out.keep HB3.out)
  have hN12 := HN1.out.keep (Below.then hb2 hB2)
  obtain ⟨k0, k1, k2, k3, k4, k5, k6⟩ := hN12.cells
  clear hb2 hN2 hW2 hB2 hN12
  go_upto_region 3 with fail
  rw [HW2.out]
  go_wp2_with fail
  refine (F.out _ HE2.out).mono ?_
  rintro e w3 ⟨rfl, hb3⟩
  have HB4 := Lib.hid (HB3.out.trans (hb3.mono HB3.out.size))
  obtain ⟨y0, y1, y2, y3, y4, y5⟩ := (HN2.out.keep hb3).cells
  simp only [Int.natCast_zero, Int.natCast_one] at y0 y1 y2 y3 y4 y5
  clear hb3 k0 k1 k2 k3 k4 k5 k6
  go_wp2_with fail
  go_ret
  exact ⟨by first | rfl | simp, HB4.out⟩
end Go.Proofs.YtccobaohmbilpaaDoor
