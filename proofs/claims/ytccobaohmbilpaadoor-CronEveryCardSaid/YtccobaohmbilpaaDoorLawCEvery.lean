/-
  CronEvery, the law's function, returns true at every input: its walk. Conditions: the package-level variables as CEnv says; numbers of 64 bits.
-/
import Derived.Test.YtccobaohmbilpaaDoorLawCFires
namespace Go.Proofs.YtccobaohmbilpaaDoor
open Go.RowKit

theorem every_bits (m : Nat) : (every m).Bits := ⟨oneN_lt _ _ _ (by decide), starN_lt _ _ (by decide), starN_lt _ _ (by decide), starN_lt _ _ (by decide), starN_lt _ _ (by decide)⟩
theorem next_stars {t : Nat} {e : Ending} (ht : t + 1 ≤ 1099511627776) (h : NextEnds stars t 1 e) : e = .returned (.tuple #[.int .i64 ((t + 1 : Nat) : Int), .int .i64 0]) := by
  rcases next_good (m := 1) h (by omega) (by decide) with ⟨k, h1, h2, -, -, -, rfl⟩ | ⟨h1, -⟩
  · have : k = t + 1 := by omega
    rw [this]
  · have := h1 (t + 1) (by omega) (by omega) ht
    rw [fires_stars] at this
    cases this
/-- The minute's digits, cut where there is one. -/
theorem digits_of (m : Nat) (hm : m < 60) : ∃ (x y : UInt8), (x.toNat : Int) = 48 + ((m / 10 : Nat) : Int) ∧ (y.toNat : Int) = 48 + ((m % 10 : Nat) : Int) ∧ Lib.decDigits m = if m < 10 then [y] else [x, y] := by
  refine ⟨UInt8.ofNat (48 + m / 10), UInt8.ofNat (48 + m % 10), ?_, ?_, ?_⟩
  · rw [UInt8.toNat_ofNat_of_lt' (by show 48 + m / 10 < 256; omega)]; omega
  · rw [UInt8.toNat_ofNat_of_lt' (by show 48 + m % 10 < 256; omega)]; omega
  · by_cases h : m < 10
    · rw [if_pos h, dec1 h, show m % 10 = m by omega]
    · rw [if_neg h, dec2 h (by omega)]

set_option maxRecDepth 100000 in
set_option maxHeartbeats 8000000 in
theorem every_walk (tick minute : Int) (w : World) {aA aN aO : Addr} (ht : -9223372036854775808 ≤ tick ∧ tick ≤ 9223372036854775807) (hd : -9223372036854775808 ≤ minute ∧ minute ≤ 9223372036854775807) (he : CEnv w aA aN aO) :
    Calls Tryd.prog 6 #[.int .i64 tick, .int .i64 minute] w fun e w' => e = .returned (.bool true) ∧ Below w.heap.size w w' := by
  obtain ⟨r, t, e1, r1, r2, e2, e3, ht9⟩ := mod_pos tick 1000000000 (by decide) ht
  obtain ⟨s, m, e4, s1, s2, e5, e6, hm60⟩ := mod_pos minute 60 (by decide) hd
  simp only [Int.cast_ofNat_Int] at e1 r1 r2 e2 e3 e4 s1 s2 e5 e6
  have PR := Lib.hid (fun (x : ByteArray) w1 (h : CEnv w1 aA aN aO) => Parse_t x w1 h)
  have NX := Lib.hid (fun w1 (h : CEnv w1 aA aN aO) => Next_t stars t 1 w1 stars_bits h.months)
  have NS := Lib.hid (fun e h => next_stars (t := t) (e := e) (by omega) h)
  have AL := Lib.hid (fun w1 (h : CEnv w1 aA aN aO) => alive_t w1 h)
  have HE := Lib.hid he
  have PW := Lib.hid (parse_every hm60)
  obtain ⟨x, y, hx, hy, hdig⟩ := digits_of m hm60
  obtain ⟨m10, hm10⟩ : ∃ z, m / 10 = z := ⟨_, rfl⟩
  obtain ⟨n10, hn10⟩ : ∃ z, m % 10 = z := ⟨_, rfl⟩
  rw [hm10] at hx
  rw [hn10] at hy
  have e7 : (m : Int) / 10 = (m10 : Int) := by omega
  have e8 : (m : Int) % 10 = (n10 : Int) := by omega
  have b10 : m10 ≤ 5 := by omega
  have c10 : n10 ≤ 9 := by omega
  obtain ⟨W, hW⟩ : ∃ W, w.alloc (.cells #[.int .u8 (48 + (m10 : Int)), .int .u8 (48 + (n10 : Int))] 5) = W := ⟨_, rfl⟩
  have hB : Below w.heap.size w W := hW ▸ below_new w _
  have hcell0 : W.cell? ⟨w.heap.size, 0, none⟩ = some (.int .u8 (48 + (m10 : Int))) := by
    rw [← hW, World.cell?_alloc_at _ _ _ _ rfl]; rfl
  have hcell1 : W.cell? ⟨w.heap.size, 1, none⟩ = some (.int .u8 (48 + (n10 : Int))) := by
    rw [← hW, World.cell?_alloc_at _ _ _ _ rfl]; rfl
  have hcv : (convert 44 9 (.slice (some ⟨w.heap.size, 0, none⟩) 2 2)).run Tryd.prog W = .ok (.string ⟨#[x, y]⟩) W :=
    run_convert_bytes_back (P := Tryd.prog) W 44 9 5 ⟨w.heap.size, 0, none⟩ 2 [x, y] Tryd.underlying44 Tryd.underlying5 Tryd.underlying9 (fun j hj => by
      rw [addr0_addG]
      match j, hj with
      | 0, _ => rw [hcell0, ← hx]; rfl
      | 1, _ => rw [hcell1, ← hy]; rfl)
  have HP := Lib.hid (show ∀ (z : ByteArray) w1, CEnv w1 aA aN aO → z.data.toList = Lib.decDigits m ++ [32, 42, 32, 42, 32, 42, 32, 42] → Calls Tryd.prog 9 #[.string z] w1 fun e w' => e = .returned (.tuple #[crnV (every m), .int .i64 0]) ∧ Below w1.heap.size w1 w' from fun z w1 h hz => by
    have := PR.out z w1 h
    rw [hz, PW.out] at this
    exact this)
  have HS := Lib.hid (show ∀ w1, CEnv w1 aA aN aO → Calls Tryd.prog 9 #[.string ⟨#[42, 32, 42, 32, 42, 32, 42, 32, 42]⟩] w1 fun e w' => e = .returned (.tuple #[crnV stars, .int .i64 0]) ∧ Below w1.heap.size w1 w' from fun w1 h => by
    have := PR.out ⟨#[42, 32, 42, 32, 42, 32, 42, 32, 42]⟩ w1 h
    rw [show (⟨#[42, 32, 42, 32, 42, 32, 42, 32, 42]⟩ : ByteArray).data.toList = [42, 32, 42, 32, 42, 32, 42, 32, 42] from rfl, parse_stars] at this
    exact this)
  have HDIG := Lib.hid hdig
  have HB := Lib.hid hB
  have HW := Lib.hid hW
  have HE1 := Lib.hid (HE.out.keep hB)
  have FI := Lib.hid (fun (t : Int) w1 (h : CEnv w1 aA aN aO) => Fires_t (every m) t w1 (every_bits m) h.months)
  have FS := Lib.hid (fun (t : Nat) (ht : t ≤ 1099511627776) w1 (h : CEnv w1 aA aN aO) => (show Calls Tryd.prog 16 #[crnV stars, .int .i64 t] w1 fun e w' => e = .returned (.bool true) ∧ Below w1.heap.size w1 w' from by
    have := Fires_t stars t w1 stars_bits h.months
    rw [tickB_nat ht, fires_stars] at this
    exact this))
  have CN := Lib.hid (cnt_every hm60 t)
  obtain ⟨f, hf⟩ : ∃ f, firesT (every m) = f := ⟨_, rfl⟩
  rw [hf] at FI CN
  obtain ⟨q, hq⟩ : ∃ q, every m = q := ⟨_, rfl⟩
  rw [hq] at HP FI
  obtain ⟨q2, hq2⟩ : ∃ q, stars = q := ⟨_, rfl⟩
  rw [hq2] at HS FS NX NS
  obtain ⟨c1, c2, c3, c4, c5, b5, b6⟩ := q
  obtain ⟨d1, d2, d3, d4, d5, g5, g6⟩ := q2
  unfold crnV at HP FI HS FS NX
  simp only at HP FI HS FS NX
  clear ht hd he hdig hx hy hm10 hn10 hW hB hcell0 hcell1 hf hq hq2 PR PW
  have main : ∀ (u : Int) (v : Nat), max (10 - (m : Int)) 0 = u → min u 1 = (v : Int) → v ≤ 1 → (∀ z : ByteArray, z.data.toList = [x, y].drop v → (z ++ ⟨#[32, 42, 32, 42, 32, 42, 32, 42]⟩).data.toList = Lib.decDigits m ++ [32, 42, 32, 42, 32, 42, 32, 42]) → 0 ≤ u ∧ u ≤ 10 → Calls Tryd.prog 6 #[.int .i64 tick, .int .i64 minute] w fun e w' => e = .returned (.bool true) ∧ Below w.heap.size w w' := by
    intro u v hu hv hv1 hz hub
    have HZ := Lib.hid hz
    have hvn : 0 ≤ v := Nat.zero_le _
    clear hz
    go_enter Tryd.func6, Tryd.ntmps6
    go_wp2_with fail
    rw [HW.out]
    go_simp
    go_wp2_with fail
    refine (HP.out _ _ HE1.out (HZ.out _ (by
      have : v = 0 ∨ v = 1 := by omega
      rcases this with h | h <;> subst h <;> simp))).mono ?_
    rintro e w1 ⟨rfl, hb1⟩
    obtain ⟨W1, hW1⟩ : ∃ X, w1.alloc (.cells #[.int .u64 c1, .int .u64 c2, .int .u64 c3, .int .u64 c4, .int .u64 c5, .bool b5, .bool b6] 24) = X := ⟨_, rfl⟩
    have hN1 : Crn7 W1 w1.heap.size ⟨c1, c2, c3, c4, c5, b5, b6⟩ := hW1 ▸ Crn7.new w1 ⟨c1, c2, c3, c4, c5, b5, b6⟩
    have hbb1 : Below W.heap.size W W1 := hW1 ▸ Below.then hb1 (below_new w1 _)
    have HN1 := Lib.hid hN1
    have HE2 := Lib.hid (HE1.out.keep hbb1)
    have HB1 := Lib.hid (HB.out.trans (hbb1.mono HB.out.size))
    have HW1 := Lib.hid hW1
    clear hW1 hN1 hbb1 hb1 hcv e1 e2 e3 e4 e5 e6 r1 r2 s1 s2 e7 e8 b10 c10 hu hv hub hv1 hvn
    go_upto_region 4 with fail
    rw [HW1.out]
    go_wp2_with fail
    refine (HS.out _ HE2.out).mono ?_
    rintro e w2 ⟨rfl, hb2⟩
    obtain ⟨W2, hW2⟩ : ∃ X, w2.alloc (.cells #[.int .u64 d1, .int .u64 d2, .int .u64 d3, .int .u64 d4, .int .u64 d5, .bool g5, .bool g6] 24) = X := ⟨_, rfl⟩
    have hM2 : Crn7 W2 w2.heap.size ⟨d1, d2, d3, d4, d5, g5, g6⟩ := hW2 ▸ Crn7.new w2 ⟨d1, d2, d3, d4, d5, g5, g6⟩
    have hbb2 : Below W1.heap.size W1 W2 := hW2 ▸ Below.then hb2 (below_new w2 _)
    have HM2 := Lib.hid hM2
    have HN2 := Lib.hid (HN1.out.keep hbb2)
    have HE3 := Lib.hid (HE2.out.keep hbb2)
    have HB2 := Lib.hid (HB1.out.trans (hbb2.mono HB1.out.size))
    have HW2 := Lib.hid hW2
    clear hW2 hM2 hbb2 hb2
    go_upto_region 5 with fail
    rw [HW2.out]
    go_wp2_with fail
    refine (AL.out _ HE3.out).mono ?_
    rintro e w3 ⟨rfl, hb3⟩
    have HN3 := Lib.hid (HN2.out.keep hb3)
    have HM3 := Lib.hid (HM2.out.keep hb3)
    have HE4 := Lib.hid (HE3.out.keep hb3)
    have HB3 := Lib.hid (HB2.out.trans (hb3.mono HB2.out.size))
    clear hb3
    go_wp2_with fail
    go_loopw [9, 55] (fun fv iv wr => ∃ k n : Nat, k ≤ 60 ∧ fv = .int .i64 n ∧ iv = .int .i64 k ∧ n ≤ k ∧ cnt (fun j => f (t + j)) k = n ∧ Below w3.heap.size w3 wr) (fun _ iv _ => 60 - (intOf iv).toNat)
    case atStart => exact ⟨0, 0, by omega, rfl, rfl, Nat.le_refl _, rfl, Below.refl _ _⟩
    case round =>
      obtain ⟨k, n, hk, rfl, rfl, hnk, hcn, hbr⟩ := hrel
      have HCN := Lib.hid hcn
      have HBR := Lib.hid hbr
      have HER := Lib.hid (HE4.out.keep hbr)
      have HNR := Lib.hid (HN3.out.keep hbr)
      have HMR := Lib.hid (HM3.out.keep hbr)
      clear hcn hbr
      by_cases hlt : k < 60
      · obtain ⟨x, hx⟩ : ∃ x, t + k = x := ⟨_, rfl⟩
        have ex : (t : Int) + k = (x : Int) := by omega
        have hxb : x ≤ 1000000060 := by omega
        have F1 := Lib.hid (fun w1 h => FI.out (x : Int) w1 h)
        rw [tickB_nat (by omega), Bool.true_and, Int.toNat_natCast] at F1
        have F2 := Lib.hid (fun w1 h => FS.out x (by omega) w1 h)
        obtain ⟨b, hb⟩ : ∃ b, f x = b := ⟨_, rfl⟩
        rw [hb] at F1
        have HC1 := Lib.hid (show cnt (fun j => f (t + j)) (k + 1) = n + if b then 1 else 0 from by rw [cnt, HCN.out, hx, hb])
        obtain ⟨k0, k1, k2, k3, k4, k5, k6⟩ := HNR.out.cells
        clear hx hb
        go_wp2_with fail
        refine (F1.out _ HER.out).mono ?_
        rintro e w4 ⟨rfl, hb4⟩
        have HE5 := Lib.hid (HER.out.keep hb4)
        have HB4 := Lib.hid (HBR.out.trans (hb4.mono HBR.out.size))
        obtain ⟨l0, l1, l2, l3, l4, l5, l6⟩ := (HMR.out.keep hb4).cells
        clear hb4 k0 k1 k2 k3 k4 k5 k6
        cases b with
        | true =>
          go_wp2_with fail
          refine (F2.out _ HE5.out).mono ?_
          rintro e w5 ⟨rfl, hb5⟩
          have HB5 := Lib.hid (HB4.out.trans (hb5.mono HB4.out.size))
          clear hb5 l0 l1 l2 l3 l4 l5 l6
          go_wp2_with fail
          go_roundw
          case rel => exact ⟨k + 1, n + 1, by omega, by go_num, by go_num, by omega, HC1.out, HB5.out⟩
          case measure => simp [intOf]; omega
        | false =>
          go_wp2_with fail
          refine (F2.out _ HE5.out).mono ?_
          rintro e w5 ⟨rfl, hb5⟩
          have HB5 := Lib.hid (HB4.out.trans (hb5.mono HB4.out.size))
          clear hb5 l0 l1 l2 l3 l4 l5 l6
          go_wp2_with fail
          go_roundw
          case rel => exact ⟨k + 1, n, by omega, rfl, by go_num, by omega, HC1.out, HB5.out⟩
          case measure => simp [intOf]; omega
      · obtain rfl : k = 60 := by omega
        have hn1 : n = 1 := by rw [← HCN.out]; exact CN.out
        subst hn1
        obtain ⟨l0, l1, l2, l3, l4, l5, l6⟩ := HMR.out.cells
        go_wp2_with fail
        refine (NX.out _ HER.out).mono ?_
        rintro e w4 ⟨hend, hb4⟩
        have he2 := NS.out e hend
        subst he2
        have HB4 := Lib.hid (HBR.out.trans (hb4.mono HBR.out.size))
        clear hend hb4 l0 l1 l2 l3 l4 l5 l6
        go_wp2_with fail
        go_ret
        exact ⟨by first | rfl | simp, HB3.out.trans (HB4.out.mono HB3.out.size)⟩
  by_cases h10 : m < 10
  · exact main (10 - (m : Int)) 1 (by omega) (by omega) (Nat.le_refl _) (fun z hz => by rw [append_list, hz, HDIG.out, if_pos h10]; rfl) (by omega)
  · exact main 0 0 (by omega) (by omega) (Nat.zero_le _) (fun z hz => by rw [append_list, hz, HDIG.out, if_neg h10]; rfl) (by omega)
end Go.Proofs.YtccobaohmbilpaaDoor
