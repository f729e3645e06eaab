/-
  The law DiskApart, walked: it returns true at every disk, place, byte and fates. Conditions: none.
-/
import Derived.Test.YtcjngaapiomkbaaLawKPlain
import Derived.Test.YtcjngaapiomkbaaRefDskR
namespace Go.Proofs.Ytcjngaapiomkbaa
open Go.RowKit Go.WideShapes

theorem DskIn.at {w : World} {B : Nat} {d : Dsk} (h : DskIn w B d) {n m : Nat} (hn : d.secs.length = n) (hm : d.dirty.length = m) : ∃ a c a' c', At2 25 w B (.slice a n c) (.slice a' m c') ∧ DskAt w (.agg #[.slice a n c, .slice a' m c']) d := by
  subst hn; subst hm; exact h

theorem DskIn.mk2 {w : World} {B : Nat} {v0 v1 : Value} {d : Dsk} (h0 : At2 25 w B v0 v1) (h : DskAt w (.agg #[v0, v1]) d) : DskIn w B d := by
  obtain ⟨a, c, a', c', e, -, -⟩ := h.shape
  simp only [Value.agg.injEq, Array.mk.injEq, List.cons.injEq, and_true] at e
  obtain ⟨rfl, rfl⟩ := e
  exact ⟨a, c, a', c', h0, h⟩
theorem At2.new1 (t : TypeId) (w : World) (a b : Value) {k : Nat} (hk : w.heap.size = k) : At2 t (w.alloc (.cells #[a, b] t)) k a b := by subst hk; exact At2.new t w a b

set_option maxRecDepth 100000 in
set_option maxHeartbeats 8000000 in
theorem apart_any (v fv : Value) (d0 : Dsk) (at' ot : Int) (c : UInt8) (fs : List Int) (w : World) (h : DskAt w v d0) (hf : IntsAt w fv fs) :
    Calls Try.prog 5 #[v, .int .i64 at', .int .i64 ot, .int .u8 c.toNat, fv] w fun e w' => e = .returned (.bool true) ∧ Below w.heap.size w w' := by
  have AL := Lib.hid alive_t
  obtain ⟨fa, fc, rfl, -, -⟩ := hf.shape
  obtain ⟨nf, hnf⟩ : ∃ k, fs.length = k := ⟨_, rfl⟩
  rw [hnf] at hf ⊢
  obtain ⟨va, vc, va', vc', rfl, -, -⟩ := h.shape
  obtain ⟨n0, hn0⟩ : ∃ k, d0.secs.length = k := ⟨_, rfl⟩
  obtain ⟨m0, hm0⟩ : ∃ k, d0.dirty.length = k := ⟨_, rfl⟩
  rw [hn0, hm0] at h ⊢
  obtain ⟨W, hW⟩ : ∃ W, w.alloc (.cells #[.slice va n0 vc, .slice va' m0 vc'] 25) = W := ⟨_, rfl⟩
  have hB0 : Below w.heap.size w W := by rw [← hW]; exact below_new _ _
  have FW := Lib.hid (few_t _ d0 W (h.keep hB0))
  have HA0 := Lib.hid (show At2 25 W w.heap.size (.slice va n0 vc) (.slice va' m0 vc') by rw [← hW]; exact At2.new _ _ _ _)
  have HF0 := Lib.hid (hf.keep hB0)
  have HB0 := Lib.hid hB0
  have HW := Lib.hid hW
  obtain ⟨d, hd⟩ : ∃ d, fewD d0 = d := ⟨_, rfl⟩
  have hm202 := fewD_few d0
  rw [hd] at FW hm202
  obtain ⟨n, hn⟩ : ∃ k, d.secs.length = k := ⟨_, rfl⟩
  obtain ⟨m, hm⟩ : ∃ k, d.dirty.length = k := ⟨_, rfl⟩
  rw [hm] at hm202
  have HN := Lib.hid (And.intro hn hm)
  obtain ⟨B, hBe⟩ : ∃ B, w.heap.size = B := ⟨_, rfl⟩
  have HBe := Lib.hid hBe
  clear hW hB0 h hf hd hn0 hm0 hnf hn hm hBe
  go_enter Try.func5, Try.ntmps5
  go_upto_region 1 with fail
  rw [HW.out]
  rw [HBe.out] at HA0 ⊢
  obtain ⟨a0, a1⟩ := HA0.out.cells
  go_wp2_with fail
  refine FW.out.mono ?_
  rintro e w1 ⟨v1, rfl, hd1, hb1⟩
  obtain ⟨xa, xc, xa', xc', rfl, -, -⟩ := hd1.shape
  rw [HN.out.1, HN.out.2] at hd1 ⊢
  have hA1 := HA0.out.keep hb1
  obtain ⟨W2, hW2⟩ : ∃ W2, (w1.setCell ⟨B, 0, none⟩ (.slice xa n xc)).setCell ⟨B, 1, none⟩ (.slice xa' m xc') = W2 := ⟨_, rfl⟩
  have hns := set2_ns hA1 (isSl_mk _ _ _) (isSl_mk _ _ _) (.slice xa n xc) (.slice xa' m xc')
  have HA := Lib.hid (show At2 25 W2 B (.slice xa n xc) (.slice xa' m xc') by rw [← hW2]; exact hA1.set _ _)
  have HD := Lib.hid (show DskAt W2 (.agg #[.slice xa n xc, .slice xa' m xc']) d by rw [← hW2]; exact hd1.ns hns)
  have HF := Lib.hid (show IntsAt W2 (.slice fa nf fc) fs by rw [← hW2]; exact (HF0.out.keep hb1).ns hns)
  have HB := Lib.hid (show Below w.heap.size w W2 by rw [← hW2]; exact set2_below (Below.then HB0.out hb1) (by rw [HBe.out]; exact Nat.le_refl _) _ _)
  have HW2 := Lib.hid hW2
  obtain ⟨b0, b1⟩ := hA1.cells
  obtain ⟨f0, f1⟩ := hA1.free
  have RR := Lib.hid (refRight_t _ d W2 HD.out)
  obtain ⟨r, hr⟩ : ∃ r, d.right = r := ⟨_, rfl⟩
  rw [hr] at RR
  have HR := Lib.hid hr
  clear hW2 hns hA1 hd1 hb1 a0 a1 hr FW HA0 HF0 HW
  go_upto_region 2 with fail
  rw [HW2.out]
  clear b0 b1 f0 f1
  obtain ⟨a0, a1⟩ := HA.out.cells
  go_wp2_with fail
  refine RR.out.mono ?_
  rintro e w2 ⟨rfl, hb2⟩
  have HB2 := Lib.hid (Below.then HB.out hb2)
  have HA2 := Lib.hid (HA.out.keep hb2)
  have HD2 := Lib.hid (HD.out.keep hb2)
  have HF2 := Lib.hid (HF.out.keep hb2)
  have AL2 := Lib.hid (AL.out w2)
  clear hb2 a0 a1 RR
  cases r with
  | false =>
    go_wp2_with fail
    refine AL2.out.mono ?_
    rintro e w3 ⟨rfl, hb3⟩
    have HB3 := Lib.hid (Below.then HB2.out hb3)
    clear hb3
    go_wp2_with fail
    go_ret
    exact ⟨rfl, HB3.out⟩
  | true =>
  obtain ⟨a0, a1⟩ := HA2.out.cells
  by_cases h190 : m ≤ 190
  rotate_left
  · have q : (190 : Int) < (m : Int) := by omega
    go_wp2_with fail
    refine AL2.out.mono ?_
    rintro e w3 ⟨rfl, hb3⟩
    have HB3 := Lib.hid (Below.then HB2.out hb3)
    clear hb3
    go_wp2_with fail
    go_ret
    exact ⟨rfl, HB3.out⟩
  have HRI := Lib.hid ((right_iff d).1 HR.out)
  have hnn : 4 ≤ n ∧ n ≤ 64 := by rw [← HN.out.1]; exact ⟨HRI.out.least, HRI.out.most⟩
  obtain ⟨r1, ka, e1, k1, k2, e2, k3⟩ := place_of at' n hnn.1
  obtain ⟨r2, ko, e3, k4, k5, e4, k6⟩ := place_of ot n hnn.1
  have hn0 : ¬ ((n : Int) = 0) := by omega
  have q : (m : Int) ≤ 190 := by omega
  go_upto_region 5 with fail
  go_quiet (fail)
  obtain ⟨W3, hW3⟩ : ∃ W3, w2.drewN nq = W3 := ⟨_, rfl⟩
  have hb3 : Below w2.heap.size w2 W3 := by rw [← hW3]; exact below_drewN (Below.refl _ _) _
  rw [hW3]
  have HB3 := Lib.hid (Below.then HB2.out hb3)
  have HA3 := Lib.hid (HA2.out.keep hb3)
  have HD3 := Lib.hid (HD2.out.keep hb3)
  have HF3 := Lib.hid (HF2.out.keep hb3)
  have k3' : (ka : Int) < (d.secs.length : Int) := by rw [HN.out.1]; omega
  have HSV := Lib.hid (saveD_one HRI.out ((ka : Int), secB c) (by rw [HN.out.2]; omega) (by omega) k3' (secB_size c))
  have HRX := Lib.hid (addW_right HRI.out ((ka : Int), secB c) (by rw [HN.out.2]; omega) (by omega) k3' (secB_size c))
  have HSX := Lib.hid (fun k => addW_stands d ((ka : Int), secB c) k)
  obtain ⟨dX, hdX⟩ : ∃ x, addW d ((ka : Int), secB c) = x := ⟨_, rfl⟩
  have HNX := Lib.hid (show dX.secs.length = n ∧ dX.dirty.length = m + 1 by rw [← hdX]; exact ⟨HN.out.1, by show (d.dirty ++ [_]).length = _; rw [List.length_append, HN.out.2]; rfl⟩)
  rw [hdX] at HSV HRX HSX
  have SV := Lib.hid (show ∀ (w3 : World) (b : Nat), Below W3.heap.size W3 w3 → w3.cell? ⟨b, 0, none⟩ = some (.int .i64 ka) → w3.cell? ⟨b, 0 + 1, none⟩ = some (.string (secB c)) → Calls Try.prog 10 #[.agg #[.slice xa n xc, .slice xa' m xc'], .slice (some ⟨b, 0, none⟩) 1 1] w3 fun e w4 => ∃ a c a' c', e = .returned (.tuple #[.agg #[.slice a n c, .slice a' (m + 1) c'], .int .i64 0]) ∧ DskAt w4 (.agg #[.slice a n c, .slice a' (m + 1) c']) dX ∧ Below W3.heap.size W3 w4 ∧ Below w3.heap.size w3 w4 from fun w3 b h3 e0 e1 => by
    have hl : PairsAt w3 (.slice (some ⟨b, 0, none⟩) 1 1) ([((ka : Int), secB c)].map writeCell) := Or.inr ⟨b, 0, 1, rfl, by simp, by simp, by decide, fun i hi => by
      obtain rfl : i = 0 := by simpa using hi
      exact ⟨e0, e1⟩⟩
    have := Save_t _ _ d _ w3 (HD3.out.keep h3) hl (fun x hx => by rw [List.mem_singleton.1 hx]; refine ⟨?_, by show -9223372036854775808 ≤ (ka : Int); omega, by show (ka : Int) ≤ 9223372036854775807; omega⟩; show (secB c).size ≤ maxLen; rw [secB_size]; decide) (by simp)
    rw [HSV.out] at this
    refine this.mono ?_
    rintro e w4 ⟨v, rfl, hv, hb4⟩
    obtain ⟨a, c, a', c', rfl, -, -⟩ := hv.shape
    rw [HNX.out.1, HNX.out.2] at hv ⊢
    exact ⟨a, c, a', c', rfl, hv, Below.then h3 hb4, hb4⟩)
  have SA := Lib.hid (fun w => sector_t c w)
  have hbr := Below.refl W3.heap.size W3
  clear hW3 hb3 a0 a1 hdX k3' e1 e2 e3 e4 q
  obtain ⟨a0, a1⟩ := HA3.out.cells
  go_upto_region 6 with fail
  go_cut [12, 13] from 55 to 64 (fun x y wx => y = .int .i64 0 ∧ ∃ b12 : Nat, x = .pointer (some ⟨b12, 0, none⟩) ∧ Below W3.heap.size W3 wx ∧ DskIn wx b12 dX)
  case first =>
    obtain ⟨a0m, a1m⟩ := (HA3.out.keep (below_new W3 (.cells #[nilV, nilV] 25))).cells
    go_region_law (first
      | (go_simp; go_at_call 14; refine (SA.out _).mono ?_; rintro e wS ⟨rfl, hbS0⟩
         have hbS : Below W3.heap.size W3 wS := (by first | exact Below.then hbr.drew hbS0 | exact Below.then (Below.then hbr (below_new _ _)).drew hbS0 | exact Below.then (Below.then hbr.drew (below_new _ _)) hbS0)
         have hS1 : At2 25 wS B (.slice xa n xc) (.slice xa' m xc') := HA3.out.keep hbS
         obtain ⟨a0, a1⟩ := hS1.cells
         obtain ⟨a0n, a1n⟩ := (hS1.keep (below_new wS (.cells #[.int .i64 ka, .string (secB c)] 45))).cells
         obtain ⟨a0v, a1v⟩ := (hS1.keep (below_new wS (.cells #[nilV, nilV] 25))).cells
         obtain ⟨a0p, a1p⟩ := (hS1.keep (Below.then (below_new wS (.cells #[.int .i64 ka, .string (secB c)] 45)) (below_new _ (.cells #[nilV, nilV] 25)))).cells
         obtain ⟨a0q, a1q⟩ := (hS1.keep (Below.then (below_new wS (.cells #[nilV, nilV] 25)) (below_new _ (.cells #[.int .i64 ka, .string (secB c)] 45)))).cells
         first
           | (have hzS : At2 25 wS W3.heap.size nilV nilV := At2.keep (w := (W3.alloc (.cells #[nilV, nilV] 25)).drew) (At2.new _ W3 _ _) hbS0
              skip)
           | (have hzS : At2 25 wS W3.heap.size nilV nilV := At2.keep (w := W3.drew.alloc (.cells #[nilV, nilV] 25)) (At2.new _ W3.drew _ _) hbS0
              skip)
           | skip)
      | (go_simp; go_at_call 10
         refine (SV.out _ _ (by first | exact (Below.then hbS (below_new _ _)) | exact Below.then hbS (Below.then (below_new _ _) (below_new _ _))) (by first | exact (At2.new1 _ _ _ _ (by simp)).cells.1 | exact ((At2.new _ _ _ _).keep (below_new _ _)).cells.1) (by first | exact (At2.new1 _ _ _ _ (by simp)).cells.2 | exact ((At2.new _ _ _ _).keep (below_new _ _)).cells.2)).mono ?_
         rintro e w4 ⟨a4, c4, a4', c4', rfl, hd4, hb4, hk4⟩
         first
           | (have hz : At2 25 w4 (wS.heap.size + 1) nilV nilV := At2.keep (At2.new1 _ _ _ _ (by simp)) hk4
              obtain ⟨z0, z1⟩ := hz.cells
              obtain ⟨y0, y1⟩ := hz.free)
           | (have hz : At2 25 w4 wS.heap.size nilV nilV := At2.keep ((At2.new _ _ _ _).keep (below_new _ _)) hk4
              obtain ⟨z0, z1⟩ := hz.cells
              obtain ⟨y0, y1⟩ := hz.free)
           | (have hz : At2 25 w4 W3.heap.size nilV nilV := At2.keep (hzS.keep (below_new _ _)) hk4
              obtain ⟨z0, z1⟩ := hz.cells
              obtain ⟨y0, y1⟩ := hz.free)
           | skip))
    all_goals
      go_wp2_with fail
      go_meet
      first
        | exact ⟨rfl, _, rfl, Below.then hb4 (below_new _ _), DskIn.new hd4⟩
        | exact ⟨rfl, _, rfl, set2_below hb4 (by have := hbS.size; omega) _ _, DskIn.mk2 (hz.set _ _) (hd4.ns (set2_ns hz isSl_nil isSl_nil _ _))⟩
  case rest =>
    obtain ⟨rfl, b12, rfl, hbc, hin⟩ := hcut
    obtain ⟨ya, yc, ya', yc', hX, hDX⟩ := hin.at HNX.out.1 HNX.out.2
    have HIX := Lib.hid (clean_right (n := n) (f := dX.stands) hnn.1 hnn.2 (fun i hi => stands_size HRX.out (by rw [HNX.out.1]; exact hi)))
    obtain ⟨dY, hdY⟩ : ∃ x, clean n dX.stands = x := ⟨_, rfl⟩
    have HNY := Lib.hid (show dY.secs.length = n ∧ dY.dirty.length = 0 by rw [← hdY]; exact ⟨clean_length _ _, rfl⟩)
    have HFX := Lib.hid (show flushD dX = (dY, 0) by rw [flushD_ok HRX.out, HNX.out.1, hdY])
    have HFY := Lib.hid (show flushD dY = (dY, 0) by rw [← hdY]; exact flush_clean HIX.out)
    have HCY := Lib.hid (show crashD dY fs = (dY, 0) by rw [← hdY]; exact crash_clean HIX.out fs)
    have HBc := Lib.hid (Below.then HB3.out hbc)
    have HK := Lib.hid (show ∀ w3, Below wc.heap.size wc w3 → Below w.heap.size w w3 ∧ At2 25 w3 B (.slice xa n xc) (.slice xa' m xc') ∧ DskAt w3 (.agg #[.slice xa n xc, .slice xa' m xc']) d ∧ At2 25 w3 b12 (.slice ya n yc) (.slice ya' (m + 1) yc') ∧ DskAt w3 (.agg #[.slice ya n yc, .slice ya' (m + 1) yc']) dX ∧ IntsAt w3 (.slice fa nf fc) fs from fun w3 h3 =>
      ⟨Below.then HBc.out h3, HA3.out.keep (Below.then hbc h3), HD3.out.keep (Below.then hbc h3), hX.keep h3, hDX.keep h3, HF3.out.keep (Below.then hbc h3)⟩)
    have LX := Lib.hid (show ∀ (k : Nat) w3, k < n → Below wc.heap.size wc w3 → Calls Try.prog 9 #[.agg #[.slice ya n yc, .slice ya' (m + 1) yc'], .int .i64 k] w3 fun e w4 => e = .returned (.tuple #[.string (if (ka : Int) = (k : Int) then secB c else d.stands k), .int .i64 0]) ∧ Below w3.heap.size w3 w4 from fun k w3 hk h3 => by
      obtain ⟨-, -, -, -, h5, -⟩ := HK.out w3 h3
      have := Load_t _ dX k w3 h5
      rw [loadD_ok HRX.out k (by rw [HNX.out.1]; exact hk), HSX.out] at this
      exact this)
    have LF := Lib.hid (show ∀ (k : Nat) w3, k < n → Below wc.heap.size wc w3 → Calls Try.prog 9 #[.agg #[.slice xa n xc, .slice xa' m xc'], .int .i64 k] w3 fun e w4 => e = .returned (.tuple #[.string (d.stands k), .int .i64 0]) ∧ Below w3.heap.size w3 w4 from fun k w3 hk h3 => by
      obtain ⟨-, -, h5, -, -, -⟩ := HK.out w3 h3
      have := Load_t _ d k w3 h5
      rw [loadD_ok HRI.out k (by rw [HN.out.1]; exact hk)] at this
      exact this)
    have FX := Lib.hid (show ∀ w3, Below wc.heap.size wc w3 → Calls Try.prog 11 #[.agg #[.slice ya n yc, .slice ya' (m + 1) yc']] w3 fun e w4 => ∃ a c a' c', e = .returned (.tuple #[.agg #[.slice a n c, .slice a' 0 c'], .int .i64 0]) ∧ DskAt w4 (.agg #[.slice a n c, .slice a' 0 c']) dY ∧ Below w3.heap.size w3 w4 from fun w3 h3 => by
      obtain ⟨-, -, -, -, h5, -⟩ := HK.out w3 h3
      have := Flush_t _ dX w3 h5
      rw [HFX.out] at this
      refine this.mono ?_
      rintro e w4 ⟨v, rfl, hv, hb4⟩
      obtain ⟨a, c, a', c', rfl, -, -⟩ := hv.shape
      rw [HNY.out.1, HNY.out.2] at hv ⊢
      exact ⟨a, c, a', c', rfl, hv, hb4⟩)
    obtain ⟨s2, hs2⟩ : ∃ s, d.stands ko = s := ⟨_, rfl⟩
    obtain ⟨s3, hs3⟩ : ∃ s, (if (ka : Int) = (ko : Int) then secB c else d.stands ko) = s := ⟨_, rfl⟩
    have C1 := LX.out ka wc k3 (Below.refl _ _)
    rw [if_pos rfl] at C1
    have C2 := fun w3 h3 => LF.out ko w3 k6 h3
    rw [hs2] at C2
    have C3 := fun w3 h3 => LX.out ko w3 k6 h3
    rw [hs3] at C3
    have HS := Lib.hid (show (ka = ko → True) ∧ (ka ≠ ko → s3 = s2) from ⟨fun _ => trivial, fun h => by rw [← hs3, ← hs2, if_neg (by omega)]⟩)
    have C1 := Lib.hid C1
    have C2 := Lib.hid C2
    have C3 := Lib.hid C3
    clear hX hDX hin hbc hdY hs2 hs3 LX LF a0 a1 hbr SV HSV
    obtain ⟨-, hA, -, hX, -, -⟩ := HK.out wc (Below.refl _ _)
    obtain ⟨x0, x1⟩ := hX.cells
    go_wp2_with fail
    refine C1.out.mono ?_
    rintro e v1 ⟨rfl, hb1⟩
    have HV1 := Lib.hid hb1
    obtain ⟨-, hA, -, hX, -, -⟩ := HK.out v1 hb1
    obtain ⟨x0, x1⟩ := hX.cells
    obtain ⟨a0, a1⟩ := hA.cells
    have C2' := Lib.hid (C2.out v1 hb1)
    clear hb1 hA hX C2 C1
    go_wp2_with fail
    refine C2'.out.mono ?_
    rintro e v2 ⟨rfl, hb2⟩
    have HV2 := Lib.hid (Below.then HV1.out hb2)
    obtain ⟨-, hA, -, hX, -, -⟩ := HK.out v2 HV2.out
    obtain ⟨x0, x1⟩ := hX.cells
    have C3' := Lib.hid (C3.out v2 HV2.out)
    clear hb2 hA hX C3 C2'
    go_wp2_with fail
    refine C3'.out.mono ?_
    rintro e v3 ⟨rfl, hb3⟩
    have HV3 := Lib.hid (Below.then HV2.out hb3)
    obtain ⟨-, hA, -, hX, -, -⟩ := HK.out v3 HV3.out
    obtain ⟨x0, x1⟩ := hX.cells
    have C4 := Lib.hid (FX.out v3 HV3.out)
    clear hb3 hA hX C3' FX
    go_wp2_with fail
    refine C4.out.mono ?_
    rintro e v4 ⟨ga, gc, ga', gc', rfl, hY, hb4⟩
    have HV4 := Lib.hid (Below.then HV3.out hb4)
    clear hb4 C4
    obtain ⟨bY, hbY⟩ : ∃ b, v4.heap.size = b := ⟨_, rfl⟩
    obtain ⟨U1, hU1⟩ : ∃ U, v4.alloc (.cells #[.slice ga n gc, .slice ga' 0 gc'] 25) = U := ⟨_, rfl⟩
    have hY1 : At2 25 U1 bY (.slice ga n gc) (.slice ga' 0 gc') := by rw [← hU1, ← hbY]; exact At2.new _ _ _ _
    have hDY1 : DskAt U1 (.agg #[.slice ga n gc, .slice ga' 0 gc']) dY := by rw [← hU1]; exact hY.keep (below_new _ _)
    have hBU : Below wc.heap.size wc U1 := by rw [← hU1]; exact Below.then HV4.out (below_new _ _)
    have HU := Lib.hid (show ∀ w3, Below U1.heap.size U1 w3 → Below w.heap.size w w3 ∧ At2 25 w3 bY (.slice ga n gc) (.slice ga' 0 gc') ∧ DskAt w3 (.agg #[.slice ga n gc, .slice ga' 0 gc']) dY ∧ IntsAt w3 (.slice fa nf fc) fs from fun w3 h3 => by
      obtain ⟨g1, -, -, -, -, g6⟩ := HK.out w3 (Below.then hBU h3)
      exact ⟨g1, hY1.keep h3, hDY1.keep h3, g6⟩)
    have FY := Lib.hid (show Calls Try.prog 11 #[.agg #[.slice ga n gc, .slice ga' 0 gc']] U1 fun e w4 => ∃ a c a' c', e = .returned (.tuple #[.agg #[.slice a n c, .slice a' 0 c'], .int .i64 0]) ∧ DskAt w4 (.agg #[.slice a n c, .slice a' 0 c']) dY ∧ Below U1.heap.size U1 w4 from by
      have := Flush_t _ dY U1 hDY1
      rw [HFY.out] at this
      refine this.mono ?_
      rintro e w4 ⟨v, rfl, hv, hb4⟩
      obtain ⟨a, c, a', c', rfl, -, -⟩ := hv.shape
      rw [HNY.out.1, HNY.out.2] at hv ⊢
      exact ⟨a, c, a', c', rfl, hv, hb4⟩)
    have HU1 := Lib.hid hU1
    obtain ⟨g0, g1⟩ := hY1.cells
    clear hU1 hY1 hDY1 hBU hY x0 x1 a0 a1
    go_upto_region 11 with fail
    rw [HU1.out]
    clear hbY
    go_wp2_with fail
    refine FY.out.mono ?_
    rintro e v5 ⟨za, zc, za', zc', rfl, hZ, hb5⟩
    obtain ⟨bZ, hbZ⟩ : ∃ b, v5.heap.size = b := ⟨_, rfl⟩
    obtain ⟨U2, hU2⟩ : ∃ U, v5.alloc (.cells #[.slice za n zc, .slice za' 0 zc'] 25) = U := ⟨_, rfl⟩
    have hZ1 : At2 25 U2 bZ (.slice za n zc) (.slice za' 0 zc') := by rw [← hU2, ← hbZ]; exact At2.new _ _ _ _
    have hDZ1 : DskAt U2 (.agg #[.slice za n zc, .slice za' 0 zc']) dY := by rw [← hU2]; exact hZ.keep (below_new _ _)
    have hBU2 : Below U1.heap.size U1 U2 := by rw [← hU2]; exact Below.then hb5 (below_new _ _)
    have HUZ := Lib.hid (show ∀ w3, Below U2.heap.size U2 w3 → Below w.heap.size w w3 ∧ At2 25 w3 bY (.slice ga n gc) (.slice ga' 0 gc') ∧ DskAt w3 (.agg #[.slice ga n gc, .slice ga' 0 gc']) dY ∧ At2 25 w3 bZ (.slice za n zc) (.slice za' 0 zc') ∧ DskAt w3 (.agg #[.slice za n zc, .slice za' 0 zc']) dY from fun w3 h3 => by
      obtain ⟨g1, g2, g3, g4⟩ := HU.out w3 (Below.then hBU2 h3)
      exact ⟨g1, g2, g3, hZ1.keep h3, hDZ1.keep h3⟩)
    have CY := Lib.hid (show Calls Try.prog 12 #[.agg #[.slice ga n gc, .slice ga' 0 gc'], .slice fa nf fc] U2 fun e w4 => ∃ a c a' c', e = .returned (.tuple #[.agg #[.slice a n c, .slice a' 0 c'], .int .i64 0]) ∧ DskAt w4 (.agg #[.slice a n c, .slice a' 0 c']) dY ∧ Below U2.heap.size U2 w4 from by
      obtain ⟨g1, g2, g3, g4⟩ := HU.out U2 hBU2
      have := Crash_t _ _ dY fs U2 g3 g4
      rw [HCY.out] at this
      refine this.mono ?_
      rintro e w4 ⟨v, rfl, hv, hb4⟩
      obtain ⟨a, c, a', c', rfl, -, -⟩ := hv.shape
      rw [HNY.out.1, HNY.out.2] at hv ⊢
      exact ⟨a, c, a', c', rfl, hv, hb4⟩)
    have HU2 := Lib.hid hU2
    obtain ⟨-, hY2, -, -, -⟩ := HUZ.out U2 (Below.refl _ _)
    clear hU2 hZ1 hDZ1 hBU2 hZ hb5 g0 g1 FY
    obtain ⟨g0, g1⟩ := hY2.cells
    clear hY2
    go_upto_region 12 with fail
    rw [HU2.out]
    clear hbZ
    go_wp2_with fail
    refine CY.out.mono ?_
    rintro e v6 ⟨qa, qc, qa', qc', rfl, hQ, hb6⟩
    obtain ⟨bQ, hbQ⟩ : ∃ b, v6.heap.size = b := ⟨_, rfl⟩
    obtain ⟨U3, hU3⟩ : ∃ U, v6.alloc (.cells #[.slice qa n qc, .slice qa' 0 qc'] 25) = U := ⟨_, rfl⟩
    have hQ1 : At2 25 U3 bQ (.slice qa n qc) (.slice qa' 0 qc') := by rw [← hU3, ← hbQ]; exact At2.new _ _ _ _
    have hDQ1 : DskAt U3 (.agg #[.slice qa n qc, .slice qa' 0 qc']) dY := by rw [← hU3]; exact hQ.keep (below_new _ _)
    have hBU3 : Below U2.heap.size U2 U3 := by rw [← hU3]; exact Below.then hb6 (below_new _ _)
    have HUQ := Lib.hid (show ∀ w3, Below U3.heap.size U3 w3 → Below w.heap.size w w3 ∧ At2 25 w3 bY (.slice ga n gc) (.slice ga' 0 gc') ∧ DskAt w3 (.agg #[.slice ga n gc, .slice ga' 0 gc']) dY ∧ At2 25 w3 bZ (.slice za n zc) (.slice za' 0 zc') ∧ DskAt w3 (.agg #[.slice za n zc, .slice za' 0 zc']) dY ∧ At2 25 w3 bQ (.slice qa n qc) (.slice qa' 0 qc') ∧ DskAt w3 (.agg #[.slice qa n qc, .slice qa' 0 qc']) dY from fun w3 h3 => by
      obtain ⟨g1, g2, g3, g4, g5⟩ := HUZ.out w3 (Below.then hBU3 h3)
      exact ⟨g1, g2, g3, g4, g5, hQ1.keep h3, hDQ1.keep h3⟩)
    have HU3 := Lib.hid hU3
    have AL3 := Lib.hid (AL.out U3)
    have q1 : ((secB c).toList == (secB c).toList) = true := by simp
    clear hU3 hQ1 hDQ1 hBU3 hQ hb6 g0 g1 CY
    go_upto_region 13 with fail
    rw [HU3.out]
    clear hbQ
    by_cases hko : ka = ko
    · have q2 : ((ka : Int) == (ko : Int)) = true := beq_iff_eq.2 (by omega)
      have HKO := Lib.hid hko
      clear hko
      go_wp2_with fail
      refine AL3.out.mono ?_
      rintro e v7 ⟨rfl, hb7⟩
      have HB7 := Lib.hid hb7
      have SA7 := Lib.hid (SA.out v7)
      clear hb7
      go_wp2_with fail
      refine SA7.out.mono ?_
      rintro e v8 ⟨rfl, hb8⟩
      have HB8 := Lib.hid (Below.then HB7.out hb8)
      obtain ⟨-, hy, hdy, hz, hdz, hq, hdq⟩ := HUQ.out v8 HB8.out
      have LK := Lib.hid (refLike_t dY dY _ _ v8 hdy hdz)
      obtain ⟨y0, y1⟩ := hy.cells
      obtain ⟨z0, z1⟩ := hz.cells
      clear hb8 hy hdy hz hdz hq hdq SA7
      go_wp2_with fail
      refine LK.out.mono ?_
      rintro e v9 ⟨r, rfl, hr, hb9⟩
      obtain rfl : r = true := hr.2 rfl
      have HB9 := Lib.hid (Below.then HB8.out hb9)
      obtain ⟨-, hy, hdy, hz, hdz, hq, hdq⟩ := HUQ.out v9 HB9.out
      have LK := Lib.hid (refLike_t dY dY _ _ v9 hdy hdq)
      clear y0 y1 z0 z1
      obtain ⟨y0, y1⟩ := hy.cells
      obtain ⟨z0, z1⟩ := hq.cells
      clear hb9 hy hdy hz hdz hq hdq hr
      go_wp2_with fail
      refine LK.out.mono ?_
      rintro e v10 ⟨r, rfl, hr, hb10⟩
      obtain rfl : r = true := hr.2 rfl
      obtain ⟨hfin, -⟩ := HUQ.out v10 (Below.then HB9.out hb10)
      have HFIN := Lib.hid hfin
      clear hb10 hfin hr
      go_wp2_with fail
      go_ret
      exact ⟨rfl, HFIN.out⟩
    · have q2 : ((ka : Int) == (ko : Int)) = false := beq_eq_false_iff_ne.2 (by omega)
      obtain rfl := HS.out.2 hko
      have q3 : (s3.toList == s3.toList) = true := by simp
      have HKO := Lib.hid hko
      clear hko
      go_wp2_with fail
      refine AL3.out.mono ?_
      rintro e v7 ⟨rfl, hb7⟩
      have HB7 := Lib.hid hb7
      have SA7 := Lib.hid (SA.out v7)
      clear hb7
      go_wp2_with fail
      refine SA7.out.mono ?_
      rintro e v8 ⟨rfl, hb8⟩
      have HB8 := Lib.hid (Below.then HB7.out hb8)
      obtain ⟨-, hy, hdy, hz, hdz, hq, hdq⟩ := HUQ.out v8 HB8.out
      have LK := Lib.hid (refLike_t dY dY _ _ v8 hdy hdz)
      obtain ⟨y0, y1⟩ := hy.cells
      obtain ⟨z0, z1⟩ := hz.cells
      clear hb8 hy hdy hz hdz hq hdq SA7
      go_wp2_with fail
      refine LK.out.mono ?_
      rintro e v9 ⟨r, rfl, hr, hb9⟩
      obtain rfl : r = true := hr.2 rfl
      have HB9 := Lib.hid (Below.then HB8.out hb9)
      obtain ⟨-, hy, hdy, hz, hdz, hq, hdq⟩ := HUQ.out v9 HB9.out
      have LK := Lib.hid (refLike_t dY dY _ _ v9 hdy hdq)
      clear y0 y1 z0 z1
      obtain ⟨y0, y1⟩ := hy.cells
      obtain ⟨z0, z1⟩ := hq.cells
      clear hb9 hy hdy hz hdz hq hdq hr
      go_wp2_with fail
      refine LK.out.mono ?_
      rintro e v10 ⟨r, rfl, hr, hb10⟩
      obtain rfl : r = true := hr.2 rfl
      obtain ⟨hfin, -⟩ := HUQ.out v10 (Below.then HB9.out hb10)
      have HFIN := Lib.hid hfin
      clear hb10 hfin hr
      go_wp2_with fail
      go_ret
      exact ⟨rfl, HFIN.out⟩
end Go.Proofs.Ytcjngaapiomkbaa
