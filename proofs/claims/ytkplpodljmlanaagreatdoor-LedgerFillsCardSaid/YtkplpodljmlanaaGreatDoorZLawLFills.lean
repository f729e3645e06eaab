/-
  LedgerFills returns true at every input, and changes nothing that was there. Conditions: octet's errors lie where they lie.
-/
import Derived.Test.YtkplpodljmlanaaGreatDoorZLed6
namespace Go.Proofs.YtkplpodljmlanaaGreatDoor
open Go.RowKit Go.WideShapes

set_option maxRecDepth 100000 in
set_option maxHeartbeats 16000000 in
theorem fills_any (aD aS aZ : Addr) (sectors pl : Int) (w : World) (he : Env w aD aS aZ) :
    Calls Tryz.prog 8 #[.int .i64 sectors, .int .i64 pl] w fun e w' => e = .returned (.bool true) ∧ Below w.heap.size w w' := by
  have HE := Lib.hid he
  obtain ⟨mx, n, hmx, hmn, h4, h40⟩ := clamp40 sectors
  have AL := Lib.hid (fun w' (hb : Below w.heap.size w w') => alive_t aD aS aZ w' (he.keep hb))
  have HOP0 := Lib.hid (fmt_opens n h4 (by omega))
  have HLEN := Lib.hid (fmtD_len n)
  have FM := Format_t aD aS aZ n w he
  rw [formatL_ok n h4 (by omega)] at FM
  have FM := Lib.hid FM
  obtain ⟨hh, hhe⟩ : ∃ x, n / 2 = x := ⟨_, rfl⟩
  have hhi : (n : Int) / 2 = (hh : Int) := by omega
  have hht : (n : Int).tdiv 2 = (hh : Int) := by rw [Int.tdiv_eq_ediv_of_nonneg (by omega)]; exact hhi
  have hh2 : 2 ≤ hh := by omega
  have hh20 : hh ≤ 20 := by omega
  obtain ⟨R, hR⟩ : ∃ R : Nat, ((hh : Int) - 1) * 128 = (R : Int) := ⟨(hh - 1) * 128, by omega⟩
  have hR1 : 128 ≤ R := by omega
  have hR2 : R ≤ 2432 := by omega
  have hRN : roomN (fmtD n) = R := by unfold roomN hOf; rw [HLEN.out, hhe]; omega
  obtain ⟨r, x, hr1, hr2, hx1, hra, hrb⟩ := other_place pl R (by omega)
  have hmin : min (x : Int) 4096 = (x : Int) := by omega
  have hwx : IntKind.i64.wrap (x : Int) = (x : Int) := by rw [IntKind.wrap_i64]; omega
  have TX := Lib.hid (fun w' => text_t x w' (by omega))
  clear he
  go_enter Tryz.func8, Tryz.ntmps8
  go_wp2_with fail
  refine FM.out.mono ?_
  rintro e w1 ⟨v, rfl, hl1, hb1⟩
  obtain ⟨a, c, a', c', b, k, rfl⟩ := hl1.boxed (n0 := n) (n1 := 0) (ne := 0) (lh := 0) (lg := 1) (lu := 0) HLEN.out rfl rfl rfl rfl rfl
  simp only at hl1
  obtain ⟨B6, hB6⟩ : ∃ B, w1.heap.size = B := ⟨_, rfl⟩
  obtain ⟨W2, hW2⟩ : ∃ W, w1.alloc (.cells #[.slice a n c, .slice a' 0 c', .int .i64 0, .int .i64 1, .int .i64 0, .slice b 0 k] 27) = W := ⟨_, rfl⟩
  have HB2 := Lib.hid (show Below w.heap.size w W2 by rw [← hW2]; exact Below.then hb1 (below_new _ _))
  have HA6 := Lib.hid (show At6 27 W2 B6 (.slice a n c) (.slice a' 0 c') (.int .i64 0) (.int .i64 1) (.int .i64 0) (.slice b 0 k) by rw [← hW2, ← hB6]; exact At6.new _ _ _ _ _ _ _ _)
  have HL6 := Lib.hid (show LedAt W2 (.agg #[.slice a n c, .slice a' 0 c', .int .i64 0, .int .i64 1, .int .i64 0, .slice b 0 k]) ⟨fmtD n, 0, 1, 0, []⟩ by rw [← hW2]; exact hl1.keep (below_new _ _))
  have HW2 := Lib.hid hW2
  have KW := Lib.hid (show ∀ w', Below W2.heap.size W2 w' → Below w.heap.size w w' from fun w' hb => Below.then HB2.out hb)
  have AD := Lib.hid (show ∀ w' (s : ByteArray) (_ : s.size = x) (B : Nat), Below W2.heap.size W2 w' → StrRow w' (.slice (some ⟨B, 0, none⟩) 1 1) [s] → Calls Tryz.prog 22 #[.agg #[.slice a n c, .slice a' 0 c', .int .i64 0, .int .i64 1, .int .i64 0, .slice b 0 k], .slice (some ⟨B, 0, none⟩) 1 1] w' (OneOut n 1 0 1 (x + 2) 0 1 ((x : Int) + 2) w') from fun w' s hs B hb hr =>
    (Add_t aD aS aZ _ _ ⟨fmtD n, 0, 1, 0, []⟩ [s] w' (HE.out.keep (KW.out w' hb)) (HL6.out.keep hb) hr (fun t ht => by rw [List.mem_singleton.1 ht, hs]; unfold maxLen; omega)).mono fun _ _ H => OneOut.mk (renew := false) (u := 0) (g := 1) (n := 0) HOP0.out HLEN.out (by omega) (by simp only [Bool.false_eq_true, if_false]; rw [hRN]; omega) (by decide) (by simp only [Bool.false_eq_true, if_false]; omega) rfl rfl rfl (by omega) H)
  clear hW2 hl1 hb1 FM
  go_upto_region 6 with fail
  rw [HW2.out]
  clear hB6 hmx hmn hht hhi hr1 hr2 hra hrb
  obtain ⟨a0, a1, a2, a3, a4, a5⟩ := HA6.out.cells
  go_cut [9, 10] from 44 to 53 (fun xv fv wx => OneIn n 1 0 1 (x + 2) 0 1 ((x : Int) + 2) W2 xv fv wx)
  case first =>
    have hbA := Below.refl W2.heap.size W2
    obtain ⟨d0, d1, d2, d3, d4, d5⟩ := (HA6.out.keep (below_new W2 (.cells #[nilV, nilV, zeroV, zeroV, zeroV, nilV] 27))).cells

    go_region_law (first
        | (go_simp; go_at_call 33
           refine (TX.out _).mono ?_
           rintro e wT ⟨s, rfl, hsz, hbT⟩
           have hbA : Below W2.heap.size W2 wT := (by first | exact Below.then (hbA) hbT | exact Below.then (hbA.drew) hbT | exact Below.then (Below.then hbA (below_new _ _)) hbT | exact Below.then (Below.then hbA.drew (below_new _ _)) hbT | exact Below.then (Below.then (Below.then hbA (below_new _ _)) (below_new _ _)) hbT | exact Below.then (Below.then (Below.then hbA.drew (below_new _ _)) (below_new _ _)) hbT | exact Below.then ((Below.then hbA (below_new _ _)).drew) hbT | exact Below.then ((Below.then hbA.drew (below_new _ _)).drew) hbT | exact Below.then ((Below.then (Below.then hbA (below_new _ _)) (below_new _ _)).drew) hbT | exact Below.then ((Below.then (Below.then hbA.drew (below_new _ _)) (below_new _ _)).drew) hbT)
           have hle : W2.heap.size ≤ wT.heap.size := hbA.size
           obtain ⟨a0, a1, a2, a3, a4, a5⟩ := (HA6.out.keep hbA).cells
           obtain ⟨d0, d1, d2, d3, d4, d5⟩ := (HA6.out.keep (Below.then hbA (below_new wT (.cells #[nilV, nilV, zeroV, zeroV, zeroV, nilV] 27)))).cells
           obtain ⟨r0, r1, r2, r3, r4, r5⟩ := (HA6.out.keep (Below.then hbA (below_new wT (.cells #[.string s] 9)))).cells
           have hrow := row_one wT s 9
           have hrow2 := row_one (wT.alloc (.cells #[nilV, nilV, zeroV, zeroV, zeroV, nilV] 27)) s 9
           rw [World.size_alloc] at hrow2
           obtain ⟨ea0, ea1, ea2, ea3, ea4, ea5⟩ := (HA6.out.keep (Below.then (Below.then hbA (below_new wT (.cells #[.string s] 9))) (below_new (wT.alloc (.cells #[.string s] 9)) (.cells #[nilV, nilV, zeroV, zeroV, zeroV, nilV] 27)))).cells
           obtain ⟨eb0, eb1, eb2, eb3, eb4, eb5⟩ := (HA6.out.keep (Below.then (Below.then hbA (below_new wT (.cells #[nilV, nilV, zeroV, zeroV, zeroV, nilV] 27))) (below_new (wT.alloc (.cells #[nilV, nilV, zeroV, zeroV, zeroV, nilV] 27)) (.cells #[.string s] 9)))).cells
           (try first
            | have hz := hz.keep hbT
            | have hz := (hz.keep (Below.refl _ _).drew).keep hbT
            | have hz := (hz.keep (below_new _ _)).keep hbT
            | have hz : At6 27 wT W2.heap.size nilV nilV zeroV zeroV zeroV nilV := by first | exact (At6.new _ _ nilV nilV zeroV zeroV zeroV nilV).keep hbT | exact ((At6.new _ _ nilV nilV zeroV zeroV zeroV nilV).keep (Below.refl _ _).drew).keep hbT)
           skip)
        | (go_simp; go_at_call 22
           refine (AD.out _ s hsz _ (by first | exact hbA | exact hbA.drew | exact Below.then hbA (below_new _ _) | exact Below.then hbA.drew (below_new _ _) | exact Below.then (Below.then hbA (below_new _ _)) (below_new _ _) | exact Below.then (Below.then hbA.drew (below_new _ _)) (below_new _ _) | exact (Below.then hbA (below_new _ _)).drew | exact (Below.then hbA.drew (below_new _ _)).drew | exact (Below.then (Below.then hbA (below_new _ _)) (below_new _ _)).drew | exact (Below.then (Below.then hbA.drew (below_new _ _)) (below_new _ _)).drew) (by first | exact hrow | exact hrow2 | exact hrow.keep (below_new _ _))).mono ?_
           rintro e wD ⟨dD, esD, p1, k1, p2, k2, p3, k3, rfl, hlD, hopD, hdD, heD, hbD⟩
           have hbA : Below W2.heap.size W2 wD := (by first | exact Below.then (hbA) hbD | exact Below.then (hbA.drew) hbD | exact Below.then (Below.then hbA (below_new _ _)) hbD | exact Below.then (Below.then hbA.drew (below_new _ _)) hbD | exact Below.then (Below.then (Below.then hbA (below_new _ _)) (below_new _ _)) hbD | exact Below.then (Below.then (Below.then hbA.drew (below_new _ _)) (below_new _ _)) hbD | exact Below.then ((Below.then hbA (below_new _ _)).drew) hbD | exact Below.then ((Below.then hbA.drew (below_new _ _)).drew) hbD | exact Below.then ((Below.then (Below.then hbA (below_new _ _)) (below_new _ _)).drew) hbD | exact Below.then ((Below.then (Below.then hbA.drew (below_new _ _)) (below_new _ _)).drew) hbD)
           (try first
            | have hz := hz.keep hbD
            | have hz := (hz.keep (Below.refl _ _).drew).keep hbD
            | have hz := (hz.keep (below_new _ _)).keep hbD
            | have hz : At6 27 wD W2.heap.size nilV nilV zeroV zeroV zeroV nilV := by first | exact (At6.new _ _ nilV nilV zeroV zeroV zeroV nilV).keep hbD | exact ((At6.new _ _ nilV nilV zeroV zeroV zeroV nilV).keep (Below.refl _ _).drew).keep hbD
            | have hz : At6 27 wD wT.heap.size nilV nilV zeroV zeroV zeroV nilV := ((At6.new _ wT nilV nilV zeroV zeroV zeroV nilV).keep (below_new _ _)).keep hbD
            | have hz : At6 27 wD (wT.heap.size + 1) nilV nilV zeroV zeroV zeroV nilV := by
                have h := (At6.new 27 (wT.alloc (.cells #[.string s] 9)) nilV nilV zeroV zeroV zeroV nilV).keep hbD
                rwa [World.size_alloc] at h)
           (try obtain ⟨z0, z1, z2, z3, z4, z5⟩ := hz.cells)
           (try obtain ⟨y0, y1, y2, y3, y4, y5⟩ := hz.free)
           skip))

    all_goals
      first
      | (go_wp2_with fail; go_meet; with_reducible exact oneNew_alloc hopD hdD heD hlD hbA)
      | (go_wp2_with fail; go_meet; with_reducible exact oneNew_set hz hopD hdD heD hlD hbA (by first | exact Nat.le_refl _ | exact hle | exact Nat.le_succ_of_le hle))

  case rest =>
    obtain ⟨B9, d1, es1, rfl, rfl, hI9, hop1, hd1, he1, hbc, hB9⟩ := hcut
    have HOP1 := Lib.hid hop1
    have HBC := Lib.hid hbc
    have HI9 := Lib.hid hI9
    have HN1 := Lib.hid (And.intro hd1 he1)
    have hRN1 : roomN d1 = R := by rw [← hRN]; unfold roomN hOf; rw [hd1, HLEN.out]
    have HRN1 := Lib.hid hRN1
    have ALC := Lib.hid (AL.out wc (KW.out wc hbc))
    clear hI9 hop1 hbc hd1 he1 a0 a1 a2 a3 a4 a5 AD TX HA6 HL6 HW2 hRN1 hRN
    go_wp2_with fail
    refine ALC.out.mono ?_
    rintro e w5 ⟨rfl, hb5⟩
    have HB5 := Lib.hid (Below.then HBC.out hb5)
    obtain ⟨p1, k1, p2, k2, p3, k3, hA9, hL9⟩ := (HI9.out.keep hb5).boxed (n0 := n) (n1 := 0) (ne := 1) (lh := 0) (lg := 1) (lu := (x : Int) + 2) HN1.out.1 (by simp only; rw [HOP1.out.clean]; rfl) HN1.out.2 rfl rfl rfl
    have HA9 := Lib.hid hA9
    have HL9 := Lib.hid hL9
    obtain ⟨q, hq⟩ : ∃ q : Nat, (R : Int) - ((x : Int) + 2) = (q : Int) := ⟨R - (x + 2), by omega⟩
    clear hA9 hL9 hb5 ALC HI9 HBC
    obtain ⟨a0, a1, a2, a3, a4, a5⟩ := HA9.out.cells
    by_cases hq2 : q < 2
    · have hq2' : (q : Int) < 2 := by omega
      obtain ⟨WS, hWS⟩ : ∃ W, w5.alloc (.cells #[.string ⟨#[]⟩] 9) = W := ⟨_, rfl⟩
      have hbS : Below w5.heap.size w5 WS := by rw [← hWS]; exact below_new _ _
      have hro : StrRow WS (.slice (some ⟨w5.heap.size, 0, none⟩) 1 1) [⟨#[]⟩] := by rw [← hWS]; exact row_one _ _ _
      have AF := Add_t aD aS aZ _ _ ⟨d1, (0 : Nat), (1 : Nat), (x + 2 : Nat), es1⟩ [⟨#[]⟩] WS (HE.out.keep (KW.out _ (Below.then HB5.out hbS))) (HL9.out.keep hbS) hro (fun t ht => by rw [List.mem_singleton.1 ht]; decide)
      rw [one_full HOP1.out false (by decide) (by simp only [Bool.false_eq_true, if_false]; rw [HRN1.out]; show R < x + 2 + 2 + 0; omega)] at AF
      have AF := Lib.hid AF
      have HBS := Lib.hid (KW.out _ (Below.then HB5.out hbS))
      have HWS := Lib.hid hWS
      clear hbS hro hWS
      go_upto_region 11 with fail
      go_wp2_with fail
      rw [HWS.out]
      refine AF.out.mono ?_
      rintro e y1 ⟨v, rfl, hy, hby⟩
      obtain ⟨f1, g1, f2, g2, f3, g3, rfl⟩ := hy.boxed (n0 := 0) (n1 := 0) (ne := 0) (lh := 0) (lg := 0) (lu := 0) rfl rfl rfl rfl rfl rfl
      have HBF := Lib.hid (Below.then HBS.out hby)
      clear hy hby
      simp only
      go_wp2_with fail
      go_ret
      exact ⟨rfl, Below.then HBF.out (below_new _ _)⟩
    · have hq2' : ¬ (q : Int) < 2 := by omega
      obtain ⟨ka, hka⟩ : ∃ k : Nat, (q : Int) - 2 = (k : Int) := ⟨q - 2, by omega⟩
      obtain ⟨kb, hkb⟩ : ∃ k : Nat, (q : Int) - 1 = (k : Int) := ⟨q - 1, by omega⟩
      obtain ⟨kc, hkc⟩ : ∃ k : Nat, (R : Int) - 2 = (k : Int) := ⟨R - 2, by omega⟩
      have hwa : IntKind.i64.wrap (ka : Int) = (ka : Int) := by rw [IntKind.wrap_i64]; omega
      have hwb : IntKind.i64.wrap (kb : Int) = (kb : Int) := by rw [IntKind.wrap_i64]; omega
      have hwc : IntKind.i64.wrap (kc : Int) = (kc : Int) := by rw [IntKind.wrap_i64]; omega
      have hmc : min (kc : Int) 4096 = (kc : Int) := by omega
      have hkb2 : ¬ (4096 : Int) < (kb : Int) := by omega
      have TA := Lib.hid (fun w' => text_t ka w' (by omega))
      have TB := Lib.hid (fun w' => text_t kb w' (by omega))
      have TC := Lib.hid (fun w' => text_t kc w' (by omega))
      have KW5 := Lib.hid (show ∀ w', Below w5.heap.size w5 w' → Below w.heap.size w w' from fun w' hb => KW.out w' (Below.then HB5.out hb))
      have AA := Lib.hid (show ∀ w' (s : ByteArray) (_ : s.size = ka) (B : Nat), Below w5.heap.size w5 w' → StrRow w' (.slice (some ⟨B, 0, none⟩) 1 1) [s] → Calls Tryz.prog 22 #[.agg #[.slice p1 n k1, .slice p2 0 k2, .int .i64 0, .int .i64 1, .int .i64 ((x : Int) + 2), .slice p3 1 k3], .slice (some ⟨B, 0, none⟩) 1 1] w' (OneOut n 2 0 1 R 0 1 (R : Int) w') from fun w' s hs B hb hr =>
        (Add_t aD aS aZ _ _ ⟨d1, (0 : Nat), (1 : Nat), (x + 2 : Nat), es1⟩ [s] w' (HE.out.keep (KW5.out w' hb)) (HL9.out.keep hb) hr (fun t ht => by rw [List.mem_singleton.1 ht, hs]; unfold maxLen; omega)).mono fun _ _ H => OneOut.mk (renew := false) HOP1.out HN1.out.1 (by omega) (by simp only [Bool.false_eq_true, if_false]; rw [HRN1.out]; omega) (by decide) (by simp only [Bool.false_eq_true, if_false]; omega) (by show (es1 ++ [s]).length = 2; rw [List.length_append, HN1.out.2]; rfl) rfl rfl rfl H)
      have AB := Lib.hid (show ∀ w' (s : ByteArray) (_ : s.size = kb) (B : Nat), Below w5.heap.size w5 w' → StrRow w' (.slice (some ⟨B, 0, none⟩) 1 1) [s] → Calls Tryz.prog 22 #[.agg #[.slice p1 n k1, .slice p2 0 k2, .int .i64 0, .int .i64 1, .int .i64 ((x : Int) + 2), .slice p3 1 k3], .slice (some ⟨B, 0, none⟩) 1 1] w' (LedOutL nilLed 13 0 0 0 0 0 0 w') from fun w' s hs B hb hr => by
        have H := Add_t aD aS aZ _ _ ⟨d1, (0 : Nat), (1 : Nat), (x + 2 : Nat), es1⟩ [s] w' (HE.out.keep (KW5.out w' hb)) (HL9.out.keep hb) hr (fun t ht => by rw [List.mem_singleton.1 ht, hs]; unfold maxLen; omega)
        rw [one_full HOP1.out false (by omega) (by simp only [Bool.false_eq_true, if_false]; rw [HRN1.out]; omega)] at H
        exact H.mono fun _ _ h => LedOut.letters h rfl rfl rfl rfl rfl rfl)
      go_upto_region 13 with fail
      go_cut [14, 15] from 79 to 87 (fun xv fv wx => OneIn n 2 0 1 R 0 1 (R : Int) w5 xv fv wx)
      case first =>
        have hbA := Below.refl w5.heap.size w5
        obtain ⟨d0, d1, d2, d3, d4, d5⟩ := (HA9.out.keep (below_new w5 (.cells #[nilV, nilV, zeroV, zeroV, zeroV, nilV] 27))).cells

        go_region_law (first
            | (go_simp; go_at_call 33
               refine (TA.out _).mono ?_
               rintro e wT ⟨s, rfl, hsz, hbT⟩
               have hbA : Below w5.heap.size w5 wT := (by first | exact Below.then (hbA) hbT | exact Below.then (hbA.drew) hbT | exact Below.then (Below.then hbA (below_new _ _)) hbT | exact Below.then (Below.then hbA.drew (below_new _ _)) hbT | exact Below.then (Below.then (Below.then hbA (below_new _ _)) (below_new _ _)) hbT | exact Below.then (Below.then (Below.then hbA.drew (below_new _ _)) (below_new _ _)) hbT | exact Below.then ((Below.then hbA (below_new _ _)).drew) hbT | exact Below.then ((Below.then hbA.drew (below_new _ _)).drew) hbT | exact Below.then ((Below.then (Below.then hbA (below_new _ _)) (below_new _ _)).drew) hbT | exact Below.then ((Below.then (Below.then hbA.drew (below_new _ _)) (below_new _ _)).drew) hbT)
               have hle : w5.heap.size ≤ wT.heap.size := hbA.size
               obtain ⟨a0, a1, a2, a3, a4, a5⟩ := (HA9.out.keep hbA).cells
               obtain ⟨d0, d1, d2, d3, d4, d5⟩ := (HA9.out.keep (Below.then hbA (below_new wT (.cells #[nilV, nilV, zeroV, zeroV, zeroV, nilV] 27)))).cells
               obtain ⟨r0, r1, r2, r3, r4, r5⟩ := (HA9.out.keep (Below.then hbA (below_new wT (.cells #[.string s] 9)))).cells
               have hrow := row_one wT s 9
               have hrow2 := row_one (wT.alloc (.cells #[nilV, nilV, zeroV, zeroV, zeroV, nilV] 27)) s 9
               rw [World.size_alloc] at hrow2
               obtain ⟨ea0, ea1, ea2, ea3, ea4, ea5⟩ := (HA9.out.keep (Below.then (Below.then hbA (below_new wT (.cells #[.string s] 9))) (below_new (wT.alloc (.cells #[.string s] 9)) (.cells #[nilV, nilV, zeroV, zeroV, zeroV, nilV] 27)))).cells
               obtain ⟨eb0, eb1, eb2, eb3, eb4, eb5⟩ := (HA9.out.keep (Below.then (Below.then hbA (below_new wT (.cells #[nilV, nilV, zeroV, zeroV, zeroV, nilV] 27))) (below_new (wT.alloc (.cells #[nilV, nilV, zeroV, zeroV, zeroV, nilV] 27)) (.cells #[.string s] 9)))).cells
               (try first
                | have hz := hz.keep hbT
                | have hz := (hz.keep (Below.refl _ _).drew).keep hbT
                | have hz := (hz.keep (below_new _ _)).keep hbT
                | have hz : At6 27 wT w5.heap.size nilV nilV zeroV zeroV zeroV nilV := by first | exact (At6.new _ _ nilV nilV zeroV zeroV zeroV nilV).keep hbT | exact ((At6.new _ _ nilV nilV zeroV zeroV zeroV nilV).keep (Below.refl _ _).drew).keep hbT)
               skip)
            | (go_simp; go_at_call 22
               refine (AA.out _ s hsz _ (by first | exact hbA | exact hbA.drew | exact Below.then hbA (below_new _ _) | exact Below.then hbA.drew (below_new _ _) | exact Below.then (Below.then hbA (below_new _ _)) (below_new _ _) | exact Below.then (Below.then hbA.drew (below_new _ _)) (below_new _ _) | exact (Below.then hbA (below_new _ _)).drew | exact (Below.then hbA.drew (below_new _ _)).drew | exact (Below.then (Below.then hbA (below_new _ _)) (below_new _ _)).drew | exact (Below.then (Below.then hbA.drew (below_new _ _)) (below_new _ _)).drew) (by first | exact hrow | exact hrow2 | exact hrow.keep (below_new _ _))).mono ?_
               rintro e wD ⟨dD, esD, p1, k1, p2, k2, p3, k3, rfl, hlD, hopD, hdD, heD, hbD⟩
               have hbA : Below w5.heap.size w5 wD := (by first | exact Below.then (hbA) hbD | exact Below.then (hbA.drew) hbD | exact Below.then (Below.then hbA (below_new _ _)) hbD | exact Below.then (Below.then hbA.drew (below_new _ _)) hbD | exact Below.then (Below.then (Below.then hbA (below_new _ _)) (below_new _ _)) hbD | exact Below.then (Below.then (Below.then hbA.drew (below_new _ _)) (below_new _ _)) hbD | exact Below.then ((Below.then hbA (below_new _ _)).drew) hbD | exact Below.then ((Below.then hbA.drew (below_new _ _)).drew) hbD | exact Below.then ((Below.then (Below.then hbA (below_new _ _)) (below_new _ _)).drew) hbD | exact Below.then ((Below.then (Below.then hbA.drew (below_new _ _)) (below_new _ _)).drew) hbD)
               (try first
                | have hz := hz.keep hbD
                | have hz := (hz.keep (Below.refl _ _).drew).keep hbD
                | have hz := (hz.keep (below_new _ _)).keep hbD
                | have hz : At6 27 wD w5.heap.size nilV nilV zeroV zeroV zeroV nilV := by first | exact (At6.new _ _ nilV nilV zeroV zeroV zeroV nilV).keep hbD | exact ((At6.new _ _ nilV nilV zeroV zeroV zeroV nilV).keep (Below.refl _ _).drew).keep hbD
                | have hz : At6 27 wD wT.heap.size nilV nilV zeroV zeroV zeroV nilV := ((At6.new _ wT nilV nilV zeroV zeroV zeroV nilV).keep (below_new _ _)).keep hbD
                | have hz : At6 27 wD (wT.heap.size + 1) nilV nilV zeroV zeroV zeroV nilV := by
                    have h := (At6.new 27 (wT.alloc (.cells #[.string s] 9)) nilV nilV zeroV zeroV zeroV nilV).keep hbD
                    rwa [World.size_alloc] at h)
               (try obtain ⟨z0, z1, z2, z3, z4, z5⟩ := hz.cells)
               (try obtain ⟨y0, y1, y2, y3, y4, y5⟩ := hz.free)
               skip))

        all_goals
          first
          | (go_wp2_with fail; go_meet; with_reducible exact oneNew_alloc hopD hdD heD hlD hbA)
          | (go_wp2_with fail; go_meet; with_reducible exact oneNew_set hz hopD hdD heD hlD hbA (by first | exact Nat.le_refl _ | exact hle | exact Nat.le_succ_of_le hle))

      case rest =>
        obtain ⟨B14, dB, esB, rfl, rfl, hI14, hopB, hdB, heB, hbc, hB14⟩ := hcut
        obtain ⟨v0, hv0⟩ : ∃ W, W = wc := ⟨_, rfl⟩
        rw [← hv0] at hI14 hbc ⊢
        clear hv0 a0 a1 a2 a3 a4 a5 TA AA
        have HBC := Lib.hid hbc
        have HOPB := Lib.hid hopB
        have HNB := Lib.hid (And.intro hdB heB)
        have HI14 := Lib.hid hI14
        have HA9v := Lib.hid (HA9.out.keep hbc)
        have ABv := Lib.hid (fun w' s hs B (hb : Below v0.heap.size v0 w') hr => AB.out w' s hs B (Below.then HBC.out hb) hr)
        have hRNB : roomN dB = R := by rw [← HRN1.out]; unfold roomN hOf; rw [hdB, HN1.out.1]
        have HRNB := Lib.hid hRNB
        clear hI14 hbc hopB hdB heB hRNB
        obtain ⟨a0, a1, a2, a3, a4, a5⟩ := HA9v.out.cells
        go_upto_region 14 with fail
        go_cut [16, 17] from 89 to 97 (fun xv fv wx => FullIn v0 fv wx)
        case first =>
          have hbA := Below.refl v0.heap.size v0
          obtain ⟨d0, d1, d2, d3, d4, d5⟩ := (HA9v.out.keep (below_new v0 (.cells #[nilV, nilV, zeroV, zeroV, zeroV, nilV] 27))).cells

          go_region_law (first
              | (go_simp; go_at_call 33
                 refine (TB.out _).mono ?_
                 rintro e wT ⟨s, rfl, hsz, hbT⟩
                 have hbA : Below v0.heap.size v0 wT := (by first | exact Below.then (hbA) hbT | exact Below.then (hbA.drew) hbT | exact Below.then (Below.then hbA (below_new _ _)) hbT | exact Below.then (Below.then hbA.drew (below_new _ _)) hbT | exact Below.then (Below.then (Below.then hbA (below_new _ _)) (below_new _ _)) hbT | exact Below.then (Below.then (Below.then hbA.drew (below_new _ _)) (below_new _ _)) hbT | exact Below.then ((Below.then hbA (below_new _ _)).drew) hbT | exact Below.then ((Below.then hbA.drew (below_new _ _)).drew) hbT | exact Below.then ((Below.then (Below.then hbA (below_new _ _)) (below_new _ _)).drew) hbT | exact Below.then ((Below.then (Below.then hbA.drew (below_new _ _)) (below_new _ _)).drew) hbT)
                 have hle : v0.heap.size ≤ wT.heap.size := hbA.size
                 obtain ⟨a0, a1, a2, a3, a4, a5⟩ := (HA9v.out.keep hbA).cells
                 obtain ⟨d0, d1, d2, d3, d4, d5⟩ := (HA9v.out.keep (Below.then hbA (below_new wT (.cells #[nilV, nilV, zeroV, zeroV, zeroV, nilV] 27)))).cells
                 obtain ⟨r0, r1, r2, r3, r4, r5⟩ := (HA9v.out.keep (Below.then hbA (below_new wT (.cells #[.string s] 9)))).cells
                 have hrow := row_one wT s 9
                 have hrow2 := row_one (wT.alloc (.cells #[nilV, nilV, zeroV, zeroV, zeroV, nilV] 27)) s 9
                 rw [World.size_alloc] at hrow2
                 obtain ⟨ea0, ea1, ea2, ea3, ea4, ea5⟩ := (HA9v.out.keep (Below.then (Below.then hbA (below_new wT (.cells #[.string s] 9))) (below_new (wT.alloc (.cells #[.string s] 9)) (.cells #[nilV, nilV, zeroV, zeroV, zeroV, nilV] 27)))).cells
                 obtain ⟨eb0, eb1, eb2, eb3, eb4, eb5⟩ := (HA9v.out.keep (Below.then (Below.then hbA (below_new wT (.cells #[nilV, nilV, zeroV, zeroV, zeroV, nilV] 27))) (below_new (wT.alloc (.cells #[nilV, nilV, zeroV, zeroV, zeroV, nilV] 27)) (.cells #[.string s] 9)))).cells
                 (try first
                  | have hz := hz.keep hbT
                  | have hz := (hz.keep (Below.refl _ _).drew).keep hbT
                  | have hz := (hz.keep (below_new _ _)).keep hbT
                  | have hz : At6 27 wT v0.heap.size nilV nilV zeroV zeroV zeroV nilV := by first | exact (At6.new _ _ nilV nilV zeroV zeroV zeroV nilV).keep hbT | exact ((At6.new _ _ nilV nilV zeroV zeroV zeroV nilV).keep (Below.refl _ _).drew).keep hbT)
                 skip)
              | (go_simp; go_at_call 22
                 refine (ABv.out _ s hsz _ (by first | exact hbA | exact hbA.drew | exact Below.then hbA (below_new _ _) | exact Below.then hbA.drew (below_new _ _) | exact Below.then (Below.then hbA (below_new _ _)) (below_new _ _) | exact Below.then (Below.then hbA.drew (below_new _ _)) (below_new _ _) | exact (Below.then hbA (below_new _ _)).drew | exact (Below.then hbA.drew (below_new _ _)).drew | exact (Below.then (Below.then hbA (below_new _ _)) (below_new _ _)).drew | exact (Below.then (Below.then hbA.drew (below_new _ _)) (below_new _ _)).drew) (by first | exact hrow | exact hrow2 | exact hrow.keep (below_new _ _))).mono ?_
                 rintro e wD ⟨p1, k1, p2, k2, p3, k3, rfl, hlD, hbD⟩
                 have hbA : Below v0.heap.size v0 wD := (by first | exact Below.then (hbA) hbD | exact Below.then (hbA.drew) hbD | exact Below.then (Below.then hbA (below_new _ _)) hbD | exact Below.then (Below.then hbA.drew (below_new _ _)) hbD | exact Below.then (Below.then (Below.then hbA (below_new _ _)) (below_new _ _)) hbD | exact Below.then (Below.then (Below.then hbA.drew (below_new _ _)) (below_new _ _)) hbD | exact Below.then ((Below.then hbA (below_new _ _)).drew) hbD | exact Below.then ((Below.then hbA.drew (below_new _ _)).drew) hbD | exact Below.then ((Below.then (Below.then hbA (below_new _ _)) (below_new _ _)).drew) hbD | exact Below.then ((Below.then (Below.then hbA.drew (below_new _ _)) (below_new _ _)).drew) hbD)
                 (try first
                  | have hz := hz.keep hbD
                  | have hz := (hz.keep (Below.refl _ _).drew).keep hbD
                  | have hz := (hz.keep (below_new _ _)).keep hbD
                  | have hz : At6 27 wD v0.heap.size nilV nilV zeroV zeroV zeroV nilV := by first | exact (At6.new _ _ nilV nilV zeroV zeroV zeroV nilV).keep hbD | exact ((At6.new _ _ nilV nilV zeroV zeroV zeroV nilV).keep (Below.refl _ _).drew).keep hbD
                  | have hz : At6 27 wD wT.heap.size nilV nilV zeroV zeroV zeroV nilV := ((At6.new _ wT nilV nilV zeroV zeroV zeroV nilV).keep (below_new _ _)).keep hbD
                  | have hz : At6 27 wD (wT.heap.size + 1) nilV nilV zeroV zeroV zeroV nilV := by
                      have h := (At6.new 27 (wT.alloc (.cells #[.string s] 9)) nilV nilV zeroV zeroV zeroV nilV).keep hbD
                      rwa [World.size_alloc] at h)
                 (try obtain ⟨z0, z1, z2, z3, z4, z5⟩ := hz.cells)
                 (try obtain ⟨y0, y1, y2, y3, y4, y5⟩ := hz.free)
                 skip))

          all_goals
            first
            | (go_wp2_with fail; go_meet; with_reducible exact fullNew_alloc hbA)
            | (go_wp2_with fail; go_meet; with_reducible exact fullNew_set hbA (by first | exact Nat.le_refl _ | exact hle | exact Nat.le_succ_of_le hle))

        case rest =>
          obtain ⟨rfl, hbc⟩ := hcut
          obtain ⟨v1, hv1⟩ : ∃ W, W = wc := ⟨_, rfl⟩
          rw [← hv1] at hbc ⊢
          clear hv1 a0 a1 a2 a3 a4 a5 TB AB ABv
          have HB1 := Lib.hid (Below.then HBC.out hbc)
          obtain ⟨m1, j1, m2, j2, m3, j3, hA14, hL14⟩ := (HI14.out.keep hbc).boxed (n0 := n) (n1 := 0) (ne := 2) (lh := 0) (lg := 1) (lu := (R : Int)) HNB.out.1 (by simp only; rw [HOPB.out.clean]; rfl) HNB.out.2 rfl rfl rfl
          have HA14 := Lib.hid hA14
          have HL14 := Lib.hid hL14
          clear hA14 hL14 hbc
          have AC := Lib.hid (show ∀ w' (s : ByteArray) (_ : s.size = kc) (B : Nat), Below v1.heap.size v1 w' → StrRow w' (.slice (some ⟨B, 0, none⟩) 1 1) [s] → Calls Tryz.prog 21 #[.agg #[.slice m1 n j1, .slice m2 0 j2, .int .i64 0, .int .i64 1, .int .i64 (R : Int), .slice m3 2 j3], .slice (some ⟨B, 0, none⟩) 1 1] w' (OneOut n 1 1 2 R 1 2 (R : Int) w') from fun w' s hs B hb hr =>
            (Renew_t aD aS aZ _ _ ⟨dB, (0 : Nat), (1 : Nat), (R : Nat), esB⟩ [s] w' (HE.out.keep (KW5.out w' (Below.then HB1.out hb))) (HL14.out.keep hb) hr (fun t ht => by rw [List.mem_singleton.1 ht, hs]; unfold maxLen; omega)).mono fun _ _ H => OneOut.mk (renew := true) HOPB.out HNB.out.1 (by omega) (by simp only [if_true]; rw [HRNB.out]; omega) (by decide) (by simp only [if_true]; omega) rfl rfl rfl rfl H)
          obtain ⟨a0, a1, a2, a3, a4, a5⟩ := HA14.out.cells
          go_upto_region 17 with fail
          go_cut [18, 19] from 102 to 111 (fun xv fv wx => OneIn n 1 1 2 R 1 2 (R : Int) v1 xv fv wx)
          case first =>
            have hbA := Below.refl v1.heap.size v1
            obtain ⟨d0, d1, d2, d3, d4, d5⟩ := (HA14.out.keep (below_new v1 (.cells #[nilV, nilV, zeroV, zeroV, zeroV, nilV] 27))).cells

            go_region_law (first
                | (go_simp; go_at_call 33
                   refine (TC.out _).mono ?_
                   rintro e wT ⟨s, rfl, hsz, hbT⟩
                   have hbA : Below v1.heap.size v1 wT := (by first | exact Below.then (hbA) hbT | exact Below.then (hbA.drew) hbT | exact Below.then (Below.then hbA (below_new _ _)) hbT | exact Below.then (Below.then hbA.drew (below_new _ _)) hbT | exact Below.then (Below.then (Below.then hbA (below_new _ _)) (below_new _ _)) hbT | exact Below.then (Below.then (Below.then hbA.drew (below_new _ _)) (below_new _ _)) hbT | exact Below.then ((Below.then hbA (below_new _ _)).drew) hbT | exact Below.then ((Below.then hbA.drew (below_new _ _)).drew) hbT | exact Below.then ((Below.then (Below.then hbA (below_new _ _)) (below_new _ _)).drew) hbT | exact Below.then ((Below.then (Below.then hbA.drew (below_new _ _)) (below_new _ _)).drew) hbT)
                   have hle : v1.heap.size ≤ wT.heap.size := hbA.size
                   obtain ⟨a0, a1, a2, a3, a4, a5⟩ := (HA14.out.keep hbA).cells
                   obtain ⟨d0, d1, d2, d3, d4, d5⟩ := (HA14.out.keep (Below.then hbA (below_new wT (.cells #[nilV, nilV, zeroV, zeroV, zeroV, nilV] 27)))).cells
                   obtain ⟨r0, r1, r2, r3, r4, r5⟩ := (HA14.out.keep (Below.then hbA (below_new wT (.cells #[.string s] 9)))).cells
                   have hrow := row_one wT s 9
                   have hrow2 := row_one (wT.alloc (.cells #[nilV, nilV, zeroV, zeroV, zeroV, nilV] 27)) s 9
                   rw [World.size_alloc] at hrow2
                   obtain ⟨ea0, ea1, ea2, ea3, ea4, ea5⟩ := (HA14.out.keep (Below.then (Below.then hbA (below_new wT (.cells #[.string s] 9))) (below_new (wT.alloc (.cells #[.string s] 9)) (.cells #[nilV, nilV, zeroV, zeroV, zeroV, nilV] 27)))).cells
                   obtain ⟨eb0, eb1, eb2, eb3, eb4, eb5⟩ := (HA14.out.keep (Below.then (Below.then hbA (below_new wT (.cells #[nilV, nilV, zeroV, zeroV, zeroV, nilV] 27))) (below_new (wT.alloc (.cells #[nilV, nilV, zeroV, zeroV, zeroV, nilV] 27)) (.cells #[.string s] 9)))).cells
                   (try first
                    | have hz := hz.keep hbT
                    | have hz := (hz.keep (Below.refl _ _).drew).keep hbT
                    | have hz := (hz.keep (below_new _ _)).keep hbT
                    | have hz : At6 27 wT v1.heap.size nilV nilV zeroV zeroV zeroV nilV := by first | exact (At6.new _ _ nilV nilV zeroV zeroV zeroV nilV).keep hbT | exact ((At6.new _ _ nilV nilV zeroV zeroV zeroV nilV).keep (Below.refl _ _).drew).keep hbT)
                   skip)
                | (go_simp; go_at_call 21
                   refine (AC.out _ s hsz _ (by first | exact hbA | exact hbA.drew | exact Below.then hbA (below_new _ _) | exact Below.then hbA.drew (below_new _ _) | exact Below.then (Below.then hbA (below_new _ _)) (below_new _ _) | exact Below.then (Below.then hbA.drew (below_new _ _)) (below_new _ _) | exact (Below.then hbA (below_new _ _)).drew | exact (Below.then hbA.drew (below_new _ _)).drew | exact (Below.then (Below.then hbA (below_new _ _)) (below_new _ _)).drew | exact (Below.then (Below.then hbA.drew (below_new _ _)) (below_new _ _)).drew) (by first | exact hrow | exact hrow2 | exact hrow.keep (below_new _ _))).mono ?_
                   rintro e wD ⟨dD, esD, p1, k1, p2, k2, p3, k3, rfl, hlD, hopD, hdD, heD, hbD⟩
                   have hbA : Below v1.heap.size v1 wD := (by first | exact Below.then (hbA) hbD | exact Below.then (hbA.drew) hbD | exact Below.then (Below.then hbA (below_new _ _)) hbD | exact Below.then (Below.then hbA.drew (below_new _ _)) hbD | exact Below.then (Below.then (Below.then hbA (below_new _ _)) (below_new _ _)) hbD | exact Below.then (Below.then (Below.then hbA.drew (below_new _ _)) (below_new _ _)) hbD | exact Below.then ((Below.then hbA (below_new _ _)).drew) hbD | exact Below.then ((Below.then hbA.drew (below_new _ _)).drew) hbD | exact Below.then ((Below.then (Below.then hbA (below_new _ _)) (below_new _ _)).drew) hbD | exact Below.then ((Below.then (Below.then hbA.drew (below_new _ _)) (below_new _ _)).drew) hbD)
                   (try first
                    | have hz := hz.keep hbD
                    | have hz := (hz.keep (Below.refl _ _).drew).keep hbD
                    | have hz := (hz.keep (below_new _ _)).keep hbD
                    | have hz : At6 27 wD v1.heap.size nilV nilV zeroV zeroV zeroV nilV := by first | exact (At6.new _ _ nilV nilV zeroV zeroV zeroV nilV).keep hbD | exact ((At6.new _ _ nilV nilV zeroV zeroV zeroV nilV).keep (Below.refl _ _).drew).keep hbD
                    | have hz : At6 27 wD wT.heap.size nilV nilV zeroV zeroV zeroV nilV := ((At6.new _ wT nilV nilV zeroV zeroV zeroV nilV).keep (below_new _ _)).keep hbD
                    | have hz : At6 27 wD (wT.heap.size + 1) nilV nilV zeroV zeroV zeroV nilV := by
                        have h := (At6.new 27 (wT.alloc (.cells #[.string s] 9)) nilV nilV zeroV zeroV zeroV nilV).keep hbD
                        rwa [World.size_alloc] at h)
                   (try obtain ⟨z0, z1, z2, z3, z4, z5⟩ := hz.cells)
                   (try obtain ⟨y0, y1, y2, y3, y4, y5⟩ := hz.free)
                   skip))

            all_goals
              first
              | (go_wp2_with fail; go_meet; with_reducible exact oneNew_alloc hopD hdD heD hlD hbA)
              | (go_wp2_with fail; go_meet; with_reducible exact oneNew_set hz hopD hdD heD hlD hbA (by first | exact Nat.le_refl _ | exact hle | exact Nat.le_succ_of_le hle))

          case rest =>
            obtain ⟨B18, dE, esE, rfl, rfl, hI18, hopE, hdE, heE, hbc, -⟩ := hcut
            obtain ⟨f1, g1, f2, g2, f3, g3, hA18, -⟩ := hI18.boxed (n0 := n) (n1 := 0) (ne := 1) (lh := 1) (lg := 2) (lu := (R : Int)) hdE (by simp only; rw [hopE.clean]; rfl) heE rfl rfl rfl
            have HA18 := Lib.hid hA18
            have HA14c := Lib.hid (HA14.out.keep hbc)
            have HBF := Lib.hid (KW5.out _ (Below.then HB1.out hbc))
            clear hI18 hopE hdE heE hbc hA18 a0 a1 a2 a3 a4 a5 AC TC
            obtain ⟨a0, a1, a2, a3, a4, a5⟩ := HA14c.out.cells
            obtain ⟨b0, b1, b2, b3, b4, b5⟩ := HA18.out.cells
            go_wp2_with fail
            go_ret
            exact ⟨rfl, HBF.out⟩
end Go.Proofs.YtkplpodljmlanaaGreatDoor
