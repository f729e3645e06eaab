/-
  LedgerOrder returns true at every input, and changes nothing that was there. Conditions: octet's errors lie where they lie.
-/
import Derived.Test.YtkplpodljmlanaaGreatDoorZLed3
import Derived.Test.YtkplpodljmlanaaGreatDoorZLed4
import Derived.BigQuiet
namespace Go.Proofs.YtkplpodljmlanaaGreatDoor
open Go.RowKit Go.WideShapes

set_option maxRecDepth 100000 in
set_option maxHeartbeats 16000000 in
theorem order_any (aD aS aZ : Addr) (sectors pl : Int) (vl : Value) (sl : List ByteArray) (w : World) (he : Env w aD aS aZ) (hl : StrsAt w vl sl) (zl : ∀ s ∈ sl, s.size ≤ maxLen) :
    Calls Tryz.prog 9 #[.int .i64 sectors, vl, .int .i64 pl] w fun e w' => e = .returned (.bool true) ∧ Below w.heap.size w w' := by
  have HE := Lib.hid he
  obtain ⟨mx, n, hmx, hmn, h4, h64⟩ := clamp64 sectors
  obtain ⟨nt, hnt⟩ : ∃ k, (fewB sl).length = k := ⟨_, rfl⟩
  have TX := Lib.hid (texts_at vl sl nt hnt w hl zl)
  have RZ := Lib.hid (fewB_max sl)
  have hml : (fewB sl).length ≤ 66 := by unfold fewB; simp; omega
  obtain ⟨ft, hft⟩ : ∃ k, fewB sl = k := ⟨_, rfl⟩
  rw [hft] at TX RZ hnt hml
  rw [hnt] at hml
  have HNT := Lib.hid hnt
  have HLEN := Lib.hid (fmtD_len n)
  have AL := Lib.hid (fun w' (hb : Below w.heap.size w w') => alive_t aD aS aZ w' (he.keep hb))
  obtain ⟨la, lc, rfl, -, -⟩ := hl.shape
  obtain ⟨kl, hkl⟩ : ∃ k, sl.length = k := ⟨_, rfl⟩
  rw [hkl] at TX ⊢
  clear he hl zl hnt hft hkl
  go_enter Tryz.func9, Tryz.ntmps9
  go_wp2_with fail
  refine TX.out.mono ?_
  rintro e w0 ⟨tg, tc, rfl, hrw, hb0⟩
  have HRW := Lib.hid hrw
  have HB0 := Lib.hid hb0
  have FM := Format_t aD aS aZ n w0 (HE.out.keep hb0)
  rw [formatL_ok n h4 h64] at FM
  have FM := Lib.hid FM
  obtain ⟨r, x, hr1, hr2, hxn, hra, hrb⟩ := at_place pl nt
  obtain ⟨hcap, htc⟩ := hrw.cap
  unfold maxLen at htc
  have hxtc : x ≤ tc := by omega
  clear hrw hb0 TX
  simp only
  go_wp2_with fail
  refine FM.out.mono ?_
  rintro e w1 ⟨v, rfl, hl1, hb1⟩
  obtain ⟨a, c, a', c', b, k, rfl⟩ := hl1.boxed (n0 := n) (n1 := 0) (ne := 0) (lh := 0) (lg := 1) (lu := 0) HLEN.out rfl rfl rfl rfl rfl
  simp only at hl1
  obtain ⟨B7, hB7⟩ : ∃ B, w1.heap.size = B := ⟨_, rfl⟩
  obtain ⟨W2, hW2⟩ : ∃ W, w1.alloc (.cells #[.slice a n c, .slice a' 0 c', .int .i64 0, .int .i64 1, .int .i64 0, .slice b 0 k] 27) = W := ⟨_, rfl⟩
  have hbb2 : Below w1.heap.size w1 W2 := by rw [← hW2]; exact below_new _ _
  have HB2 := Lib.hid (Below.then HB0.out (Below.then hb1 hbb2))
  have HA7 := Lib.hid (show At6 27 W2 B7 (.slice a n c) (.slice a' 0 c') (.int .i64 0) (.int .i64 1) (.int .i64 0) (.slice b 0 k) by rw [← hW2, ← hB7]; exact At6.new _ _ _ _ _ _ _ _)
  have HL7 := Lib.hid (show LedAt W2 (.agg #[.slice a n c, .slice a' 0 c', .int .i64 0, .int .i64 1, .int .i64 0, .slice b 0 k]) ⟨fmtD n, 0, 1, 0, []⟩ by rw [← hW2]; exact hl1.keep (below_new _ _))
  have HR2 := Lib.hid (HRW.out.keep (Below.then hb1 hbb2))
  have HW2 := Lib.hid hW2
  have KW := Lib.hid (show ∀ w', Below W2.heap.size W2 w' → Below w.heap.size w w' from fun w' hb => Below.then HB2.out hb)
  clear hW2 hl1 hb1 hbb2 FM HRW HB0
  go_upto_region 5 with fail
  rw [HW2.out]
  clear hB7
  -- both ledgers that are added to
  have hled := order_led (n := n) h4 h64 (ft.take x) (ft.drop x)
  rw [List.take_append_drop] at hled
  have AD := Add_t aD aS aZ _ _ ⟨fmtD n, 0, 1, 0, []⟩ ft W2 (HE.out.keep HB2.out) HL7.out HR2.out RZ.out
  have AE := Lib.hid (show ∀ w' (tg2 tc2 : Nat), Below W2.heap.size W2 w' → StrRow w' (.slice (some ⟨tg, 0, none⟩) x tc) (ft.take x) → Calls Tryz.prog 22 #[.agg #[.slice a n c, .slice a' 0 c', .int .i64 0, .int .i64 1, .int .i64 0, .slice b 0 k], .slice (some ⟨tg, 0, none⟩) x tc] w' (LedOut (addL ⟨fmtD n, 0, 1, 0, []⟩ false (ft.take x)) w') from fun w' _ _ hb hr => Add_t aD aS aZ _ _ ⟨fmtD n, 0, 1, 0, []⟩ (ft.take x) w' (HE.out.keep (KW.out w' hb)) (HL7.out.keep hb) hr fun s hs => RZ.out s (List.mem_of_mem_take hs))
  have HD9 := addL_dirty ⟨fmtD n, 0, 1, 0, []⟩ false ft
  have HD11 := addL_dirty ⟨fmtD n, 0, 1, 0, []⟩ false (ft.take x)
  obtain ⟨⟨lf, ef⟩, hadd⟩ : ∃ x, addL ⟨fmtD n, 0, 1, 0, []⟩ false ft = x := ⟨_, rfl⟩
  obtain ⟨⟨l1, e1⟩, hadd1⟩ : ∃ y, addL ⟨fmtD n, 0, 1, 0, []⟩ false (ft.take x) = y := ⟨_, rfl⟩
  rw [hadd] at AD HD9 hled
  rw [hadd1] at AE HD11 hled
  have HD9 := Lib.hid HD9
  have HD11 := Lib.hid HD11
  have HLED := Lib.hid (show (ef = 2 ∨ ef = 13) ∨ (ef = 0 ∧ e1 = 0 ∧ addL l1 false (ft.drop x) = (lf, ef)) from hled)
  clear hadd hadd1 hled

  obtain ⟨n0, hn0⟩ : ∃ k, lf.disk.secs.length = k := ⟨_, rfl⟩
  obtain ⟨n1, hn1⟩ : ∃ k, lf.disk.dirty.length = k := ⟨_, rfl⟩
  obtain ⟨ne, hne⟩ : ∃ k, lf.ents.length = k := ⟨_, rfl⟩
  obtain ⟨nh, hnh⟩ : ∃ k, lf.half = k := ⟨_, rfl⟩
  obtain ⟨ng, hng⟩ : ∃ k, lf.gen = k := ⟨_, rfl⟩
  obtain ⟨nu, hnu⟩ : ∃ k, lf.used = k := ⟨_, rfl⟩

  have AD := Lib.hid (AD.mono fun _ _ h => LedOut.letters h hn0 hn1 hne hnh hng hnu)

  obtain ⟨m0, hm0⟩ : ∃ k, l1.disk.secs.length = k := ⟨_, rfl⟩
  obtain ⟨m1, hm1⟩ : ∃ k, l1.disk.dirty.length = k := ⟨_, rfl⟩
  obtain ⟨me, hme⟩ : ∃ k, l1.ents.length = k := ⟨_, rfl⟩
  obtain ⟨mh, hmh⟩ : ∃ k, l1.half = k := ⟨_, rfl⟩
  obtain ⟨mg, hmg⟩ : ∃ k, l1.gen = k := ⟨_, rfl⟩
  obtain ⟨mu, hmu⟩ : ∃ k, l1.used = k := ⟨_, rfl⟩

  have AEL := Lib.hid (fun w' tg tc hb hr => (AE.out w' tg tc hb hr).mono fun _ _ h => LedOut.letters h hm0 hm1 hme hmh hmg hmu)
  have HLF := Lib.hid (And.intro hn0 (And.intro hn1 (And.intro hne (And.intro hnh (And.intro hng hnu)))))
  have HLM := Lib.hid (And.intro hm0 (And.intro hm1 (And.intro hme (And.intro hmh (And.intro hmg hmu)))))
  clear AE hn0 hn1 hne hnh hng hnu hm0 hm1 hme hmh hmg hmu
  obtain ⟨a0, a1, a2, a3, a4, a5⟩ := HA7.out.cells
  go_wp2_with fail
  refine AD.out.mono ?_
  rintro e w3 ⟨p1, k1, p2, k2, p3, k3, rfl, hl3, hb3⟩
  obtain ⟨B9, hB9⟩ : ∃ B, w3.heap.size = B := ⟨_, rfl⟩
  obtain ⟨W4, hW4⟩ : ∃ W, w3.alloc (.cells #[.slice p1 n0 k1, .slice p2 n1 k2, .int .i64 nh, .int .i64 ng, .int .i64 nu, .slice p3 ne k3] 27) = W := ⟨_, rfl⟩
  have hb4 : Below W2.heap.size W2 W4 := Below.then hb3 (by rw [← hW4]; exact below_new _ _)
  have HA9 := Lib.hid (show At6 27 W4 B9 (.slice p1 n0 k1) (.slice p2 n1 k2) (.int .i64 nh) (.int .i64 ng) (.int .i64 nu) (.slice p3 ne k3) by rw [← hW4, ← hB9]; exact At6.new _ _ _ _ _ _ _ _)
  have HL9 := Lib.hid (show LedAt W4 (.agg #[.slice p1 n0 k1, .slice p2 n1 k2, .int .i64 nh, .int .i64 ng, .int .i64 nu, .slice p3 ne k3]) lf by rw [← hW4]; exact hl3.keep (below_new _ _))
  have HA74 := Lib.hid (HA7.out.keep hb4)
  have hrt := row_take (HR2.out.keep hb4) hxn
  have HR4 := Lib.hid (HR2.out.keep hb4)
  have AE4 := Lib.hid (fun w' (hb : Below W4.heap.size W4 w') => AEL.out w' 0 0 (Below.then hb4 hb) (hrt.keep hb))
  have HB4 := Lib.hid (Below.then HB2.out hb4)
  have KW4 := Lib.hid (show ∀ w', Below W4.heap.size W4 w' → Below w.heap.size w w' from fun w' hb => Below.then HB4.out hb)
  have HW4 := Lib.hid hW4
  clear hW4 hb4 hrt hl3 hb3 a0 a1 a2 a3 a4 a5 AD AEL HA7 HL7 HR2 KW
  simp only
  go_upto_region 6 with fail
  rw [HW4.out]
  clear hB9
  obtain ⟨a0, a1, a2, a3, a4, a5⟩ := HA74.out.cells
  go_cut [11, 12] from 45 to 51 (fun xv fv wx => ∃ B, xv = .pointer (some ⟨B, 0, none⟩) ∧ fv = .int .i64 e1 ∧ LedIn wx B l1 ∧ Below W4.heap.size W4 wx ∧ W4.heap.size ≤ B)
  case first =>
    have hbA := Below.refl W4.heap.size W4
    obtain ⟨d0, d1, d2, d3, d4, d5⟩ := (HA74.out.keep (below_new W4 (.cells #[nilV, nilV, zeroV, zeroV, zeroV, nilV] 27))).cells

    go_region_law (first
        | (go_simp; go_at_call 22
           refine (AE4.out _ (by first | exact hbA | exact hbA.drew | exact Below.then hbA (below_new _ _) | exact Below.then hbA.drew (below_new _ _) | exact (Below.then hbA (below_new _ _)).drew)).mono ?_
           rintro e wD ⟨p1, k1, p2, k2, p3, k3, rfl, hlD, hbD⟩
           have hbA : Below W4.heap.size W4 wD := (by first | exact Below.then hbA hbD | exact Below.then hbA.drew hbD | exact Below.then (Below.then hbA (below_new _ _)) hbD | exact Below.then (Below.then hbA.drew (below_new _ _)) hbD | exact Below.then (Below.then hbA (below_new _ _)).drew hbD)
           (try first
             | have hz := hz.keep hbD
             | have hz := (hz.keep (Below.refl _ _).drew).keep hbD
             | have hz : At6 27 wD W4.heap.size nilV nilV zeroV zeroV zeroV nilV := by first | exact (At6.new _ _ nilV nilV zeroV zeroV zeroV nilV).keep hbD | exact ((At6.new _ _ nilV nilV zeroV zeroV zeroV nilV).keep (Below.refl _ _).drew).keep hbD)
           (try obtain ⟨z0, z1, z2, z3, z4, z5⟩ := hz.cells)
           (try obtain ⟨y0, y1, y2, y3, y4, y5⟩ := hz.free)
           skip))
    all_goals
      first
      | (go_wp2_with fail; go_meet; with_reducible exact newI_alloc hlD hbA)
      | (go_wp2_with fail; go_meet; with_reducible exact newI_set hz HD11.out hlD hbA (by first | exact Nat.le_refl _ | exact hle))

  case rest =>
    obtain ⟨B11, rfl, rfl, hI11, hbc, hB11⟩ := hcut
    have HI11 := Lib.hid hI11
    have HBC := Lib.hid hbc
    have ALC := Lib.hid (AL.out wc (KW4.out wc hbc))
    clear hI11 hbc a0 a1 a2 a3 a4 a5 AE4 HA74
    go_wp2_with fail
    refine ALC.out.mono ?_
    rintro e w5 ⟨rfl, hb5⟩
    have HB5 := Lib.hid (Below.then HBC.out hb5)
    have HI5 := Lib.hid (HI11.out.keep hb5)
    clear hb5 ALC HI11 HBC
    rcases HLED.out with (rfl | rfl) | ⟨rfl, rfl, hadd⟩
    · have HBF := Lib.hid (KW4.out w5 HB5.out)
      go_wp2_with fail
      go_ret
      exact ⟨rfl, HBF.out⟩
    · have HBF := Lib.hid (KW4.out w5 HB5.out)
      go_wp2_with fail
      go_ret
      exact ⟨rfl, HBF.out⟩
    obtain ⟨hm0, hm1, hme, hmh, hmg, hmu⟩ := HLM.out
    obtain ⟨hn0, hn1, hne, hnh, hng, hnu⟩ := HLF.out
    obtain ⟨q1, j1, q2, j2, q3, j3, hA5, hL5⟩ := HI5.out.boxed hm0 hm1 hme hmh hmg hmu
    have HA5 := Lib.hid hA5
    have HL5 := Lib.hid hL5
    have HR5 := Lib.hid (HR4.out.keep HB5.out)
    have AG := (show ∀ w' v, Below w5.heap.size w5 w' → StrRow w' v (ft.drop x) → Calls Tryz.prog 22 #[.agg #[.slice q1 m0 j1, .slice q2 m1 j2, .int .i64 mh, .int .i64 mg, .int .i64 mu, .slice q3 me j3], v] w' (LedOut (addL l1 false (ft.drop x)) w') from fun w' v hb hr => Add_t aD aS aZ _ _ l1 (ft.drop x) w' (HE.out.keep (KW4.out w' (Below.then HB5.out hb))) (HL5.out.keep hb) hr fun s hs => RZ.out s (List.mem_of_mem_drop hs))
    rw [hadd] at AG
    have AG := Lib.hid (fun w' v hb hr => (AG w' v hb hr).mono fun _ _ h => LedOut.letters h hn0 hn1 hne hnh hng hnu)
    clear hA5 hL5 hadd hm0 hm1 hme hmh hmg hmu hn0 hn1 hne hnh hng hnu
    go_upto_region 11 with fail
    obtain ⟨a0, a1, a2, a3, a4, a5⟩ := HA5.out.cells
    go_cut [13, 14] from 71 to 77 (fun xv fv wx => ∃ B, xv = .pointer (some ⟨B, 0, none⟩) ∧ fv = .int .i64 0 ∧ LedIn wx B lf ∧ Below w5.heap.size w5 wx ∧ w5.heap.size ≤ B)
    case first =>
      have hbA := Below.refl w5.heap.size w5
      obtain ⟨d0, d1, d2, d3, d4, d5⟩ := (HA5.out.keep (below_new w5 (.cells #[nilV, nilV, zeroV, zeroV, zeroV, nilV] 27))).cells
      by_cases hce : tc = x
      · have hrt := row_end HR5.out hxn hce
        have hxt : nt = x := by omega
        subst hce
        subst hxt
        have AGE := Lib.hid (fun w' (hb : Below w5.heap.size w5 w') => AG.out w' _ hb (hrt.keep hb))
        clear hrt

        go_region_law (first
            | (go_simp; go_at_call 22
               refine (AGE.out _ (by first | exact hbA | exact hbA.drew | exact Below.then hbA (below_new _ _) | exact Below.then hbA.drew (below_new _ _) | exact (Below.then hbA (below_new _ _)).drew)).mono ?_
               rintro e wD ⟨p1, k1, p2, k2, p3, k3, rfl, hlD, hbD⟩
               have hbA : Below w5.heap.size w5 wD := (by first | exact Below.then hbA hbD | exact Below.then hbA.drew hbD | exact Below.then (Below.then hbA (below_new _ _)) hbD | exact Below.then (Below.then hbA.drew (below_new _ _)) hbD | exact Below.then (Below.then hbA (below_new _ _)).drew hbD)
               (try first
                 | have hz := hz.keep hbD
                 | have hz := (hz.keep (Below.refl _ _).drew).keep hbD
                 | have hz : At6 27 wD w5.heap.size nilV nilV zeroV zeroV zeroV nilV := by first | exact (At6.new _ _ nilV nilV zeroV zeroV zeroV nilV).keep hbD | exact ((At6.new _ _ nilV nilV zeroV zeroV zeroV nilV).keep (Below.refl _ _).drew).keep hbD)
               (try obtain ⟨z0, z1, z2, z3, z4, z5⟩ := hz.cells)
               (try obtain ⟨y0, y1, y2, y3, y4, y5⟩ := hz.free)
               skip))
        all_goals
          first
          | (go_wp2_with fail; go_meet; with_reducible exact newI_alloc hlD hbA)
          | (go_wp2_with fail; go_meet; with_reducible exact newI_set hz HD9.out hlD hbA (by first | exact Nat.le_refl _ | exact hle))

      · have hrt := row_drop HR5.out hxn
        have hce' : ¬ (tc : Int) = (x : Int) := by omega
        have AGE := Lib.hid (fun w' (hb : Below w5.heap.size w5 w') => AG.out w' _ hb (hrt.keep hb))
        clear hrt

        go_region_law (first
            | (go_simp; go_at_call 22
               refine (AGE.out _ (by first | exact hbA | exact hbA.drew | exact Below.then hbA (below_new _ _) | exact Below.then hbA.drew (below_new _ _) | exact (Below.then hbA (below_new _ _)).drew)).mono ?_
               rintro e wD ⟨p1, k1, p2, k2, p3, k3, rfl, hlD, hbD⟩
               have hbA : Below w5.heap.size w5 wD := (by first | exact Below.then hbA hbD | exact Below.then hbA.drew hbD | exact Below.then (Below.then hbA (below_new _ _)) hbD | exact Below.then (Below.then hbA.drew (below_new _ _)) hbD | exact Below.then (Below.then hbA (below_new _ _)).drew hbD)
               (try first
                 | have hz := hz.keep hbD
                 | have hz := (hz.keep (Below.refl _ _).drew).keep hbD
                 | have hz : At6 27 wD w5.heap.size nilV nilV zeroV zeroV zeroV nilV := by first | exact (At6.new _ _ nilV nilV zeroV zeroV zeroV nilV).keep hbD | exact ((At6.new _ _ nilV nilV zeroV zeroV zeroV nilV).keep (Below.refl _ _).drew).keep hbD)
               (try obtain ⟨z0, z1, z2, z3, z4, z5⟩ := hz.cells)
               (try obtain ⟨y0, y1, y2, y3, y4, y5⟩ := hz.free)
               skip))
        all_goals
          first
          | (go_wp2_with fail; go_meet; with_reducible exact newI_alloc hlD hbA)
          | (go_wp2_with fail; go_meet; with_reducible exact newI_set hz HD9.out hlD hbA (by first | exact Nat.le_refl _ | exact hle))

    case rest =>
      obtain ⟨B13, rfl, rfl, hI13, hbc, hB13⟩ := hcut
      obtain ⟨hn0, hn1, hne, hnh, hng, hnu⟩ := HLF.out
      obtain ⟨o1, i1, o2, i2, o3, i3, hA13, hL13⟩ := hI13.boxed hn0 hn1 hne hnh hng hnu
      have HA13 := Lib.hid hA13
      have HL13 := Lib.hid hL13
      have HBC := Lib.hid (Below.then HB5.out hbc)
      have HA9 := Lib.hid (HA9.out.keep HBC.out)
      have HL9 := Lib.hid (HL9.out.keep HBC.out)
      have SA := Lib.hid (same_eq _ _ lf.ents lf.ents wc HL13.out.parts.2.1 HL9.out.parts.2.1 rfl)
      clear hI13 hbc hA13 hL13 a0 a1 a2 a3 a4 a5 AG HA5 HL5 HR5 hn0 hn1 hne hnh hng hnu
      obtain ⟨a0, a1, a2, a3, a4, a5⟩ := HA13.out.cells
      obtain ⟨b0, b1, b2, b3, b4, b5⟩ := HA9.out.cells
      go_wp2_with fail
      refine SA.out.mono ?_
      rintro e y1 ⟨rfl, hy1⟩
      have LK := Lib.hid (refLike_t lf.disk lf.disk _ _ y1 (HL13.out.parts.1.keep hy1) (HL9.out.parts.1.keep hy1))
      have HY1 := Lib.hid (Below.then HBC.out hy1)
      clear a0 a1 a2 a3 a4 a5 b0 b1 b2 b3 b4 b5
      obtain ⟨a0, a1, a2, a3, a4, a5⟩ := (HA13.out.keep hy1).cells
      obtain ⟨b0, b1, b2, b3, b4, b5⟩ := (HA9.out.keep hy1).cells
      clear hy1 SA
      go_wp2_with fail
      refine LK.out.mono ?_
      rintro e y2 ⟨r, rfl, hr, hy2⟩
      obtain rfl : r = true := hr.2 rfl
      have HBF := Lib.hid (KW4.out y2 (Below.then HY1.out hy2))
      clear hy2 hr LK
      go_wp2_with fail
      go_ret
      exact ⟨rfl, HBF.out⟩
end Go.Proofs.YtkplpodljmlanaaGreatDoor
