/-
  LedgerHalves returns true at every input, and changes nothing that was there. Conditions: octet's errors lie where they lie.
-/
import Derived.Test.YtkplpodljmlanaaGreatDoorZLed2
import Derived.BigQuiet
namespace Go.Proofs.YtkplpodljmlanaaGreatDoor
open Go.RowKit Go.WideShapes

set_option maxRecDepth 100000 in
set_option maxHeartbeats 16000000 in
theorem halves_any (aD aS aZ : Addr) (sectors : Int) (vl vm : Value) (sl sm : List ByteArray) (renew : Bool) (w : World) (he : Env w aD aS aZ) (hl : StrsAt w vl sl) (hm : StrsAt w vm sm) (zl : ∀ s ∈ sl, s.size ≤ maxLen) (zm : ∀ s ∈ sm, s.size ≤ maxLen) :
    Calls Tryz.prog 7 #[.int .i64 sectors, vl, vm, .bool renew] w fun e w' => e = .returned (.bool true) ∧ Below w.heap.size w w' := by
  have HE := Lib.hid he
  obtain ⟨mx, n, hmx, hmn, h4, h64⟩ := clamp64 sectors
  obtain ⟨nl, hnl⟩ : ∃ k, (fewB sl).length = k := ⟨_, rfl⟩
  obtain ⟨nm, hnm⟩ : ∃ k, (fewB sm).length = k := ⟨_, rfl⟩
  have TL := Lib.hid (fun w' (hb : Below w.heap.size w w') => texts_at vl sl nl hnl w' (hl.keep hb) zl)
  have TM := Lib.hid (fun w' (hb : Below w.heap.size w w') => texts_at vm sm nm hnm w' (hm.keep hb) zm)
  have AL := Lib.hid (fun w' (hb : Below w.heap.size w w') => alive_t aD aS aZ w' (he.keep hb))
  have FZ := Lib.hid (fewB_max sl)
  have MZ := Lib.hid (fewB_max sm)
  obtain ⟨fl, hfl⟩ : ∃ k, fewB sl = k := ⟨_, rfl⟩
  obtain ⟨fm, hfm⟩ : ∃ k, fewB sm = k := ⟨_, rfl⟩
  rw [hfl] at TL FZ
  rw [hfm] at TM MZ
  have HOP0 := Lib.hid (fmt_opens n h4 h64)
  have HLEN := Lib.hid (fmtD_len n)
  have FM := Format_t aD aS aZ n w he
  rw [formatL_ok n h4 h64] at FM
  have FM := Lib.hid FM
  obtain ⟨la, lca, rfl, -, -⟩ := hl.shape
  obtain ⟨ma, mca, rfl, -, -⟩ := hm.shape
  obtain ⟨kl, hkl⟩ : ∃ k, sl.length = k := ⟨_, rfl⟩
  obtain ⟨km, hkm⟩ : ∃ k, sm.length = k := ⟨_, rfl⟩
  rw [hkl] at TL ⊢
  rw [hkm] at TM ⊢
  clear he hl hm zl zm hnl hnm hfl hfm hkl hkm
  go_enter Tryz.func7, Tryz.ntmps7
  go_wp2_with fail
  refine FM.out.mono ?_
  rintro e w1 ⟨v, rfl, hl1, hb1⟩
  obtain ⟨a, c, a', c', b, k, rfl⟩ := hl1.boxed (n0 := n) (n1 := 0) (ne := 0) (lh := 0) (lg := 1) (lu := 0) HLEN.out rfl rfl rfl rfl rfl
  simp only at hl1
  obtain ⟨B9, hB9⟩ : ∃ B, w1.heap.size = B := ⟨_, rfl⟩
  obtain ⟨W2, hW2⟩ : ∃ W, w1.alloc (.cells #[.slice a n c, .slice a' 0 c', .int .i64 0, .int .i64 1, .int .i64 0, .slice b 0 k] 27) = W := ⟨_, rfl⟩
  have HB2 := Lib.hid (show Below w.heap.size w W2 by rw [← hW2]; exact Below.then hb1 (below_new _ _))
  have HLA := Lib.hid (show LedAt W2 (.agg #[.slice a n c, .slice a' 0 c', .int .i64 0, .int .i64 1, .int .i64 0, .slice b 0 k]) ⟨fmtD n, 0, 1, 0, []⟩ by rw [← hW2]; exact hl1.keep (below_new _ _))
  have HA9 := Lib.hid (show At6 27 W2 B9 (.slice a n c) (.slice a' 0 c') (.int .i64 0) (.int .i64 1) (.int .i64 0) (.slice b 0 k) by rw [← hW2, ← hB9]; exact At6.new _ _ _ _ _ _ _ _)
  have HB9 := Lib.hid hB9
  have HW2 := Lib.hid hW2
  have KW := Lib.hid (show ∀ w', Below W2.heap.size W2 w' → Below w.heap.size w w' from fun w' hb => Below.then HB2.out hb)
  have AD := Lib.hid (show ∀ w' tg tc, Below W2.heap.size W2 w' → StrRow w' (.slice (some ⟨tg, 0, none⟩) nl tc) fl → Calls Tryz.prog 22 #[.agg #[.slice a n c, .slice a' 0 c', .int .i64 0, .int .i64 1, .int .i64 0, .slice b 0 k], .slice (some ⟨tg, 0, none⟩) nl tc] w' (LedOut (addL ⟨fmtD n, 0, 1, 0, []⟩ false fl) w') from fun w' tg tc hb hr => Add_t aD aS aZ _ _ ⟨fmtD n, 0, 1, 0, []⟩ fl w' (HE.out.keep (KW.out w' hb)) (HLA.out.keep hb) hr FZ.out)
  clear hW2 hl1 hb1 FM
  go_upto_region 3 with fail
  rw [HW2.out]

  clear hB9
  obtain ⟨⟨l1, e1⟩, hadd⟩ : ∃ x, addL ⟨fmtD n, 0, 1, 0, []⟩ false fl = x := ⟨_, rfl⟩
  have HD1 := addL_dirty ⟨fmtD n, 0, 1, 0, []⟩ false fl
  rw [hadd] at AD HD1
  have HD1 := Lib.hid HD1
  have HST1 := Lib.hid (addL_st HOP0.out hadd)
  clear hadd
  obtain ⟨n0, hn0⟩ : ∃ k, l1.disk.secs.length = k := ⟨_, rfl⟩
  obtain ⟨n1, hn1⟩ : ∃ k, l1.disk.dirty.length = k := ⟨_, rfl⟩
  obtain ⟨ne, hne⟩ : ∃ k, l1.ents.length = k := ⟨_, rfl⟩
  obtain ⟨lh, hlh⟩ : ∃ k, l1.half = k := ⟨_, rfl⟩
  obtain ⟨lg, hlg⟩ : ∃ k, l1.gen = k := ⟨_, rfl⟩
  obtain ⟨lu, hlu⟩ : ∃ k, l1.used = k := ⟨_, rfl⟩
  have ADL := Lib.hid (fun w' tg tc hb hr => (AD.out w' tg tc hb hr).mono fun _ _ h => LedOut.letters h hn0 hn1 hne hlh hlg hlu)
  have HLN := Lib.hid (And.intro hn0 (And.intro hn1 (And.intro hne (And.intro hlh (And.intro hlg hlu)))))
  have TLW := Lib.hid (fun w' (hb : Below W2.heap.size W2 w') => TL.out w' (KW.out w' hb))
  clear AD hn0 hn1 hne hlh hlg hlu
  obtain ⟨a0, a1, a2, a3, a4, a5⟩ := HA9.out.cells
  go_cut [11, 12] from 28 to 34 (fun bv ev wx => ∃ B p1 k1 p2 k2 p3 k3, bv = .pointer (some ⟨B, 0, none⟩) ∧ ev = .int .i64 e1 ∧ At6 27 wx B (.slice p1 n0 k1) (.slice p2 n1 k2) (.int .i64 lh) (.int .i64 lg) (.int .i64 lu) (.slice p3 ne k3) ∧ LedAt wx (.agg #[.slice p1 n0 k1, .slice p2 n1 k2, .int .i64 lh, .int .i64 lg, .int .i64 lu, .slice p3 ne k3]) l1 ∧ Below W2.heap.size W2 wx ∧ W2.heap.size ≤ B)
  case first =>
    have hbA := Below.refl W2.heap.size W2
    obtain ⟨d0, d1, d2, d3, d4, d5⟩ := (HA9.out.keep (below_new W2 (.cells #[nilV, nilV, zeroV, zeroV, zeroV, nilV] 27))).cells

    go_region_law (first
        | (go_simp; go_at_call 19
           refine (TLW.out _ (by first | exact hbA | exact hbA.drew | exact Below.then hbA (below_new _ _) | exact Below.then hbA.drew (below_new _ _) | exact (Below.then hbA (below_new _ _)).drew)).mono ?_
           rintro e wT ⟨tg, tc, rfl, hrow, hbT⟩
           have hbA : Below W2.heap.size W2 wT := (by first | exact Below.then hbA hbT | exact Below.then hbA.drew hbT | exact Below.then (Below.then hbA (below_new _ _)) hbT | exact Below.then (Below.then hbA.drew (below_new _ _)) hbT | exact Below.then (Below.then hbA (below_new _ _)).drew hbT)
           have hle : W2.heap.size ≤ wT.heap.size := hbA.size
           obtain ⟨a0, a1, a2, a3, a4, a5⟩ := (HA9.out.keep hbA).cells
           obtain ⟨d0, d1, d2, d3, d4, d5⟩ := (HA9.out.keep (Below.then hbA (below_new wT (.cells #[nilV, nilV, zeroV, zeroV, zeroV, nilV] 27)))).cells
           (try have hz : At6 27 wT W2.heap.size nilV nilV zeroV zeroV zeroV nilV := by first | exact (At6.new _ _ nilV nilV zeroV zeroV zeroV nilV).keep hbT | exact ((At6.new _ _ nilV nilV zeroV zeroV zeroV nilV).keep (Below.refl _ _).drew).keep hbT)
           skip)
        | (go_simp; go_at_call 22
           refine (ADL.out _ _ _ (by first | exact hbA | exact hbA.drew | exact Below.then hbA (below_new _ _) | exact Below.then hbA.drew (below_new _ _) | exact (Below.then hbA (below_new _ _)).drew) (by first | exact hrow | exact hrow.keep (below_new _ _))).mono ?_
           rintro e wD ⟨p1, k1, p2, k2, p3, k3, rfl, hlD, hbD⟩
           have hbA : Below W2.heap.size W2 wD := (by first | exact Below.then hbA hbD | exact Below.then hbA.drew hbD | exact Below.then (Below.then hbA (below_new _ _)) hbD | exact Below.then (Below.then hbA.drew (below_new _ _)) hbD | exact Below.then (Below.then hbA (below_new _ _)).drew hbD)
           (try first
             | have hz := hz.keep hbD
             | have hz := (hz.keep (Below.refl _ _).drew).keep hbD
             | have hz : At6 27 wD wT.heap.size nilV nilV zeroV zeroV zeroV nilV := by first | exact (At6.new _ _ nilV nilV zeroV zeroV zeroV nilV).keep hbD | exact ((At6.new _ _ nilV nilV zeroV zeroV zeroV nilV).keep (Below.refl _ _).drew).keep hbD)
           (try obtain ⟨z0, z1, z2, z3, z4, z5⟩ := hz.cells)
           (try obtain ⟨y0, y1, y2, y3, y4, y5⟩ := hz.free)
           skip))


    all_goals
      first
      | (go_wp2_with fail; go_meet; with_reducible exact newLed_alloc hlD hbA)
      | (go_wp2_with fail; go_meet; with_reducible exact newLed_set hz HD1.out hlD hbA (by first | exact Nat.le_refl _ | exact hle))

  case rest =>
    obtain ⟨B11, p1, k1, p2, k2, p3, k3, rfl, rfl, hA11, hL11, hbc, hB11⟩ := hcut
    have HA11 := Lib.hid hA11
    have HL11 := Lib.hid hL11
    have HBC := Lib.hid hbc
    have ALC := Lib.hid (AL.out wc (KW.out wc hbc))
    clear hA11 hL11 hbc a0 a1 a2 a3 a4 a5 ADL TL TLW
    go_wp2_with fail
    refine ALC.out.mono ?_
    rintro e w5 ⟨rfl, hb5⟩
    have HB5 := Lib.hid (Below.then HBC.out hb5)
    have HA5 := Lib.hid (HA11.out.keep hb5)
    have HL5 := Lib.hid (HL11.out.keep hb5)
    clear hb5 ALC HBC HA11 HL11
    rcases HST1.out with ⟨-, he⟩ | ⟨rfl, hgo, hl1⟩
    · have HBF := Lib.hid (KW.out w5 HB5.out)
      rcases he with rfl | rfl
      · go_wp2_with fail
        go_ret
        exact ⟨rfl, HBF.out⟩
      · go_wp2_with fail
        go_ret
        exact ⟨rfl, HBF.out⟩
    have hnx := hgo.next
    obtain ⟨d1, hd1⟩ : ∃ d, nextD (fmtD n) 0 1 0 false fl = d := ⟨_, rfl⟩
    obtain ⟨u1, hu1⟩ : ∃ d, usedOf (fmtD n) 0 0 false fl = d := ⟨_, rfl⟩
    rw [hd1, hu1] at hnx hl1
    have hop1 : Opens d1 0 1 u1 fl := hnx
    have hl1' : l1 = ⟨d1, 0, 1, u1, fl⟩ := hl1
    have hd1n : d1.secs.length = n := by rw [← hd1, nextD_len, fmtD_len]
    subst hl1'
    obtain ⟨e0, e1, -, e3, e4, e5⟩ := HLN.out
    have e0 : d1.secs.length = n0 := e0
    have e3 : (0 : Int) = lh := e3
    have e4 : (1 : Int) = lg := e4
    have e5 : (u1 : Int) = lu := e5
    obtain rfl : n = n0 := by rw [← hd1n, e0]
    subst e3
    subst e4
    subst e5
    have HOP1 := Lib.hid hop1
    have HD1N := Lib.hid hd1n
    clear hgo hnx hd1 hu1 hop1 hl1 hd1n e0 e1 HST1 HLN
    obtain ⟨W6, hW6⟩ : ∃ W, w5.alloc (.cells #[nilV, nilV, zeroV, zeroV, zeroV, nilV] 27) = W := ⟨_, rfl⟩
    have hb6 : Below w5.heap.size w5 W6 := by rw [← hW6]; exact below_new _ _
    obtain ⟨B13, hB13⟩ : ∃ B, w5.heap.size = B := ⟨_, rfl⟩
    have HA13 := Lib.hid (show At6 27 W6 B13 nilV nilV zeroV zeroV zeroV nilV by rw [← hW6, ← hB13]; exact At6.new _ _ _ _ _ _ _ _)
    have HA6 := Lib.hid (HA5.out.keep hb6)
    have HL6 := Lib.hid (HL5.out.keep hb6)
    have HB6 := Lib.hid (Below.then HB5.out hb6)
    have hne : B11 ≠ B13 := by have := HA5.out.lt; omega
    have hB13w : W2.heap.size ≤ B13 := by have := HB5.out.size; omega
    have HNE := Lib.hid hne
    have HW6 := Lib.hid hW6
    clear hW6 hb6 HA5 HL5 HB5
    go_upto_region 10 with fail
    rw [HW6.out]
    clear hB13
    obtain ⟨a0, a1, a2, a3, a4, a5⟩ := HA6.out.cells
    go_quiet (fail)
    generalize nq = nq0
    obtain ⟨W7, hW7⟩ : ∃ W, W6.drewN nq0 = W := ⟨_, rfl⟩
    have hb7 : Below W6.heap.size W6 W7 := by rw [← hW7]; exact below_drewN (Below.refl _ _) _
    have HA13 := Lib.hid (HA13.out.keep hb7)
    have HA7 := Lib.hid (HA6.out.keep hb7)
    have HL7 := Lib.hid (HL6.out.keep hb7)
    have HB7 := Lib.hid (Below.then HB6.out hb7)
    rw [hW7]
    clear hW7 hb7 a0 a1 a2 a3 a4 a5 HA6 HL6 HB6 HW6
    have TMW := Lib.hid (fun w' (hb : Below W7.heap.size W7 w') => TM.out w' (KW.out w' (Below.then HB7.out hb)))
    cases renew with

    | false =>
      have AD2 := Lib.hid (show ∀ w' tg tc, Below W7.heap.size W7 w' → StrRow w' (.slice (some ⟨tg, 0, none⟩) nm tc) fm → Calls Tryz.prog 22 #[.agg #[.slice p1 n k1, .slice p2 n1 k2, .int .i64 0, .int .i64 1, .int .i64 (u1 : Int), .slice p3 ne k3], .slice (some ⟨tg, 0, none⟩) nm tc] w' (LedOut (addL ⟨d1, 0, 1, u1, fl⟩ false fm) w') from fun w' tg tc hb hr => Add_t aD aS aZ _ _ ⟨d1, 0, 1, u1, fl⟩ fm w' (HE.out.keep (KW.out w' (Below.then HB7.out hb))) (HL7.out.keep hb) hr MZ.out)
      obtain ⟨⟨l2, e2⟩, hadd⟩ : ∃ x, addL ⟨d1, 0, 1, u1, fl⟩ false fm = x := ⟨_, rfl⟩
      have HD2 := addL_dirty ⟨d1, 0, 1, u1, fl⟩ false fm
      rw [hadd] at AD2 HD2
      have HD2 := Lib.hid HD2
      have HST2 := Lib.hid (addL_st HOP1.out hadd)
      clear hadd
      obtain ⟨m0, hm0⟩ : ∃ k, l2.disk.secs.length = k := ⟨_, rfl⟩
      obtain ⟨m1, hm1⟩ : ∃ k, l2.disk.dirty.length = k := ⟨_, rfl⟩
      obtain ⟨me, hme⟩ : ∃ k, l2.ents.length = k := ⟨_, rfl⟩
      obtain ⟨mh, hmh⟩ : ∃ k, l2.half = k := ⟨_, rfl⟩
      obtain ⟨mg, hmg⟩ : ∃ k, l2.gen = k := ⟨_, rfl⟩
      obtain ⟨mu, hmu⟩ : ∃ k, l2.used = k := ⟨_, rfl⟩
      have ADL2 := Lib.hid (fun w' tg tc hb hr => (AD2.out w' tg tc hb hr).mono fun _ _ h => LedOut.letters h hm0 hm1 hme hmh hmg hmu)
      have HLN2 := Lib.hid (And.intro hm0 (And.intro hm1 (And.intro hme (And.intro hmh (And.intro hmg hmu)))))
      clear AD2 hm0 hm1 hme hmh hmg hmu
      have hw1 : IntKind.i64.wrap 1 = 1 := by decide
      have hw2 : IntKind.i64.wrap 2 = 2 := by decide
      obtain ⟨a0, a1, a2, a3, a4, a5⟩ := HA7.out.cells
      go_upto_region 14 with fail
      go_cut [14] from 67 to 73 (fun ev wx => ∃ q1 j1 q2 j2 q3 j3, ev = .int .i64 e2 ∧ At6 27 wx B13 (.slice q1 m0 j1) (.slice q2 m1 j2) (.int .i64 mh) (.int .i64 mg) (.int .i64 mu) (.slice q3 me j3) ∧ LedAt wx (.agg #[.slice q1 m0 j1, .slice q2 m1 j2, .int .i64 mh, .int .i64 mg, .int .i64 mu, .slice q3 me j3]) l2 ∧ At6 27 wx B11 (.slice p1 n k1) (.slice p2 n1 k2) (.int .i64 0) (.int .i64 1) (.int .i64 (u1 : Int)) (.slice p3 ne k3) ∧ LedAt wx (.agg #[.slice p1 n k1, .slice p2 n1 k2, .int .i64 0, .int .i64 1, .int .i64 (u1 : Int), .slice p3 ne k3]) ⟨d1, 0, 1, u1, fl⟩ ∧ Below W2.heap.size W2 wx)
      case first =>
        have hbA := Below.refl W7.heap.size W7

        obtain ⟨y0, y1, y2, y3, y4, y5⟩ := HA13.out.free
        obtain ⟨z0, z1, z2, z3, z4, z5⟩ := HA13.out.cells
        go_region_law (first
            | (go_simp; go_at_call 19
               refine (TMW.out _ (by first | exact hbA | exact hbA.drew | exact Below.then hbA (below_new _ _) | exact Below.then hbA.drew (below_new _ _) | exact (Below.then hbA (below_new _ _)).drew)).mono ?_
               rintro e wT ⟨tg, tc, rfl, hrow, hbT⟩
               have hbA : Below W7.heap.size W7 wT := (by first | exact Below.then hbA hbT | exact Below.then hbA.drew hbT | exact Below.then (Below.then hbA (below_new _ _)) hbT | exact Below.then (Below.then hbA.drew (below_new _ _)) hbT | exact Below.then (Below.then hbA (below_new _ _)).drew hbT)
               obtain ⟨a0, a1, a2, a3, a4, a5⟩ := (HA7.out.keep hbA).cells)
            | (go_simp; go_at_call 22
               refine (ADL2.out _ _ _ (by first | exact hbA | exact hbA.drew | exact Below.then hbA (below_new _ _) | exact Below.then hbA.drew (below_new _ _) | exact (Below.then hbA (below_new _ _)).drew) hrow).mono ?_
               rintro e wD ⟨q1, j1, q2, j2, q3, j3, rfl, hlD, hbD⟩
               have hbA : Below W7.heap.size W7 wD := (by first | exact Below.then hbA hbD | exact Below.then hbA.drew hbD | exact Below.then (Below.then hbA (below_new _ _)) hbD | exact Below.then (Below.then hbA.drew (below_new _ _)) hbD | exact Below.then (Below.then hbA (below_new _ _)).drew hbD)
               obtain ⟨y0, y1, y2, y3, y4, y5⟩ := (HA13.out.keep hbA).free
               obtain ⟨z0, z1, z2, z3, z4, z5⟩ := (HA13.out.keep hbA).cells))

        all_goals
          go_wp2_with fail
          go_meet
          have hzz := HA13.out.keep hbA
          have hns := set6_nst hzz (noStr_slice _ _ _) (noStr_slice _ _ _) (noStr_int _ _) (noStr_int _ _) (noStr_int _ _) (noStr_slice _ _ _) (.slice q1 m0 j1) (.slice q2 m1 j2) (.int .i64 mh) (.int .i64 mg) (.int .i64 mu) (.slice q3 me j3)
          exact ⟨q1, j1, q2, j2, q3, j3, rfl, hzz.set _ _ _ _ _ _, hlD.nst HD2.out hns, (HA7.out.keep hbA).other (set6_block wD B13 B11 _ _ _ _ _ _ HNE.out), (HL7.out.keep hbA).nst HOP1.out.clean hns, set6_below (Below.then HB7.out hbA) hB13w _ _ _ _ _ _⟩
      case rest =>
        obtain ⟨q1, j1, q2, j2, q3, j3, rfl, hA13, hL2, hA11, hL1, hbc2⟩ := hcut
        have HA13 := Lib.hid hA13
        have HL2 := Lib.hid hL2
        have HA11 := Lib.hid hA11
        have HL1 := Lib.hid hL1
        have HBD := Lib.hid hbc2
        clear hA13 hL2 hA11 hL1 hbc2 a0 a1 a2 a3 a4 a5 ADL2 TMW HA7 HL7 HB7

        obtain ⟨W9, hW9⟩ : ∃ W, wc = W := ⟨_, rfl⟩
        have hb9 : Below wc.heap.size wc W9 := by rw [← hW9]; exact Below.refl _ _
        rw [hW9]
        clear hW9

        have HA13 := Lib.hid (HA13.out.keep hb9)
        have HL2 := Lib.hid (HL2.out.keep hb9)
        have HA11 := Lib.hid (HA11.out.keep hb9)
        have HL1 := Lib.hid (HL1.out.keep hb9)
        have HBD := Lib.hid (Below.then HBD.out hb9)
        clear hb9
        rcases HST2.out with ⟨-, he⟩ | ⟨rfl, hgo, hl2⟩
        · have HBF := Lib.hid (KW.out W9 HBD.out)
          rcases he with rfl | rfl
          · go_wp2_with fail
            go_ret
            exact ⟨rfl, HBF.out⟩
          · go_wp2_with fail
            go_ret
            exact ⟨rfl, HBF.out⟩
        subst hl2
        obtain ⟨f0, f1, -, f3, f4, -⟩ := HLN2.out
        have f0 : (nextD d1 0 1 u1 false fm).secs.length = m0 := f0
        have f3 : (0 : Int) = mh := f3
        have f4 : (1 : Int) = mg := f4
        obtain rfl : n = m0 := by rw [← f0, nextD_len, HD1N.out]
        subst f3
        subst f4
        obtain ⟨hh, hhe⟩ : ∃ x, n / 2 = x := ⟨_, rfl⟩
        have hhi : (n : Int) / 2 = (hh : Int) := by omega
        have hht : (n : Int).tdiv 2 = (hh : Int) := by rw [Int.tdiv_eq_ediv_of_nonneg (by omega)]; exact hhi
        have hh32 : hh ≤ 32 := by omega
        have hhn : 2 * hh ≤ n := by omega
        have HOT := Lib.hid (show ∀ k (h1 : k < d1.secs.length) (h2 : k < (nextD d1 0 1 u1 false fm).secs.length), ¬ (0 * hh ≤ k ∧ k < 0 * hh + hh) → (nextD d1 0 1 u1 false fm).secs[k] = d1.secs[k] from fun k h1 h2 ho => sec_bytes h1 h2 (hgo.others k h1 (by
          have e : hOf d1 = hh := by unfold hOf; rw [HD1N.out]; exact hhe
          rw [e]
          exact ho)))
        have HNL := Lib.hid f0
        have hs2 := HL2.out.parts.1
        have hs1 := HL1.out.parts.1
        obtain ⟨⟨_, _, ee2, hs2, -⟩, -, -⟩ := hs2
        obtain ⟨⟨_, _, ee1, hs1, -⟩, -, -⟩ := hs1
        simp only [Value.agg.injEq, Array.mk.injEq, List.cons.injEq, and_true] at ee1 ee2
        obtain ⟨rfl, rfl⟩ := ee1
        obtain ⟨rfl, rfl⟩ := ee2
        have hs1 : StrsAt W9 (.slice p1 n k1) d1.secs := hs1
        have hs2 : StrsAt W9 (.slice q1 n j1) (nextD d1 0 1 u1 false fm).secs := hs2
        obtain ⟨o1, o2, rfl, -⟩ := hs1.at 0 (by rw [HD1N.out]; omega)
        obtain ⟨t1, t2, rfl, -⟩ := hs2.at 0 (by rw [HNL.out]; omega)
        have HS1 := Lib.hid hs1
        have HS2 := Lib.hid hs2
        clear hs1 hs2 f0 f1 hgo hhe HST2 HLN2
        go_wp2_with fail
        go_loopw [85] (fun iv wr => ∃ i : Nat, i ≤ hh ∧ iv = .int .i64 i ∧ Below W9.heap.size W9 wr) (fun iv _ => hh - (intOf iv).toNat)
        case atStart => exact ⟨0, Nat.zero_le _, rfl, Below.refl _ _⟩
        case round =>
          obtain ⟨i, hi, rfl, hb⟩ := hrel
          have HBI := Lib.hid hb
          clear hb
          by_cases hlt : i < hh
          · have hlt' : (i : Int) < (hh : Int) := by omega
            obtain ⟨kk, hkk⟩ : ∃ x, hh + i = x := ⟨_, rfl⟩
            have hki : (hh : Int) + (i : Int) = (kk : Int) := by omega
            have hkn : kk < n := by omega
            have hk1 : kk < d1.secs.length := by rw [HD1N.out]; exact hkn
            have hk2 : kk < (nextD d1 0 1 u1 false fm).secs.length := by rw [HNL.out]; exact hkn
            obtain ⟨_, _, ea, c1⟩ := HS1.out.at kk hk1
            simp only [Option.some.injEq, Addr.mk.injEq, and_true] at ea
            obtain ⟨rfl, rfl⟩ := ea
            obtain ⟨_, _, ea, c2⟩ := HS2.out.at kk hk2
            simp only [Option.some.injEq, Addr.mk.injEq, and_true] at ea
            obtain ⟨rfl, rfl⟩ := ea
            rw [HOT.out kk hk1 hk2 (by omega)] at c2
            obtain ⟨x, hx⟩ : ∃ x, d1.secs[kk] = x := ⟨_, rfl⟩
            rw [hx] at c1 c2
            have v1 := Below.keepc HBI.out c1
            have v2 := Below.keepc HBI.out c2
            have qx : (x.toList != x.toList) = false := by rw [bne_self_eq_false]
            obtain ⟨a0, a1, a2, a3, a4, a5⟩ := (HA13.out.keep HBI.out).cells
            obtain ⟨b0, b1, b2, b3, b4, b5⟩ := (HA11.out.keep HBI.out).cells
            clear hkk
            clear c1 c2 hx hk1 hk2
            go_upto_region 22 with fail
            go_quiet (fail)
            generalize nq = nq2
            have HBN := Lib.hid (show Below W9.heap.size W9 (wr.drewN nq2) from below_drewN HBI.out _)
            go_wp2_with fail
            go_roundw
            case rel => exact ⟨i + 1, by omega, by go_num, HBN.out⟩
            case measure => simp [intOf]; omega
          · have hlt' : ¬ ((i : Int) < (hh : Int)) := by omega
            obtain ⟨a0, a1, a2, a3, a4, a5⟩ := (HA13.out.keep HBI.out).cells
            obtain ⟨b0, b1, b2, b3, b4, b5⟩ := (HA11.out.keep HBI.out).cells
            have HBF := Lib.hid (KW.out wr (Below.then HBD.out HBI.out))
            go_wp2_with fail
            go_ret
            exact ⟨rfl, HBF.out⟩

    | true =>
      have AD2 := Lib.hid (show ∀ w' tg tc, Below W7.heap.size W7 w' → StrRow w' (.slice (some ⟨tg, 0, none⟩) nm tc) fm → Calls Tryz.prog 21 #[.agg #[.slice p1 n k1, .slice p2 n1 k2, .int .i64 0, .int .i64 1, .int .i64 (u1 : Int), .slice p3 ne k3], .slice (some ⟨tg, 0, none⟩) nm tc] w' (LedOut (addL ⟨d1, 0, 1, u1, fl⟩ true fm) w') from fun w' tg tc hb hr => Renew_t aD aS aZ _ _ ⟨d1, 0, 1, u1, fl⟩ fm w' (HE.out.keep (KW.out w' (Below.then HB7.out hb))) (HL7.out.keep hb) hr MZ.out)
      obtain ⟨⟨l2, e2⟩, hadd⟩ : ∃ x, addL ⟨d1, 0, 1, u1, fl⟩ true fm = x := ⟨_, rfl⟩
      have HD2 := addL_dirty ⟨d1, 0, 1, u1, fl⟩ true fm
      rw [hadd] at AD2 HD2
      have HD2 := Lib.hid HD2
      have HST2 := Lib.hid (addL_st HOP1.out hadd)
      clear hadd
      obtain ⟨m0, hm0⟩ : ∃ k, l2.disk.secs.length = k := ⟨_, rfl⟩
      obtain ⟨m1, hm1⟩ : ∃ k, l2.disk.dirty.length = k := ⟨_, rfl⟩
      obtain ⟨me, hme⟩ : ∃ k, l2.ents.length = k := ⟨_, rfl⟩
      obtain ⟨mh, hmh⟩ : ∃ k, l2.half = k := ⟨_, rfl⟩
      obtain ⟨mg, hmg⟩ : ∃ k, l2.gen = k := ⟨_, rfl⟩
      obtain ⟨mu, hmu⟩ : ∃ k, l2.used = k := ⟨_, rfl⟩
      have ADL2 := Lib.hid (fun w' tg tc hb hr => (AD2.out w' tg tc hb hr).mono fun _ _ h => LedOut.letters h hm0 hm1 hme hmh hmg hmu)
      have HLN2 := Lib.hid (And.intro hm0 (And.intro hm1 (And.intro hme (And.intro hmh (And.intro hmg hmu)))))
      clear AD2 hm0 hm1 hme hmh hmg hmu
      have hw1 : IntKind.i64.wrap 1 = 1 := by decide
      have hw2 : IntKind.i64.wrap 2 = 2 := by decide
      obtain ⟨a0, a1, a2, a3, a4, a5⟩ := HA7.out.cells
      go_upto_region 12 with fail
      go_cut [14] from 54 to 60 (fun ev wx => ∃ q1 j1 q2 j2 q3 j3, ev = .int .i64 e2 ∧ At6 27 wx B13 (.slice q1 m0 j1) (.slice q2 m1 j2) (.int .i64 mh) (.int .i64 mg) (.int .i64 mu) (.slice q3 me j3) ∧ LedAt wx (.agg #[.slice q1 m0 j1, .slice q2 m1 j2, .int .i64 mh, .int .i64 mg, .int .i64 mu, .slice q3 me j3]) l2 ∧ At6 27 wx B11 (.slice p1 n k1) (.slice p2 n1 k2) (.int .i64 0) (.int .i64 1) (.int .i64 (u1 : Int)) (.slice p3 ne k3) ∧ LedAt wx (.agg #[.slice p1 n k1, .slice p2 n1 k2, .int .i64 0, .int .i64 1, .int .i64 (u1 : Int), .slice p3 ne k3]) ⟨d1, 0, 1, u1, fl⟩ ∧ Below W2.heap.size W2 wx)
      case first =>
        have hbA := Below.refl W7.heap.size W7

        obtain ⟨y0, y1, y2, y3, y4, y5⟩ := HA13.out.free
        obtain ⟨z0, z1, z2, z3, z4, z5⟩ := HA13.out.cells
        go_region_law (first
            | (go_simp; go_at_call 19
               refine (TMW.out _ (by first | exact hbA | exact hbA.drew | exact Below.then hbA (below_new _ _) | exact Below.then hbA.drew (below_new _ _) | exact (Below.then hbA (below_new _ _)).drew)).mono ?_
               rintro e wT ⟨tg, tc, rfl, hrow, hbT⟩
               have hbA : Below W7.heap.size W7 wT := (by first | exact Below.then hbA hbT | exact Below.then hbA.drew hbT | exact Below.then (Below.then hbA (below_new _ _)) hbT | exact Below.then (Below.then hbA.drew (below_new _ _)) hbT | exact Below.then (Below.then hbA (below_new _ _)).drew hbT)
               obtain ⟨a0, a1, a2, a3, a4, a5⟩ := (HA7.out.keep hbA).cells)
            | (go_simp; go_at_call 21
               refine (ADL2.out _ _ _ (by first | exact hbA | exact hbA.drew | exact Below.then hbA (below_new _ _) | exact Below.then hbA.drew (below_new _ _) | exact (Below.then hbA (below_new _ _)).drew) hrow).mono ?_
               rintro e wD ⟨q1, j1, q2, j2, q3, j3, rfl, hlD, hbD⟩
               have hbA : Below W7.heap.size W7 wD := (by first | exact Below.then hbA hbD | exact Below.then hbA.drew hbD | exact Below.then (Below.then hbA (below_new _ _)) hbD | exact Below.then (Below.then hbA.drew (below_new _ _)) hbD | exact Below.then (Below.then hbA (below_new _ _)).drew hbD)
               obtain ⟨y0, y1, y2, y3, y4, y5⟩ := (HA13.out.keep hbA).free
               obtain ⟨z0, z1, z2, z3, z4, z5⟩ := (HA13.out.keep hbA).cells))

        all_goals
          go_wp2_with fail
          go_meet
          have hzz := HA13.out.keep hbA
          have hns := set6_nst hzz (noStr_slice _ _ _) (noStr_slice _ _ _) (noStr_int _ _) (noStr_int _ _) (noStr_int _ _) (noStr_slice _ _ _) (.slice q1 m0 j1) (.slice q2 m1 j2) (.int .i64 mh) (.int .i64 mg) (.int .i64 mu) (.slice q3 me j3)
          exact ⟨q1, j1, q2, j2, q3, j3, rfl, hzz.set _ _ _ _ _ _, hlD.nst HD2.out hns, (HA7.out.keep hbA).other (set6_block wD B13 B11 _ _ _ _ _ _ HNE.out), (HL7.out.keep hbA).nst HOP1.out.clean hns, set6_below (Below.then HB7.out hbA) hB13w _ _ _ _ _ _⟩
      case rest =>
        obtain ⟨q1, j1, q2, j2, q3, j3, rfl, hA13, hL2, hA11, hL1, hbc2⟩ := hcut
        have HA13 := Lib.hid hA13
        have HL2 := Lib.hid hL2
        have HA11 := Lib.hid hA11
        have HL1 := Lib.hid hL1
        have HBD := Lib.hid hbc2
        clear hA13 hL2 hA11 hL1 hbc2 a0 a1 a2 a3 a4 a5 ADL2 TMW HA7 HL7 HB7

        obtain ⟨a0, a1, a2, a3, a4, a5⟩ := HA11.out.cells
        go_upto_region 13 with fail
        go_quiet (fail)
        generalize nq = nq1
        obtain ⟨W9, hW9⟩ : ∃ W, wc.drewN nq1 = W := ⟨_, rfl⟩
        have hb9 : Below wc.heap.size wc W9 := by rw [← hW9]; exact below_drewN (Below.refl _ _) _
        rw [hW9]
        clear hW9 a0 a1 a2 a3 a4 a5

        have HA13 := Lib.hid (HA13.out.keep hb9)
        have HL2 := Lib.hid (HL2.out.keep hb9)
        have HA11 := Lib.hid (HA11.out.keep hb9)
        have HL1 := Lib.hid (HL1.out.keep hb9)
        have HBD := Lib.hid (Below.then HBD.out hb9)
        clear hb9
        rcases HST2.out with ⟨-, he⟩ | ⟨rfl, hgo, hl2⟩
        · have HBF := Lib.hid (KW.out W9 HBD.out)
          rcases he with rfl | rfl
          · go_wp2_with fail
            go_ret
            exact ⟨rfl, HBF.out⟩
          · go_wp2_with fail
            go_ret
            exact ⟨rfl, HBF.out⟩
        subst hl2
        obtain ⟨f0, f1, -, f3, f4, -⟩ := HLN2.out
        have f0 : (nextD d1 0 1 u1 true fm).secs.length = m0 := f0
        have f3 : (1 : Int) = mh := f3
        have f4 : (2 : Int) = mg := f4
        obtain rfl : n = m0 := by rw [← f0, nextD_len, HD1N.out]
        subst f3
        subst f4
        obtain ⟨hh, hhe⟩ : ∃ x, n / 2 = x := ⟨_, rfl⟩
        have hhi : (n : Int) / 2 = (hh : Int) := by omega
        have hht : (n : Int).tdiv 2 = (hh : Int) := by rw [Int.tdiv_eq_ediv_of_nonneg (by omega)]; exact hhi
        have hh32 : hh ≤ 32 := by omega
        have hhn : 2 * hh ≤ n := by omega
        have HOT := Lib.hid (show ∀ k (h1 : k < d1.secs.length) (h2 : k < (nextD d1 0 1 u1 true fm).secs.length), ¬ (1 * hh ≤ k ∧ k < 1 * hh + hh) → (nextD d1 0 1 u1 true fm).secs[k] = d1.secs[k] from fun k h1 h2 ho => sec_bytes h1 h2 (hgo.others k h1 (by
          have e : hOf d1 = hh := by unfold hOf; rw [HD1N.out]; exact hhe
          rw [e]
          exact ho)))
        have HNL := Lib.hid f0
        have hs2 := HL2.out.parts.1
        have hs1 := HL1.out.parts.1
        obtain ⟨⟨_, _, ee2, hs2, -⟩, -, -⟩ := hs2
        obtain ⟨⟨_, _, ee1, hs1, -⟩, -, -⟩ := hs1
        simp only [Value.agg.injEq, Array.mk.injEq, List.cons.injEq, and_true] at ee1 ee2
        obtain ⟨rfl, rfl⟩ := ee1
        obtain ⟨rfl, rfl⟩ := ee2
        have hs1 : StrsAt W9 (.slice p1 n k1) d1.secs := hs1
        have hs2 : StrsAt W9 (.slice q1 n j1) (nextD d1 0 1 u1 true fm).secs := hs2
        obtain ⟨o1, o2, rfl, -⟩ := hs1.at 0 (by rw [HD1N.out]; omega)
        obtain ⟨t1, t2, rfl, -⟩ := hs2.at 0 (by rw [HNL.out]; omega)
        have HS1 := Lib.hid hs1
        have HS2 := Lib.hid hs2
        clear hs1 hs2 f0 f1 hgo hhe HST2 HLN2
        go_wp2_with fail
        go_loopw [85] (fun iv wr => ∃ i : Nat, i ≤ hh ∧ iv = .int .i64 i ∧ Below W9.heap.size W9 wr) (fun iv _ => hh - (intOf iv).toNat)
        case atStart => exact ⟨0, Nat.zero_le _, rfl, Below.refl _ _⟩
        case round =>
          obtain ⟨i, hi, rfl, hb⟩ := hrel
          have HBI := Lib.hid hb
          clear hb
          by_cases hlt : i < hh
          · have hlt' : (i : Int) < (hh : Int) := by omega
            obtain ⟨kk, hkk⟩ : ∃ x, i = x := ⟨_, rfl⟩
            
            have hkn : kk < n := by omega
            have hk1 : kk < d1.secs.length := by rw [HD1N.out]; exact hkn
            have hk2 : kk < (nextD d1 0 1 u1 true fm).secs.length := by rw [HNL.out]; exact hkn
            obtain ⟨_, _, ea, c1⟩ := HS1.out.at kk hk1
            simp only [Option.some.injEq, Addr.mk.injEq, and_true] at ea
            obtain ⟨rfl, rfl⟩ := ea
            obtain ⟨_, _, ea, c2⟩ := HS2.out.at kk hk2
            simp only [Option.some.injEq, Addr.mk.injEq, and_true] at ea
            obtain ⟨rfl, rfl⟩ := ea
            rw [HOT.out kk hk1 hk2 (by omega)] at c2
            obtain ⟨x, hx⟩ : ∃ x, d1.secs[kk] = x := ⟨_, rfl⟩
            rw [hx] at c1 c2
            have v1 := Below.keepc HBI.out c1
            have v2 := Below.keepc HBI.out c2
            have qx : (x.toList != x.toList) = false := by rw [bne_self_eq_false]
            obtain ⟨a0, a1, a2, a3, a4, a5⟩ := (HA13.out.keep HBI.out).cells
            obtain ⟨b0, b1, b2, b3, b4, b5⟩ := (HA11.out.keep HBI.out).cells
            subst hkk
            clear c1 c2 hx hk1 hk2
            go_upto_region 22 with fail
            go_quiet (fail)
            generalize nq = nq2
            have HBN := Lib.hid (show Below W9.heap.size W9 (wr.drewN nq2) from below_drewN HBI.out _)
            go_wp2_with fail
            go_roundw
            case rel => exact ⟨i + 1, by omega, by go_num, HBN.out⟩
            case measure => simp [intOf]; omega
          · have hlt' : ¬ ((i : Int) < (hh : Int)) := by omega
            obtain ⟨a0, a1, a2, a3, a4, a5⟩ := (HA13.out.keep HBI.out).cells
            obtain ⟨b0, b1, b2, b3, b4, b5⟩ := (HA11.out.keep HBI.out).cells
            have HBF := Lib.hid (KW.out wr (Below.then HBD.out HBI.out))
            go_wp2_with fail
            go_ret
            exact ⟨rfl, HBF.out⟩

end Go.Proofs.YtkplpodljmlanaaGreatDoor
