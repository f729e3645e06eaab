/-
  LedgerCrashes returns true at every input, and changes nothing that was there. Conditions: octet's errors lie where they lie.
-/
import Derived.Test.YtkplpodljmlanaaGreatDoorZLed3
import Derived.BigQuiet
import Derived.Deep.CutBlock
namespace Go.Proofs.YtkplpodljmlanaaGreatDoor
open Go.RowKit Go.WideShapes

set_option maxRecDepth 100000 in
set_option maxHeartbeats 16000000 in
theorem crashes_any (aD aS aZ : Addr) (sectors step : Int) (vr vm vf : Value) (rs : List (List ByteArray)) (sm : List ByteArray) (fs : List Int) (renew : Bool) (w : World) (he : Env w aD aS aZ) (hr : RowsAt w vr rs) (hm : StrsAt w vm sm) (hf : IntsAt w vf fs) (zr : ∀ r ∈ rs, ∀ s ∈ r, s.size ≤ maxLen) (zm : ∀ s ∈ sm, s.size ≤ maxLen) (hstep : -9223372036854775808 ≤ step ∧ step ≤ 9223372036854775807) :
    Calls Tryz.prog 5 #[.int .i64 sectors, vr, .bool renew, vm, .int .i64 step, vf] w fun e w' => e = .returned (.bool true) ∧ Below w.heap.size w w' := by
  have HE := Lib.hid he
  obtain ⟨mx, n, hmx, hmn, h4, h64⟩ := clamp64 sectors
  obtain ⟨nm, hnm⟩ : ∃ k, (fewB sm).length = k := ⟨_, rfl⟩
  have TM := Lib.hid (fun w' (hb : Below w.heap.size w w') => texts_at vm sm nm hnm w' (hm.keep hb) zm)
  have AL := Lib.hid (fun w' (hb : Below w.heap.size w w') => alive_t aD aS aZ w' (he.keep hb))
  have MZ := Lib.hid (fewB_max sm)
  obtain ⟨fm, hfm⟩ : ∃ k, fewB sm = k := ⟨_, rfl⟩
  rw [hfm] at TM MZ hnm
  have HNM := Lib.hid hnm
  have HOP0 := Lib.hid (fmt_ok n h4 h64)
  have HLEN := Lib.hid (fmtD_len n)
  have FM := Format_t aD aS aZ n w he
  rw [formatL_ok n h4 h64] at FM
  have FM := Lib.hid FM
  obtain ⟨ra, rc, rfl, hrl⟩ := hr.shape
  obtain ⟨ma, mc, rfl, -, -⟩ := hm.shape
  obtain ⟨fa, fc, rfl, -, hfl⟩ := hf.shape
  unfold maxLen at hfl
  obtain ⟨nr, hnr⟩ : ∃ k, rs.length = k := ⟨_, rfl⟩
  obtain ⟨km, hkm⟩ : ∃ k, sm.length = k := ⟨_, rfl⟩
  obtain ⟨nf, hnf⟩ : ∃ k, fs.length = k := ⟨_, rfl⟩
  rw [hnr] at hr hrl ⊢
  rw [hkm] at TM ⊢
  rw [hnf] at hf hfl ⊢
  have HR := Lib.hid hr
  have HF := Lib.hid hf
  have ZR := Lib.hid zr
  have HNR := Lib.hid (And.intro hnr hnf)
  clear he hr hm hf zr zm hfm hkm hnm hnr hnf
  go_enter Tryz.func5, Tryz.ntmps5
  go_wp2_with fail
  refine FM.out.mono ?_
  rintro e w1 ⟨v, rfl, hl1, hb1⟩
  obtain ⟨a, c, a', c', b, k, rfl⟩ := hl1.boxed (n0 := n) (n1 := 0) (ne := 0) (lh := 0) (lg := 1) (lu := 0) HLEN.out rfl rfl rfl rfl rfl
  simp only at hl1
  obtain ⟨W2, hW2⟩ : ∃ W, w1.alloc (.cells #[.slice a n c, .slice a' 0 c', .int .i64 0, .int .i64 1, .int .i64 0, .slice b 0 k] 27) = W := ⟨_, rfl⟩
  have hI2 : LedIn W2 w1.heap.size ⟨fmtD n, 0, 1, 0, []⟩ := by rw [← hW2]; exact LedIn.new hl1
  have hbb2 : Below w1.heap.size w1 W2 := by rw [← hW2]; exact below_new _ _
  have ALW := Lib.hid (AL.out W2 (Below.then hb1 hbb2))
  have KW := Lib.hid (show ∀ w', Below w1.heap.size w1 w' → Below w.heap.size w w' from fun w' hb => Below.then hb1 hb)
  have HI2 := Lib.hid hI2
  have HBB2 := Lib.hid hbb2
  have HW2 := Lib.hid hW2
  clear hW2 hl1 hb1 hI2 hbb2 FM AL
  go_upto_region 3 with fail
  rw [HW2.out]
  go_wp2_with fail
  refine ALW.out.mono ?_
  rintro e w3 ⟨rfl, hb3⟩
  have HI3 := Lib.hid (HI2.out.keep hb3)
  have HB3 := Lib.hid (Below.then HBB2.out hb3)
  obtain ⟨B13, hB13⟩ : ∃ B, w1.heap.size = B := ⟨_, rfl⟩
  rw [hB13] at HI3
  have HBE := Lib.hid hB13
  clear hb3 ALW HI2 HBB2 HW2
  go_upto_block 0 with fail
  go_cut [15, 16, 17, 18] from 48 to 74 (fun _ _ _ _ wx => ∃ l, LedOk l ∧ LedIn wx B13 l ∧ Below w1.heap.size w1 wx)
  case first =>

    go_wp2_with fail
    go_loopw [48] (fun iv wr => ∃ (i : Nat) (l : Led), i ≤ nr ∧ iv = .int .i64 i ∧ LedOk l ∧ LedIn wr B13 l ∧ Below w1.heap.size w1 wr) (fun iv _ => nr - (intOf iv).toNat)
    case atStart => exact ⟨0, _, Nat.zero_le _, rfl, HOP0.out, HI3.out, HB3.out⟩
    case round =>
      obtain ⟨i, l, hi, rfl, hok, hin, hb⟩ := hrel
      have HOK := Lib.hid hok
      have HIN := Lib.hid hin
      have HBR := Lib.hid hb
      clear hok hin hb
      by_cases hlt : i < nr
      rotate_left
      · have hlt' : ¬ (i : Int) < (nr : Int) := by omega
        go_wp2_with fail
        go_meet
        exact ⟨l, HOK.out, HIN.out, HBR.out⟩
      have hlt' : (i : Int) < (nr : Int) := by omega
      have hil : i < rs.length := by rw [HNR.out.1]; exact hlt
      obtain ⟨rb, ro, rfl, ru, hru, hrs⟩ := HR.out.at i hil
      have hru := Below.keepc (KW.out wr HBR.out) hru
      have hrz := ZR.out _ (List.getElem_mem hil)
      obtain ⟨row, hrow⟩ : ∃ r, rs[i] = r := ⟨_, rfl⟩
      rw [hrow] at hrs hrz
      obtain ⟨nt, hnt⟩ : ∃ k, (fewB row).length = k := ⟨_, rfl⟩
      have TX := Lib.hid (fun w' (hb : Below wr.heap.size wr w') => texts_at ru row nt hnt w' (hrs.keep (KW.out w' (Below.trans HBR.out (hb.mono HBR.out.size)))) hrz)
      have RZ := Lib.hid (fewB_max row)
      obtain ⟨ft, hft⟩ : ∃ k, fewB row = k := ⟨_, rfl⟩
      rw [hft] at TX RZ
      obtain ⟨ua, uc, rfl, -, -⟩ := hrs.shape
      obtain ⟨ul, hul⟩ : ∃ k, row.length = k := ⟨_, rfl⟩
      rw [hul] at TX hru
      clear hrs hrz hrow hnt hft hul hil
      by_cases h10 : 10 ≤ i
      · have h10' : (10 : Int) ≤ (i : Int) := by omega
        go_wp2_with fail
        go_meet
        exact ⟨l, HOK.out, HIN.out, HBR.out⟩
      have h10' : ¬ (10 : Int) ≤ (i : Int) := by omega

      obtain ⟨n0, hn0⟩ : ∃ k, l.disk.secs.length = k := ⟨_, rfl⟩
      obtain ⟨n1, hn1⟩ : ∃ k, l.disk.dirty.length = k := ⟨_, rfl⟩
      obtain ⟨ne, hne⟩ : ∃ k, l.ents.length = k := ⟨_, rfl⟩
      obtain ⟨nh, hnh⟩ : ∃ k, l.half = k := ⟨_, rfl⟩
      obtain ⟨ng, hng⟩ : ∃ k, l.gen = k := ⟨_, rfl⟩
      obtain ⟨nu, hnu⟩ : ∃ k, l.used = k := ⟨_, rfl⟩

      obtain ⟨p1, k1, p2, k2, p3, k3, hA6, hLA⟩ := HIN.out.boxed hn0 hn1 hne hnh hng hnu
      have HA6 := Lib.hid hA6
      have HLA := Lib.hid hLA
      clear hn0 hn1 hne hnh hng hnu hLA
      have KE := Lib.hid (show ∀ w', Below wr.heap.size wr w' → Env w' aD aS aZ from fun w' hb => HE.out.keep (KW.out w' (Below.trans HBR.out (hb.mono HBR.out.size))))
      have AD := Lib.hid (show ∀ w' tg tc, Below wr.heap.size wr w' → StrRow w' (.slice (some ⟨tg, 0, none⟩) nt tc) ft → Calls Tryz.prog 22 #[.agg #[.slice p1 n0 k1, .slice p2 n1 k2, .int .i64 nh, .int .i64 ng, .int .i64 nu, .slice p3 ne k3], .slice (some ⟨tg, 0, none⟩) nt tc] w' (LedOut (addL l false ft) w') from fun w' tg tc hb hr => Add_t aD aS aZ _ _ l ft w' (KE.out w' hb) (HLA.out.keep hb) hr RZ.out)
      have RN := Lib.hid (show ∀ w' tg tc, Below wr.heap.size wr w' → StrRow w' (.slice (some ⟨tg, 0, none⟩) nt tc) ft → Calls Tryz.prog 21 #[.agg #[.slice p1 n0 k1, .slice p2 n1 k2, .int .i64 nh, .int .i64 ng, .int .i64 nu, .slice p3 ne k3], .slice (some ⟨tg, 0, none⟩) nt tc] w' (LedOut (addL l true ft) w') from fun w' tg tc hb hr => Renew_t aD aS aZ _ _ l ft w' (KE.out w' hb) (HLA.out.keep hb) hr RZ.out)
      have hany := addL_any HOK.out false ft
      have HD1 := addL_dirty l false ft
      obtain ⟨⟨lx, ex⟩, hadd⟩ : ∃ x, addL l false ft = x := ⟨_, rfl⟩
      rw [hadd] at AD hany HD1
      have HD1 := Lib.hid HD1
      have HANY := Lib.hid (show (ex = 2 ∨ ex = 13) ∨ (ex = 0 ∧ LedOk lx) by
        rcases hany with (e | e) | ⟨l', e, ho, -⟩
        · simp only [Prod.mk.injEq] at e; exact Or.inl (Or.inl e.2)
        · simp only [Prod.mk.injEq] at e; exact Or.inl (Or.inr e.2)
        · simp only [Prod.mk.injEq] at e; rw [e.1]; exact Or.inr ⟨e.2, ho⟩)
      clear hadd hany

      obtain ⟨m0, hm0⟩ : ∃ k, lx.disk.secs.length = k := ⟨_, rfl⟩
      obtain ⟨m1, hm1⟩ : ∃ k, lx.disk.dirty.length = k := ⟨_, rfl⟩
      obtain ⟨me, hme⟩ : ∃ k, lx.ents.length = k := ⟨_, rfl⟩
      obtain ⟨mh, hmh⟩ : ∃ k, lx.half = k := ⟨_, rfl⟩
      obtain ⟨mg, hmg⟩ : ∃ k, lx.gen = k := ⟨_, rfl⟩
      obtain ⟨mu, hmu⟩ : ∃ k, lx.used = k := ⟨_, rfl⟩

      have ADL := Lib.hid (fun w' tg tc hb hr => (AD.out w' tg tc hb hr).mono fun _ _ h => LedOut.letters h hm0 hm1 hme hmh hmg hmu)
      clear hm0 hm1 hme hmh hmg hmu AD
      obtain ⟨a0, a1, a2, a3, a4, a5⟩ := HA6.out.cells
      go_upto_region 9 with fail
      go_cut [17, 18] from 55 to 61 (fun xv fv wx => ∃ B, xv = .pointer (some ⟨B, 0, none⟩) ∧ fv = .int .i64 ex ∧ LedIn wx B lx ∧ Below wr.heap.size wr wx ∧ wr.heap.size ≤ B)
      case first =>
        have hbA := Below.refl wr.heap.size wr
        obtain ⟨d0, d1, d2, d3, d4, d5⟩ := (HA6.out.keep (below_new wr (.cells #[nilV, nilV, zeroV, zeroV, zeroV, nilV] 27))).cells

        go_region_law (first
            | (go_simp; go_at_call 19
               refine (TX.out _ (by first | exact hbA | exact hbA.drew | exact Below.then hbA (below_new _ _) | exact Below.then hbA.drew (below_new _ _) | exact (Below.then hbA (below_new _ _)).drew)).mono ?_
               rintro e wT ⟨tg, tc, rfl, hrow, hbT⟩
               have hbA : Below wr.heap.size wr wT := (by first | exact Below.then hbA hbT | exact Below.then hbA.drew hbT | exact Below.then (Below.then hbA (below_new _ _)) hbT | exact Below.then (Below.then hbA.drew (below_new _ _)) hbT | exact Below.then (Below.then hbA (below_new _ _)).drew hbT)
               have hle : wr.heap.size ≤ wT.heap.size := hbA.size
               obtain ⟨a0, a1, a2, a3, a4, a5⟩ := (HA6.out.keep hbA).cells
               obtain ⟨d0, d1, d2, d3, d4, d5⟩ := (HA6.out.keep (Below.then hbA (below_new wT (.cells #[nilV, nilV, zeroV, zeroV, zeroV, nilV] 27)))).cells
               (try have hz : At6 27 wT wr.heap.size nilV nilV zeroV zeroV zeroV nilV := by first | exact (At6.new _ _ nilV nilV zeroV zeroV zeroV nilV).keep hbT | exact ((At6.new _ _ nilV nilV zeroV zeroV zeroV nilV).keep (Below.refl _ _).drew).keep hbT)
               skip)
            | (go_simp; go_at_call 22
               refine (ADL.out _ _ _ (by first | exact hbA | exact hbA.drew | exact Below.then hbA (below_new _ _) | exact Below.then hbA.drew (below_new _ _) | exact (Below.then hbA (below_new _ _)).drew) (by first | exact hrow | exact hrow.keep (below_new _ _))).mono ?_
               rintro e wD ⟨p1, k1, p2, k2, p3, k3, rfl, hlD, hbD⟩
               have hbA : Below wr.heap.size wr wD := (by first | exact Below.then hbA hbD | exact Below.then hbA.drew hbD | exact Below.then (Below.then hbA (below_new _ _)) hbD | exact Below.then (Below.then hbA.drew (below_new _ _)) hbD | exact Below.then (Below.then hbA (below_new _ _)).drew hbD)
               (try first
                 | have hz := hz.keep hbD
                 | have hz := (hz.keep (Below.refl _ _).drew).keep hbD
                 | have hz : At6 27 wD wT.heap.size nilV nilV zeroV zeroV zeroV nilV := by first | exact (At6.new _ _ nilV nilV zeroV zeroV zeroV nilV).keep hbD | exact ((At6.new _ _ nilV nilV zeroV zeroV zeroV nilV).keep (Below.refl _ _).drew).keep hbD)
               (try obtain ⟨z0, z1, z2, z3, z4, z5⟩ := hz.cells)
               (try obtain ⟨y0, y1, y2, y3, y4, y5⟩ := hz.free)
               skip))
        all_goals
          first
          | (go_wp2_with fail; go_meet; with_reducible exact newI_alloc hlD hbA)
          | (go_wp2_with fail; go_meet; with_reducible exact newI_set hz HD1.out hlD hbA (by first | exact Nat.le_refl _ | exact hle))

      case rest =>
        obtain ⟨B17, rfl, rfl, hI17, hbc, hB17⟩ := hcut
        have HI17 := Lib.hid hI17
        have HBC := Lib.hid hbc
        have HIC := Lib.hid (HIN.out.keep hbc)
        have HBW := Lib.hid (show Below w1.heap.size w1 wc from Below.trans HBR.out (hbc.mono HBR.out.size))
        have HNE := Lib.hid (show B13 ≠ B17 by have := HIN.out.lt; omega)
        have HB17 := Lib.hid (show w1.heap.size ≤ B17 by have := HBR.out.size; omega)
        have HB13 := Lib.hid (show w1.heap.size ≤ B13 from Nat.le_of_eq HBE.out)
        have HDL := Lib.hid HOK.out.dirty
        clear hI17 hbc hA6 a0 a1 a2 a3 a4 a5 ADL
        rcases HANY.out with (rfl | rfl) | ⟨rfl, hokx⟩
        · go_wp2_with fail
          go_roundw
          case rel => exact ⟨i + 1, l, by omega, by go_num, HOK.out, HIC.out, HBW.out⟩
          case measure => simp [intOf]; omega
        · have HBCC := Lib.hid (show Below wr.heap.size wr wc from HBC.out)
          have HA6C := Lib.hid (HA6.out.keep HBCC.out)
          have TXC := Lib.hid (fun w' (hb : Below wc.heap.size wc w') => TX.out w' (Below.then HBCC.out hb))
          have RNC := fun w' tg tc (hb : Below wc.heap.size wc w') hr => RN.out w' tg tc (Below.then HBCC.out hb) hr
          have hany := addL_any HOK.out true ft
          have HD2 := addL_dirty l true ft
          obtain ⟨⟨ly, ey⟩, hadd⟩ : ∃ x, addL l true ft = x := ⟨_, rfl⟩
          rw [hadd] at RNC hany HD2
          have HD2 := Lib.hid HD2
          have HANY2 := Lib.hid (show (ey = 2 ∨ ey = 13) ∨ (ey = 0 ∧ LedOk ly) by
            rcases hany with (e | e) | ⟨l', e, ho, -⟩
            · simp only [Prod.mk.injEq] at e; exact Or.inl (Or.inl e.2)
            · simp only [Prod.mk.injEq] at e; exact Or.inl (Or.inr e.2)
            · simp only [Prod.mk.injEq] at e; rw [e.1]; exact Or.inr ⟨e.2, ho⟩)
          clear hadd hany

          obtain ⟨r0, hr0⟩ : ∃ k, ly.disk.secs.length = k := ⟨_, rfl⟩
          obtain ⟨r1, hr1⟩ : ∃ k, ly.disk.dirty.length = k := ⟨_, rfl⟩
          obtain ⟨re, hre⟩ : ∃ k, ly.ents.length = k := ⟨_, rfl⟩
          obtain ⟨rh, hrh⟩ : ∃ k, ly.half = k := ⟨_, rfl⟩
          obtain ⟨rg, hrg⟩ : ∃ k, ly.gen = k := ⟨_, rfl⟩
          obtain ⟨ru, hru⟩ : ∃ k, ly.used = k := ⟨_, rfl⟩

          have RNL := Lib.hid (fun w' tg tc hb hr => (RNC w' tg tc hb hr).mono fun _ _ h => LedOut.letters h hr0 hr1 hre hrh hrg hru)
          clear hr0 hr1 hre hrh hrg hru RNC
          obtain ⟨a0, a1, a2, a3, a4, a5⟩ := HA6C.out.cells
          go_upto_region 11 with fail
          go_cut [18] from 64 to 70 (fun fv wx => fv = .int .i64 ey ∧ LedIn wx B17 ly ∧ LedIn wx B13 l ∧ Below w1.heap.size w1 wx)
          case first =>
            have hbA := Below.refl wc.heap.size wc

            obtain ⟨_, _, _, _, _, _, hA6d, -⟩ := HI17.out
            obtain ⟨y0, y1, y2, y3, y4, y5⟩ := hA6d.free
            obtain ⟨z0, z1, z2, z3, z4, z5⟩ := hA6d.cells
            have HA6d := Lib.hid hA6d
            clear hA6d
            go_region_law (first
                | (go_simp; go_at_call 19
                   refine (TXC.out _ (by first | exact hbA | exact hbA.drew | exact Below.then hbA (below_new _ _) | exact Below.then hbA.drew (below_new _ _) | exact (Below.then hbA (below_new _ _)).drew)).mono ?_
                   rintro e wT ⟨tg, tc, rfl, hrow, hbT⟩
                   have hbA : Below wc.heap.size wc wT := (by first | exact Below.then hbA hbT | exact Below.then hbA.drew hbT | exact Below.then (Below.then hbA (below_new _ _)) hbT | exact Below.then (Below.then hbA.drew (below_new _ _)) hbT | exact Below.then (Below.then hbA (below_new _ _)).drew hbT)
                   obtain ⟨a0, a1, a2, a3, a4, a5⟩ := (HA6C.out.keep hbA).cells)
                | (go_simp; go_at_call 21
                   refine (RNL.out _ _ _ (by first | exact hbA | exact hbA.drew | exact Below.then hbA (below_new _ _) | exact Below.then hbA.drew (below_new _ _) | exact (Below.then hbA (below_new _ _)).drew) hrow).mono ?_
                   rintro e wD ⟨q1, j1, q2, j2, q3, j3, rfl, hlD, hbD⟩
                   have hbA : Below wc.heap.size wc wD := (by first | exact Below.then hbA hbD | exact Below.then hbA.drew hbD | exact Below.then (Below.then hbA (below_new _ _)) hbD | exact Below.then (Below.then hbA.drew (below_new _ _)) hbD | exact Below.then (Below.then hbA (below_new _ _)).drew hbD)
                   obtain ⟨y0, y1, y2, y3, y4, y5⟩ := (HA6d.out.keep hbA).free
                   obtain ⟨z0, z1, z2, z3, z4, z5⟩ := (HA6d.out.keep hbA).cells))
            all_goals
              go_wp2_with fail
              go_meet
              with_reducible exact oldI_set (HI17.out.keep hbA) (HIC.out.keep hbA) HNE.out HDL.out HD2.out hlD (Below.then HBW.out hbA) HB17.out

          case rest =>
            obtain ⟨rfl, hI17, hI13, hbx⟩ := hcut
            have HI17 := Lib.hid hI17
            have HIC := Lib.hid hI13
            have HBW := Lib.hid hbx
            clear hI17 hI13 hbx a0 a1 a2 a3 a4 a5 RNL TXC
            rcases HANY2.out with (rfl | rfl) | ⟨rfl, hokx⟩
            · go_wp2_with fail
              go_roundw
              case rel => exact ⟨i + 1, l, by omega, by go_num, HOK.out, HIC.out, HBW.out⟩
              case measure => simp [intOf]; omega
            · go_wp2_with fail
              go_roundw
              case rel => exact ⟨i + 1, l, by omega, by go_num, HOK.out, HIC.out, HBW.out⟩
              case measure => simp [intOf]; omega
            · obtain ⟨_, _, _, _, _, _, hx6, hxl⟩ := HI17.out
              obtain ⟨_, _, _, _, _, _, hl6, -⟩ := HIC.out
              have HXL := Lib.hid hxl
              have HOX := Lib.hid hokx
              obtain ⟨x0, x1, x2, x3, x4, x5⟩ := hx6.cells
              obtain ⟨l0, l1, l2, l3, l4, l5⟩ := hl6.cells
              obtain ⟨y0, y1, y2, y3, y4, y5⟩ := hl6.free
              clear hx6 hl6 hxl hokx
              go_wp2_with fail
              go_roundw
              case rel => exact ⟨i + 1, ly, by omega, by go_num, HOX.out, HIC.out.set HXL.out HD2.out, set6_below HBW.out HB13.out _ _ _ _ _ _⟩
              case measure => simp [intOf]; omega
        · obtain ⟨_, _, _, _, _, _, hx6, hxl⟩ := HI17.out
          obtain ⟨_, _, _, _, _, _, hl6, -⟩ := HIC.out
          have HXL := Lib.hid hxl
          have HOX := Lib.hid hokx
          obtain ⟨x0, x1, x2, x3, x4, x5⟩ := hx6.cells
          obtain ⟨l0, l1, l2, l3, l4, l5⟩ := hl6.cells
          obtain ⟨y0, y1, y2, y3, y4, y5⟩ := hl6.free
          clear hx6 hl6 hxl hokx
          go_wp2_with fail
          go_roundw
          case rel => exact ⟨i + 1, lx, by omega, by go_num, HOX.out, HIC.out.set HXL.out HD1.out, set6_below HBW.out HB13.out _ _ _ _ _ _⟩
          case measure => simp [intOf]; omega

  case rest =>
    obtain ⟨l, hok, hin, hbc⟩ := hcut
    obtain ⟨d, lh, lg, lu, es⟩ := l
    obtain ⟨n, g, u, hop, q1, q2, q3⟩ := hok
    simp only at hop q1 q2 q3
    subst q1
    subst q2
    subst q3
    have HOP := Lib.hid hop
    have HIN := Lib.hid hin
    have HBC := Lib.hid hbc
    have TMC := Lib.hid (TM.out wc (KW.out wc hbc))
    clear hop hin hbc HOP0 HI3 HB3 TM ZR HR
    go_wp2_with fail
    refine TMC.out.mono ?_
    rintro e w5 ⟨tg, tc, rfl, hrow, hb5⟩
    have HROW5 := Lib.hid hrow
    have HIN5 := Lib.hid (HIN.out.keep hb5)
    have HB5 := Lib.hid (Below.then HBC.out hb5)
    clear hrow hb5 TMC HIN HBC
    obtain ⟨n0, hn0⟩ : ∃ k, d.secs.length = k := ⟨_, rfl⟩
    obtain ⟨n1, hn1⟩ : ∃ k, d.dirty.length = k := ⟨_, rfl⟩
    obtain ⟨ne, hne⟩ : ∃ k, es.length = k := ⟨_, rfl⟩
    obtain ⟨p1, k1, p2, k2, p3, k3, hA5, hL5⟩ := HIN5.out.boxed hn0 hn1 hne rfl rfl rfl
    have hA5 : At6 27 w5 B13 (.slice p1 n0 k1) (.slice p2 n1 k2) (.int .i64 (n : Int)) (.int .i64 (g : Int)) (.int .i64 (u : Int)) (.slice p3 ne k3) := hA5
    have hL5 : LedAt w5 (.agg #[.slice p1 n0 k1, .slice p2 n1 k2, .int .i64 (n : Int), .int .i64 (g : Int), .int .i64 (u : Int), .slice p3 ne k3]) ⟨d, n, g, u, es⟩ := hL5
    have ST := lSteps_t aD aS aZ _ _ ⟨d, n, g, u, es⟩ renew fm w5 (HE.out.keep (KW.out w5 HB5.out)) hL5 HROW5.out MZ.out
    have hso := stepsL_ok (l := ⟨d, n, g, u, es⟩) (renew := renew) (ss := fm)
    have hgo := fun h0 => goes_of HOP.out (renew := renew) (ss := fm) h0
    have hno := fun h0 => steps_no HOP.out (renew := renew) (ss := fm) h0
    obtain ⟨⟨sts, se⟩, hst⟩ : ∃ x, stepsL ⟨d, n, g, u, es⟩ renew fm = x := ⟨_, rfl⟩
    rw [hst] at ST hso hgo hno
    have HSO := Lib.hid hso
    have HGO := Lib.hid (show (se = 2 ∨ se = 13) ∨ (se = 0 ∧ Goes d n g u es renew fm ∧ sts = [fillW d (mOf renew n) (thereOf renew d n u) (bindL fm), [headW d (mOf renew n) (gOf renew g) (usedOf d n u renew fm)]]) by
      by_cases h0 : se = 0
      · obtain ⟨q1, q2⟩ := hgo h0
        simp only [Prod.mk.injEq] at q2
        exact Or.inr ⟨h0, q1, q2.1⟩
      · rcases hno h0 with ⟨q, -⟩ | ⟨q, -⟩
        · simp only [Prod.mk.injEq] at q; exact Or.inl (Or.inl q.2)
        · simp only [Prod.mk.injEq] at q; exact Or.inl (Or.inr q.2))
    have ST := Lib.hid ST
    have HA5 := Lib.hid hA5
    have HL5 := Lib.hid hL5
    have HLN := Lib.hid (And.intro hn0 (And.intro hn1 hne))
    clear hst hso hgo hno hA5 hL5 hn0 hn1 hne
    obtain ⟨a0, a1, a2, a3, a4, a5⟩ := HA5.out.cells
    go_wp2_with fail
    refine ST.out.mono ?_
    rintro e w6 ⟨sv, rfl, hsa, hb6⟩
    simp only at hsa
    have HB6 := Lib.hid (Below.then HB5.out hb6)
    have HA6 := Lib.hid (HA5.out.keep hb6)
    have HL6 := Lib.hid (HL5.out.keep hb6)
    have HIN6 := Lib.hid (HIN5.out.keep hb6)
    have HROW6 := Lib.hid (HROW5.out.keep hb6)
    have HBF6 := Lib.hid (KW.out w6 HB6.out)
    clear hb6 a0 a1 a2 a3 a4 a5 ST HA5 HL5 HIN5 HROW5 HB5
    rcases HGO.out with (rfl | rfl) | ⟨rfl, hgo, rfl⟩
    · obtain ⟨sa, sc, rfl, -⟩ := hsa.shape
      clear hsa
      simp only
      go_wp2_with fail
      go_ret
      exact ⟨rfl, HBF6.out⟩
    · obtain ⟨sa, sc, rfl, -⟩ := hsa.shape
      clear hsa
      simp only
      go_wp2_with fail
      go_ret
      exact ⟨rfl, HBF6.out⟩
    have HG := Lib.hid hgo
    have HOKS := Lib.hid (HSO.out rfl).1
    obtain ⟨bs, sc, rfl, hsc, hsc63, hs0, hs1⟩ : ∃ bs sc, sv = .slice (some ⟨bs, 0, none⟩) 2 sc ∧ 2 ≤ sc ∧ sc ≤ maxLen ∧ (∃ u0, w6.cell? ⟨bs, 0, none⟩ = some u0 ∧ PairsAt w6 u0 ((fillW d (mOf renew n) (thereOf renew d n u) (bindL fm)).map writeCell)) ∧ (∃ u1, w6.cell? ⟨bs, 1, none⟩ = some u1 ∧ PairsAt w6 u1 ([headW d (mOf renew n) (gOf renew g) (usedOf d n u renew fm)].map writeCell)) := by
      rcases hsa with ⟨h, -⟩ | ⟨b, cap, h1, h2, h3, h4, h5⟩
      · cases h
      · exact ⟨b, cap, h1, h3, h4, h5 0 (by simp), h5 1 (by simp)⟩
    unfold maxLen at hsc63
    obtain ⟨u0, hu0, hp0⟩ := hs0
    obtain ⟨u1, hu1, hp1⟩ := hs1
    obtain ⟨ua, uc, rfl, -, -⟩ := hp0.shape
    obtain ⟨va, vc, rfl, -, -⟩ := hp1.shape
    obtain ⟨ul, hul⟩ : ∃ k, ((fillW d (mOf renew n) (thereOf renew d n u) (bindL fm)).map writeCell).length = k := ⟨_, rfl⟩
    rw [hul] at hu0 hp0
    have hu1 : w6.cell? ⟨bs, 1, none⟩ = some (.slice va 1 vc) := hu1
    have hp1 : PairsAt w6 (.slice va 1 vc) ([headW d (mOf renew n) (gOf renew g) (usedOf d n u renew fm)].map writeCell) := hp1
    have HU0 := Lib.hid hu0
    have HU1 := Lib.hid hu1
    have HP0 := Lib.hid hp0
    have HP1 := Lib.hid hp1
    obtain ⟨r1, st, hr1, hst, hst01, hr1a, hr1b⟩ := step_of step
    clear hgo hsa hu0 hu1 hp0 hp1 hul HSO HGO
    simp only
    go_upto_region 20 with fail
    obtain ⟨a0, a1, a2, a3, a4, a5⟩ := HA6.out.cells
    obtain ⟨W7, hW7⟩ : ∃ W, w6.alloc (.cells #[.slice p1 n0 k1, .slice p2 n1 k2] 25) = W := ⟨_, rfl⟩
    obtain ⟨BD, hBD⟩ : ∃ B, w6.heap.size = B := ⟨_, rfl⟩
    have hdk6 := HL6.out.parts.1
    have hdk6 : DskAt w6 (.agg #[.slice p1 n0 k1, .slice p2 n1 k2]) d := hdk6
    have HDB := Lib.hid (show DskIn W7 BD d by rw [← hW7, ← hBD]; exact DskIn.new hdk6)
    have HB7 := Lib.hid (show Below w6.heap.size w6 W7 by rw [← hW7]; exact below_new _ _)
    have HDX := Lib.hid (show DskAt W7 (.agg #[.slice p1 n0 k1, .slice p2 n1 k2]) d by rw [← hW7]; exact hdk6.keep (below_new _ _))
    have HA2 := Lib.hid (show At2 25 W7 BD (.slice p1 n0 k1) (.slice p2 n1 k2) by rw [← hW7, ← hBD]; exact At2.new _ _ _ _)
    have KD := Lib.hid (show ∀ w', Below w6.heap.size w6 w' → Below w.heap.size w w' ∧ At6 27 w' B13 (.slice p1 n0 k1) (.slice p2 n1 k2) (.int .i64 (n : Int)) (.int .i64 (g : Int)) (.int .i64 (u : Int)) (.slice p3 ne k3) ∧ LedAt w' (.agg #[.slice p1 n0 k1, .slice p2 n1 k2, .int .i64 (n : Int), .int .i64 (g : Int), .int .i64 (u : Int), .slice p3 ne k3]) ⟨d, n, g, u, es⟩ ∧ StrRow w' (.slice (some ⟨tg, 0, none⟩) nm tc) fm ∧ Env w' aD aS aZ from fun w' hb => by
      have h2 := Below.then HB6.out hb
      exact ⟨KW.out w' h2, HA6.out.keep hb, HL6.out.keep hb, HROW6.out.keep hb, HE.out.keep (KW.out w' h2)⟩)
    have KS := Lib.hid (show ∀ w', Below w6.heap.size w6 w' → w'.cell? ⟨bs, 0, none⟩ = some (.slice ua ul uc) ∧ w'.cell? ⟨bs, 1, none⟩ = some (.slice va 1 vc) ∧ PairsAt w' (.slice ua ul uc) ((fillW d (mOf renew n) (thereOf renew d n u) (bindL fm)).map writeCell) ∧ PairsAt w' (.slice va 1 vc) ([headW d (mOf renew n) (gOf renew g) (usedOf d n u renew fm)].map writeCell) ∧ IntsAt w' (.slice fa nf fc) fs from fun w' hb => ⟨Below.keepc hb HU0.out, Below.keepc hb HU1.out, HP0.out.keep hb, HP1.out.keep hb, HF.out.keep (KD.out w' hb).1⟩)
    have HS0 := Lib.hid (HOKS.out _ (List.mem_cons_self ..))
    have HS1 := Lib.hid (HOKS.out _ (List.mem_cons_of_mem _ (List.mem_cons_self ..)))
    have HBDE := Lib.hid hBD
    have HW7 := Lib.hid hW7
    clear hW7 hdk6 HA6 HL6 HIN6 HROW6 HBF6 HP0 HP1 HU0 HU1
    rcases hst01 with rfl | rfl

    · -- step 0
      go_upto_region 21 with fail
      rw [HW7.out]
      clear hBD a0 a1 a2 a3 a4 a5
      have SV := Save_t _ _ d _ W7 HDX.out (KS.out W7 HB7.out).2.2.1 HS0.out.2 HS0.out.1
      rw [HG.out.save0] at SV
      have SV := Lib.hid SV
      obtain ⟨s0, s1, -, -, -⟩ := KS.out W7 HB7.out
      obtain ⟨b0, b1⟩ := HA2.out.cells
      go_wp2_with fail
      refine wp_loop_rounds 2 ?_
      rw [rounds_succ]
      go_wp2_with fail
      refine SV.out.mono ?_
      rintro e x1 ⟨v1, rfl, hx1, hbx1⟩
      simp only at hx1
      obtain ⟨e1, c1, e2, c2, rfl, -, -⟩ := hx1.shape
      obtain ⟨m0, hm0⟩ : ∃ k, (stepD0 d n u renew fm).secs.length = k := ⟨_, rfl⟩
      obtain ⟨m1, hm1⟩ : ∃ k, (stepD0 d n u renew fm).dirty.length = k := ⟨_, rfl⟩
      rw [hm0, hm1] at hx1 ⊢
      obtain ⟨X2, hX2⟩ : ∃ W, x1.alloc (.cells #[.slice e1 m0 c1, .slice e2 m1 c2] 25) = W := ⟨_, rfl⟩
      have hbX2 : Below W7.heap.size W7 X2 := Below.then hbx1 (by rw [← hX2]; exact below_new _ _)
      have HXA := Lib.hid (show At2 25 X2 x1.heap.size (.slice e1 m0 c1) (.slice e2 m1 c2) by rw [← hX2]; exact At2.new _ _ _ _)
      have HXD := Lib.hid (show DskAt X2 (.agg #[.slice e1 m0 c1, .slice e2 m1 c2]) (stepD0 d n u renew fm) by rw [← hX2]; exact hx1.keep (below_new _ _))
      have HDX2 := Lib.hid (HDB.out.keep hbX2)
      have HAX2 := Lib.hid (HA2.out.keep hbX2)
      have HBX2 := Lib.hid (Below.then HB7.out hbX2)
      have HX2 := Lib.hid hX2
      clear hX2 hbX2 hx1 hbx1 hm0 hm1 s0 s1 b0 b1 SV
      simp only
      go_upto_region 25 with fail
      rw [HX2.out]
      obtain ⟨x0, x1⟩ := HXA.out.cells
      obtain ⟨b0, b1⟩ := HAX2.out.cells
      obtain ⟨y0, y1⟩ := HAX2.out.free
      go_upto_region 28 with fail

      obtain ⟨X3, hX3⟩ : ∃ W', (X2.setCell ⟨BD, 0, none⟩ (.slice e1 m0 c1)).setCell ⟨BD, 1, none⟩ (.slice e2 m1 c2) = W' := ⟨_, rfl⟩
      have HIX3 := Lib.hid (show DskIn X3 BD (stepD0 d n u renew fm) by rw [← hX3]; exact DskIn.set HDX2.out HXD.out)
      have HBX3 := Lib.hid (show Below w6.heap.size w6 X3 by rw [← hX3]; exact set2_below HBX2.out (Nat.le_of_eq HBDE.out) (.slice e1 m0 c1) (.slice e2 m1 c2))
      have HWX3 := Lib.hid hX3
      clear hX3

      rw [HWX3.out]
      clear x0 x1 b0 b1 y0 y1
      have HLB := Lib.hid (And.intro HG.out.right0 HG.out.right1)

      obtain ⟨XL, hXL⟩ : ∃ W, X3 = W := ⟨_, rfl⟩
      rw [hXL] at HIX3 HBX3 ⊢
      clear hXL HWX3
      obtain ⟨dS, hdS⟩ : ∃ x, stepD0 d n u renew fm = x := ⟨_, rfl⟩
      have hright : RightIs dS := by rw [← hdS]; exact HG.out.right0
      have hcr : ∃ n2 g2 u2 es2, Opens (crashD dS fs).1 n2 g2 u2 es2 ∧ n2 = n ∧ g2 = g ∧ u2 = u ∧ es2 = es := by
        rw [← hdS]; exact ⟨_, _, _, _, HG.out.crash0 fs, rfl, rfl, rfl, rfl⟩
      rw [hdS] at HIX3
      have HIL := Lib.hid HIX3.out
      have HBL := Lib.hid HBX3.out
      clear HIX3 HBX3 hdS

      -- the crash
      obtain ⟨f0, hf0⟩ : ∃ k, dS.secs.length = k := ⟨_, rfl⟩
      obtain ⟨f1, hf1⟩ : ∃ k, dS.dirty.length = k := ⟨_, rfl⟩
      obtain ⟨q1, j1, q2, j2, hAL, hDL⟩ := HIL.out.boxed f0 f1 hf0 hf1
      have CR := Crash_t _ _ dS fs XL hDL (KS.out XL HBL.out).2.2.2.2
      have he0 : (crashD dS fs).2 = 0 := by rw [crashD_ok hright]
      obtain ⟨⟨dC, eC⟩, hC⟩ : ∃ x, crashD dS fs = x := ⟨_, rfl⟩
      rw [hC] at CR he0 hcr
      obtain rfl : eC = 0 := he0
      have CR := Lib.hid CR
      have HCR := Lib.hid hcr
      have HAL := Lib.hid hAL
      obtain ⟨b0, b1⟩ := hAL.cells
      clear hAL hDL hf0 hf1 hcr hC hright
      go_wp2_with fail
      rw [rounds_succ]
      go_wp2_with fail
      refine CR.out.mono ?_
      rintro e y1 ⟨v1, rfl, hy1, hby1⟩
      simp only at hy1
      obtain ⟨e1, c1, e2, c2, rfl, -, -⟩ := hy1.shape
      obtain ⟨m0, hm0⟩ : ∃ k, dC.secs.length = k := ⟨_, rfl⟩
      obtain ⟨m1, hm1⟩ : ∃ k, dC.dirty.length = k := ⟨_, rfl⟩
      rw [hm0, hm1] at hy1 ⊢
      have HYD := Lib.hid hy1
      have HIY := Lib.hid (HIL.out.keep hby1)
      have HAY := Lib.hid (HAL.out.keep hby1)
      have HBY := Lib.hid (Below.then HBL.out hby1)
      clear b0 b1 hy1 hby1 CR HIL HAL HBL
      obtain ⟨z0, z1⟩ := HAY.out.free
      obtain ⟨zz0, zz1⟩ := HAY.out.cells
      simp only
      go_upto_region 35 with fail

      obtain ⟨Y2, hY2⟩ : ∃ W', (y1.setCell ⟨BD, 0, none⟩ (.slice e1 m0 c1)).setCell ⟨BD, 1, none⟩ (.slice e2 m1 c2) = W' := ⟨_, rfl⟩
      have HIY2 := Lib.hid (show DskIn Y2 BD (dC) by rw [← hY2]; exact DskIn.set HIY.out HYD.out)
      have HBY2 := Lib.hid (show Below w6.heap.size w6 Y2 by rw [← hY2]; exact set2_below HBY.out (Nat.le_of_eq HBDE.out) (.slice e1 m0 c1) (.slice e2 m1 c2))
      have HWY2 := Lib.hid hY2
      clear hY2

      rw [HWY2.out]
      clear z0 z1 zz0 zz1
      obtain ⟨n2, g2, u2, es2, hop2, hold⟩ := HCR.out
      obtain ⟨q1, j1, q2, j2, hA2, hD2⟩ := HIY2.out.boxed m0 m1 hm0 hm1
      have OP := Open_t aD aS aZ _ dC Y2 (KD.out Y2 HBY2.out).2.2.2.2 hD2
      rw [hop2.out] at OP
      have OP := Lib.hid OP
      have HOLD := Lib.hid hold
      obtain ⟨b0, b1⟩ := hA2.cells
      clear hA2 hD2 hop2 hold HCR hm0 hm1 HAY HIY HBY HYD HWY2
      go_wp2_with fail
      refine OP.out.mono ?_
      rintro e Y3 ⟨v3, rfl, hl3, hby3⟩
      simp only at hl3
      obtain ⟨m0, hm0⟩ : ∃ k, dC.secs.length = k := ⟨_, rfl⟩
      obtain ⟨m1, hm1⟩ : ∃ k, dC.dirty.length = k := ⟨_, rfl⟩
      obtain ⟨me, hme⟩ : ∃ k, es2.length = k := ⟨_, rfl⟩
      obtain ⟨o1, i1, o2, i2, o3, i3, rfl⟩ := hl3.boxed hm0 hm1 hme rfl rfl rfl
      simp only at hl3
      obtain ⟨Y4, hY4⟩ : ∃ W, Y3.alloc (.cells #[.slice o1 m0 i1, .slice o2 m1 i2, .int .i64 (n2 : Int), .int .i64 (g2 : Int), .int .i64 (u2 : Int), .slice o3 me i3] 27) = W := ⟨_, rfl⟩
      have hb4 : Below Y2.heap.size Y2 Y4 := Below.then hby3 (by rw [← hY4]; exact below_new _ _)
      have HO6 := Lib.hid (show At6 27 Y4 Y3.heap.size (.slice o1 m0 i1) (.slice o2 m1 i2) (.int .i64 (n2 : Int)) (.int .i64 (g2 : Int)) (.int .i64 (u2 : Int)) (.slice o3 me i3) by rw [← hY4]; exact At6.new _ _ _ _ _ _ _ _)
      have HE2 := Lib.hid (show StrsAt Y4 (.slice o3 me i3) es2 by rw [← hY4]; exact (hl3.parts.2.1).keep (below_new _ _))
      have HB4 := Lib.hid (Below.then HBY2.out hb4)
      have HY4 := Lib.hid hY4
      obtain ⟨B29, hB29⟩ : ∃ B, Y3.heap.size = B := ⟨_, rfl⟩
      rw [hB29] at HO6
      have HB29 := Lib.hid hB29
      clear hY4 hb4 hl3 hby3 hm0 hm1 hme b0 b1 OP HIY2 HBY2
      simp only
      go_upto_region 36 with fail
      rw [HY4.out]
      clear hB29
      cases renew with
      | true =>
        go_upto_region 41 with fail

        have HBW := Lib.hid (show Below w6.heap.size w6 Y4 from HB4.out)
        obtain ⟨a0, a1, a2, a3, a4, a5⟩ := (KD.out _ HBW.out).2.1.cells
        obtain ⟨b0, b1, b2, b3, b4, b5⟩ := HO6.out.cells
        · obtain ⟨-, q2, q3, q4⟩ := HOLD.out
          have SA := Lib.hid (same_eq _ _ es2 es _ HE2.out (KD.out _ HBW.out).2.2.1.parts.2.1 q4)
          subst q2
          subst q3
          go_wp2_with fail
          refine SA.out.mono ?_
          rintro e wz ⟨rfl, hbz⟩
          have HBZ := Lib.hid (KD.out wz (Below.then HBW.out hbz)).1
          clear hbz
          go_wp2_with fail
          go_ret
          exact ⟨rfl, HBZ.out⟩

      | false =>
        go_upto_region 38 with fail
        obtain ⟨i0, hi0, hz0, hz1, hz2⟩ := info_parts infoStr
        have S1 := (KD.out Y4 HB4.out).2.2.1.parts.2.1.src
        have S2 := (KD.out Y4 HB4.out).2.2.2.1.at.src
        have hnl := HG.out.opens.few.1
        have hml := (mayB_iff HG.out.may).2
        have S1 : SrcOf 1 Y4 (.slice p3 ne k3) es.length (es.map Value.string) := S1
        rw [HLN.out.2.2] at S1 hnl
        rw [HNM.out] at S2 hml
        have S1 := Lib.hid S1
        have S2 := Lib.hid S2
        obtain ⟨a0, a1, a2, a3, a4, a5⟩ := ((KD.out Y4 HB4.out).2.1.keep (below_new Y4 (.cells #[] 9))).cells
        have HLT := Lib.hid (show (Y4.alloc (.cells #[] 9)).ownsRow Y4.heap.size 9 1 (.slice (some ⟨Y4.heap.size, 0, none⟩) 0 0) 0 [] from World.ownsRow_lit Y4 #[] 0 (Nat.le_refl _) (Nat.zero_le _) rfl)
        go_upto_region 39 with (at_builtin; first
          | (refine wpList_append_src _ rfl _ _ 22 rfl Y4.heap.size 9 i0 (.string ⟨#[]⟩) 1 16 Tryz.underlying22 hi0 hz0 hz1 hz2 rfl (by decide) _ _ _ rfl HOW.out _ nm _ rfl (S2.out.keep HW1.out) (by intro u hu; obtain ⟨t, _, rfl⟩ := List.mem_map.1 hu; rfl) (by unfold maxLen; omega) (by omega) HW1.out.size ?_
             intro v2 w8 hown2 hgrow2
             obtain ⟨ga, gc, rfl⟩ := row_shape hown2
             have HOX := Lib.hid hown2
             have HW2 := Lib.hid (grow_below HW1.out HOW.out hgrow2 (Nat.le_refl _) HW1.out.size)
             clear hown2 hgrow2)
          | (refine wpList_append_src _ rfl _ _ 22 rfl Y4.heap.size 9 i0 (.string ⟨#[]⟩) 1 16 Tryz.underlying22 hi0 hz0 hz1 hz2 rfl (by decide) _ 0 [] rfl HLT.out _ ne _ rfl (S1.out.keep (below_new _ _)) (by intro u hu; obtain ⟨t, _, rfl⟩ := List.mem_map.1 hu; rfl) (by unfold maxLen; omega) (by omega) (below_new Y4 (.cells #[] 9)).size ?_
             intro v1 w7 hown1 hgrow1
             have HW1 := Lib.hid (grow_below (below_new Y4 (.cells #[] 9)) HLT.out hgrow1 (Nat.le_refl _) (below_new Y4 (.cells #[] 9)).size)
             rw [Nat.zero_add, List.nil_append] at hown1
             have HOW := Lib.hid hown1
             clear hown1 hgrow1))
        have HT := Lib.hid (show StrsAt w8 (.slice ga (ne + nm) gc) (esOf false es fm) from StrsAt.of_own (by show w8.ownsRow _ _ _ _ _ ((es ++ fm).map Value.string); rw [List.map_append]; exact HOX.out) (by show (es ++ fm).length = _; rw [List.length_append, HLN.out.2.2, HNM.out]))
        have HB8 := Lib.hid (Below.then HB4.out HW2.out)
        have HO6 := Lib.hid (HO6.out.keep HW2.out)
        have HE2 := Lib.hid (HE2.out.keep HW2.out)
        clear a0 a1 a2 a3 a4 a5 S1 S2 HOX HOW HW1 HW2
        go_upto_region 41 with fail

        have HBW := Lib.hid (show Below w6.heap.size w6 w8 from HB8.out)
        obtain ⟨a0, a1, a2, a3, a4, a5⟩ := (KD.out _ HBW.out).2.1.cells
        obtain ⟨b0, b1, b2, b3, b4, b5⟩ := HO6.out.cells
        · obtain ⟨-, q2, q3, q4⟩ := HOLD.out
          have SA := Lib.hid (same_eq _ _ es2 es _ HE2.out (KD.out _ HBW.out).2.2.1.parts.2.1 q4)
          subst q2
          subst q3
          go_wp2_with fail
          refine SA.out.mono ?_
          rintro e wz ⟨rfl, hbz⟩
          have HBZ := Lib.hid (KD.out wz (Below.then HBW.out hbz)).1
          clear hbz
          go_wp2_with fail
          go_ret
          exact ⟨rfl, HBZ.out⟩

    · -- step 1
      go_upto_region 21 with fail
      rw [HW7.out]
      clear hBD a0 a1 a2 a3 a4 a5
      have SV := Save_t _ _ d _ W7 HDX.out (KS.out W7 HB7.out).2.2.1 HS0.out.2 HS0.out.1
      rw [HG.out.save0] at SV
      have SV := Lib.hid SV
      obtain ⟨s0, s1, -, -, -⟩ := KS.out W7 HB7.out
      obtain ⟨b0, b1⟩ := HA2.out.cells
      go_wp2_with fail
      refine wp_loop_rounds 3 ?_
      rw [rounds_succ]
      go_wp2_with fail
      refine SV.out.mono ?_
      rintro e x1 ⟨v1, rfl, hx1, hbx1⟩
      simp only at hx1
      obtain ⟨e1, c1, e2, c2, rfl, -, -⟩ := hx1.shape
      obtain ⟨m0, hm0⟩ : ∃ k, (stepD0 d n u renew fm).secs.length = k := ⟨_, rfl⟩
      obtain ⟨m1, hm1⟩ : ∃ k, (stepD0 d n u renew fm).dirty.length = k := ⟨_, rfl⟩
      rw [hm0, hm1] at hx1 ⊢
      obtain ⟨X2, hX2⟩ : ∃ W, x1.alloc (.cells #[.slice e1 m0 c1, .slice e2 m1 c2] 25) = W := ⟨_, rfl⟩
      have hbX2 : Below W7.heap.size W7 X2 := Below.then hbx1 (by rw [← hX2]; exact below_new _ _)
      have HXA := Lib.hid (show At2 25 X2 x1.heap.size (.slice e1 m0 c1) (.slice e2 m1 c2) by rw [← hX2]; exact At2.new _ _ _ _)
      have HXD := Lib.hid (show DskAt X2 (.agg #[.slice e1 m0 c1, .slice e2 m1 c2]) (stepD0 d n u renew fm) by rw [← hX2]; exact hx1.keep (below_new _ _))
      have HDX2 := Lib.hid (HDB.out.keep hbX2)
      have HAX2 := Lib.hid (HA2.out.keep hbX2)
      have HBX2 := Lib.hid (Below.then HB7.out hbX2)
      have HX2 := Lib.hid hX2
      clear hX2 hbX2 hx1 hbx1 hm0 hm1 s0 s1 b0 b1 SV
      simp only
      go_upto_region 25 with fail
      rw [HX2.out]
      obtain ⟨x0, x1⟩ := HXA.out.cells
      obtain ⟨b0, b1⟩ := HAX2.out.cells
      obtain ⟨y0, y1⟩ := HAX2.out.free
      go_upto_region 28 with fail

      obtain ⟨X3, hX3⟩ : ∃ W', (X2.setCell ⟨BD, 0, none⟩ (.slice e1 m0 c1)).setCell ⟨BD, 1, none⟩ (.slice e2 m1 c2) = W' := ⟨_, rfl⟩
      have HIX3 := Lib.hid (show DskIn X3 BD (stepD0 d n u renew fm) by rw [← hX3]; exact DskIn.set HDX2.out HXD.out)
      have HBX3 := Lib.hid (show Below w6.heap.size w6 X3 by rw [← hX3]; exact set2_below HBX2.out (Nat.le_of_eq HBDE.out) (.slice e1 m0 c1) (.slice e2 m1 c2))
      have HWX3 := Lib.hid hX3
      clear hX3

      rw [HWX3.out]
      clear x0 x1 b0 b1 y0 y1
      have HLB := Lib.hid (And.intro HG.out.right0 HG.out.right1)

      obtain ⟨f0, hf0⟩ : ∃ k, (stepD0 d n u renew fm).secs.length = k := ⟨_, rfl⟩
      obtain ⟨f1, hf1⟩ : ∃ k, (stepD0 d n u renew fm).dirty.length = k := ⟨_, rfl⟩
      obtain ⟨q1, j1, q2, j2, hAX3, hDX3⟩ := HIX3.out.boxed f0 f1 hf0 hf1
      have FL := Lib.hid (Flush_t _ _ X3 hDX3)
      rw [HG.out.flush0] at FL
      have FL := Lib.hid FL.out
      have HAX3 := Lib.hid hAX3
      obtain ⟨b0, b1⟩ := hAX3.cells
      clear hAX3 hDX3 hf0 hf1
      go_upto_region 29 with fail
      go_wp2_with fail
      refine FL.out.mono ?_
      rintro e x4 ⟨v4, rfl, hx4, hbx4⟩
      simp only at hx4
      obtain ⟨e1, c1, e2, c2, rfl, -, -⟩ := hx4.shape
      obtain ⟨m0, hm0⟩ : ∃ k, (fillOf d n u renew fm).secs.length = k := ⟨_, rfl⟩
      obtain ⟨m1, hm1⟩ : ∃ k, (fillOf d n u renew fm).dirty.length = k := ⟨_, rfl⟩
      rw [hm0, hm1] at hx4 ⊢
      obtain ⟨X5, hX5⟩ : ∃ W, x4.alloc (.cells #[.slice e1 m0 c1, .slice e2 m1 c2] 25) = W := ⟨_, rfl⟩
      have hbX5 : Below X3.heap.size X3 X5 := Below.then hbx4 (by rw [← hX5]; exact below_new _ _)
      have HXA := Lib.hid (show At2 25 X5 x4.heap.size (.slice e1 m0 c1) (.slice e2 m1 c2) by rw [← hX5]; exact At2.new _ _ _ _)
      have HXD := Lib.hid (show DskAt X5 (.agg #[.slice e1 m0 c1, .slice e2 m1 c2]) (fillOf d n u renew fm) by rw [← hX5]; exact hx4.keep (below_new _ _))
      have HDX5 := Lib.hid (HIX3.out.keep hbX5)
      have HAX5 := Lib.hid (HAX3.out.keep hbX5)
      have HBX5 := Lib.hid (Below.then HBX3.out hbX5)
      have HX5 := Lib.hid hX5
      clear hX5 hbX5 hx4 hbx4 hm0 hm1 b0 b1 FL HIX3 HAX3 HBX3 HWX3
      simp only
      go_upto_region 30 with fail
      rw [HX5.out]
      obtain ⟨x0, x1⟩ := HXA.out.cells
      obtain ⟨b0, b1⟩ := HAX5.out.cells
      obtain ⟨y0, y1⟩ := HAX5.out.free
      go_upto_region 33 with fail

      obtain ⟨X6, hX6⟩ : ∃ W', (X5.setCell ⟨BD, 0, none⟩ (.slice e1 m0 c1)).setCell ⟨BD, 1, none⟩ (.slice e2 m1 c2) = W' := ⟨_, rfl⟩
      have HIX6 := Lib.hid (show DskIn X6 BD (fillOf d n u renew fm) by rw [← hX6]; exact DskIn.set HDX5.out HXD.out)
      have HBX6 := Lib.hid (show Below w6.heap.size w6 X6 by rw [← hX6]; exact set2_below HBX5.out (Nat.le_of_eq HBDE.out) (.slice e1 m0 c1) (.slice e2 m1 c2))
      have HWX6 := Lib.hid hX6
      clear hX6

      rw [HWX6.out]
      clear x0 x1 b0 b1 y0 y1 HXA HXD HDX5 HAX5 HBX5 HX5
      obtain ⟨f0, hf0⟩ : ∃ k, (fillOf d n u renew fm).secs.length = k := ⟨_, rfl⟩
      obtain ⟨f1, hf1⟩ : ∃ k, (fillOf d n u renew fm).dirty.length = k := ⟨_, rfl⟩
      obtain ⟨q1, j1, q2, j2, hAX6, hDX6⟩ := HIX6.out.boxed f0 f1 hf0 hf1
      have SV2 := Save_t _ _ _ _ X6 hDX6 (KS.out X6 HBX6.out).2.2.2.1 HS1.out.2 HS1.out.1
      rw [HG.out.save1] at SV2
      have SV2 := Lib.hid SV2
      have HAX6 := Lib.hid hAX6
      obtain ⟨b0, b1⟩ := hAX6.cells
      obtain ⟨-, s1, -, -, -⟩ := KS.out X6 HBX6.out
      clear hAX6 hDX6 hf0 hf1
      go_wp2_with fail
      rw [rounds_succ]
      go_wp2_with fail
      refine SV2.out.mono ?_
      rintro e x7 ⟨v7, rfl, hx7, hbx7⟩
      simp only at hx7
      obtain ⟨e1, c1, e2, c2, rfl, -, -⟩ := hx7.shape
      obtain ⟨dS, hdS⟩ : ∃ x, stepD1 d n g u renew fm = x := ⟨_, rfl⟩
      rw [hdS] at hx7 ⊢
      obtain ⟨m0, hm0⟩ : ∃ k, dS.secs.length = k := ⟨_, rfl⟩
      obtain ⟨m1, hm1⟩ : ∃ k, dS.dirty.length = k := ⟨_, rfl⟩
      rw [hm0, hm1] at hx7 ⊢
      obtain ⟨X8, hX8⟩ : ∃ W, x7.alloc (.cells #[.slice e1 m0 c1, .slice e2 m1 c2] 25) = W := ⟨_, rfl⟩
      have hbX8 : Below X6.heap.size X6 X8 := Below.then hbx7 (by rw [← hX8]; exact below_new _ _)
      have HXA := Lib.hid (show At2 25 X8 x7.heap.size (.slice e1 m0 c1) (.slice e2 m1 c2) by rw [← hX8]; exact At2.new _ _ _ _)
      have HXD := Lib.hid (show DskAt X8 (.agg #[.slice e1 m0 c1, .slice e2 m1 c2]) dS by rw [← hX8]; exact hx7.keep (below_new _ _))
      have HDX8 := Lib.hid (HIX6.out.keep hbX8)
      have HAX8 := Lib.hid (HAX6.out.keep hbX8)
      have HBX8 := Lib.hid (Below.then HBX6.out hbX8)
      have HX8 := Lib.hid hX8
      have hright : RightIs dS := by rw [← hdS]; exact HG.out.right1
      have hcr : ∃ n2 g2 u2 es2, Opens (crashD dS fs).1 n2 g2 u2 es2 ∧ ((n2 = n ∧ g2 = g ∧ u2 = u ∧ es2 = es) ∨ es2 = esOf renew es fm) := by
        rw [← hdS]
        rcases HG.out.crash1 fs with h | h
        · exact ⟨_, _, _, _, h, Or.inl ⟨rfl, rfl, rfl, rfl⟩⟩
        · exact ⟨_, _, _, _, h, Or.inr rfl⟩
      clear hX8 hbX8 hx7 hbx7 hm0 hm1 b0 b1 s1 SV2 HIX6 HAX6 HBX6 HWX6 hdS
      simp only
      go_upto_region 25 with fail
      rw [HX8.out]
      obtain ⟨x0, x1⟩ := HXA.out.cells
      obtain ⟨b0, b1⟩ := HAX8.out.cells
      obtain ⟨y0, y1⟩ := HAX8.out.free
      go_upto_region 28 with fail

      obtain ⟨XL, hXL⟩ : ∃ W', (X8.setCell ⟨BD, 0, none⟩ (.slice e1 m0 c1)).setCell ⟨BD, 1, none⟩ (.slice e2 m1 c2) = W' := ⟨_, rfl⟩
      have HIXL := Lib.hid (show DskIn XL BD (dS) by rw [← hXL]; exact DskIn.set HDX8.out HXD.out)
      have HBXL := Lib.hid (show Below w6.heap.size w6 XL by rw [← hXL]; exact set2_below HBX8.out (Nat.le_of_eq HBDE.out) (.slice e1 m0 c1) (.slice e2 m1 c2))
      have HWXL := Lib.hid hXL
      clear hXL

      rw [HWXL.out]
      have HIL := Lib.hid HIXL.out
      have HBL := Lib.hid HBXL.out
      clear x0 x1 b0 b1 y0 y1 HXA HXD HDX8 HAX8 HBX8 HX8 HIXL HBXL HWXL

      -- the crash
      obtain ⟨f0, hf0⟩ : ∃ k, dS.secs.length = k := ⟨_, rfl⟩
      obtain ⟨f1, hf1⟩ : ∃ k, dS.dirty.length = k := ⟨_, rfl⟩
      obtain ⟨q1, j1, q2, j2, hAL, hDL⟩ := HIL.out.boxed f0 f1 hf0 hf1
      have CR := Crash_t _ _ dS fs XL hDL (KS.out XL HBL.out).2.2.2.2
      have he0 : (crashD dS fs).2 = 0 := by rw [crashD_ok hright]
      obtain ⟨⟨dC, eC⟩, hC⟩ : ∃ x, crashD dS fs = x := ⟨_, rfl⟩
      rw [hC] at CR he0 hcr
      obtain rfl : eC = 0 := he0
      have CR := Lib.hid CR
      have HCR := Lib.hid hcr
      have HAL := Lib.hid hAL
      obtain ⟨b0, b1⟩ := hAL.cells
      clear hAL hDL hf0 hf1 hcr hC hright
      go_wp2_with fail
      rw [rounds_succ]
      go_wp2_with fail
      refine CR.out.mono ?_
      rintro e y1 ⟨v1, rfl, hy1, hby1⟩
      simp only at hy1
      obtain ⟨e1, c1, e2, c2, rfl, -, -⟩ := hy1.shape
      obtain ⟨m0, hm0⟩ : ∃ k, dC.secs.length = k := ⟨_, rfl⟩
      obtain ⟨m1, hm1⟩ : ∃ k, dC.dirty.length = k := ⟨_, rfl⟩
      rw [hm0, hm1] at hy1 ⊢
      have HYD := Lib.hid hy1
      have HIY := Lib.hid (HIL.out.keep hby1)
      have HAY := Lib.hid (HAL.out.keep hby1)
      have HBY := Lib.hid (Below.then HBL.out hby1)
      clear b0 b1 hy1 hby1 CR HIL HAL HBL
      obtain ⟨z0, z1⟩ := HAY.out.free
      obtain ⟨zz0, zz1⟩ := HAY.out.cells
      simp only
      go_upto_region 35 with fail

      obtain ⟨Y2, hY2⟩ : ∃ W', (y1.setCell ⟨BD, 0, none⟩ (.slice e1 m0 c1)).setCell ⟨BD, 1, none⟩ (.slice e2 m1 c2) = W' := ⟨_, rfl⟩
      have HIY2 := Lib.hid (show DskIn Y2 BD (dC) by rw [← hY2]; exact DskIn.set HIY.out HYD.out)
      have HBY2 := Lib.hid (show Below w6.heap.size w6 Y2 by rw [← hY2]; exact set2_below HBY.out (Nat.le_of_eq HBDE.out) (.slice e1 m0 c1) (.slice e2 m1 c2))
      have HWY2 := Lib.hid hY2
      clear hY2

      rw [HWY2.out]
      clear z0 z1 zz0 zz1
      obtain ⟨n2, g2, u2, es2, hop2, hold⟩ := HCR.out
      obtain ⟨q1, j1, q2, j2, hA2, hD2⟩ := HIY2.out.boxed m0 m1 hm0 hm1
      have OP := Open_t aD aS aZ _ dC Y2 (KD.out Y2 HBY2.out).2.2.2.2 hD2
      rw [hop2.out] at OP
      have OP := Lib.hid OP
      have HOLD := Lib.hid hold
      obtain ⟨b0, b1⟩ := hA2.cells
      clear hA2 hD2 hop2 hold HCR hm0 hm1 HAY HIY HBY HYD HWY2
      go_wp2_with fail
      refine OP.out.mono ?_
      rintro e Y3 ⟨v3, rfl, hl3, hby3⟩
      simp only at hl3
      obtain ⟨m0, hm0⟩ : ∃ k, dC.secs.length = k := ⟨_, rfl⟩
      obtain ⟨m1, hm1⟩ : ∃ k, dC.dirty.length = k := ⟨_, rfl⟩
      obtain ⟨me, hme⟩ : ∃ k, es2.length = k := ⟨_, rfl⟩
      obtain ⟨o1, i1, o2, i2, o3, i3, rfl⟩ := hl3.boxed hm0 hm1 hme rfl rfl rfl
      simp only at hl3
      obtain ⟨Y4, hY4⟩ : ∃ W, Y3.alloc (.cells #[.slice o1 m0 i1, .slice o2 m1 i2, .int .i64 (n2 : Int), .int .i64 (g2 : Int), .int .i64 (u2 : Int), .slice o3 me i3] 27) = W := ⟨_, rfl⟩
      have hb4 : Below Y2.heap.size Y2 Y4 := Below.then hby3 (by rw [← hY4]; exact below_new _ _)
      have HO6 := Lib.hid (show At6 27 Y4 Y3.heap.size (.slice o1 m0 i1) (.slice o2 m1 i2) (.int .i64 (n2 : Int)) (.int .i64 (g2 : Int)) (.int .i64 (u2 : Int)) (.slice o3 me i3) by rw [← hY4]; exact At6.new _ _ _ _ _ _ _ _)
      have HE2 := Lib.hid (show StrsAt Y4 (.slice o3 me i3) es2 by rw [← hY4]; exact (hl3.parts.2.1).keep (below_new _ _))
      have HB4 := Lib.hid (Below.then HBY2.out hb4)
      have HY4 := Lib.hid hY4
      obtain ⟨B29, hB29⟩ : ∃ B, Y3.heap.size = B := ⟨_, rfl⟩
      rw [hB29] at HO6
      have HB29 := Lib.hid hB29
      clear hY4 hb4 hl3 hby3 hm0 hm1 hme b0 b1 OP HIY2 HBY2
      simp only
      go_upto_region 36 with fail
      rw [HY4.out]
      clear hB29
      cases renew with
      | true =>
        go_upto_region 41 with fail

        have HBW := Lib.hid (show Below w6.heap.size w6 Y4 from HB4.out)
        obtain ⟨a0, a1, a2, a3, a4, a5⟩ := (KD.out _ HBW.out).2.1.cells
        obtain ⟨b0, b1, b2, b3, b4, b5⟩ := HO6.out.cells
        by_cases hall : g2 = g ∧ u2 = u ∧ es2 = es
        · obtain ⟨q2, q3, q4⟩ := hall
          have SA := Lib.hid (same_eq _ _ es2 es _ HE2.out (KD.out _ HBW.out).2.2.1.parts.2.1 q4)
          subst q2
          subst q3
          go_wp2_with fail
          refine SA.out.mono ?_
          rintro e wz ⟨rfl, hbz⟩
          have HBZ := Lib.hid (KD.out wz (Below.then HBW.out hbz)).1
          clear hbz
          go_wp2_with fail
          go_ret
          exact ⟨rfl, HBZ.out⟩
        have q5 : es2 = esOf true es fm := by
          rcases HOLD.out with ⟨-, q2, q3, q4⟩ | h
          · exact absurd ⟨q2, q3, q4⟩ hall
          · exact h
        by_cases hg : g2 = g
        rotate_left
        · have hg' : ¬ (g2 : Int) = (g : Int) := by omega
          have SB := Lib.hid (fun w' (hb : Below Y4.heap.size Y4 w') => same_eq _ _ es2 (esOf true es fm) w' (HE2.out.keep hb) ((KD.out _ HBW.out).2.2.2.1.at.keep hb) q5)
          go_wp2_with fail
          refine (SB.out _ (Below.refl _ _)).mono ?_
          rintro e wz ⟨rfl, hbz⟩
          have HBZ := Lib.hid (KD.out wz (Below.then HBW.out hbz)).1
          clear hbz
          go_wp2_with fail
          go_ret
          exact ⟨rfl, HBZ.out⟩
        subst hg
        by_cases hu : u2 = u
        rotate_left
        · have hu' : ¬ (u2 : Int) = (u : Int) := by omega
          have SB := Lib.hid (fun w' (hb : Below Y4.heap.size Y4 w') => same_eq _ _ es2 (esOf true es fm) w' (HE2.out.keep hb) ((KD.out _ HBW.out).2.2.2.1.at.keep hb) q5)
          go_wp2_with fail
          refine (SB.out _ (Below.refl _ _)).mono ?_
          rintro e wz ⟨rfl, hbz⟩
          have HBZ := Lib.hid (KD.out wz (Below.then HBW.out hbz)).1
          clear hbz
          go_wp2_with fail
          go_ret
          exact ⟨rfl, HBZ.out⟩
        subst hu
        · have q4 : ¬ es2 = es := fun e => hall ⟨rfl, rfl, e⟩
          have SA := Lib.hid (same_ne _ _ es2 es _ HE2.out (KD.out _ HBW.out).2.2.1.parts.2.1 q4)
          have SB := Lib.hid (fun w' (hb : Below Y4.heap.size Y4 w') => same_eq _ _ es2 (esOf true es fm) w' (HE2.out.keep hb) ((KD.out _ HBW.out).2.2.2.1.at.keep hb) q5)
          go_wp2_with fail
          refine SA.out.mono ?_
          rintro e wy ⟨rfl, hby⟩
          have HBV := Lib.hid (Below.then HBW.out hby)
          obtain ⟨b0, b1, b2, b3, b4, b5⟩ := (HO6.out.keep hby).cells
          have HBY := Lib.hid hby
          clear hby
          go_wp2_with fail
          refine (SB.out _ HBY.out).mono ?_
          rintro e wz ⟨rfl, hbz⟩
          have HBZ := Lib.hid (KD.out wz (Below.then HBV.out hbz)).1
          clear hbz
          go_wp2_with fail
          go_ret
          exact ⟨rfl, HBZ.out⟩

      | false =>
        go_upto_region 38 with fail
        obtain ⟨i0, hi0, hz0, hz1, hz2⟩ := info_parts infoStr
        have S1 := (KD.out Y4 HB4.out).2.2.1.parts.2.1.src
        have S2 := (KD.out Y4 HB4.out).2.2.2.1.at.src
        have hnl := HG.out.opens.few.1
        have hml := (mayB_iff HG.out.may).2
        have S1 : SrcOf 1 Y4 (.slice p3 ne k3) es.length (es.map Value.string) := S1
        rw [HLN.out.2.2] at S1 hnl
        rw [HNM.out] at S2 hml
        have S1 := Lib.hid S1
        have S2 := Lib.hid S2
        obtain ⟨a0, a1, a2, a3, a4, a5⟩ := ((KD.out Y4 HB4.out).2.1.keep (below_new Y4 (.cells #[] 9))).cells
        have HLT := Lib.hid (show (Y4.alloc (.cells #[] 9)).ownsRow Y4.heap.size 9 1 (.slice (some ⟨Y4.heap.size, 0, none⟩) 0 0) 0 [] from World.ownsRow_lit Y4 #[] 0 (Nat.le_refl _) (Nat.zero_le _) rfl)
        go_upto_region 39 with (at_builtin; first
          | (refine wpList_append_src _ rfl _ _ 22 rfl Y4.heap.size 9 i0 (.string ⟨#[]⟩) 1 16 Tryz.underlying22 hi0 hz0 hz1 hz2 rfl (by decide) _ _ _ rfl HOW.out _ nm _ rfl (S2.out.keep HW1.out) (by intro u hu; obtain ⟨t, _, rfl⟩ := List.mem_map.1 hu; rfl) (by unfold maxLen; omega) (by omega) HW1.out.size ?_
             intro v2 w8 hown2 hgrow2
             obtain ⟨ga, gc, rfl⟩ := row_shape hown2
             have HOX := Lib.hid hown2
             have HW2 := Lib.hid (grow_below HW1.out HOW.out hgrow2 (Nat.le_refl _) HW1.out.size)
             clear hown2 hgrow2)
          | (refine wpList_append_src _ rfl _ _ 22 rfl Y4.heap.size 9 i0 (.string ⟨#[]⟩) 1 16 Tryz.underlying22 hi0 hz0 hz1 hz2 rfl (by decide) _ 0 [] rfl HLT.out _ ne _ rfl (S1.out.keep (below_new _ _)) (by intro u hu; obtain ⟨t, _, rfl⟩ := List.mem_map.1 hu; rfl) (by unfold maxLen; omega) (by omega) (below_new Y4 (.cells #[] 9)).size ?_
             intro v1 w7 hown1 hgrow1
             have HW1 := Lib.hid (grow_below (below_new Y4 (.cells #[] 9)) HLT.out hgrow1 (Nat.le_refl _) (below_new Y4 (.cells #[] 9)).size)
             rw [Nat.zero_add, List.nil_append] at hown1
             have HOW := Lib.hid hown1
             clear hown1 hgrow1))
        have HT := Lib.hid (show StrsAt w8 (.slice ga (ne + nm) gc) (esOf false es fm) from StrsAt.of_own (by show w8.ownsRow _ _ _ _ _ ((es ++ fm).map Value.string); rw [List.map_append]; exact HOX.out) (by show (es ++ fm).length = _; rw [List.length_append, HLN.out.2.2, HNM.out]))
        have HB8 := Lib.hid (Below.then HB4.out HW2.out)
        have HO6 := Lib.hid (HO6.out.keep HW2.out)
        have HE2 := Lib.hid (HE2.out.keep HW2.out)
        clear a0 a1 a2 a3 a4 a5 S1 S2 HOX HOW HW1 HW2
        go_upto_region 41 with fail

        have HBW := Lib.hid (show Below w6.heap.size w6 w8 from HB8.out)
        obtain ⟨a0, a1, a2, a3, a4, a5⟩ := (KD.out _ HBW.out).2.1.cells
        obtain ⟨b0, b1, b2, b3, b4, b5⟩ := HO6.out.cells
        by_cases hall : g2 = g ∧ u2 = u ∧ es2 = es
        · obtain ⟨q2, q3, q4⟩ := hall
          have SA := Lib.hid (same_eq _ _ es2 es _ HE2.out (KD.out _ HBW.out).2.2.1.parts.2.1 q4)
          subst q2
          subst q3
          go_wp2_with fail
          refine SA.out.mono ?_
          rintro e wz ⟨rfl, hbz⟩
          have HBZ := Lib.hid (KD.out wz (Below.then HBW.out hbz)).1
          clear hbz
          go_wp2_with fail
          go_ret
          exact ⟨rfl, HBZ.out⟩
        have q5 : es2 = esOf false es fm := by
          rcases HOLD.out with ⟨-, q2, q3, q4⟩ | h
          · exact absurd ⟨q2, q3, q4⟩ hall
          · exact h
        by_cases hg : g2 = g
        rotate_left
        · have hg' : ¬ (g2 : Int) = (g : Int) := by omega
          have SB := Lib.hid (fun w' (hb : Below w8.heap.size w8 w') => same_eq _ _ es2 (esOf false es fm) w' (HE2.out.keep hb) (HT.out.keep hb) q5)
          go_wp2_with fail
          refine (SB.out _ (Below.refl _ _)).mono ?_
          rintro e wz ⟨rfl, hbz⟩
          have HBZ := Lib.hid (KD.out wz (Below.then HBW.out hbz)).1
          clear hbz
          go_wp2_with fail
          go_ret
          exact ⟨rfl, HBZ.out⟩
        subst hg
        by_cases hu : u2 = u
        rotate_left
        · have hu' : ¬ (u2 : Int) = (u : Int) := by omega
          have SB := Lib.hid (fun w' (hb : Below w8.heap.size w8 w') => same_eq _ _ es2 (esOf false es fm) w' (HE2.out.keep hb) (HT.out.keep hb) q5)
          go_wp2_with fail
          refine (SB.out _ (Below.refl _ _)).mono ?_
          rintro e wz ⟨rfl, hbz⟩
          have HBZ := Lib.hid (KD.out wz (Below.then HBW.out hbz)).1
          clear hbz
          go_wp2_with fail
          go_ret
          exact ⟨rfl, HBZ.out⟩
        subst hu
        · have q4 : ¬ es2 = es := fun e => hall ⟨rfl, rfl, e⟩
          have SA := Lib.hid (same_ne _ _ es2 es _ HE2.out (KD.out _ HBW.out).2.2.1.parts.2.1 q4)
          have SB := Lib.hid (fun w' (hb : Below w8.heap.size w8 w') => same_eq _ _ es2 (esOf false es fm) w' (HE2.out.keep hb) (HT.out.keep hb) q5)
          go_wp2_with fail
          refine SA.out.mono ?_
          rintro e wy ⟨rfl, hby⟩
          have HBV := Lib.hid (Below.then HBW.out hby)
          obtain ⟨b0, b1, b2, b3, b4, b5⟩ := (HO6.out.keep hby).cells
          have HBY := Lib.hid hby
          clear hby
          go_wp2_with fail
          refine (SB.out _ HBY.out).mono ?_
          rintro e wz ⟨rfl, hbz⟩
          have HBZ := Lib.hid (KD.out wz (Below.then HBV.out hbz)).1
          clear hbz
          go_wp2_with fail
          go_ret
          exact ⟨rfl, HBZ.out⟩

end Go.Proofs.YtkplpodljmlanaaGreatDoor
