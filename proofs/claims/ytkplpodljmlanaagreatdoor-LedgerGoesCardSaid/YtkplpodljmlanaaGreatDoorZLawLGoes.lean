/-
  LedgerGoes returns true at every input, and changes nothing that was there. Conditions: octet's errors lie where they lie.
-/
import Derived.Test.YtkplpodljmlanaaGreatDoorZLed3
import Derived.BigQuiet
import Derived.Deep.CutBlock
namespace Go.Proofs.YtkplpodljmlanaaGreatDoor
open Go.RowKit Go.WideShapes

set_option maxRecDepth 100000 in
set_option maxHeartbeats 16000000 in
theorem goes_any (aD aS aZ : Addr) (sectors : Int) (vr vb : Value) (rs : List (List ByteArray)) (bs : List Bool) (w : World) (he : Env w aD aS aZ) (hr : RowsAt w vr rs) (hbs : BoolsAt w vb bs) (zr : ∀ r ∈ rs, ∀ s ∈ r, s.size ≤ maxLen) :
    Calls Tryz.prog 6 #[.int .i64 sectors, vr, vb] w fun e w' => e = .returned (.bool true) ∧ Below w.heap.size w w' := by
  have HE := Lib.hid he
  obtain ⟨mx, n, hmx, hmn, h4, h64⟩ := clamp64 sectors
  have AL := Lib.hid (fun w' (hb : Below w.heap.size w w') => alive_t aD aS aZ w' (he.keep hb))
  have HOP0 := Lib.hid (fmt_ok n h4 h64)
  have HLEN := Lib.hid (fmtD_len n)
  have FM := Format_t aD aS aZ n w he
  rw [formatL_ok n h4 h64] at FM
  have FM := Lib.hid FM
  obtain ⟨ra, rc, rfl, hrl⟩ := hr.shape
  obtain ⟨ba, bc, rfl, hbl⟩ := hbs.shape
  obtain ⟨nr, hnr⟩ : ∃ k, rs.length = k := ⟨_, rfl⟩
  obtain ⟨nb, hnb⟩ : ∃ k, bs.length = k := ⟨_, rfl⟩
  rw [hnr] at hr hrl ⊢
  rw [hnb] at hbs hbl ⊢
  have HR := Lib.hid hr
  have HBS := Lib.hid hbs
  have ZR := Lib.hid zr
  have HNR := Lib.hid (And.intro hnr hnb)
  clear he hr hbs zr hnr hnb
  go_enter Tryz.func6, Tryz.ntmps6
  go_wp2_with fail
  refine FM.out.mono ?_
  rintro e w1 ⟨v, rfl, hl1, hb1⟩
  obtain ⟨a, c, a', c', b, k, rfl⟩ := hl1.boxed (n0 := n) (n1 := 0) (ne := 0) (lh := 0) (lg := 1) (lu := 0) HLEN.out rfl rfl rfl rfl rfl
  simp only at hl1
  obtain ⟨BL, hBL⟩ : ∃ B, w1.heap.size = B := ⟨_, rfl⟩
  obtain ⟨W2, hW2⟩ : ∃ W, w1.alloc (.cells #[.slice a n c, .slice a' 0 c', .int .i64 0, .int .i64 1, .int .i64 0, .slice b 0 k] 27) = W := ⟨_, rfl⟩
  have hI2 : LedIn W2 BL ⟨fmtD n, 0, 1, 0, []⟩ := by rw [← hW2, ← hBL]; exact LedIn.new hl1
  have hbb2 : Below w1.heap.size w1 W2 := by rw [← hW2]; exact below_new _ _
  have KW := Lib.hid (show ∀ w', Below w1.heap.size w1 w' → Below w.heap.size w w' from fun w' hb => Below.then hb1 hb)
  have HI2 := Lib.hid hI2
  have HBB2 := Lib.hid hbb2
  have HW2 := Lib.hid hW2
  have HBE := Lib.hid hBL
  have HBL := Lib.hid (show w1.heap.size ≤ BL from Nat.le_of_eq hBL)
  clear hW2 hl1 hb1 hI2 hbb2 FM
  go_upto_region 3 with fail
  rw [HW2.out]
  clear hBL
  go_upto_block 0 with fail
  go_cut [9, 10, 11, 12, 13, 14, 15, 16] from 27 to 102 (fun _ _ _ _ _ _ _ _ wx => Below w1.heap.size w1 wx)
  case first =>
    go_wp2_with fail
    go_loopw [9, 27] (fun av iv wr => ∃ (i : Nat) (l : Led) (xa : Option Addr) (xc : Nat), i ≤ nr ∧ iv = .int .i64 i ∧ av = .slice xa l.ents.length xc ∧ StrsAt wr (.slice xa l.ents.length xc) l.ents ∧ LedOk l ∧ LedIn wr BL l ∧ Below w1.heap.size w1 wr) (fun _ iv _ => nr - (intOf iv).toNat)
    case atStart => exact ⟨0, _, none, 0, Nat.zero_le _, rfl, rfl, Or.inl ⟨rfl, Or.inl rfl⟩, HOP0.out, HI2.out, HBB2.out⟩
    case round =>
      obtain ⟨i, l, xa, xc, hi, rfl, rfl, hal, hok, hin, hb⟩ := hrel
      obtain ⟨ke, hke⟩ : ∃ k, l.ents.length = k := ⟨_, rfl⟩
      rw [hke] at hal ⊢
      have HKE := Lib.hid hke
      have HAL := Lib.hid hal
      have HOK := Lib.hid hok
      have HIN := Lib.hid hin
      have HBR := Lib.hid hb
      clear hok hin hb hal hke
      by_cases hlt : i < nr
      rotate_left
      · have hlt' : ¬ (i : Int) < (nr : Int) := by omega
        go_wp2_with fail
        go_meet
        exact HBR.out
      have hlt' : (i : Int) < (nr : Int) := by omega
      have hil : i < rs.length := by rw [HNR.out.1]; exact hlt
      obtain ⟨rb, ro, rfl, ru, hru, hrs⟩ := HR.out.at i hil
      have hru := Below.keepc (KW.out wr HBR.out) hru
      have hrz := ZR.out _ (List.getElem_mem hil)
      obtain ⟨row, hrow⟩ : ∃ r, rs[i] = r := ⟨_, rfl⟩
      rw [hrow] at hrs hrz
      obtain ⟨nt, hnt⟩ : ∃ k, (fewB row).length = k := ⟨_, rfl⟩
      have TX := Lib.hid (texts_at ru row nt hnt wr (hrs.keep (KW.out wr HBR.out)) hrz)
      have RZ := Lib.hid (fewB_max row)
      have HML := Lib.hid (show (fewB row).length ≤ 66 by unfold fewB; simp; omega)
      obtain ⟨ft, hft⟩ : ∃ k, fewB row = k := ⟨_, rfl⟩
      rw [hft] at TX RZ hnt HML
      rw [hnt] at HML
      have HNT := Lib.hid hnt
      obtain ⟨ua, uc, rfl, -, -⟩ := hrs.shape
      obtain ⟨ul, hul⟩ : ∃ k, row.length = k := ⟨_, rfl⟩
      rw [hul] at TX hru
      clear hrs hrz hrow hnt hft hul hil
      by_cases h16 : 16 ≤ i
      · have h16' : (16 : Int) ≤ (i : Int) := by omega
        go_wp2_with fail
        go_meet
        exact HBR.out
      have h16' : ¬ (16 : Int) ≤ (i : Int) := by omega
      go_wp2_with fail
      refine TX.out.mono ?_
      rintro e wT ⟨tg, tc, rfl, hrw, hbT⟩
      have HRW := Lib.hid hrw
      have HBT := Lib.hid (show Below w1.heap.size w1 wT from Below.trans HBR.out (hbT.mono HBR.out.size))
      have HIT := Lib.hid (HIN.out.keep hbT)
      have HAT := Lib.hid (HAL.out.keep hbT)
      clear hrw hbT TX hru HIN HAL HBR
      simp only
      go_upto_region 9 with fail
      go_cut [12] from 36 to 45 (fun v wx => (∃ rn, v = .bool rn) ∧ Below wT.heap.size wT wx)
      case first =>
        by_cases hib : i < nb
        · have hib' : (i : Int) < (nb : Int) := by omega
          obtain ⟨bb, bo, rfl, hcell⟩ := HBS.out.at i (by rw [HNR.out.2]; exact hib)
          have hcell := Below.keepc (KW.out wT HBT.out) hcell
          obtain ⟨rn, hrn⟩ : ∃ r, bs[i]'(by rw [HNR.out.2]; exact hib) = r := ⟨_, rfl⟩
          rw [hrn] at hcell
          clear hrn
          go_wp2_with fail
          go_meet
          exact ⟨⟨rn, rfl⟩, Below.refl _ _⟩
        · have hib' : ¬ (i : Int) < (nb : Int) := by omega
          go_wp2_with fail
          go_meet
          exact ⟨⟨false, rfl⟩, Below.refl _ _⟩
      case rest =>
        obtain ⟨⟨rn, rfl⟩, hbc⟩ := hcut
        obtain ⟨BX, hBX⟩ : ∃ B, wc.heap.size = B := ⟨_, rfl⟩
        obtain ⟨WZ, hWZ⟩ : ∃ W, wc.alloc (.cells #[nilV, nilV, zeroV, zeroV, zeroV, nilV] 27) = W := ⟨_, rfl⟩
        have hbz : Below wT.heap.size wT WZ := Below.then hbc (by rw [← hWZ]; exact below_new _ _)
        have HIX := Lib.hid (show LedIn WZ BX nilLed by rw [← hWZ, ← hBX]; exact LedIn.nil (At6.new _ _ _ _ _ _ _ _))
        have HIL := Lib.hid (HIT.out.keep hbz)
        have HAZ := Lib.hid (HAT.out.keep hbz)
        have HRZ := Lib.hid (HRW.out.keep hbz)
        have HBZ := Lib.hid (Below.then HBT.out hbz)
        have HNE := Lib.hid (show BL ≠ BX by have h := HIT.out.lt; have h2 := hbc.size; omega)
        have HBX := Lib.hid (show w1.heap.size ≤ BX by have h := HBT.out.size; have h2 := hbc.size; omega)
        have HWZ := Lib.hid hWZ
        have HBXE := Lib.hid hBX
        clear hbc hbz hWZ HIT HAT HRW HBT
        go_upto_region 11 with fail
        rw [HWZ.out]
        clear hBX

        obtain ⟨n0, hn0⟩ : ∃ k, l.disk.secs.length = k := ⟨_, rfl⟩
        obtain ⟨n1, hn1⟩ : ∃ k, l.disk.dirty.length = k := ⟨_, rfl⟩
        obtain ⟨ne, hne⟩ : ∃ k, l.ents.length = k := ⟨_, rfl⟩
        obtain ⟨nh, hnh⟩ : ∃ k, l.half = k := ⟨_, rfl⟩
        obtain ⟨ng, hng⟩ : ∃ k, l.gen = k := ⟨_, rfl⟩
        obtain ⟨nu, hnu⟩ : ∃ k, l.used = k := ⟨_, rfl⟩

        obtain ⟨p1, k1, p2, k2, p3, k3, hA6, hLA⟩ := HIL.out.boxed hn0 hn1 hne hnh hng hnu
        have HA6 := Lib.hid hA6
        have CL := Lib.hid (show ∀ rn : Bool, Calls Tryz.prog (if rn = true then 21 else 22) #[.agg #[.slice p1 n0 k1, .slice p2 n1 k2, .int .i64 nh, .int .i64 ng, .int .i64 nu, .slice p3 ne k3], .slice (some ⟨tg, 0, none⟩) nt tc] WZ (LedOut (addL l rn ft) WZ) from fun rn => by
          cases rn
          · exact Add_t aD aS aZ _ _ l ft WZ (HE.out.keep (KW.out _ HBZ.out)) hLA HRZ.out RZ.out
          · exact Renew_t aD aS aZ _ _ l ft WZ (HE.out.keep (KW.out _ HBZ.out)) hLA HRZ.out RZ.out)
        clear hn0 hn1 hne hnh hng hnu hLA hA6
        have CL := CL.out rn
        have hany := addL_any HOK.out rn ft
        have HD1 := addL_dirty l rn ft
        obtain ⟨⟨lx, ex⟩, hadd⟩ : ∃ x, addL l rn ft = x := ⟨_, rfl⟩
        rw [hadd] at CL hany HD1
        have HD1 := Lib.hid HD1
        have HDL := Lib.hid HOK.out.dirty
        have HANY := Lib.hid (show (ex = 2 ∨ ex = 13) ∨ (ex = 0 ∧ LedOk lx ∧ lx.ents = esOf rn l.ents ft) by
          rcases hany with (e | e) | ⟨l', e, ho, he, -⟩
          · simp only [Prod.mk.injEq] at e; exact Or.inl (Or.inl e.2)
          · simp only [Prod.mk.injEq] at e; exact Or.inl (Or.inr e.2)
          · simp only [Prod.mk.injEq] at e; rw [e.1]; exact Or.inr ⟨e.2, ho, he⟩)
        clear hadd hany

        obtain ⟨m0, hm0⟩ : ∃ k, lx.disk.secs.length = k := ⟨_, rfl⟩
        obtain ⟨m1, hm1⟩ : ∃ k, lx.disk.dirty.length = k := ⟨_, rfl⟩
        obtain ⟨me, hme⟩ : ∃ k, lx.ents.length = k := ⟨_, rfl⟩
        obtain ⟨mh, hmh⟩ : ∃ k, lx.half = k := ⟨_, rfl⟩
        obtain ⟨mg, hmg⟩ : ∃ k, lx.gen = k := ⟨_, rfl⟩
        obtain ⟨mu, hmu⟩ : ∃ k, lx.used = k := ⟨_, rfl⟩

        have CL := Lib.hid (CL.mono fun _ _ h => LedOut.letters h hm0 hm1 hme hmh hmg hmu)
        clear hm0 hm1 hme hmh hmg hmu
        obtain ⟨a0, a1, a2, a3, a4, a5⟩ := HA6.out.cells
        obtain ⟨_, _, _, _, _, _, hA6d, -⟩ := HIX.out
        have HXD := Lib.hid hA6d
        clear hA6d
        cases rn with

        | true =>
          go_upto_region 13 with fail
          go_cut [14] from 48 to 52 (fun ev wx => ev = .int .i64 ex ∧ LedIn wx BX lx ∧ LedIn wx BL l ∧ Below w1.heap.size w1 wx ∧ StrsAt wx (.slice xa ke xc) l.ents ∧ StrRow wx (.slice (some ⟨tg, 0, none⟩) nt tc) ft)
          case first =>
            go_wp2_with fail
            refine CL.out.mono ?_
            rintro e wD ⟨q1, j1, q2, j2, q3, j3, rfl, hlD, hbD⟩
            obtain ⟨y0, y1, y2, y3, y4, y5⟩ := (HXD.out.keep hbD).free
            obtain ⟨z0, z1, z2, z3, z4, z5⟩ := (HXD.out.keep hbD).cells
            simp only
            go_wp2_with fail
            go_meet
            have hbA := Below.trans HBZ.out (hbD.mono HBZ.out.size)
            have hS := oldI_set (w0 := w1) (e1 := ex) (HIX.out.keep hbD) (HIL.out.keep hbD) HNE.out HDL.out HD1.out hlD hbA HBX.out
            have hns := (HIX.out.keep hbD).noStr (.slice q1 m0 j1) (.slice q2 m1 j2) (.int .i64 mh) (.int .i64 mg) (.int .i64 mu) (.slice q3 me j3)
            exact ⟨hS.1, hS.2.1, hS.2.2.1, hS.2.2.2, (HAZ.out.keep hbD).nst hns, (HRZ.out.keep hbD).nst hns⟩
          case rest =>
            obtain ⟨rfl, hIX, hIL, hbx, hax, hrx⟩ := hcut
            have HIX := Lib.hid hIX
            have HIL := Lib.hid hIL
            have HBW := Lib.hid hbx
            have HAX := Lib.hid hax
            have HRX := Lib.hid hrx
            clear hIX hIL hbx hax hrx a0 a1 a2 a3 a4 a5 CL HXD HA6 HAZ HRZ HBZ HWZ HBXE
            rcases HANY.out with (rfl | rfl) | ⟨rfl, hokx, hents⟩
            · go_wp2_with fail
              go_roundw
              case rel => exact ⟨i + 1, l, xa, xc, by omega, by go_num, by rw [HKE.out], by rw [HKE.out]; exact HAX.out, HOK.out, HIL.out, HBW.out⟩
              case measure => simp [intOf]; omega
            · go_wp2_with fail
              go_roundw
              case rel => exact ⟨i + 1, l, xa, xc, by omega, by go_num, by rw [HKE.out], by rw [HKE.out]; exact HAX.out, HOK.out, HIL.out, HBW.out⟩
              case measure => simp [intOf]; omega
            have HOX := Lib.hid hokx
            have HEX := Lib.hid hents
            have hnl := (show l.ents.length ≤ 1984 by obtain ⟨_, _, _, h, -⟩ := HOK.out; exact h.few.1)
            have hml := HML.out
            clear hokx hents HANY
            -- all that there are
            go_upto_region 18 with fail
            obtain ⟨i0, hi0, hz0, hz1, hz2⟩ := info_parts infoStr
            have S1 := HAX.out.src
            have S2 := HRX.out.at.src
            rw [HKE.out] at S1 hnl
            rw [HNT.out] at S2
            have S1 := Lib.hid S1
            have S2 := Lib.hid S2
            have HLT := Lib.hid (show (wc.alloc (.cells #[] 9)).ownsRow wc.heap.size 9 1 (.slice (some ⟨wc.heap.size, 0, none⟩) 0 0) 0 [] from World.ownsRow_lit wc #[] 0 (Nat.le_refl _) (Nat.zero_le _) rfl)
            go_upto_region 19 with (at_builtin; first
              | (refine wpList_append_src _ rfl _ _ 22 rfl wc.heap.size 9 i0 (.string ⟨#[]⟩) 1 16 Tryz.underlying22 hi0 hz0 hz1 hz2 rfl (by decide) _ _ _ rfl HOW.out _ nt _ rfl (S2.out.keep HW1.out) (by intro u hu; obtain ⟨t, _, rfl⟩ := List.mem_map.1 hu; rfl) (by unfold maxLen; omega) (by omega) HW1.out.size ?_
                 intro v2 w8 hown2 hgrow2
                 obtain ⟨ga, gc, rfl⟩ := row_shape hown2
                 have HOX2 := Lib.hid hown2
                 have HW2 := Lib.hid (grow_below HW1.out HOW.out hgrow2 (Nat.le_refl _) HW1.out.size)
                 clear hown2 hgrow2)
              | (refine wpList_append_src _ rfl _ _ 22 rfl wc.heap.size 9 i0 (.string ⟨#[]⟩) 1 16 Tryz.underlying22 hi0 hz0 hz1 hz2 rfl (by decide) _ 0 [] rfl HLT.out _ ke _ rfl (S1.out.keep (below_new _ _)) (by intro u hu; obtain ⟨t, _, rfl⟩ := List.mem_map.1 hu; rfl) (by unfold maxLen; omega) (by omega) (below_new wc (.cells #[] 9)).size ?_
                 intro v1 w7 hown1 hgrow1
                 have HW1 := Lib.hid (grow_below (below_new wc (.cells #[] 9)) HLT.out hgrow1 (Nat.le_refl _) (below_new wc (.cells #[] 9)).size)
                 rw [Nat.zero_add, List.nil_append] at hown1
                 have HOW := Lib.hid hown1
                 clear hown1 hgrow1))
            have HT := Lib.hid (show StrsAt w8 (.slice (some ⟨tg, 0, none⟩) nt tc) lx.ents from by rw [HEX.out]; exact (HRX.out.keep HW2.out).at)
            have HLX := Lib.hid (show lx.ents.length = nt from by rw [HEX.out]; exact HNT.out)
            have HB8 := Lib.hid (Below.trans HBW.out (HW2.out.mono HBW.out.size))
            have HIX := Lib.hid (HIX.out.keep HW2.out)
            have HIL := Lib.hid (HIL.out.keep HW2.out)
            clear S1 S2 HOX2 HOW HW1 HW2 HAX HRX HEX HLT
            clear hz0 hz1 hz2 hi0
            go_upto_region 21 with fail

            obtain ⟨m0, hm0⟩ : ∃ k, lx.disk.secs.length = k := ⟨_, rfl⟩
            obtain ⟨m1, hm1⟩ : ∃ k, lx.disk.dirty.length = k := ⟨_, rfl⟩
            obtain ⟨me, hme⟩ : ∃ k, lx.ents.length = k := ⟨_, rfl⟩
            obtain ⟨mh, hmh⟩ : ∃ k, lx.half = k := ⟨_, rfl⟩
            obtain ⟨mg, hmg⟩ : ∃ k, lx.gen = k := ⟨_, rfl⟩
            obtain ⟨mu, hmu⟩ : ∃ k, lx.used = k := ⟨_, rfl⟩

            obtain ⟨p1, k1, p2, k2, p3, k3, hA8, hL8⟩ := HIX.out.boxed hm0 hm1 hme hmh hmg hmu
            have hmx : me = nt := by rw [← hme]; exact HLX.out
            have OP := Open_t aD aS aZ _ lx.disk w8 (HE.out.keep (KW.out w8 HB8.out)) hL8.parts.1
            rw [HOX.out.open] at OP
            have OP := Lib.hid (OP.mono fun _ _ h => LedOut.letters h hm0 hm1 hme hmh hmg hmu)
            have HA8 := Lib.hid hA8
            have HL8 := Lib.hid hL8
            have HMX := Lib.hid hmx
            obtain ⟨_, _, _, _, _, _, hAL, -⟩ := HIL.out
            have HAL := Lib.hid hAL
            obtain ⟨a0, a1, a2, a3, a4, a5⟩ := hA8.cells
            clear hm0 hm1 hme hmh hmg hmu hA8 hL8 hAL hmx
            go_wp2_with fail
            refine OP.out.mono ?_
            rintro e w9 ⟨o1, i1, o2, i2, o3, i3, rfl, hl9, hb9⟩
            obtain ⟨WA, hWA⟩ : ∃ W, w9.alloc (.cells #[.slice o1 m0 i1, .slice o2 m1 i2, .int .i64 mh, .int .i64 mg, .int .i64 mu, .slice o3 me i3] 27) = W := ⟨_, rfl⟩
            have hbA : Below w8.heap.size w8 WA := Below.then hb9 (by rw [← hWA]; exact below_new _ _)
            have HO6 := Lib.hid (show At6 27 WA w9.heap.size (.slice o1 m0 i1) (.slice o2 m1 i2) (.int .i64 mh) (.int .i64 mg) (.int .i64 mu) (.slice o3 me i3) by rw [← hWA]; exact At6.new _ _ _ _ _ _ _ _)
            have HES := Lib.hid (show StrsAt WA (.slice o3 me i3) lx.ents by rw [← hWA]; exact (hl9.parts.2.1).keep (below_new _ _))
            have HLW := Lib.hid (HL8.out.keep hbA)
            have HAW := Lib.hid (HA8.out.keep hbA)
            have HILW := Lib.hid (HIL.out.keep hbA)
            have HALW := Lib.hid (HAL.out.keep hbA)
            have HTW := Lib.hid (HT.out.keep hbA)
            have HBW2 := Lib.hid (Below.trans HB8.out (hbA.mono HB8.out.size))
            have HNO := Lib.hid (show w9.heap.size ≠ BL by have h := HIL.out.lt; have h2 := hb9.size; omega)
            have HWA := Lib.hid hWA
            clear hWA hbA hl9 hb9 a0 a1 a2 a3 a4 a5 OP HL8 HA8 HIL HAL HT HIX
            simp only
            go_upto_region 22 with fail
            rw [HWA.out]
            obtain ⟨BO, hBO⟩ : ∃ B, w9.heap.size = B := ⟨_, rfl⟩
            rw [hBO] at HO6 HNO ⊢
            clear hBO
            obtain ⟨a0, a1, a2, a3, a4, a5⟩ := HAW.out.cells
            obtain ⟨y0, y1, y2, y3, y4, y5⟩ := HALW.out.free
            obtain ⟨z0, z1, z2, z3, z4, z5⟩ := HALW.out.cells
            obtain ⟨WB, hWB⟩ : ∃ W, set6 WA BL (.slice p1 m0 k1) (.slice p2 m1 k2) (.int .i64 mh) (.int .i64 mg) (.int .i64 mu) (.slice p3 me k3) = W := ⟨_, rfl⟩
            have hns : NSt WA WB := by rw [← hWB]; exact HILW.out.noStr _ _ _ _ _ _
            have HIB := Lib.hid (show LedIn WB BL lx by rw [← hWB]; exact HILW.out.set HLW.out HD1.out)
            have HA2 := Lib.hid (show At6 27 WB BL (.slice p1 m0 k1) (.slice p2 m1 k2) (.int .i64 mh) (.int .i64 mg) (.int .i64 mu) (.slice p3 me k3) by rw [← hWB]; exact HALW.out.set _ _ _ _ _ _)
            have HL2 := Lib.hid (HLW.out.nst HD1.out hns)
            have HT2 := Lib.hid (HTW.out.nst hns)
            have HES2 := Lib.hid (HES.out.nst hns)
            have HO2 := Lib.hid (show At6 27 WB BO (.slice o1 m0 i1) (.slice o2 m1 i2) (.int .i64 mh) (.int .i64 mg) (.int .i64 mu) (.slice o3 me i3) by rw [← hWB]; exact HO6.out.other (set6_block WA BL BO _ _ _ _ _ _ HNO.out))
            have HBB := Lib.hid (show Below w1.heap.size w1 WB by rw [← hWB]; exact set6_below HBW2.out HBL.out _ _ _ _ _ _)
            unfold set6 at hWB
            have HWB := Lib.hid hWB
            clear hWB hns HLW HTW HES HILW
            go_upto_region 23 with fail
            rw [HWB.out]
            clear a0 a1 a2 a3 a4 a5 y0 y1 y2 y3 y4 y5 z0 z1 z2 z3 z4 z5 HWB HWA HALW HAW HO6
            obtain ⟨a0, a1, a2, a3, a4, a5⟩ := HA2.out.cells
            have SA := Lib.hid (same_eq _ _ lx.ents lx.ents WB HL2.out.parts.2.1 HT2.out rfl)
            go_wp2_with fail
            refine SA.out.mono ?_
            rintro e x1 ⟨rfl, hx1⟩
            have SB := Lib.hid (same_eq _ _ lx.ents lx.ents x1 (HES2.out.keep hx1) (HT2.out.keep hx1) rfl)
            obtain ⟨b0, b1, b2, b3, b4, b5⟩ := (HO2.out.keep hx1).cells
            have HX1 := Lib.hid hx1
            clear hx1 a0 a1 a2 a3 a4 a5 SA
            go_wp2_with fail
            refine SB.out.mono ?_
            rintro e x2 ⟨rfl, hx2⟩
            have HX2 := Lib.hid (Below.then HX1.out hx2)
            have SR := lRight_t aD aS aZ _ lx x2 (HE.out.keep (KW.out x2 (Below.trans HBB.out (HX2.out.mono HBB.out.size)))) (HL2.out.keep HX2.out)
            rw [HOX.out.right] at SR
            have SR := Lib.hid SR
            obtain ⟨a0, a1, a2, a3, a4, a5⟩ := (HA2.out.keep HX2.out).cells
            clear hx2 b0 b1 b2 b3 b4 b5 SB
            go_wp2_with fail
            refine SR.out.mono ?_
            rintro e x3 ⟨rfl, hx3⟩
            have HX3 := Lib.hid (Below.then HX2.out hx3)
            clear hx3 a0 a1 a2 a3 a4 a5 SR
            go_wp2_with fail
            go_roundw
            case rel => exact ⟨i + 1, lx, (some ⟨tg, 0, none⟩), tc, by omega, by go_num, by rw [HLX.out], by rw [HLX.out]; exact HT2.out.keep HX3.out, HOX.out, HIB.out.keep HX3.out, Below.trans HBB.out (HX3.out.mono HBB.out.size)⟩
            case measure => simp [intOf]; omega

        | false =>
          go_upto_region 14 with fail
          go_cut [14] from 54 to 58 (fun ev wx => ev = .int .i64 ex ∧ LedIn wx BX lx ∧ LedIn wx BL l ∧ Below w1.heap.size w1 wx ∧ StrsAt wx (.slice xa ke xc) l.ents ∧ StrRow wx (.slice (some ⟨tg, 0, none⟩) nt tc) ft)
          case first =>
            go_wp2_with fail
            refine CL.out.mono ?_
            rintro e wD ⟨q1, j1, q2, j2, q3, j3, rfl, hlD, hbD⟩
            obtain ⟨y0, y1, y2, y3, y4, y5⟩ := (HXD.out.keep hbD).free
            obtain ⟨z0, z1, z2, z3, z4, z5⟩ := (HXD.out.keep hbD).cells
            simp only
            go_wp2_with fail
            go_meet
            have hbA := Below.trans HBZ.out (hbD.mono HBZ.out.size)
            have hS := oldI_set (w0 := w1) (e1 := ex) (HIX.out.keep hbD) (HIL.out.keep hbD) HNE.out HDL.out HD1.out hlD hbA HBX.out
            have hns := (HIX.out.keep hbD).noStr (.slice q1 m0 j1) (.slice q2 m1 j2) (.int .i64 mh) (.int .i64 mg) (.int .i64 mu) (.slice q3 me j3)
            exact ⟨hS.1, hS.2.1, hS.2.2.1, hS.2.2.2, (HAZ.out.keep hbD).nst hns, (HRZ.out.keep hbD).nst hns⟩
          case rest =>
            obtain ⟨rfl, hIX, hIL, hbx, hax, hrx⟩ := hcut
            have HIX := Lib.hid hIX
            have HIL := Lib.hid hIL
            have HBW := Lib.hid hbx
            have HAX := Lib.hid hax
            have HRX := Lib.hid hrx
            clear hIX hIL hbx hax hrx a0 a1 a2 a3 a4 a5 CL HXD HA6 HAZ HRZ HBZ HWZ HBXE
            rcases HANY.out with (rfl | rfl) | ⟨rfl, hokx, hents⟩
            · go_wp2_with fail
              go_roundw
              case rel => exact ⟨i + 1, l, xa, xc, by omega, by go_num, by rw [HKE.out], by rw [HKE.out]; exact HAX.out, HOK.out, HIL.out, HBW.out⟩
              case measure => simp [intOf]; omega
            · go_wp2_with fail
              go_roundw
              case rel => exact ⟨i + 1, l, xa, xc, by omega, by go_num, by rw [HKE.out], by rw [HKE.out]; exact HAX.out, HOK.out, HIL.out, HBW.out⟩
              case measure => simp [intOf]; omega
            have HOX := Lib.hid hokx
            have HEX := Lib.hid hents
            have hnl := (show l.ents.length ≤ 1984 by obtain ⟨_, _, _, h, -⟩ := HOK.out; exact h.few.1)
            have hml := HML.out
            clear hokx hents HANY
            -- all that there are
            go_upto_region 18 with fail
            obtain ⟨i0, hi0, hz0, hz1, hz2⟩ := info_parts infoStr
            have S1 := HAX.out.src
            have S2 := HRX.out.at.src
            rw [HKE.out] at S1 hnl
            rw [HNT.out] at S2
            have S1 := Lib.hid S1
            have S2 := Lib.hid S2
            have HLT := Lib.hid (show (wc.alloc (.cells #[] 9)).ownsRow wc.heap.size 9 1 (.slice (some ⟨wc.heap.size, 0, none⟩) 0 0) 0 [] from World.ownsRow_lit wc #[] 0 (Nat.le_refl _) (Nat.zero_le _) rfl)
            go_upto_region 19 with (at_builtin; first
              | (refine wpList_append_src _ rfl _ _ 22 rfl wc.heap.size 9 i0 (.string ⟨#[]⟩) 1 16 Tryz.underlying22 hi0 hz0 hz1 hz2 rfl (by decide) _ _ _ rfl HOW.out _ nt _ rfl (S2.out.keep HW1.out) (by intro u hu; obtain ⟨t, _, rfl⟩ := List.mem_map.1 hu; rfl) (by unfold maxLen; omega) (by omega) HW1.out.size ?_
                 intro v2 w8 hown2 hgrow2
                 obtain ⟨ga, gc, rfl⟩ := row_shape hown2
                 have HOX2 := Lib.hid hown2
                 have HW2 := Lib.hid (grow_below HW1.out HOW.out hgrow2 (Nat.le_refl _) HW1.out.size)
                 clear hown2 hgrow2)
              | (refine wpList_append_src _ rfl _ _ 22 rfl wc.heap.size 9 i0 (.string ⟨#[]⟩) 1 16 Tryz.underlying22 hi0 hz0 hz1 hz2 rfl (by decide) _ 0 [] rfl HLT.out _ ke _ rfl (S1.out.keep (below_new _ _)) (by intro u hu; obtain ⟨t, _, rfl⟩ := List.mem_map.1 hu; rfl) (by unfold maxLen; omega) (by omega) (below_new wc (.cells #[] 9)).size ?_
                 intro v1 w7 hown1 hgrow1
                 have HW1 := Lib.hid (grow_below (below_new wc (.cells #[] 9)) HLT.out hgrow1 (Nat.le_refl _) (below_new wc (.cells #[] 9)).size)
                 rw [Nat.zero_add, List.nil_append] at hown1
                 have HOW := Lib.hid hown1
                 clear hown1 hgrow1))
            have HT := Lib.hid (show StrsAt w8 (.slice ga (ke + nt) gc) lx.ents from by rw [HEX.out]; exact StrsAt.of_own (by show w8.ownsRow _ _ _ _ _ ((l.ents ++ ft).map Value.string); rw [List.map_append]; exact HOX2.out) (by show (l.ents ++ ft).length = _; rw [List.length_append, HKE.out, HNT.out]))
            have HLX := Lib.hid (show lx.ents.length = ke + nt from by rw [HEX.out]; show (l.ents ++ ft).length = _; rw [List.length_append, HKE.out, HNT.out])
            have HB8 := Lib.hid (Below.trans HBW.out (HW2.out.mono HBW.out.size))
            have HIX := Lib.hid (HIX.out.keep HW2.out)
            have HIL := Lib.hid (HIL.out.keep HW2.out)
            clear S1 S2 HOX2 HOW HW1 HW2 HAX HRX HEX HLT
            clear hz0 hz1 hz2 hi0
            go_upto_region 21 with fail

            obtain ⟨m0, hm0⟩ : ∃ k, lx.disk.secs.length = k := ⟨_, rfl⟩
            obtain ⟨m1, hm1⟩ : ∃ k, lx.disk.dirty.length = k := ⟨_, rfl⟩
            obtain ⟨me, hme⟩ : ∃ k, lx.ents.length = k := ⟨_, rfl⟩
            obtain ⟨mh, hmh⟩ : ∃ k, lx.half = k := ⟨_, rfl⟩
            obtain ⟨mg, hmg⟩ : ∃ k, lx.gen = k := ⟨_, rfl⟩
            obtain ⟨mu, hmu⟩ : ∃ k, lx.used = k := ⟨_, rfl⟩

            obtain ⟨p1, k1, p2, k2, p3, k3, hA8, hL8⟩ := HIX.out.boxed hm0 hm1 hme hmh hmg hmu
            have hmx : me = (ke + nt) := by rw [← hme]; exact HLX.out
            have OP := Open_t aD aS aZ _ lx.disk w8 (HE.out.keep (KW.out w8 HB8.out)) hL8.parts.1
            rw [HOX.out.open] at OP
            have OP := Lib.hid (OP.mono fun _ _ h => LedOut.letters h hm0 hm1 hme hmh hmg hmu)
            have HA8 := Lib.hid hA8
            have HL8 := Lib.hid hL8
            have HMX := Lib.hid hmx
            obtain ⟨_, _, _, _, _, _, hAL, -⟩ := HIL.out
            have HAL := Lib.hid hAL
            obtain ⟨a0, a1, a2, a3, a4, a5⟩ := hA8.cells
            clear hm0 hm1 hme hmh hmg hmu hA8 hL8 hAL hmx
            go_wp2_with fail
            refine OP.out.mono ?_
            rintro e w9 ⟨o1, i1, o2, i2, o3, i3, rfl, hl9, hb9⟩
            obtain ⟨WA, hWA⟩ : ∃ W, w9.alloc (.cells #[.slice o1 m0 i1, .slice o2 m1 i2, .int .i64 mh, .int .i64 mg, .int .i64 mu, .slice o3 me i3] 27) = W := ⟨_, rfl⟩
            have hbA : Below w8.heap.size w8 WA := Below.then hb9 (by rw [← hWA]; exact below_new _ _)
            have HO6 := Lib.hid (show At6 27 WA w9.heap.size (.slice o1 m0 i1) (.slice o2 m1 i2) (.int .i64 mh) (.int .i64 mg) (.int .i64 mu) (.slice o3 me i3) by rw [← hWA]; exact At6.new _ _ _ _ _ _ _ _)
            have HES := Lib.hid (show StrsAt WA (.slice o3 me i3) lx.ents by rw [← hWA]; exact (hl9.parts.2.1).keep (below_new _ _))
            have HLW := Lib.hid (HL8.out.keep hbA)
            have HAW := Lib.hid (HA8.out.keep hbA)
            have HILW := Lib.hid (HIL.out.keep hbA)
            have HALW := Lib.hid (HAL.out.keep hbA)
            have HTW := Lib.hid (HT.out.keep hbA)
            have HBW2 := Lib.hid (Below.trans HB8.out (hbA.mono HB8.out.size))
            have HNO := Lib.hid (show w9.heap.size ≠ BL by have h := HIL.out.lt; have h2 := hb9.size; omega)
            have HWA := Lib.hid hWA
            clear hWA hbA hl9 hb9 a0 a1 a2 a3 a4 a5 OP HL8 HA8 HIL HAL HT HIX
            simp only
            go_upto_region 22 with fail
            rw [HWA.out]
            obtain ⟨BO, hBO⟩ : ∃ B, w9.heap.size = B := ⟨_, rfl⟩
            rw [hBO] at HO6 HNO ⊢
            clear hBO
            obtain ⟨a0, a1, a2, a3, a4, a5⟩ := HAW.out.cells
            obtain ⟨y0, y1, y2, y3, y4, y5⟩ := HALW.out.free
            obtain ⟨z0, z1, z2, z3, z4, z5⟩ := HALW.out.cells
            obtain ⟨WB, hWB⟩ : ∃ W, set6 WA BL (.slice p1 m0 k1) (.slice p2 m1 k2) (.int .i64 mh) (.int .i64 mg) (.int .i64 mu) (.slice p3 me k3) = W := ⟨_, rfl⟩
            have hns : NSt WA WB := by rw [← hWB]; exact HILW.out.noStr _ _ _ _ _ _
            have HIB := Lib.hid (show LedIn WB BL lx by rw [← hWB]; exact HILW.out.set HLW.out HD1.out)
            have HA2 := Lib.hid (show At6 27 WB BL (.slice p1 m0 k1) (.slice p2 m1 k2) (.int .i64 mh) (.int .i64 mg) (.int .i64 mu) (.slice p3 me k3) by rw [← hWB]; exact HALW.out.set _ _ _ _ _ _)
            have HL2 := Lib.hid (HLW.out.nst HD1.out hns)
            have HT2 := Lib.hid (HTW.out.nst hns)
            have HES2 := Lib.hid (HES.out.nst hns)
            have HO2 := Lib.hid (show At6 27 WB BO (.slice o1 m0 i1) (.slice o2 m1 i2) (.int .i64 mh) (.int .i64 mg) (.int .i64 mu) (.slice o3 me i3) by rw [← hWB]; exact HO6.out.other (set6_block WA BL BO _ _ _ _ _ _ HNO.out))
            have HBB := Lib.hid (show Below w1.heap.size w1 WB by rw [← hWB]; exact set6_below HBW2.out HBL.out _ _ _ _ _ _)
            unfold set6 at hWB
            have HWB := Lib.hid hWB
            clear hWB hns HLW HTW HES HILW
            go_upto_region 23 with fail
            rw [HWB.out]
            clear a0 a1 a2 a3 a4 a5 y0 y1 y2 y3 y4 y5 z0 z1 z2 z3 z4 z5 HWB HWA HALW HAW HO6
            obtain ⟨a0, a1, a2, a3, a4, a5⟩ := HA2.out.cells
            have SA := Lib.hid (same_eq _ _ lx.ents lx.ents WB HL2.out.parts.2.1 HT2.out rfl)
            go_wp2_with fail
            refine SA.out.mono ?_
            rintro e x1 ⟨rfl, hx1⟩
            have SB := Lib.hid (same_eq _ _ lx.ents lx.ents x1 (HES2.out.keep hx1) (HT2.out.keep hx1) rfl)
            obtain ⟨b0, b1, b2, b3, b4, b5⟩ := (HO2.out.keep hx1).cells
            have HX1 := Lib.hid hx1
            clear hx1 a0 a1 a2 a3 a4 a5 SA
            go_wp2_with fail
            refine SB.out.mono ?_
            rintro e x2 ⟨rfl, hx2⟩
            have HX2 := Lib.hid (Below.then HX1.out hx2)
            have SR := lRight_t aD aS aZ _ lx x2 (HE.out.keep (KW.out x2 (Below.trans HBB.out (HX2.out.mono HBB.out.size)))) (HL2.out.keep HX2.out)
            rw [HOX.out.right] at SR
            have SR := Lib.hid SR
            obtain ⟨a0, a1, a2, a3, a4, a5⟩ := (HA2.out.keep HX2.out).cells
            clear hx2 b0 b1 b2 b3 b4 b5 SB
            go_wp2_with fail
            refine SR.out.mono ?_
            rintro e x3 ⟨rfl, hx3⟩
            have HX3 := Lib.hid (Below.then HX2.out hx3)
            clear hx3 a0 a1 a2 a3 a4 a5 SR
            go_wp2_with fail
            go_roundw
            case rel => exact ⟨i + 1, lx, ga, gc, by omega, by go_num, by rw [HLX.out], by rw [HLX.out]; exact HT2.out.keep HX3.out, HOX.out, HIB.out.keep HX3.out, Below.trans HBB.out (HX3.out.mono HBB.out.size)⟩
            case measure => simp [intOf]; omega

  case rest =>
    have HBC := Lib.hid hcut
    have ALC := Lib.hid (AL.out wc (KW.out wc HBC.out))
    clear hcut
    go_wp2_with fail
    refine ALC.out.mono ?_
    rintro e w3 ⟨rfl, hb3⟩
    have HBF := Lib.hid (KW.out w3 (Below.trans HBC.out (hb3.mono HBC.out.size)))
    clear hb3 ALC
    go_wp2_with fail
    go_ret
    exact ⟨rfl, HBF.out⟩
end Go.Proofs.YtkplpodljmlanaaGreatDoor
