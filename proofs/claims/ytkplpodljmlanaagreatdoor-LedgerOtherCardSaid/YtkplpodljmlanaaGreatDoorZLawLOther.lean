/-
  LedgerOther returns true at every input, and changes nothing that was there. Conditions: octet's errors lie where they lie.
-/
import Derived.Test.YtkplpodljmlanaaGreatDoorZLed5
import Derived.BigQuiet
namespace Go.Proofs.YtkplpodljmlanaaGreatDoor
open Go.RowKit Go.WideShapes

set_option maxRecDepth 100000 in
set_option maxHeartbeats 16000000 in
theorem other_any (aD aS aZ : Addr) (sectors pl : Int) (c : UInt8) (vl vm : Value) (sl sm : List ByteArray) (w : World) (he : Env w aD aS aZ) (hl : StrsAt w vl sl) (hm : StrsAt w vm sm) (zl : ∀ s ∈ sl, s.size ≤ maxLen) (zm : ∀ s ∈ sm, s.size ≤ maxLen) :
    Calls Tryz.prog 10 #[.int .i64 sectors, vl, vm, .int .i64 pl, .int .u8 (c.toNat : Int)] w fun e w' => e = .returned (.bool true) ∧ Below w.heap.size w w' := by
  have HE := Lib.hid he
  obtain ⟨mx, n, hmx, hmn, h6, h64⟩ := clamp6 sectors
  obtain ⟨nl, hnl⟩ : ∃ k, (fewB sl).length = k := ⟨_, rfl⟩
  obtain ⟨nm, hnm⟩ : ∃ k, (fewB sm).length = k := ⟨_, rfl⟩
  have TL := Lib.hid (fun w' (hb : Below w.heap.size w w') => texts_at vl sl nl hnl w' (hl.keep hb) zl)
  have TM := Lib.hid (fun w' (hb : Below w.heap.size w w') => texts_at vm sm nm hnm w' (hm.keep hb) zm)
  have AL := Lib.hid (fun w' (hb : Below w.heap.size w w') => alive_t aD aS aZ w' (he.keep hb))
  have FZ := Lib.hid (fewB_max sl)
  have MZ := Lib.hid (fewB_max sm)
  obtain ⟨fl, hfl⟩ : ∃ k, fewB sl = k := ⟨_, rfl⟩
  obtain ⟨fm, hfm⟩ : ∃ k, fewB sm = k := ⟨_, rfl⟩
  rw [hfl] at TL FZ
  rw [hfm] at TM MZ
  have HOP0 := Lib.hid (fmt_opens n (by omega) h64)
  have HLEN := Lib.hid (fmtD_len n)
  have FM := Format_t aD aS aZ n w he
  rw [formatL_ok n (by omega) h64] at FM
  have FM := Lib.hid FM
  obtain ⟨la, lca, rfl, -, -⟩ := hl.shape
  obtain ⟨ma, mca, rfl, -, -⟩ := hm.shape
  obtain ⟨kl, hkl⟩ : ∃ k, sl.length = k := ⟨_, rfl⟩
  obtain ⟨km, hkm⟩ : ∃ k, sm.length = k := ⟨_, rfl⟩
  rw [hkl] at TL ⊢
  rw [hkm] at TM ⊢
  clear he hl hm zl zm hnl hnm hfl hfm hkl hkm
  go_enter Tryz.func10, Tryz.ntmps10
  go_wp2_with fail
  refine FM.out.mono ?_
  rintro e w1 ⟨v, rfl, hl1, hb1⟩
  obtain ⟨a, cc, a', c', b, k, rfl⟩ := hl1.boxed (n0 := n) (n1 := 0) (ne := 0) (lh := 0) (lg := 1) (lu := 0) HLEN.out rfl rfl rfl rfl rfl
  simp only at hl1
  obtain ⟨B11, hB11⟩ : ∃ B, w1.heap.size = B := ⟨_, rfl⟩
  obtain ⟨W2, hW2⟩ : ∃ W, w1.alloc (.cells #[.slice a n cc, .slice a' 0 c', .int .i64 0, .int .i64 1, .int .i64 0, .slice b 0 k] 27) = W := ⟨_, rfl⟩
  have hbb2 : Below w1.heap.size w1 W2 := by rw [← hW2]; exact below_new _ _
  have HBB2 := Lib.hid hbb2
  have HI11 := Lib.hid (show LedIn W2 B11 ⟨fmtD n, 0, 1, 0, []⟩ by rw [← hW2, ← hB11]; exact LedIn.new hl1)
  have HA11 := Lib.hid (show At6 27 W2 B11 (.slice a n cc) (.slice a' 0 c') (.int .i64 0) (.int .i64 1) (.int .i64 0) (.slice b 0 k) by rw [← hW2, ← hB11]; exact At6.new _ _ _ _ _ _ _ _)
  have HL11 := Lib.hid (show LedAt W2 (.agg #[.slice a n cc, .slice a' 0 c', .int .i64 0, .int .i64 1, .int .i64 0, .slice b 0 k]) ⟨fmtD n, 0, 1, 0, []⟩ by rw [← hW2]; exact hl1.keep (below_new _ _))
  have KW := Lib.hid (show ∀ w', Below w1.heap.size w1 w' → Below w.heap.size w w' from fun w' hb => Below.then hb1 hb)
  have HB11 := Lib.hid (show w1.heap.size ≤ B11 from Nat.le_of_eq hB11)
  have HW2 := Lib.hid hW2
  have TLW := Lib.hid (fun w' (hb : Below W2.heap.size W2 w') => TL.out w' (KW.out w' (Below.then hbb2 hb)))
  have AD := (show ∀ w' tg tc, Below W2.heap.size W2 w' → StrRow w' (.slice (some ⟨tg, 0, none⟩) nl tc) fl → Calls Tryz.prog 22 #[.agg #[.slice a n cc, .slice a' 0 c', .int .i64 0, .int .i64 1, .int .i64 0, .slice b 0 k], .slice (some ⟨tg, 0, none⟩) nl tc] w' (LedOut (addL ⟨fmtD n, 0, 1, 0, []⟩ false fl) w') from fun w' tg tc hb hr => Add_t aD aS aZ _ _ ⟨fmtD n, 0, 1, 0, []⟩ fl w' (HE.out.keep (KW.out w' (Below.then HBB2.out hb))) (HL11.out.keep hb) hr FZ.out)
  clear hW2 hl1 hb1 hbb2 FM
  go_upto_region 3 with fail
  rw [HW2.out]
  clear hB11
  obtain ⟨⟨l1, e1⟩, hadd⟩ : ∃ x, addL ⟨fmtD n, 0, 1, 0, []⟩ false fl = x := ⟨_, rfl⟩
  have HD1 := addL_dirty ⟨fmtD n, 0, 1, 0, []⟩ false fl
  rw [hadd] at AD HD1
  have HD1 := Lib.hid HD1
  have HST1 := Lib.hid (addL_st HOP0.out hadd)
  clear hadd

  obtain ⟨n0, hn0⟩ : ∃ k, l1.disk.secs.length = k := ⟨_, rfl⟩
  obtain ⟨n1, hn1⟩ : ∃ k, l1.disk.dirty.length = k := ⟨_, rfl⟩
  obtain ⟨ne, hne⟩ : ∃ k, l1.ents.length = k := ⟨_, rfl⟩
  obtain ⟨nh, hnh⟩ : ∃ k, l1.half = k := ⟨_, rfl⟩
  obtain ⟨ng, hng⟩ : ∃ k, l1.gen = k := ⟨_, rfl⟩
  obtain ⟨nu, hnu⟩ : ∃ k, l1.used = k := ⟨_, rfl⟩

  have ADL := Lib.hid (fun w' tg tc hb hr => (AD w' tg tc hb hr).mono fun _ _ h => LedOut.letters h hn0 hn1 hne hnh hng hnu)
  clear AD hn0 hn1 hne hnh hng hnu
  obtain ⟨a0, a1, a2, a3, a4, a5⟩ := HA11.out.cells
  go_cut [13] from 35 to 40 (fun ev wx => ev = .int .i64 e1 ∧ LedIn wx B11 l1 ∧ Below w1.heap.size w1 wx)
  case first =>
    have hbA := Below.refl W2.heap.size W2

    obtain ⟨y0, y1, y2, y3, y4, y5⟩ := HA11.out.free
    obtain ⟨z0, z1, z2, z3, z4, z5⟩ := HA11.out.cells
    go_region_law (first
        | (go_simp; go_at_call 19
           refine (TLW.out _ (by first | exact hbA | exact hbA.drew | exact Below.then hbA (below_new _ _) | exact Below.then hbA.drew (below_new _ _) | exact (Below.then hbA (below_new _ _)).drew)).mono ?_
           rintro e wT ⟨tg, tc, rfl, hrow, hbT⟩
           have hbA : Below W2.heap.size W2 wT := (by first | exact Below.then hbA hbT | exact Below.then hbA.drew hbT | exact Below.then (Below.then hbA (below_new _ _)) hbT | exact Below.then (Below.then hbA.drew (below_new _ _)) hbT | exact Below.then (Below.then hbA (below_new _ _)).drew hbT)
           obtain ⟨a0, a1, a2, a3, a4, a5⟩ := (HA11.out.keep hbA).cells)
        | (go_simp; go_at_call 22
           refine (ADL.out _ _ _ (by first | exact hbA | exact hbA.drew | exact Below.then hbA (below_new _ _) | exact Below.then hbA.drew (below_new _ _) | exact (Below.then hbA (below_new _ _)).drew) hrow).mono ?_
           rintro e wD ⟨q1, j1, q2, j2, q3, j3, rfl, hlD, hbD⟩
           have hbA : Below W2.heap.size W2 wD := (by first | exact Below.then hbA hbD | exact Below.then hbA.drew hbD | exact Below.then (Below.then hbA (below_new _ _)) hbD | exact Below.then (Below.then hbA.drew (below_new _ _)) hbD | exact Below.then (Below.then hbA (below_new _ _)).drew hbD)
           obtain ⟨y0, y1, y2, y3, y4, y5⟩ := (HA11.out.keep hbA).free
           obtain ⟨z0, z1, z2, z3, z4, z5⟩ := (HA11.out.keep hbA).cells))

    all_goals
      go_wp2_with fail
      go_meet
      with_reducible exact selfI_set (HI11.out.keep hbA) HD1.out hlD (Below.then HBB2.out hbA) HB11.out
  case rest =>
    obtain ⟨rfl, hI11, hbc⟩ := hcut
    have HIC := Lib.hid hI11
    have HBC := Lib.hid hbc
    have ALC := Lib.hid (AL.out wc (KW.out wc hbc))
    clear hI11 hbc a0 a1 a2 a3 a4 a5 ADL TL TLW HA11 HL11 HI11 HBB2 HW2
    go_wp2_with fail
    refine ALC.out.mono ?_
    rintro e w5 ⟨rfl, hb5⟩
    have HB5 := Lib.hid (show Below w1.heap.size w1 w5 from Below.trans HBC.out (hb5.mono HBC.out.size))
    have HI5 := Lib.hid (HIC.out.keep hb5)
    clear hb5 ALC HIC HBC
    rcases HST1.out with ⟨-, he⟩ | ⟨rfl, hgo, hl1⟩
    · have HBF := Lib.hid (KW.out w5 HB5.out)
      rcases he with rfl | rfl
      · go_wp2_with fail
        go_ret
        exact ⟨rfl, HBF.out⟩
      · go_wp2_with fail
        go_ret
        exact ⟨rfl, HBF.out⟩
    have hnx := hgo.next
    obtain ⟨d1, hd1⟩ : ∃ d, nextD (fmtD n) 0 1 0 false fl = d := ⟨_, rfl⟩
    obtain ⟨u1, hu1⟩ : ∃ d, usedOf (fmtD n) 0 0 false fl = d := ⟨_, rfl⟩
    rw [hd1, hu1] at hnx hl1
    have hop1 : Opens d1 0 1 u1 fl := hnx
    have hl1' : l1 = ⟨d1, (0 : Nat), (1 : Nat), u1, fl⟩ := hl1
    have hd1n : d1.secs.length = n := by rw [← hd1, nextD_len, fmtD_len]
    subst hl1'
    have HOP1 := Lib.hid hop1
    have HD1N := Lib.hid hd1n
    clear hgo hnx hd1 hu1 hop1 hl1 hd1n HST1
    obtain ⟨hh, hhe⟩ : ∃ x, n / 2 = x := ⟨_, rfl⟩
    have hhi : (n : Int) / 2 = (hh : Int) := by omega
    have hht : (n : Int).tdiv 2 = (hh : Int) := by rw [Int.tdiv_eq_ediv_of_nonneg (by omega)]; exact hhi
    have hh32 : hh ≤ 32 := by omega
    have hh3 : 3 ≤ hh := by omega
    obtain ⟨r, x, hr1, hr2, hx1, hra, hrb⟩ := other_place pl hh hh3
    obtain ⟨K, hK⟩ : ∃ K : Nat, (hh : Int) + 1 + (x : Int) = (K : Int) := ⟨hh + 1 + x, by omega⟩
    have hKl : K ≤ 64 := by omega
    have hho : hOf d1 = hh := by unfold hOf; rw [HD1N.out]; exact hhe
    have HPO := Lib.hid (show ∀ s : ByteArray, s.size = 128 → Opens (putD d1 K s) 0 1 u1 fl from fun s hs => put_opens HOP1.out (by rw [hho]; omega) (by rw [hho]; omega) hs)
    have HPF := Lib.hid (show ∀ s : ByteArray, s.size = 128 → saveD d1 [((K : Int), s)] = (⟨d1.secs, [((K : Int), s)]⟩, 0) ∧ flushD ⟨d1.secs, [((K : Int), s)]⟩ = (putD d1 K s, 0) from fun s hs => put_flush HOP1.out.right HOP1.out.clean (by rw [HD1N.out]; omega) hs)
    clear hho
    obtain ⟨i0, hi, hz0, hz1, hz2⟩ := info_parts infoByte
    go_upto_region 10 with fail
    go_upto_region 11 with (at_make; refine wpList_make_full w5 rfl _ _ 63 rfl w5.heap.size 5 i0 (.int .u8 0) 1 Tryz.underlying63 hi hz0 hz1 .i64 .i64 128 128 128 rfl rfl rfl rfl ?c1 ?c2 ?c3 ?_; rotate_left 3; intro w6 hown hgrow)
    case c1 => rw [hz2]; omega
    case c2 => unfold maxLen; omega
    case c3 => exact Nat.le_refl _
    rw [bytes_zero c] at hown
    obtain ⟨BG, hBG⟩ : ∃ B, w5.heap.size = B := ⟨_, rfl⟩
    rw [hBG] at hown ⊢
    have hb6 : Below w5.heap.size w5 w6 := (Below.refl _ _).grown hgrow (Nat.le_refl _) (fun _ e => by cases e)
    have HBGE := Lib.hid (Nat.le_of_eq hBG)
    have HOWN := Lib.hid hown
    have HB6 := Lib.hid hb6
    clear hown hgrow hb6 hz0 hz1 hz2 hi hBG
    go_wp2_with fail
    go_loopw [73] (fun iv wr => ∃ j : Nat, j ≤ 128 ∧ iv = .int .i64 j ∧ wr.ownsRow BG 5 1 (.slice (some ⟨BG, 0, none⟩) 128 128) 128 (Lib.byteCells (List.replicate j c ++ List.replicate (128 - j) 0)) ∧ Below w5.heap.size w5 wr) (fun iv _ => 128 - (intOf iv).toNat)
    case atStart => exact ⟨0, Nat.zero_le _, rfl, HOWN.out, HB6.out⟩
    case round =>
      obtain ⟨j, hj, rfl, ho, hbw⟩ := hrel
      by_cases hlt : j < 128
      · have q := ho.cellAt j (by omega)
        have f := ho.frozenAt j
        have hlen : (Lib.byteCells (List.replicate j c ++ List.replicate (128 - j) 0)).length = 128 := by rw [Lib.byteCells_length]; simp; omega
        rw [List.getElem?_eq_getElem (by omega)] at q
        have HO := Lib.hid ho
        have HBW := Lib.hid hbw
        clear ho hbw
        go_wp2_with fail
        go_roundw
        case rel =>
          have st := HO.out.stored j (.int .u8 (c.toNat : Int))
          refine ⟨j + 1, by omega, by go_num, ?_, HBW.out.grown st.2 HBW.out.size (fun _ e => by cases e; exact HBGE.out)⟩
          rw [← bytes_set c j hlt]
          exact st.1
        case measure => simp [intOf]; omega
      · obtain rfl : j = 128 := by omega
        rw [Nat.sub_self, List.replicate_zero, List.append_nil] at ho
        obtain ⟨L, hL⟩ : ∃ L, List.replicate 128 c = L := ⟨_, rfl⟩
        have hLn : L.length = 128 := by rw [← hL, List.length_replicate]
        rw [hL] at ho
        have hcv := run_convert_bytes_back (P := Tryz.prog) wr 63 9 5 ⟨BG, 0, none⟩ 128 L Tryz.underlying63 Tryz.underlying5 Tryz.underlying9 (fun i hi => by
          rw [hLn] at hi
          have := ho.cellAt i (by omega)
          rw [addr0_add, this, List.getElem?_eq_getElem (by rw [Lib.byteCells_length, hLn]; exact hi)]
          simp [Lib.byteCells])
        rw [hLn] at hcv
        obtain ⟨s, hs⟩ : ∃ s : ByteArray, (⟨L.toArray⟩ : ByteArray) = s := ⟨_, rfl⟩
        have hsz : s.size = 128 := by rw [← hs]; show L.toArray.size = 128; rw [List.size_toArray, hLn]
        rw [hs] at hcv
        have hop2 := HPO.out s hsz
        have hpf := HPF.out s hsz
        obtain ⟨d2, hd2⟩ : ∃ d, putD d1 K s = d := ⟨_, rfl⟩
        have hd2n : d2.secs.length = d1.secs.length := by rw [← hd2, putD_len]
        rw [hd2] at hop2 hpf
        have HCV := Lib.hid hcv
        have HOP2 := Lib.hid hop2
        have HPF2 := Lib.hid hpf
        have HSZ := Lib.hid hsz
        have HLK := Lib.hid (renew_like HOP1.out hop2 hd2n fm)
        have HBW := Lib.hid (Below.trans HB5.out (hbw.mono HB5.out.size))
        have HIW := Lib.hid (HI5.out.keep hbw)
        clear ho hs hL hLn hcv hop2 hpf hd2 hd2n hsz hbw HPO HPF HOWN HB6 HI5 HB5
        -- the other half is written
        obtain ⟨ma0, hma0⟩ : ∃ k, d1.secs.length = k := ⟨_, rfl⟩
        obtain ⟨ma1, hma1⟩ : ∃ k, d1.dirty.length = k := ⟨_, rfl⟩
        obtain ⟨mae, hmae⟩ : ∃ k, fl.length = k := ⟨_, rfl⟩
        obtain ⟨p1, k1, p2, k2, p3, k3, hA6, hLA⟩ := HIW.out.boxed (n0 := ma0) (n1 := ma1) (ne := mae) (lh := 0) (lg := 1) (lu := (u1 : Int)) hma0 hma1 hmae rfl rfl rfl
        have HA6 := Lib.hid hA6
        have HLA := Lib.hid hLA
        clear hA6 hLA hma0 hma1 hmae
        obtain ⟨WS, hWS⟩ : ∃ W, wr.alloc (.cells #[.int .i64 (K : Int), .string s] 48) = W := ⟨_, rfl⟩
        have hbS : Below wr.heap.size wr WS := by rw [← hWS]; exact below_new _ _
        have hpw : PairsAt WS (.slice (some ⟨wr.heap.size, 0, none⟩) 1 1) ([((K : Int), s)].map writeCell) := by rw [← hWS]; exact head_row (At2.new _ _ _ _)
        have SV := Save_t _ _ d1 [((K : Int), s)] WS (HLA.out.parts.1.keep hbS) hpw (fun x hx => by rw [List.mem_singleton.1 hx]; exact ⟨by rw [HSZ.out]; decide, by simp only; omega, by simp only; omega⟩) (by simp)
        rw [HPF2.out.1] at SV
        have SV := Lib.hid SV
        have HBS := Lib.hid (Below.trans HBW.out (hbS.mono HBW.out.size))
        have HAS := Lib.hid (HA6.out.keep hbS)
        have HLS := Lib.hid (HLA.out.keep hbS)
        have HWS := Lib.hid hWS
        obtain ⟨a0, a1, a2, a3, a4, a5⟩ := HA6.out.cells
        have hcv := HCV.out
        clear hbS hpw hWS
        go_wp2_with fail
        rw [HWS.out]
        refine SV.out.mono ?_
        rintro e x1 ⟨v1, rfl, hx1, hbx1⟩
        simp only at hx1
        obtain ⟨e1, c1, e2, c2, rfl, -, -⟩ := hx1.shape
        have hx1 : DskAt x1 (.agg #[.slice e1 d1.secs.length c1, .slice e2 1 c2]) ⟨d1.secs, [((K : Int), s)]⟩ := hx1
        obtain ⟨m0, hm0⟩ : ∃ k, d1.secs.length = k := ⟨_, rfl⟩
        obtain ⟨BD, hBD⟩ : ∃ B, x1.heap.size = B := ⟨_, rfl⟩
        rw [hm0] at hx1
        obtain ⟨X2, hX2⟩ : ∃ W, x1.alloc (.cells #[.slice e1 m0 c1, .slice e2 1 c2] 25) = W := ⟨_, rfl⟩
        have hbX2 : Below WS.heap.size WS X2 := Below.then hbx1 (by rw [← hX2]; exact below_new _ _)
        have HXA := Lib.hid (show At2 25 X2 BD (.slice e1 m0 c1) (.slice e2 1 c2) by rw [← hX2, ← hBD]; exact At2.new _ _ _ _)
        have HXI := Lib.hid (show DskIn X2 BD ⟨d1.secs, [((K : Int), s)]⟩ by rw [← hX2, ← hBD]; exact DskIn.new hx1)
        have hxd : DskAt X2 (.agg #[.slice e1 m0 c1, .slice e2 1 c2]) ⟨d1.secs, [((K : Int), s)]⟩ := by rw [← hX2]; exact hx1.keep (below_new _ _)
        have FL := Flush_t _ _ X2 hxd
        rw [HPF2.out.2] at FL
        have FL := Lib.hid FL
        have HBX := Lib.hid hbX2
        have HBD := Lib.hid (show WS.heap.size ≤ BD by rw [← hBD]; exact hbx1.size)
        have HX2 := Lib.hid hX2
        have hm0' : m0 = d1.secs.length := hm0.symm
        clear hX2 hbX2 hx1 hbx1 hxd a0 a1 a2 a3 a4 a5 hcv HCV SV HWS
        simp only [hm0]
        clear hm0 hm0'
        go_upto_region 17 with fail
        rw [HX2.out]
        obtain ⟨b0, b1⟩ := HXA.out.cells
        clear hBD
        go_wp2_with fail
        refine FL.out.mono ?_
        rintro e x3 ⟨v3, rfl, hx3, hbx3⟩
        simp only at hx3
        obtain ⟨e3, c3, e4, c4, rfl, -, -⟩ := hx3.shape
        obtain ⟨m2, hm2⟩ : ∃ k, d2.secs.length = k := ⟨_, rfl⟩
        obtain ⟨m3, hm3⟩ : ∃ k, d2.dirty.length = k := ⟨_, rfl⟩
        rw [hm2, hm3] at hx3 ⊢
        have HXI3 := Lib.hid (HXI.out.keep hbx3)
        obtain ⟨X4, hX4⟩ : ∃ W, (x3.setCell ⟨BD, 0, none⟩ (.slice e3 m2 c3)).setCell ⟨BD, 1, none⟩ (.slice e4 m3 c4) = W := ⟨_, rfl⟩
        have HXI4 := Lib.hid (show DskIn X4 BD d2 by rw [← hX4]; exact DskIn.set HXI3.out hx3)
        have HB4 := Lib.hid (show Below WS.heap.size WS X4 by rw [← hX4]; exact set2_below (Below.then HBX.out hbx3) HBD.out _ _)
        obtain ⟨y0, y1⟩ := (HXA.out.keep hbx3).free
        obtain ⟨z0, z1⟩ := (HXA.out.keep hbx3).cells
        have HX4 := Lib.hid hX4
        clear hX4 hx3 hbx3 b0 b1 FL HXI HXI3 HBX HXA HX2
        simp only
        go_upto_region 18 with fail
        rw [HX4.out]
        clear y0 y1 z0 z1 HX4
        obtain ⟨q1, j1, q2, j2, hA4, hD4⟩ := HXI4.out.boxed m2 m3 hm2 hm3
        have KS := Lib.hid (show ∀ w', Below WS.heap.size WS w' → Below w.heap.size w w' from fun w' hb => KW.out w' (Below.trans HBS.out (hb.mono HBS.out.size)))
        have OP := Open_t aD aS aZ _ d2 X4 (HE.out.keep (KS.out X4 HB4.out)) hD4
        rw [HOP2.out.out] at OP
        have OP := Lib.hid OP
        obtain ⟨b0, b1⟩ := hA4.cells
        obtain ⟨me, hme⟩ : ∃ k, fl.length = k := ⟨_, rfl⟩
        clear hA4 hD4 HXI4
        go_wp2_with fail
        refine OP.out.mono ?_
        rintro e x5 ⟨v5, rfl, hl5, hbx5⟩
        simp only at hl5
        obtain ⟨o1, i1, o2, i2, o3, i3, rfl⟩ := hl5.boxed hm2 hm3 hme rfl rfl rfl
        obtain ⟨B20, hB20⟩ : ∃ B, x5.heap.size = B := ⟨_, rfl⟩
        obtain ⟨X6, hX6⟩ : ∃ W, x5.alloc (.cells #[.slice o1 m2 i1, .slice o2 m3 i2, .int .i64 0, .int .i64 1, .int .i64 (u1 : Int), .slice o3 me i3] 27) = W := ⟨_, rfl⟩
        have hb6 : Below X4.heap.size X4 X6 := Below.then hbx5 (by rw [← hX6]; exact below_new _ _)
        have HA20 := Lib.hid (show At6 27 X6 B20 (.slice o1 m2 i1) (.slice o2 m3 i2) (.int .i64 0) (.int .i64 1) (.int .i64 (u1 : Int)) (.slice o3 me i3) by rw [← hX6, ← hB20]; exact At6.new _ _ _ _ _ _ _ _)
        have HL20 := Lib.hid (show LedAt X6 (.agg #[.slice o1 m2 i1, .slice o2 m3 i2, .int .i64 0, .int .i64 1, .int .i64 (u1 : Int), .slice o3 me i3]) ⟨d2, (0 : Nat), (1 : Nat), u1, fl⟩ by rw [← hX6]; exact hl5.keep (below_new _ _))
        have HB6 := Lib.hid (Below.then HB4.out hb6)
        have HX6 := Lib.hid hX6
        clear hX6 hb6 hl5 hbx5 b0 b1 OP hme HB4
        simp only
        go_upto_region 19 with fail
        rw [HX6.out]
        clear hB20 HX6 hm2 hm3
        have HA6 := Lib.hid (HAS.out.keep HB6.out)
        have HL6 := Lib.hid (HLS.out.keep HB6.out)
        clear HAS HLS
        clear hr1 hr2 hK hht hhi hhe hra hrb hx1 hKl hmx hmn h6 h64 hh3 hh32 hlt hj
        obtain ⟨lx, ly, ex, hx, hy, hdx, hdy, hc⟩ : ∃ (lx ly : Led) (ex : Int), addL ⟨d1, (0 : Nat), (1 : Nat), u1, fl⟩ true fm = (lx, ex) ∧ addL ⟨d2, (0 : Nat), (1 : Nat), u1, fl⟩ true fm = (ly, ex) ∧ lx.disk.dirty = [] ∧ ly.disk.dirty = [] ∧ ((ex = 2 ∨ ex = 13) ∨ (ex = 0 ∧ ly.ents = lx.ents ∧ ly.used = lx.used)) := by
          rcases HLK.out with ⟨e, he, h1, h2⟩ | ⟨l, l', h1, h2, h3, h4, h5, h6⟩
          · exact ⟨_, _, _, h1, h2, rfl, rfl, Or.inl he⟩
          · exact ⟨_, _, _, h1, h2, h5, h6, Or.inr ⟨rfl, h3, h4⟩⟩
        have HDX := Lib.hid hdx
        have HDY := Lib.hid hdy
        have HC := Lib.hid hc
        have TMX := Lib.hid (fun w' (hb : Below X6.heap.size X6 w') => TM.out w' (KS.out w' (Below.then HB6.out hb)))
        have RX := (show ∀ w' tg tc, Below X6.heap.size X6 w' → StrRow w' (.slice (some ⟨tg, 0, none⟩) nm tc) fm → Calls Tryz.prog 21 #[.agg #[.slice p1 ma0 k1, .slice p2 ma1 k2, .int .i64 0, .int .i64 1, .int .i64 (u1 : Int), .slice p3 mae k3], .slice (some ⟨tg, 0, none⟩) nm tc] w' (LedOut (addL ⟨d1, (0 : Nat), (1 : Nat), u1, fl⟩ true fm) w') from fun w' tg tc hb hr => Renew_t aD aS aZ _ _ ⟨d1, (0 : Nat), (1 : Nat), u1, fl⟩ fm w' (HE.out.keep (KS.out w' (Below.then HB6.out hb))) (HL6.out.keep hb) hr MZ.out)
        have RY := (show ∀ w' tg tc, Below X6.heap.size X6 w' → StrRow w' (.slice (some ⟨tg, 0, none⟩) nm tc) fm → Calls Tryz.prog 21 #[.agg #[.slice o1 m2 i1, .slice o2 m3 i2, .int .i64 0, .int .i64 1, .int .i64 (u1 : Int), .slice o3 me i3], .slice (some ⟨tg, 0, none⟩) nm tc] w' (LedOut (addL ⟨d2, (0 : Nat), (1 : Nat), u1, fl⟩ true fm) w') from fun w' tg tc hb hr => Renew_t aD aS aZ _ _ ⟨d2, (0 : Nat), (1 : Nat), u1, fl⟩ fm w' (HE.out.keep (KS.out w' (Below.then HB6.out hb))) (HL20.out.keep hb) hr MZ.out)
        rw [hx] at RX
        rw [hy] at RY
        clear hx hy hdx hdy hc HLK

        obtain ⟨n0, hn0⟩ : ∃ k, lx.disk.secs.length = k := ⟨_, rfl⟩
        obtain ⟨n1, hn1⟩ : ∃ k, lx.disk.dirty.length = k := ⟨_, rfl⟩
        obtain ⟨ne, hne⟩ : ∃ k, lx.ents.length = k := ⟨_, rfl⟩
        obtain ⟨nh, hnh⟩ : ∃ k, lx.half = k := ⟨_, rfl⟩
        obtain ⟨ng, hng⟩ : ∃ k, lx.gen = k := ⟨_, rfl⟩
        obtain ⟨nu, hnu⟩ : ∃ k, lx.used = k := ⟨_, rfl⟩

        obtain ⟨g0, hg0⟩ : ∃ k, ly.disk.secs.length = k := ⟨_, rfl⟩
        obtain ⟨g1, hg1⟩ : ∃ k, ly.disk.dirty.length = k := ⟨_, rfl⟩
        obtain ⟨ge, hge⟩ : ∃ k, ly.ents.length = k := ⟨_, rfl⟩
        obtain ⟨gh, hgh⟩ : ∃ k, ly.half = k := ⟨_, rfl⟩
        obtain ⟨gg, hgg⟩ : ∃ k, ly.gen = k := ⟨_, rfl⟩
        obtain ⟨gu, hgu⟩ : ∃ k, ly.used = k := ⟨_, rfl⟩

        have HLX := Lib.hid (And.intro hn0 (And.intro hn1 (And.intro hne (And.intro hnh (And.intro hng hnu)))))
        have HLY := Lib.hid (And.intro hg0 (And.intro hg1 (And.intro hge (And.intro hgh (And.intro hgg hgu)))))
        have RXL := Lib.hid (fun w' tg tc hb hr => (RX w' tg tc hb hr).mono fun _ _ h => LedOut.letters h hn0 hn1 hne hnh hng hnu)
        have RYL := Lib.hid (fun w' tg tc hb hr => (RY w' tg tc hb hr).mono fun _ _ h => LedOut.letters h hg0 hg1 hge hgh hgg hgu)
        clear RX RY hn0 hn1 hne hnh hng hnu hg0 hg1 hge hgh hgg hgu
        obtain ⟨a0, a1, a2, a3, a4, a5⟩ := HA6.out.cells
        go_cut [22, 23] from 103 to 108 (fun xv fv wx => ∃ B, xv = .pointer (some ⟨B, 0, none⟩) ∧ fv = .int .i64 ex ∧ LedIn wx B lx ∧ Below X6.heap.size X6 wx ∧ X6.heap.size ≤ B)
        case first =>
          have hbA := Below.refl X6.heap.size X6
          obtain ⟨d0, d1, d2, d3, d4, d5⟩ := (HA6.out.keep (below_new X6 (.cells #[nilV, nilV, zeroV, zeroV, zeroV, nilV] 27))).cells

          go_region_law (first
              | (go_simp; go_at_call 19
                 refine (TMX.out _ (by first | exact hbA | exact hbA.drew | exact Below.then hbA (below_new _ _) | exact Below.then hbA.drew (below_new _ _) | exact (Below.then hbA (below_new _ _)).drew)).mono ?_
                 rintro e wT ⟨tg, tc, rfl, hrow, hbT⟩
                 have hbA : Below X6.heap.size X6 wT := (by first | exact Below.then hbA hbT | exact Below.then hbA.drew hbT | exact Below.then (Below.then hbA (below_new _ _)) hbT | exact Below.then (Below.then hbA.drew (below_new _ _)) hbT | exact Below.then (Below.then hbA (below_new _ _)).drew hbT)
                 have hle : X6.heap.size ≤ wT.heap.size := hbA.size
                 obtain ⟨a0, a1, a2, a3, a4, a5⟩ := (HA6.out.keep hbA).cells
                 obtain ⟨d0, d1, d2, d3, d4, d5⟩ := (HA6.out.keep (Below.then hbA (below_new wT (.cells #[nilV, nilV, zeroV, zeroV, zeroV, nilV] 27)))).cells
                 (try have hz : At6 27 wT X6.heap.size nilV nilV zeroV zeroV zeroV nilV := by first | exact (At6.new _ _ nilV nilV zeroV zeroV zeroV nilV).keep hbT | exact ((At6.new _ _ nilV nilV zeroV zeroV zeroV nilV).keep (Below.refl _ _).drew).keep hbT)
                 skip)
              | (go_simp; go_at_call 21
                 refine (RXL.out _ _ _ (by first | exact hbA | exact hbA.drew | exact Below.then hbA (below_new _ _) | exact Below.then hbA.drew (below_new _ _) | exact (Below.then hbA (below_new _ _)).drew) (by first | exact hrow | exact hrow.keep (below_new _ _))).mono ?_
                 rintro e wD ⟨p1, k1, p2, k2, p3, k3, rfl, hlD, hbD⟩
                 have hbA : Below X6.heap.size X6 wD := (by first | exact Below.then hbA hbD | exact Below.then hbA.drew hbD | exact Below.then (Below.then hbA (below_new _ _)) hbD | exact Below.then (Below.then hbA.drew (below_new _ _)) hbD | exact Below.then (Below.then hbA (below_new _ _)).drew hbD)
                 (try first
                   | have hz := hz.keep hbD
                   | have hz := (hz.keep (Below.refl _ _).drew).keep hbD
                   | have hz : At6 27 wD wT.heap.size nilV nilV zeroV zeroV zeroV nilV := by first | exact (At6.new _ _ nilV nilV zeroV zeroV zeroV nilV).keep hbD | exact ((At6.new _ _ nilV nilV zeroV zeroV zeroV nilV).keep (Below.refl _ _).drew).keep hbD)
                 (try obtain ⟨z0, z1, z2, z3, z4, z5⟩ := hz.cells)
                 (try obtain ⟨y0, y1, y2, y3, y4, y5⟩ := hz.free)
                 skip))
          all_goals
            first
            | (go_wp2_with fail; go_meet; with_reducible exact newI_alloc hlD hbA)
            | (go_wp2_with fail; go_meet; with_reducible exact newI_set hz HDX.out hlD hbA (by first | exact Nat.le_refl _ | exact hle))

        case rest =>
          obtain ⟨B22, rfl, rfl, hI22, hbc, hB22⟩ := hcut
          have HI22 := Lib.hid hI22
          have HBC := Lib.hid hbc
          have HA20 := Lib.hid (HA20.out.keep hbc)
          have TMY := Lib.hid (fun w' (hb : Below wc.heap.size wc w') => TMX.out w' (Below.then HBC.out hb))
          have RYM := Lib.hid (fun w' tg tc (hb : Below wc.heap.size wc w') hr => RYL.out w' tg tc (Below.then HBC.out hb) hr)
          obtain ⟨WC, hWC⟩ : ∃ W, W = wc := ⟨_, rfl⟩
          clear hI22 hbc a0 a1 a2 a3 a4 a5 RXL RYL TMX hWC WC
          go_upto_region 20 with fail
          obtain ⟨a0, a1, a2, a3, a4, a5⟩ := HA20.out.cells
          obtain ⟨v0, hv0⟩ : ∃ W, W = wc := ⟨_, rfl⟩
          rw [← hv0] at HI22 HBC HA20 TMY RYM a0 a1 a2 a3 a4 a5 ⊢
          clear hv0
          go_cut [24, 25] from 110 to 115 (fun xv fv wx => ∃ B, xv = .pointer (some ⟨B, 0, none⟩) ∧ fv = .int .i64 ex ∧ LedIn wx B ly ∧ Below v0.heap.size v0 wx ∧ v0.heap.size ≤ B)
          case first =>
            have hbA := Below.refl v0.heap.size v0
            obtain ⟨d0, d1, d2, d3, d4, d5⟩ := (HA20.out.keep (below_new v0 (.cells #[nilV, nilV, zeroV, zeroV, zeroV, nilV] 27))).cells

            go_region_law (first
                | (go_simp; go_at_call 19
                   refine (TMY.out _ (by first | exact hbA | exact hbA.drew | exact Below.then hbA (below_new _ _) | exact Below.then hbA.drew (below_new _ _) | exact (Below.then hbA (below_new _ _)).drew)).mono ?_
                   rintro e wT ⟨tg, tc, rfl, hrow, hbT⟩
                   have hbA : Below v0.heap.size v0 wT := (by first | exact Below.then hbA hbT | exact Below.then hbA.drew hbT | exact Below.then (Below.then hbA (below_new _ _)) hbT | exact Below.then (Below.then hbA.drew (below_new _ _)) hbT | exact Below.then (Below.then hbA (below_new _ _)).drew hbT)
                   have hle : v0.heap.size ≤ wT.heap.size := hbA.size
                   obtain ⟨a0, a1, a2, a3, a4, a5⟩ := (HA20.out.keep hbA).cells
                   obtain ⟨d0, d1, d2, d3, d4, d5⟩ := (HA20.out.keep (Below.then hbA (below_new wT (.cells #[nilV, nilV, zeroV, zeroV, zeroV, nilV] 27)))).cells
                   (try have hz : At6 27 wT v0.heap.size nilV nilV zeroV zeroV zeroV nilV := by first | exact (At6.new _ _ nilV nilV zeroV zeroV zeroV nilV).keep hbT | exact ((At6.new _ _ nilV nilV zeroV zeroV zeroV nilV).keep (Below.refl _ _).drew).keep hbT)
                   skip)
                | (go_simp; go_at_call 21
                   refine (RYM.out _ _ _ (by first | exact hbA | exact hbA.drew | exact Below.then hbA (below_new _ _) | exact Below.then hbA.drew (below_new _ _) | exact (Below.then hbA (below_new _ _)).drew) (by first | exact hrow | exact hrow.keep (below_new _ _))).mono ?_
                   rintro e wD ⟨p1, k1, p2, k2, p3, k3, rfl, hlD, hbD⟩
                   have hbA : Below v0.heap.size v0 wD := (by first | exact Below.then hbA hbD | exact Below.then hbA.drew hbD | exact Below.then (Below.then hbA (below_new _ _)) hbD | exact Below.then (Below.then hbA.drew (below_new _ _)) hbD | exact Below.then (Below.then hbA (below_new _ _)).drew hbD)
                   (try first
                     | have hz := hz.keep hbD
                     | have hz := (hz.keep (Below.refl _ _).drew).keep hbD
                     | have hz : At6 27 wD wT.heap.size nilV nilV zeroV zeroV zeroV nilV := by first | exact (At6.new _ _ nilV nilV zeroV zeroV zeroV nilV).keep hbD | exact ((At6.new _ _ nilV nilV zeroV zeroV zeroV nilV).keep (Below.refl _ _).drew).keep hbD)
                   (try obtain ⟨z0, z1, z2, z3, z4, z5⟩ := hz.cells)
                   (try obtain ⟨y0, y1, y2, y3, y4, y5⟩ := hz.free)
                   skip))
            all_goals
              first
              | (go_wp2_with fail; go_meet; with_reducible exact newI_alloc hlD hbA)
              | (go_wp2_with fail; go_meet; with_reducible exact newI_set hz HDY.out hlD hbA (by first | exact Nat.le_refl _ | exact hle))

          case rest =>
            obtain ⟨B24, rfl, rfl, hI24, hbc, hB24⟩ := hcut
            have HBD2 := Lib.hid (Below.then HBC.out hbc)
            obtain ⟨hn0, hn1, hne, hnh, hng, hnu⟩ := HLX.out
            obtain ⟨hg0, hg1, hge, hgh, hgg, hgu⟩ := HLY.out
            obtain ⟨x1, r1, x2, r2, x3, r3, hA22, hL22⟩ := (HI22.out.keep hbc).boxed hn0 hn1 hne hnh hng hnu
            obtain ⟨z1, t1, z2, t2, z3, t3, hA24, hL24⟩ := hI24.boxed hg0 hg1 hge hgh hgg hgu
            have HA22 := Lib.hid hA22
            have HL22 := Lib.hid hL22
            have HA24 := Lib.hid hA24
            have HL24 := Lib.hid hL24
            have HUS := Lib.hid (And.intro hnu hgu)
            have HA20 := Lib.hid (HA20.out.keep hbc)
            have HA6 := Lib.hid (HA6.out.keep HBD2.out)
            have SA := Lib.hid (same_eq _ _ fl fl wc (HL20.out.keep HBD2.out).parts.2.1 (HL6.out.keep HBD2.out).parts.2.1 rfl)
            clear hI24 hbc hA22 hL22 hA24 hL24 hn0 hn1 hne hnh hng hnu hg0 hg1 hge hgh hgg hgu a0 a1 a2 a3 a4 a5 TMY RYM
            obtain ⟨a0, a1, a2, a3, a4, a5⟩ := HA20.out.cells
            obtain ⟨b0, b1, b2, b3, b4, b5⟩ := HA6.out.cells
            go_wp2_with fail
            refine SA.out.mono ?_
            rintro e y1 ⟨rfl, hy1⟩
            have HY1 := Lib.hid (Below.then HB6.out (Below.then HBD2.out hy1))
            clear a0 a1 a2 a3 a4 a5 b0 b1 b2 b3 b4 b5
            have HA22 := Lib.hid (HA22.out.keep hy1)
            have HA24 := Lib.hid (HA24.out.keep hy1)
            have HL22 := Lib.hid (HL22.out.keep hy1)
            have HL24 := Lib.hid (HL24.out.keep hy1)
            clear hy1 SA HA20 HA6
            rcases HC.out with (rfl | rfl) | ⟨rfl, hents, hused⟩
            · have HBF := Lib.hid (KS.out y1 HY1.out)
              go_wp2_with fail
              go_ret
              exact ⟨rfl, HBF.out⟩
            · have HBF := Lib.hid (KS.out y1 HY1.out)
              go_wp2_with fail
              go_ret
              exact ⟨rfl, HBF.out⟩
            have SB := Lib.hid (same_eq _ _ lx.ents ly.ents y1 HL22.out.parts.2.1 HL24.out.parts.2.1 hents.symm)
            have hug : gu = nu := by rw [← HUS.out.1, ← HUS.out.2]; exact hused
            subst hug
            obtain ⟨a0, a1, a2, a3, a4, a5⟩ := HA22.out.cells
            obtain ⟨b0, b1, b2, b3, b4, b5⟩ := HA24.out.cells
            go_wp2_with fail
            refine SB.out.mono ?_
            rintro e y2 ⟨rfl, hy2⟩
            have HBF := Lib.hid (KS.out y2 (Below.then HY1.out hy2))
            obtain ⟨f0, f1, f2, f3, f4, f5⟩ := (HA22.out.keep hy2).cells
            obtain ⟨g0, g1, g2, g3, g4, g5⟩ := (HA24.out.keep hy2).cells
            clear hy2 SB a0 a1 a2 a3 a4 a5 b0 b1 b2 b3 b4 b5
            go_wp2_with fail
            go_ret
            exact ⟨rfl, HBF.out⟩
end Go.Proofs.YtkplpodljmlanaaGreatDoor
