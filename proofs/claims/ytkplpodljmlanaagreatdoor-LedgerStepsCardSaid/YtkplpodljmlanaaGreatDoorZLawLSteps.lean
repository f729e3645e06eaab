/-
  LedgerSteps returns true at every input, and changes nothing that was there. Conditions: octet's errors lie where they lie.
-/
import Derived.Test.YtkplpodljmlanaaGreatDoorZLed7
import Derived.Test.YtkplpodljmlanaaGreatDoorZLed8
import Derived.Test.YtkplpodljmlanaaGreatDoorZLed3
namespace Go.Proofs.YtkplpodljmlanaaGreatDoor
open Go.RowKit Go.WideShapes

/-- What the variable that Add's, or Renew's, ledger is put into knows. -/
def AddedIn (B : Nat) (X : Led) (xe : Int) (w0 : World) (gv : Value) (wx : World) : Prop := gv = .int .i64 xe ∧ LedIn wx B X ∧ Below w0.heap.size w0 wx
theorem addedIn_set {w0 wD : World} {B : Nat} {xe : Int} {X : Led} {s d h g u e : Value} (hz : At6 27 wD B nilV nilV zeroV zeroV zeroV nilV) (hd : X.disk.dirty = []) (hl : LedAt wD (.agg #[s, d, h, g, u, e]) X) (hb : Below w0.heap.size w0 wD) (hB : w0.heap.size ≤ B) :
    AddedIn B X xe w0 (.int .i64 xe) ((((((wD.setCell ⟨B, 0, none⟩ s).setCell ⟨B, 1, none⟩ d).setCell ⟨B, 2, none⟩ h).setCell ⟨B, 3, none⟩ g).setCell ⟨B, 4, none⟩ u).setCell ⟨B, 5, none⟩ e) :=
  ⟨rfl, (LedIn.nil hz).set hl hd, set6_below hb hB _ _ _ _ _ _⟩
/-- The place of the last of so many writes. -/
def lastA (l : List (Int × ByteArray)) (q : Nat) : Int := if q = 0 then -1 else (l.getD (q - 1) (0, ⟨#[]⟩)).1
theorem lastA_zero (l : List (Int × ByteArray)) : lastA l 0 = -1 := rfl
theorem lastA_succ (l : List (Int × ByteArray)) (q : Nat) (h : q < l.length) : lastA l (q + 1) = l[q].1 := by
  unfold lastA
  rw [if_neg (by omega), Nat.add_sub_cancel, List.getD_eq_getElem?_getD, List.getElem?_eq_getElem h]
  rfl
theorem lastA_lt {D : Dsk} {m u : Nat} {renew : Bool} {ss : List ByteArray} (q : Nat) (h : q < (fwOf D m u renew ss).length) : lastA (fwOf D m u renew ss) q < (fwOf D m u renew ss)[q].1 := by
  rcases Nat.eq_zero_or_pos q with rfl | hq
  · rw [lastA_zero, fw_at 0 h]; omega
  · obtain ⟨k, rfl⟩ : ∃ k, q = k + 1 := ⟨q - 1, by omega⟩
    rw [lastA_succ _ k (by omega), fw_at k (by omega), fw_at (k + 1) h]
    omega
/-- Where a call writes, as the law has it. -/
def WhereIs (m g u : Nat) (w0 : World) (a b c : Value) (wx : World) : Prop := a = natV m ∧ b = natV g ∧ c = natV u ∧ Below w0.heap.size w0 wx

set_option maxRecDepth 100000 in
set_option maxHeartbeats 16000000 in
theorem steps_any (aD aS aZ : Addr) (dv nv : Value) (d : Dsk) (renew : Bool) (ss : List ByteArray) (w : World) (he : Env w aD aS aZ) (hd : DskAt w dv d) (hs : StrRow w nv ss) (hsz : ∀ s ∈ ss, s.size ≤ maxLen) :
    Calls Tryz.prog 4 #[dv, .bool renew, nv] w fun e w' => e = .returned (.bool true) ∧ Below w.heap.size w w' := by
  have HE := Lib.hid he
  have FW := Lib.hid (fun w' (hb : Below w.heap.size w w') => lfew_t dv d w' (hd.keep hb))
  obtain ⟨nl, hnl⟩ : ∃ k, (fewB ss).length = k := ⟨_, rfl⟩
  have TX := Lib.hid (fun w' (hb : Below w.heap.size w w') => texts_at nv ss nl hnl w' (hs.at.keep hb) hsz)
  have HNS := Lib.hid (fewB_max ss)
  obtain ⟨a, c, a', c', rfl, -, -⟩ := hd.shape
  obtain ⟨pa, pc, rfl, -⟩ := hs.shape
  obtain ⟨D, hD⟩ : ∃ D, fewL d = D := ⟨_, rfl⟩
  obtain ⟨NT, hNS⟩ : ∃ l, fewB ss = l := ⟨_, rfl⟩
  rw [hD] at FW
  rw [hNS] at TX HNS hnl
  obtain ⟨n, hn⟩ : ∃ x, d.secs.length = x := ⟨_, rfl⟩
  obtain ⟨n', hn'⟩ : ∃ x, d.dirty.length = x := ⟨_, rfl⟩
  obtain ⟨pn, hpn⟩ : ∃ x, ss.length = x := ⟨_, rfl⟩
  rw [hn, hn'] at FW ⊢
  rw [hpn] at TX ⊢
  have HNL := Lib.hid hnl
  obtain ⟨Bd, hBd⟩ : ∃ B, w.heap.size = B := ⟨_, rfl⟩
  obtain ⟨W, hW⟩ : ∃ W, w.alloc (.cells #[.slice a n c, .slice a' n' c'] 25) = W := ⟨_, rfl⟩
  have HB := Lib.hid (show Below w.heap.size w W by rw [← hW]; exact below_new _ _)
  have HA := Lib.hid (show At2 25 W Bd (.slice a n c) (.slice a' n' c') by rw [← hW, ← hBd]; exact At2.new _ _ _ _)
  have HBD := Lib.hid (show w.heap.size ≤ Bd by omega)
  have HW := Lib.hid hW
  clear hW he hd hs hsz hD hNS hn hn' hpn hnl
  go_enter Tryz.func4, Tryz.ntmps4
  go_upto_region 1 with fail
  rw [HW.out]
  clear hBd
  obtain ⟨a0, a1⟩ := HA.out.cells
  go_wp2_with fail
  refine (FW.out W HB.out).mono ?_
  rintro e w1 ⟨v', rfl, hfd, hb1⟩
  obtain ⟨fa, fc, fa', fc', rfl, -, -⟩ := hfd.shape
  obtain ⟨fn, hfn⟩ : ∃ x, D.secs.length = x := ⟨_, rfl⟩
  obtain ⟨fn', hfn'⟩ : ∃ x, D.dirty.length = x := ⟨_, rfl⟩
  rw [hfn, hfn'] at hfd ⊢
  have HFN := Lib.hid hfn
  go_wp2_with fail
  refine (TX.out w1 (Below.then HB.out hb1)).mono ?_
  rintro e w2 ⟨tg, tc, rfl, htr, hb2⟩
  have hA1 := (HA.out.keep hb1).keep hb2
  clear a0 a1
  obtain ⟨a0, a1⟩ := hA1.cells
  obtain ⟨f0, f1⟩ := hA1.free
  obtain ⟨W2, hW2⟩ : ∃ W2, (w2.setCell ⟨Bd, 0, none⟩ (.slice fa fn fc)).setCell ⟨Bd, 1, none⟩ (.slice fa' fn' fc') = W2 := ⟨_, rfl⟩
  have hns : NS w2 W2 := by rw [← hW2]; exact set2_ns hA1 (isSl_mk _ _ _) (isSl_mk _ _ _) _ _
  have HD2 := Lib.hid ((hfd.keep hb2).ns hns)
  have HT2 := Lib.hid (show StrRow W2 (.slice (some ⟨tg, 0, none⟩) nl tc) NT by rw [← hW2]; exact htr.nst (set2_nst hA1 (noStr_slice _ _ _) (noStr_slice _ _ _) (.slice fa fn fc) (.slice fa' fn' fc')))
  have HA2 := Lib.hid (show At2 25 W2 Bd (.slice fa fn fc) (.slice fa' fn' fc') by rw [← hW2]; exact hA1.set _ _)
  have HB2 := Lib.hid (show Below w.heap.size w W2 by rw [← hW2]; exact set2_below (Below.then (Below.then HB.out hb1) hb2) HBD.out _ _)
  have HW2 := Lib.hid hW2
  clear hW2 hns hfd hA1 hb1 hb2 htr hfn hfn' FW TX HA HW
  go_upto_region 2 with fail
  rw [HW2.out]
  clear a0 a1 f0 f1
  obtain ⟨a0, a1⟩ := HA2.out.cells
  have KW := Lib.hid (show ∀ w', Below W2.heap.size W2 w' → Below w.heap.size w w' from fun w' hb => Below.then HB2.out hb)
  have RO := fun w' (hb : Below W2.heap.size W2 w') => refOpen_t _ D w' (HD2.out.keep hb)
  have hsa := steps_add D renew NT
  have hcs := openL_cases D
  obtain ⟨⟨L, fc0⟩, hL⟩ : ∃ x, openL D = x := ⟨_, rfl⟩
  rw [hL] at RO hsa
  simp only at hsa
  obtain ⟨n0, hn0⟩ : ∃ x, L.disk.secs.length = x := ⟨_, rfl⟩
  obtain ⟨n1, hn1⟩ : ∃ x, L.disk.dirty.length = x := ⟨_, rfl⟩
  obtain ⟨ne, hne⟩ : ∃ x, L.ents.length = x := ⟨_, rfl⟩
  obtain ⟨lh, hlh⟩ : ∃ x, L.half = x := ⟨_, rfl⟩
  obtain ⟨lg, hlg⟩ : ∃ x, L.gen = x := ⟨_, rfl⟩
  obtain ⟨lu, hlu⟩ : ∃ x, L.used = x := ⟨_, rfl⟩
  have RO := Lib.hid (fun w' hb => (RO w' hb).mono fun _ _ h => LedOut.letters h hn0 hn1 hne hlh hlg hlu)
  have HLQ := Lib.hid (And.intro hL (And.intro hlh (And.intro hlg hlu)))
  have HCS := Lib.hid hcs
  have AL := Lib.hid (fun w' (hb : Below W2.heap.size W2 w') => alive_t aD aS aZ w' (HE.out.keep (KW.out w' hb)))
  obtain ⟨⟨ll, ec⟩, hll⟩ : ∃ x, stepsL L renew NT = x := ⟨_, rfl⟩
  obtain ⟨nll, hnll⟩ : ∃ x, ll.length = x := ⟨_, rfl⟩
  have HAD := Lib.hid (addL_dirty L renew NT)
  obtain ⟨⟨X, xe⟩, hX⟩ : ∃ x, addL L renew NT = x := ⟨_, rfl⟩
  rw [hX] at hsa HAD
  rw [hll] at hsa
  obtain rfl : xe = ec := hsa
  simp only at HAD
  have HST := Lib.hid (And.intro hll (And.intro hX hnll))
  clear hcs hL hn0 hn1 hne hlh hlg hlu hll hX hnll
  go_wp2_with fail
  refine (RO.out W2 (Below.refl _ _)).mono ?_
  rintro e w3 ⟨la, lc, la', lc', lb, lk, rfl, hl3, hb3⟩
  obtain ⟨W3, hW3⟩ : ∃ W, w3.alloc (.cells #[.slice la n0 lc, .slice la' n1 lc', .int .i64 lh, .int .i64 lg, .int .i64 lu, .slice lb ne lk] 27) = W := ⟨_, rfl⟩
  have HB3 := Lib.hid (show Below W2.heap.size W2 W3 by rw [← hW3]; exact Below.then hb3 (below_new _ _))
  obtain ⟨Bl, hBl⟩ : ∃ B, w3.heap.size = B := ⟨_, rfl⟩
  have HL3 := Lib.hid (show At6 27 W3 Bl (.slice la n0 lc) (.slice la' n1 lc') (.int .i64 lh) (.int .i64 lg) (.int .i64 lu) (.slice lb ne lk) by rw [← hW3, ← hBl]; exact At6.new _ _ _ _ _ _ _ _)
  have HLL3 := Lib.hid (show LedAt W3 (.agg #[.slice la n0 lc, .slice la' n1 lc', .int .i64 lh, .int .i64 lg, .int .i64 lu, .slice lb ne lk]) L by rw [← hW3]; exact hl3.keep (below_new _ _))
  have HW3 := Lib.hid hW3
  clear hW3 hb3 hl3 a0 a1
  go_upto_region 3 with fail
  rw [HW3.out]
  clear hBl
  obtain ⟨x0, x1, x2, x3, x4, x5⟩ := HL3.out.cells
  have SP := lSteps_t aD aS aZ _ _ L renew NT W3 (HE.out.keep (KW.out W3 HB3.out)) HLL3.out (HT2.out.keep HB3.out) HNS.out
  rw [HST.out.1] at SP
  have SP := Lib.hid SP
  go_wp2_with fail
  refine SP.out.mono ?_
  rintro e w4 ⟨sv, rfl, hst, hb4⟩
  simp only at hst
  obtain ⟨sa, scp, rfl, -⟩ := hst.shape
  rw [HST.out.2.2] at hst ⊢
  have HB4 := Lib.hid (Below.then HB3.out hb4)
  have HL4 := Lib.hid (HL3.out.keep hb4)
  have HLL4 := Lib.hid (HLL3.out.keep hb4)
  have HST4 := Lib.hid hst
  clear hst hb4 x0 x1 x2 x3 x4 x5 SP RO
  obtain ⟨W5, hW5⟩ : ∃ W, w4.alloc (.cells #[nilV, nilV, zeroV, zeroV, zeroV, nilV] 27) = W := ⟨_, rfl⟩
  obtain ⟨Bx, hBx⟩ : ∃ B, w4.heap.size = B := ⟨_, rfl⟩
  have HX5 := Lib.hid (show At6 27 W5 Bx nilV nilV zeroV zeroV zeroV nilV by rw [← hW5, ← hBx]; exact At6.new _ _ _ _ _ _ _ _)
  have hb5 : Below w4.heap.size w4 W5 := by rw [← hW5]; exact below_new _ _
  have HB45 := Lib.hid hb5
  have HBX := Lib.hid (show w4.heap.size ≤ Bx by omega)
  have HW5 := Lib.hid hW5
  clear hW5 hb5
  go_upto_if 44 with fail
  rw [HW5.out]
  clear hBx
  obtain ⟨w6, hw6⟩ : ∃ W, W = W5 := ⟨_, rfl⟩
  have HX6 := Lib.hid (show At6 27 w6 Bx nilV nilV zeroV zeroV zeroV nilV by rw [hw6]; exact HX5.out)
  have HB6 := Lib.hid (show Below w4.heap.size w4 w6 by rw [hw6]; exact HB45.out)
  rw [← hw6]
  clear hw6
  go_cut [12] from 45 to 56 (fun gv wx => AddedIn Bx X xe w4 gv wx)
  case first =>
    have HL6 := Lib.hid (HL4.out.keep HB6.out)
    have hee := HE.out.keep (KW.out w6 (Below.then HB4.out HB6.out))
    have hll6 := HLL4.out.keep HB6.out
    have htt6 := HT2.out.keep (Below.then HB4.out HB6.out)
    obtain ⟨x0, x1, x2, x3, x4, x5⟩ := HL6.out.cells
    cases renew with
    | true =>
      have AD := Renew_t aD aS aZ _ _ L NT w6 hee hll6 htt6 HNS.out
      rw [HST.out.2.1] at AD
      have AD := Lib.hid AD
      clear hee hll6 htt6
      go_wp2_with fail
      refine AD.out.mono ?_
      rintro e wD ⟨v, rfl, hlD, hbD⟩
      obtain ⟨b1, k1, b2, k2, b3, k3, rfl, -, -, -⟩ := hlD.shape
      have HZ := Lib.hid (HX6.out.keep hbD)
      have HLD := Lib.hid hlD
      have HBD2 := Lib.hid (Below.then HB6.out hbD)
      obtain ⟨m1, hm1⟩ : ∃ x, X.disk.secs.length = x := ⟨_, rfl⟩
      obtain ⟨m2, hm2⟩ : ∃ x, X.disk.dirty.length = x := ⟨_, rfl⟩
      obtain ⟨m3, hm3⟩ : ∃ x, X.ents.length = x := ⟨_, rfl⟩
      obtain ⟨xh, hxh⟩ : ∃ x, X.half = x := ⟨_, rfl⟩
      obtain ⟨xg, hxg⟩ : ∃ x, X.gen = x := ⟨_, rfl⟩
      obtain ⟨xu, hxu⟩ : ∃ x, X.used = x := ⟨_, rfl⟩
      simp only at HLD
      rw [hm1, hm2, hm3, hxh, hxg, hxu] at HLD ⊢
      clear hlD hbD hm1 hm2 hm3 hxh hxg hxu
      obtain ⟨z0, z1, z2, z3, z4, z5⟩ := HZ.out.cells
      obtain ⟨y0, y1, y2, y3, y4, y5⟩ := HZ.out.free
      go_wp2_with fail
      go_meet
      with_reducible exact addedIn_set HZ.out HAD.out HLD.out HBD2.out HBX.out
    | false =>
      have AD := Add_t aD aS aZ _ _ L NT w6 hee hll6 htt6 HNS.out
      rw [HST.out.2.1] at AD
      have AD := Lib.hid AD
      clear hee hll6 htt6
      go_wp2_with fail
      refine AD.out.mono ?_
      rintro e wD ⟨v, rfl, hlD, hbD⟩
      obtain ⟨b1, k1, b2, k2, b3, k3, rfl, -, -, -⟩ := hlD.shape
      have HZ := Lib.hid (HX6.out.keep hbD)
      have HLD := Lib.hid hlD
      have HBD2 := Lib.hid (Below.then HB6.out hbD)
      obtain ⟨m1, hm1⟩ : ∃ x, X.disk.secs.length = x := ⟨_, rfl⟩
      obtain ⟨m2, hm2⟩ : ∃ x, X.disk.dirty.length = x := ⟨_, rfl⟩
      obtain ⟨m3, hm3⟩ : ∃ x, X.ents.length = x := ⟨_, rfl⟩
      obtain ⟨xh, hxh⟩ : ∃ x, X.half = x := ⟨_, rfl⟩
      obtain ⟨xg, hxg⟩ : ∃ x, X.gen = x := ⟨_, rfl⟩
      obtain ⟨xu, hxu⟩ : ∃ x, X.used = x := ⟨_, rfl⟩
      simp only at HLD
      rw [hm1, hm2, hm3, hxh, hxg, hxu] at HLD ⊢
      clear hlD hbD hm1 hm2 hm3 hxh hxg hxu
      obtain ⟨z0, z1, z2, z3, z4, z5⟩ := HZ.out.cells
      obtain ⟨y0, y1, y2, y3, y4, y5⟩ := HZ.out.free
      go_wp2_with fail
      go_meet
      with_reducible exact addedIn_set HZ.out HAD.out HLD.out HBD2.out HBX.out
  case rest =>
  obtain ⟨rfl, hxi, hcut⟩ := hcut
  obtain ⟨w7, hw7⟩ : ∃ W, W = wc := ⟨_, rfl⟩
  rw [← hw7] at hxi hcut ⊢
  clear hw7
  have HXI := Lib.hid hxi
  have HB7 := Lib.hid (Below.then HB4.out hcut)
  have HST7 := Lib.hid (HST4.out.keep hcut)
  have HL7 := Lib.hid (HL4.out.keep hcut)
  have HT7 := Lib.hid (HT2.out.keep (Below.then HB4.out hcut))
  have HA7 := Lib.hid (HA2.out.keep (Below.then HB4.out hcut))
  have HD7 := Lib.hid (HD2.out.keep (Below.then HB4.out hcut))
  have ALW := Lib.hid (AL.out w7 (Below.then HB4.out hcut))
  have qee : (xe != xe) = false := by rw [bne, beq_self_eq_true]; rfl
  clear hxi hcut HX6 HB6 HX5 HB45
  go_wp2_with fail
  refine ALW.out.mono ?_
  rintro e w8 ⟨rfl, hb8⟩
  have HXI8 := Lib.hid (HXI.out.keep hb8)
  have HB8 := Lib.hid (Below.then HB7.out hb8)
  have HST8 := Lib.hid (HST7.out.keep hb8)
  have HL8 := Lib.hid (HL7.out.keep hb8)
  have HT8 := Lib.hid (HT7.out.keep hb8)
  have HA8 := Lib.hid (HA7.out.keep hb8)
  have HD8 := Lib.hid (HD7.out.keep hb8)
  clear hb8 HXI HB7 HST7 HL7 HT7 HA7 HD7 ALW AL HST4 HL4 HLL4 HB4 HL3 HLL3 HB3

  rcases HCS.out with ⟨m0, g, u, es, hop⟩ | hno
  rotate_left
  · have hno2 : (fc0 != 0) = true ∧ L = nilLed := by
      have := HLQ.out.1
      rcases hno with h | h
      · rw [h] at this; injection this with e1 e2; exact ⟨by rw [← e2]; rfl, e1.symm⟩
      · rw [h] at this; injection this with e1 e2; exact ⟨by rw [← e2]; rfl, e1.symm⟩
    have hst1 : ll = [] ∧ xe = 1 := by
      have := HST.out.1
      rw [hno2.2, steps_nil] at this
      injection this with e1 e2
      exact ⟨e1.symm, e2.symm⟩
    obtain rfl : nll = 0 := by rw [← HST.out.2.2, hst1.1]; rfl
    obtain ⟨q, -⟩ := hno2
    obtain ⟨-, rfl⟩ := hst1
    have HB9 := Lib.hid (KW.out w8 HB8.out)
    go_wp2_with fail
    go_ret
    exact ⟨rfl, HB9.out⟩
  · have hq := HLQ.out
    rw [hop.out] at hq
    obtain ⟨e1, e2, e3, e4⟩ := hq
    injection e1 with e5 e6
    subst e5
    subst e6
    simp only at e2 e3 e4
    subst e2
    subst e3
    subst e4
    have HOP := Lib.hid hop
    have HRI := Lib.hid hop.right
    have hmle := mOf_le hop renew
    have hus := hop.used
    have hrn := roomN_le hop.right
    have hgm := hop.most
    have hm01 := hop.half
    have MY := Lib.hid (May_any _ NT w8 HT8.out HNS.out)
    obtain ⟨mb, hmb⟩ : ∃ b, mayB NT = b := ⟨_, rfl⟩
    rw [hmb] at MY
    clear hop
    go_wp2_with fail
    refine MY.out.mono ?_
    rintro e w9 ⟨rfl, rfl⟩
    clear MY
    cases mb with
    | false =>
      have hst1 : ll = [] ∧ xe = 2 := by
        have := HST.out.1
        rw [steps_long HOP.out hmb] at this
        injection this with e1 e2
        exact ⟨e1.symm, e2.symm⟩
      obtain rfl : nll = 0 := by rw [← HST.out.2.2, hst1.1]; rfl
      obtain ⟨-, rfl⟩ := hst1
      have HB9 := Lib.hid (KW.out w8 HB8.out)
      go_wp2_with fail
      go_ret
      exact ⟨rfl, HB9.out⟩
    | true =>
    have HMB := Lib.hid hmb
    have hmi := mayB_iff hmb
    have BN := Lib.hid (refBind_any _ NT w8 HT8.out hmi.2 hmi.1)
    have HSB := Lib.hid (show (⟨(bindL NT).toArray⟩ : ByteArray).data.toList = bindL NT from rfl)
    have hsb : (⟨(bindL NT).toArray⟩ : ByteArray).size = (bindL NT).length := by
      show (bindL NT).toArray.size = _
      rw [List.size_toArray]
    have hbl := bind_size NT hmb
    obtain ⟨sB, hsB⟩ : ∃ x : ByteArray, ⟨(bindL NT).toArray⟩ = x := ⟨_, rfl⟩
    rw [hsB] at BN HSB hsb hbl
    obtain ⟨bl, hbL⟩ : ∃ k, sB.size = k := ⟨_, rfl⟩
    rw [hbL] at hsb hbl
    have HBL := Lib.hid (And.intro hbL hsb)
    clear hmb hmi hsB hsb
    go_wp2_with fail
    refine BN.out.mono ?_
    rintro e w9 ⟨rfl, hb9⟩
    have HXI9 := Lib.hid (HXI8.out.keep hb9)
    have HB9 := Lib.hid (Below.then HB8.out hb9)
    have HST9 := Lib.hid (HST8.out.keep hb9)
    have HL9 := Lib.hid (HL8.out.keep hb9)
    have HA9 := Lib.hid (HA8.out.keep hb9)
    have HD9 := Lib.hid (HD8.out.keep hb9)
    clear hb9 BN HXI8 HST8 HL8 HT8 HA8 HD8 HB8
    obtain ⟨x0, x1, x2, x3, x4, x5⟩ := HL9.out.cells
    go_upto_region 16 with fail
    go_cut [14, 15, 16] from 85 to 90 (fun a b c wx => WhereIs m0 g u w9 a b c wx)
    case first =>
      go_quiet (fail)
      go_wp2_with fail
      go_meet
      exact ⟨rfl, rfl, rfl, below_drewN (Below.refl _ _) _⟩
    case rest =>
    obtain ⟨rfl, rfl, rfl, hcut⟩ := hcut
    obtain ⟨wa, hwa⟩ : ∃ W, W = wc := ⟨_, rfl⟩
    rw [← hwa] at hcut ⊢
    clear hwa
    have HLa := Lib.hid (HL9.out.keep hcut)
    have HBa := Lib.hid hcut
    clear hcut x0 x1 x2 x3 x4 x5
    obtain ⟨mm, hmm⟩ : ∃ x, mOf renew m0 = x := ⟨_, rfl⟩
    obtain ⟨gg, hgg⟩ : ∃ x, gOf renew g = x := ⟨_, rfl⟩
    obtain ⟨uu, huu⟩ : ∃ x, (if renew then 0 else u) = x := ⟨_, rfl⟩
    have HMG := Lib.hid (And.intro hmm (And.intro hgg huu))
    have hmm1 : mm ≤ 1 := by rw [← hmm]; exact hmle
    have hgg1 : gg ≤ 1099511627777 := by rw [← hgg]; unfold gOf; split <;> omega
    have huu1 : uu ≤ roomN D := by rw [← huu]; split <;> omega
    clear hmm hgg huu hmle
    go_upto_if 91 with fail
    go_cut [14, 15, 16] from 92 to 97 (fun a b c wx => WhereIs mm gg uu w9 a b c wx)
    case first =>
      obtain ⟨x0, x1, x2, x3, x4, x5⟩ := HLa.out.cells
      cases renew with
      | false =>
        obtain ⟨k1, k2, k3⟩ : m0 = mm ∧ g = gg ∧ u = uu := HMG.out
        go_wp2_with fail
        go_meet
        exact ⟨by rw [← k1], by rw [← k2], by rw [← k3], HBa.out⟩
      | true =>
        obtain ⟨k1, k2, k3⟩ : 1 - m0 = mm ∧ g + 1 = gg ∧ 0 = uu := HMG.out
        have K1 := Lib.hid (show (1 : Int) - (m0 : Int) = (mm : Int) by omega)
        have K2 := Lib.hid (show (g : Int) + 1 = (gg : Int) by omega)
        have K3 := Lib.hid k3
        clear k1 k2 k3
        go_wp2_with fail
        go_quiet (fail)
        go_wp2_with fail
        go_meet
        exact ⟨by rw [K1.out], by rw [K2.out], by rw [← K3.out]; rfl, below_drewN HBa.out _⟩
    case rest =>
    obtain ⟨rfl, rfl, rfl, hcut⟩ := hcut
    obtain ⟨wb, hwb⟩ : ∃ W, W = wc := ⟨_, rfl⟩
    rw [← hwb] at hcut ⊢
    clear hwb
    have HXIb := Lib.hid (HXI9.out.keep hcut)
    have HBb := Lib.hid (Below.then HB9.out hcut)
    have HSTb := Lib.hid (HST9.out.keep hcut)
    have HAb := Lib.hid (HA9.out.keep hcut)
    have HDb := Lib.hid (HD9.out.keep hcut)
    clear hcut HXI9 HB9 HST9 HL9 HA9 HD9 HLa HBa
    have RMb := refRoom_t _ D mm wb HDb.out hmm1 HRI.out
    have hRz := room_size D mm HRI.out hmm1
    obtain ⟨R, hRR⟩ : ∃ R : ByteArray, ⟨(roomL D mm).toArray⟩ = R := ⟨_, rfl⟩
    rw [hRR] at RMb hRz
    have RMb := Lib.hid RMb
    obtain ⟨rm, hrm⟩ : ∃ k, roomN D = k := ⟨_, rfl⟩
    rw [hrm] at hus hrn huu1 hRz
    have HRM := Lib.hid hrm
    clear hRR hrm
    obtain ⟨a0, a1⟩ := HAb.out.cells
    go_wp2_with fail
    refine RMb.out.mono ?_
    rintro e wd ⟨rfl, hbd⟩
    have HXId := Lib.hid (HXIb.out.keep hbd)
    have HBd := Lib.hid (Below.then HBb.out hbd)
    have HSTd := Lib.hid (HSTb.out.keep hbd)
    have HAd := Lib.hid (HAb.out.keep hbd)
    have HDd := Lib.hid (HDb.out.keep hbd)
    clear hbd a0 a1 HXIb HBb HSTb HAb HDb RMb
    obtain ⟨av, hav⟩ : ∃ k : Nat, (rm : Int) - (uu : Int) = (k : Int) := ⟨rm - uu, by omega⟩
    have hNOT : (av < bl ∨ 1099511627776 < gg) → ll = [] ∧ xe = 13 := fun h => by
      have := HST.out.1
      rw [goes_not HOP.out HMB.out (by rw [HRM.out, HMG.out.2.2, HMG.out.2.1, ← HBL.out.2]; omega)] at this
      injection this with e1 e2
      exact ⟨e1.symm, e2.symm⟩
    have HNOT := Lib.hid hNOT
    clear hNOT
    by_cases hc : av < bl
    · obtain ⟨h1, rfl⟩ := HNOT.out (Or.inl hc)
      obtain rfl : nll = 0 := by rw [← HST.out.2.2, h1]; rfl
      clear h1
      have HBf := Lib.hid (KW.out wd HBd.out)
      go_wp2_with fail
      go_ret
      exact ⟨rfl, HBf.out⟩
    by_cases hc2 : 1099511627776 < gg
    · obtain ⟨h1, rfl⟩ := HNOT.out (Or.inr hc2)
      obtain rfl : nll = 0 := by rw [← HST.out.2.2, h1]; rfl
      clear h1
      have HBf := Lib.hid (KW.out wd HBd.out)
      go_wp2_with fail
      go_ret
      exact ⟨rfl, HBf.out⟩
    have hgo : Goes D m0 g u es renew NT := goes_yes HOP.out HMB.out (by rw [HRM.out, HMG.out.2.2, ← HBL.out.2]; omega) (by rw [HMG.out.2.1]; exact hc2)
    have HGO := Lib.hid hgo
    obtain ⟨FWL, hFW⟩ : ∃ l, fwOf D m0 u renew NT = l := ⟨_, rfl⟩
    obtain ⟨HWL, hHW⟩ : ∃ l, hwOf D m0 g u renew NT = l := ⟨_, rfl⟩
    obtain ⟨ND, hND⟩ : ∃ l, nextD D m0 g u renew NT = l := ⟨_, rfl⟩
    have hst2 : ll = [FWL, [HWL]] ∧ xe = 0 := by
      have := HST.out.1
      rw [hgo.steps, hFW, hHW] at this
      injection this with e1 e2
      exact ⟨e1.symm, e2.symm⟩
    obtain ⟨hl2, rfl⟩ := hst2
    obtain rfl : nll = 2 := by rw [← HST.out.2.2, hl2]; rfl
    have hOX : openL ND = (X, 0) := by
      have h1 := HST.out.2.1
      rw [addL_goes hgo] at h1
      have h2 := hgo.next.out
      rw [hND] at h1 h2
      rw [h2, h1]
    have HXD := Lib.hid (show X.disk = ND by have := openL_disk (d := ND) (by rw [hOX]); rwa [hOX] at this)
    have HFW := Lib.hid hFW
    have HHW := Lib.hid hHW
    have HND := Lib.hid hND
    have hgg2 : gg ≤ 1099511627776 := by omega
    have hwd : withD D mm gg uu sB.data.toList = ND := by
      rw [HSB.out, ← HMG.out.1, ← HMG.out.2.1, ← HMG.out.2.2, withD_next HOP.out, hND]
    have WT := refWith_t _ D mm gg uu sB wd HDd.out hmm1 HRI.out (by rw [HRM.out, HBL.out.1]; omega) hgg2
    rw [hwd] at WT
    have WT := Lib.hid WT
    have hsteps : ∃ sb u0 f0a f0c hb ho hc, sa = some ⟨sb, 0, none⟩ ∧ 2 ≤ scp ∧ scp ≤ maxLen ∧ wd.cell? ⟨sb, 0, none⟩ = some u0 ∧ u0 = .slice f0a FWL.length f0c ∧ PairsAt wd u0 (FWL.map writeCell) ∧ wd.cell? ⟨sb, 1, none⟩ = some (.slice (some ⟨hb, ho, none⟩) 1 hc) ∧ wd.cell? ⟨hb, ho, none⟩ = some (.int .i64 HWL.1) ∧ wd.cell? ⟨hb, ho + 1, none⟩ = some (.string HWL.2) := by
      have h := HSTd.out
      rw [hl2] at h
      rcases h with ⟨h, -⟩ | ⟨sb, cap, e, h1, h2, h3, h4⟩
      · cases h
      · simp only [Value.slice.injEq] at e
        obtain ⟨rfl, -, rfl⟩ := e
        obtain ⟨u0, k1, k2⟩ := h4 0 (by simp)
        obtain ⟨u1, k3, k4⟩ := h4 1 (by simp)
        simp only [List.getElem_cons_zero, List.getElem_cons_succ] at k2 k4
        obtain ⟨f0a, f0c, rfl, -, -⟩ := k2.shape
        rw [List.length_map] at k1 k2
        rcases k4 with ⟨k4, -⟩ | ⟨hb, ho, hc, rfl, -, -, -, k5⟩
        · cases k4
        · have k6 := k5 0 (by simp)
          simp only [List.map_cons, List.map_nil, List.getElem_cons_zero, Nat.zero_mul, Nat.add_zero, writeCell] at k6
          exact ⟨sb, _, f0a, f0c, hb, ho, hc, rfl, h2, h3, k1, rfl, k2, k3, k6.1, k6.2⟩
    obtain ⟨sb, u0, f0a, f0c, hb, ho, hcp, rfl, hsc2, hscm, hu0, rfl, hpr, hu1, hh0, hh1⟩ := hsteps
    obtain ⟨K, hK⟩ : ∃ k, FWL.length = k := ⟨_, rfl⟩
    rw [hK] at hu0 hpr
    have HKL := Lib.hid hK
    have HU0 := Lib.hid hu0
    have HPR := Lib.hid hpr
    have HU1 := Lib.hid (And.intro hu1 (And.intro hh0 hh1))
    obtain ⟨⟨hat, hst⟩, hHWe⟩ : ∃ x, HWL = x := ⟨_, rfl⟩
    subst hHWe
    obtain ⟨m1, m2, m3, xh, xg, xu, hm1, hm2, hm3, hxh, hxg, hxu⟩ : ∃ m1 m2 m3 xh xg xu, X.disk.secs.length = m1 ∧ X.disk.dirty.length = m2 ∧ X.ents.length = m3 ∧ X.half = xh ∧ X.gen = xg ∧ X.used = xu := ⟨_, _, _, _, _, _, rfl, rfl, rfl, rfl, rfl, rfl⟩
    obtain ⟨p1, k1, p2, k2, p3, k3, hXA, hXL⟩ := HXId.out.boxed hm1 hm2 hm3 hxh hxg hxu
    have HXA := Lib.hid hXA
    have HXL := Lib.hid hXL
    have RO2 := Lib.hid (fun v w' (h : DskAt w' v ND) => show Calls Tryz.prog 13 #[v] w' (LedOutL X 0 m1 m2 m3 xh xg xu w') by
      have := refOpen_t v ND w' h
      rw [hOX] at this
      exact this.mono fun _ _ h => LedOut.letters h hm1 hm2 hm3 hxh hxg hxu)
    clear hgo hFW hHW hND hl2 hOX hwd hpr hu0 hu1 hh0 hh1 hK hm1 hm2 hm3 hxh hxg hxu hXA hXL HXId HSTd hscm
    obtain ⟨a0, a1⟩ := HAd.out.cells
    go_wp2_with fail
    refine WT.out.mono ?_
    rintro e we ⟨wv, rfl, hdv, hbe⟩
    obtain ⟨v1, l1, v2, l2, rfl, -, -⟩ := hdv.shape
    obtain ⟨y1, hy1⟩ : ∃ x, ND.secs.length = x := ⟨_, rfl⟩
    obtain ⟨y2, hy2⟩ : ∃ x, ND.dirty.length = x := ⟨_, rfl⟩
    rw [hy1, hy2] at hdv ⊢
    have RO3 := Lib.hid (RO2.out _ we hdv)
    have HBe := Lib.hid hbe
    clear hdv hy1 hy2 hbe RO2 WT
    go_wp2_with fail
    refine RO3.out.mono ?_
    rintro e wf ⟨q1, j1, q2, j2, q3, j3, rfl, hlf, hbf⟩
    obtain ⟨wg, hwg⟩ : ∃ W, wf.alloc (.cells #[.slice q1 m1 j1, .slice q2 m2 j2, .int .i64 xh, .int .i64 xg, .int .i64 xu, .slice q3 m3 j3] 27) = W := ⟨_, rfl⟩
    obtain ⟨Bw, hBw⟩ : ∃ B, wf.heap.size = B := ⟨_, rfl⟩
    have HBg := Lib.hid (show Below wd.heap.size wd wg by rw [← hwg]; exact Below.then (Below.then HBe.out hbf) (below_new _ _))
    have HWA := Lib.hid (show At6 27 wg Bw (.slice q1 m1 j1) (.slice q2 m2 j2) (.int .i64 xh) (.int .i64 xg) (.int .i64 xu) (.slice q3 m3 j3) by rw [← hwg, ← hBw]; exact At6.new _ _ _ _ _ _ _ _)
    have HWL2 := Lib.hid (show LedAt wg (.agg #[.slice q1 m1 j1, .slice q2 m2 j2, .int .i64 xh, .int .i64 xg, .int .i64 xu, .slice q3 m3 j3]) X by rw [← hwg]; exact hlf.keep (below_new _ _))
    have HWG := Lib.hid hwg
    clear hwg hlf hbf RO3 HBe a0 a1
    go_upto_region 22 with fail
    rw [HWG.out]
    clear hBw
    have LKg := Lib.hid (refLLike_t X X _ _ wg (HXL.out.keep HBg.out) HWL2.out)
    have HXg := Lib.hid (HXA.out.keep HBg.out)
    obtain ⟨z0, z1, z2, z3, z4, z5⟩ := HXg.out.cells
    obtain ⟨y0, y1, y2, y3, y4, y5⟩ := HWA.out.cells
    go_wp2_with fail
    refine LKg.out.mono ?_
    rintro e wh ⟨r, rfl, hr, hbh⟩
    obtain rfl : r = true := hr.2 rfl
    have HBh := Lib.hid (Below.then HBg.out hbh)
    have HWAh := Lib.hid (HWA.out.keep hbh)
    have HWLh := Lib.hid (HWL2.out.keep hbh)
    clear hr hbh z0 z1 z2 z3 z4 z5 y0 y1 y2 y3 y4 y5 LKg HXg HWA HWL2 HBg
    have c1 := Below.keepc HBh.out HU1.out.1
    obtain ⟨a0, a1⟩ := (HAd.out.keep HBh.out).cells
    go_upto_region 25 with fail
    obtain ⟨wn, hwn⟩ : ∃ W, wh.alloc (.cells #[.slice fa fn fc, .slice fa' fn' fc'] 25) = W := ⟨_, rfl⟩
    obtain ⟨Bn, hBn⟩ : ∃ B, wh.heap.size = B := ⟨_, rfl⟩
    have HNI := Lib.hid (show DskIn wn Bn ⟨D.secs, FWL.take 0⟩ by
      rw [← hwn, ← hBn]
      have e : (⟨D.secs, FWL.take 0⟩ : Dsk) = D := by
        have := HOP.out.clean
        rw [List.take_zero]
        cases D
        simp only at this
        rw [this]
      rw [e]
      exact DskIn.new (HDd.out.keep HBh.out))
    have HBn := Lib.hid (show Below wh.heap.size wh wn by rw [← hwn]; exact below_new _ _)
    have HBNle := Lib.hid (show wh.heap.size ≤ Bn by omega)
    have HWN := Lib.hid hwn
    clear hwn c1 a0 a1
    rw [HWN.out, hBn]
    clear hBn
    have HK0 := Lib.hid (And.intro hsc2 (And.intro HU0.out HU1.out))
    have KD := Lib.hid (show ∀ w', Below wh.heap.size wh w' → w'.cell? ⟨sb, 0, none⟩ = some (.slice f0a K f0c) ∧ PairsAt w' (.slice f0a K f0c) (FWL.map writeCell) ∧ w'.cell? ⟨sb, 1, none⟩ = some (.slice (some ⟨hb, ho, none⟩) 1 hcp) ∧ w'.cell? ⟨hb, ho, none⟩ = some (.int .i64 hat) ∧ w'.cell? ⟨hb, ho + 1, none⟩ = some (.string hst) from fun w' hb =>
      have h := Below.then HBh.out hb
      ⟨Below.keepc h HU0.out, HPR.out.keep h, Below.keepc h HU1.out.1, Below.keepc h HU1.out.2.1, Below.keepc h HU1.out.2.2⟩)
    have hFl := fw_length HGO.out
    rw [HFW.out, HKL.out] at hFl
    have HWF := Lib.hid (show wellB D.secs.length FWL = true by rw [← HFW.out]; exact fw_well HGO.out)
    have HWH := Lib.hid (show wellB D.secs.length [(hat, hst)] = true by rw [← HHW.out]; exact hw_well HGO.out)
    have HLT := Lib.hid (show ∀ q (h : q < FWL.length), lastA FWL q < FWL[q].1 by rw [← HFW.out]; exact fun q h => lastA_lt q h)
    have SV := Lib.hid (show ∀ (l : List (Int × ByteArray)) (x : Int × ByteArray), l.length ≤ 33 → wellB D.secs.length l = true → wellB D.secs.length [x] = true → saveD ⟨D.secs, l⟩ [x] = (⟨D.secs, l ++ [x]⟩, 0) from fun l x h1 h2 h3 => save_some HGO.out h1 h2 h3)
    have hf0 := (KD.out wn HBn.out).1
    go_wp2_with fail
    refine wp_loop_rounds 3 ?_
    rw [rounds_succ]
    go_wp2_with fail
    clear hf0
    go_loopw [20, 161] (fun lv iv wr => ∃ q : Nat, q ≤ K ∧ iv = .int .i64 q ∧ lv = .int .i64 (lastA FWL q) ∧ DskIn wr Bn ⟨D.secs, FWL.take q⟩ ∧ Below wh.heap.size wh wr) (fun _ iv _ => K - (intOf iv).toNat)
    case atStart => exact ⟨0, Nat.zero_le _, rfl, rfl, HNI.out, HBn.out⟩
    case round =>
      obtain ⟨q, hq, rfl, rfl, hdi, hbr⟩ := hrel
      have HDI := Lib.hid hdi
      have HBR := Lib.hid hbr
      clear hdi hbr
      by_cases hlt : q < K
      · have hqF : q < FWL.length := by rw [HKL.out]; exact hlt
        obtain ⟨fb, fo, rfl, e0, e1⟩ := (KD.out wr HBR.out).2.1.at q (by rw [List.length_map]; exact hqF)
        rw [write_getElem FWL q hqF] at e0 e1
        have hlast := HLT.out q hqF
        have HLS := Lib.hid (lastA_succ FWL q hqF)
        have HTS := Lib.hid (List.take_succ_eq_append_getElem hqF)
        have hwq := well_at HWF.out q hqF
        have hxx := (well_iff _ _).1 HWF.out _ (List.getElem_mem hqF)
        obtain ⟨⟨ax, x⟩, hx⟩ : ∃ x, FWL[q] = x := ⟨_, rfl⟩
        rw [hx] at e0 e1 hlast HLS HTS hwq hxx
        simp only at e0 e1 hlast HLS hxx
        have hsv := SV.out (FWL.take q) (ax, x) (by rw [List.length_take]; omega) (well_take HWF.out q) hwq
        rw [← HTS.out] at hsv
        have HSV := Lib.hid hsv
        have HXX := Lib.hid hxx
        obtain ⟨la0, hla⟩ : ∃ z, lastA FWL q = z := ⟨_, rfl⟩
        rw [hla] at hlast ⊢
        have hlast2 : ¬ ax ≤ la0 := by omega
        clear hx hwq hxx hsv hla
        obtain ⟨W1, hW1⟩ : ∃ W1, wr.alloc (.cells #[.int .i64 ax, .string x] 48) = W1 := ⟨_, rfl⟩
        obtain ⟨B1, hB1⟩ : ∃ B, wr.heap.size = B := ⟨_, rfl⟩
        have hb1 : Below wr.heap.size wr W1 := by rw [← hW1]; exact below_new _ _
        have HBR1 := Lib.hid hb1
        have HX := Lib.hid (show At2 48 W1 B1 (.int .i64 ax) (.string x) by rw [← hW1, ← hB1]; exact At2.new _ _ _ _)
        obtain ⟨na, nc, na', nc', hN, hDn⟩ := (HDI.out.keep hb1).boxed fn q HFN.out (by simp only [List.length_take]; rw [HKL.out]; omega)
        have HN := Lib.hid hN
        have HDN := Lib.hid hDn
        have HW1 := Lib.hid hW1
        clear hW1 hb1 hN hDn
        go_upto_region 31 with fail
        rw [HW1.out]
        clear hB1
        obtain ⟨x0, x1⟩ := HX.out.cells
        obtain ⟨n0', n1'⟩ := HN.out.cells
        clear e0 e1
        obtain ⟨W2r, hW2r⟩ : ∃ W, W1.alloc (.cells #[.int .i64 ax, .string x] 48) = W := ⟨_, rfl⟩
        have hb2 : Below W1.heap.size W1 W2r := by rw [← hW2r]; exact below_new _ _
        have hrow : PairsAt W2r (.slice (some ⟨W1.heap.size, 0, none⟩) 1 1) ([(ax, x)].map writeCell) := by rw [← hW2r]; exact head_row (At2.new 48 W1 (.int .i64 ax) (.string x))
        have SVC := Save_t _ _ _ [(ax, x)] W2r (HDN.out.keep hb2) hrow (fun z hz => by
          rw [List.mem_singleton.1 hz]
          have h64 := HRI.out.most
          refine ⟨by rw [HXX.out.2.2]; unfold maxLen; decide, by have := HXX.out.1; simp only; omega, by have := HXX.out.2.1; simp only; omega⟩) (by simp)
        rw [HSV.out] at SVC
        have SVC := Lib.hid SVC
        have HB2r := Lib.hid (Below.then HBR1.out hb2)
        have HN2 := Lib.hid (HN.out.keep hb2)
        have HDI2 := Lib.hid ((HDI.out.keep HBR1.out).keep hb2)
        have HW2r := Lib.hid hW2r
        clear hW2r hb2 hrow
        go_wp2_with fail
        rw [HW2r.out]
        refine SVC.out.mono ?_
        rintro e wy ⟨yv, rfl, hyd, hby⟩
        simp only at hyd ⊢
        obtain ⟨ya, yc, ya', yc', rfl, -, -⟩ := hyd.shape
        have h1 : (⟨D.secs, FWL.take (q + 1)⟩ : Dsk).secs.length = fn := HFN.out
        have h2 : (⟨D.secs, FWL.take (q + 1)⟩ : Dsk).dirty.length = q + 1 := by simp only [List.length_take]; rw [HKL.out]; omega
        rw [h1, h2] at hyd ⊢
        obtain ⟨W3, hW3⟩ : ∃ W, wy.alloc (.cells #[.slice ya fn yc, .slice ya' (q + 1) yc'] 25) = W := ⟨_, rfl⟩
        obtain ⟨By, hBy⟩ : ∃ B, wy.heap.size = B := ⟨_, rfl⟩
        have hb3 : Below wy.heap.size wy W3 := by rw [← hW3]; exact below_new _ _
        have HY := Lib.hid (show At2 25 W3 By (.slice ya fn yc) (.slice ya' (q + 1) yc') by rw [← hW3, ← hBy]; exact At2.new _ _ _ _)
        have HYD := Lib.hid (hyd.keep hb3)
        have HN3 := Lib.hid ((HN2.out.keep hby).keep hb3)
        have HDI3 := Lib.hid ((HDI2.out.keep hby).keep hb3)
        have HB3 := Lib.hid (Below.then HBR.out (Below.then (Below.then HB2r.out hby) hb3))
        have HW3 := Lib.hid hW3
        clear hW3 hb3 hby hyd h1 h2 x0 x1 n0' n1' SVC
        go_upto_region 35 with fail
        rw [HW3.out]
        clear hBy
        obtain ⟨y0, y1⟩ := HY.out.cells
        obtain ⟨b0, b1⟩ := HN3.out.cells
        obtain ⟨f0, f1⟩ := HN3.out.free
        go_wp2_with fail
        go_roundw
        case rel => exact ⟨q + 1, by omega, by go_num, by rw [HLS.out], HDI3.out.set HYD.out, set2_below HB3.out HBNle.out _ _⟩
        case measure => simp [intOf]; omega
      · obtain rfl : q = K := by omega
        have HDI := Lib.hid (show DskIn wr Bn ⟨D.secs, FWL⟩ by
          have := HDI.out
          rwa [List.take_of_length_le (by rw [HKL.out]; exact Nat.le_refl _)] at this)
        obtain ⟨la0, hla⟩ : ∃ z, lastA FWL q = z := ⟨_, rfl⟩
        rw [hla]
        clear hla
        obtain ⟨-, -, r1, -, -⟩ := KD.out wr HBR.out
        go_wp2_with fail
        rw [rounds_succ]
        go_wp2_with fail
        clear r1
        refine wp_loop_rounds 2 ?_
        rw [rounds_succ]
        obtain ⟨-, -, -, r2, r3⟩ := KD.out wr HBR.out
        obtain ⟨W1, hW1⟩ : ∃ W1, wr.alloc (.cells #[.int .i64 hat, .string hst] 48) = W1 := ⟨_, rfl⟩
        obtain ⟨B1, hB1⟩ : ∃ B, wr.heap.size = B := ⟨_, rfl⟩
        have hb1 : Below wr.heap.size wr W1 := by rw [← hW1]; exact below_new _ _
        have HBR1 := Lib.hid hb1
        have HX := Lib.hid (show At2 48 W1 B1 (.int .i64 hat) (.string hst) by rw [← hW1, ← hB1]; exact At2.new _ _ _ _)
        obtain ⟨na, nc, na', nc', hN, hDn⟩ := (HDI.out.keep hb1).boxed fn q HFN.out HKL.out
        have HN := Lib.hid hN
        have HDN := Lib.hid hDn
        have HW1 := Lib.hid hW1
        clear hW1 hb1 hN hDn
        go_upto_region 31 with fail
        rw [HW1.out]
        clear hB1 r2 r3
        obtain ⟨x0, x1⟩ := HX.out.cells
        go_cut [173] from 165 to 172 (fun bv wx => bv = .bool false ∧ Below W1.heap.size W1 wx)
        case first =>
          by_cases hle : hat ≤ la0
          · go_wp2_with fail
            go_meet
            exact ⟨rfl, Below.refl _ _⟩
          · go_wp2_with fail
            go_meet
            exact ⟨rfl, Below.refl _ _⟩
        case rest =>
        obtain ⟨rfl, hcut⟩ := hcut
        obtain ⟨W1b, hW1b⟩ : ∃ W, W = wc := ⟨_, rfl⟩
        rw [← hW1b] at hcut ⊢
        clear hW1b x0 x1
        have HX1 := Lib.hid (HX.out.keep hcut)
        have HN1 := Lib.hid (HN.out.keep hcut)
        have HDN1 := Lib.hid (HDN.out.keep hcut)
        have HDI1 := Lib.hid ((HDI.out.keep HBR1.out).keep hcut)
        have HBR1b := Lib.hid (Below.then HBR1.out hcut)
        clear hcut
        have hsv := SV.out FWL (hat, hst) (by rw [HKL.out]; omega) HWF.out HWH.out
        have HSV := Lib.hid hsv
        have HXX := Lib.hid ((well_iff _ _).1 HWH.out (hat, hst) (by simp))
        clear hsv
        obtain ⟨x0, x1⟩ := HX1.out.cells
        obtain ⟨n0', n1'⟩ := HN1.out.cells
        obtain ⟨W2r, hW2r⟩ : ∃ W, W1b.alloc (.cells #[.int .i64 hat, .string hst] 48) = W := ⟨_, rfl⟩
        have hb2 : Below W1b.heap.size W1b W2r := by rw [← hW2r]; exact below_new _ _
        have hrow : PairsAt W2r (.slice (some ⟨W1b.heap.size, 0, none⟩) 1 1) ([(hat, hst)].map writeCell) := by rw [← hW2r]; exact head_row (At2.new 48 W1b (.int .i64 hat) (.string hst))
        have SVC := Save_t _ _ _ [(hat, hst)] W2r (HDN1.out.keep hb2) hrow (fun z hz => by
          rw [List.mem_singleton.1 hz]
          have h64 := HRI.out.most
          refine ⟨by rw [HXX.out.2.2]; unfold maxLen; decide, by have := HXX.out.1; simp only at this ⊢; omega, by have := HXX.out.2.1; simp only at this ⊢; omega⟩) (by simp)
        rw [HSV.out] at SVC
        have SVC := Lib.hid SVC
        have HB2r := Lib.hid (Below.then HBR1b.out hb2)
        have HN2 := Lib.hid (HN1.out.keep hb2)
        have HDI2 := Lib.hid (HDI1.out.keep hb2)
        have HW2r := Lib.hid hW2r
        clear hW2r hb2 hrow
        go_wp2_with fail
        rw [HW2r.out]
        refine SVC.out.mono ?_
        rintro e wy ⟨yv, rfl, hyd, hby⟩
        simp only at hyd ⊢
        obtain ⟨ya, yc, ya', yc', rfl, -, -⟩ := hyd.shape
        have h1 : (⟨D.secs, FWL ++ [(hat, hst)]⟩ : Dsk).secs.length = fn := HFN.out
        have h2 : (⟨D.secs, FWL ++ [(hat, hst)]⟩ : Dsk).dirty.length = q + 1 := by simp only [List.length_append]; rw [HKL.out]; rfl
        rw [h1, h2] at hyd ⊢
        obtain ⟨W3, hW3⟩ : ∃ W, wy.alloc (.cells #[.slice ya fn yc, .slice ya' (q + 1) yc'] 25) = W := ⟨_, rfl⟩
        obtain ⟨By, hBy⟩ : ∃ B, wy.heap.size = B := ⟨_, rfl⟩
        have hb3 : Below wy.heap.size wy W3 := by rw [← hW3]; exact below_new _ _
        have HY := Lib.hid (show At2 25 W3 By (.slice ya fn yc) (.slice ya' (q + 1) yc') by rw [← hW3, ← hBy]; exact At2.new _ _ _ _)
        have HYD := Lib.hid (hyd.keep hb3)
        have HN3 := Lib.hid ((HN2.out.keep hby).keep hb3)
        have HDI3 := Lib.hid ((HDI2.out.keep hby).keep hb3)
        have HB3 := Lib.hid (Below.then HBR.out (Below.then (Below.then HB2r.out hby) hb3))
        have HW3 := Lib.hid hW3
        clear hW3 hb3 hby hyd h1 x0 x1 n0' n1' SVC
        go_upto_region 35 with fail
        rw [HW3.out]
        clear hBy
        obtain ⟨y0, y1⟩ := HY.out.cells
        obtain ⟨b0, b1⟩ := HN3.out.cells
        obtain ⟨f0, f1⟩ := HN3.out.free
        obtain ⟨W4, hW4⟩ : ∃ W, (W3.setCell ⟨Bn, 0, none⟩ (.slice ya fn yc)).setCell ⟨Bn, 1, none⟩ (.slice ya' (q + 1) yc') = W := ⟨_, rfl⟩
        have HDI4 := Lib.hid (show DskIn W4 Bn ⟨D.secs, FWL ++ [(hat, hst)]⟩ by rw [← hW4]; exact HDI3.out.set HYD.out)
        have HB4 := Lib.hid (show Below wh.heap.size wh W4 by rw [← hW4]; exact set2_below HB3.out HBNle.out _ _)
        have HW4 := Lib.hid hW4
        have HQ1 := Lib.hid h2
        clear hW4 h2
        go_wp2_with fail
        rw [rounds_succ]
        go_wp2_with fail
        rw [rounds_succ]
        go_upto_region 40 with fail
        rw [HW4.out]
        clear y0 y1 b0 b1 f0 f1
        obtain ⟨qa, qc, qa', qc', hN, hDn⟩ := HDI4.out.boxed fn (q + 1) HFN.out HQ1.out
        have HN5 := Lib.hid hN
        have FL := Flush_t _ _ W4 hDn
        rw [← HFW.out, ← HHW.out, flush_all HGO.out, HND.out] at FL
        have FL := Lib.hid FL
        clear hN hDn
        obtain ⟨b0, b1⟩ := HN5.out.cells
        go_wp2_with fail
        refine FL.out.mono ?_
        rintro e w5 ⟨zv, rfl, hzd, hb5⟩
        simp only at hzd ⊢
        obtain ⟨za, zc, za', zc', rfl, -, -⟩ := hzd.shape
        obtain ⟨t1, ht1⟩ : ∃ x, ND.secs.length = x := ⟨_, rfl⟩
        obtain ⟨t2, ht2⟩ : ∃ x, ND.dirty.length = x := ⟨_, rfl⟩
        rw [ht1, ht2] at hzd ⊢
        have hN5 := HN5.out.keep hb5
        have HN5b := Lib.hid hN5
        obtain ⟨W6, hW6⟩ : ∃ W, (w5.setCell ⟨Bn, 0, none⟩ (.slice za t1 zc)).setCell ⟨Bn, 1, none⟩ (.slice za' t2 zc') = W := ⟨_, rfl⟩
        have HN6 := Lib.hid (show At2 25 W6 Bn (.slice za t1 zc) (.slice za' t2 zc') by rw [← hW6]; exact hN5.set _ _)
        have HZD := Lib.hid (show DskAt W6 (.agg #[.slice za t1 zc, .slice za' t2 zc']) ND by rw [← hW6]; exact hzd.ns (set2_ns hN5 (isSl_mk _ _ _) (isSl_mk _ _ _) _ _))
        have HB6 := Lib.hid (show Below wh.heap.size wh W6 by rw [← hW6]; exact set2_below (Below.then HB4.out hb5) HBNle.out _ _)
        have HW6e := Lib.hid hW6
        clear b0 b1
        obtain ⟨b0, b1⟩ := hN5.cells
        obtain ⟨f0, f1⟩ := hN5.free
        clear hN5 hW6 hzd hb5 ht1 ht2 FL
        go_upto_region 41 with fail
        rw [HW6e.out]
        clear b0 b1 f0 f1
        have HW6 := Lib.hid (HWAh.out.keep HB6.out)
        have HA6 := Lib.hid (HAd.out.keep (Below.then HBh.out HB6.out))
        have hXd := (HWLh.out.keep HB6.out).parts.1
        rw [HXD.out] at hXd
        have LKE := Lib.hid (fun w' (hb : Below W6.heap.size W6 w') => refLike_t ND ND _ _ w' (HZD.out.keep hb) (hXd.keep hb))
        have hah : ((mm * hOf D : Nat) : Int) = hat := by
          have e := HHW.out
          simp only [hwOf, headW, Prod.mk.injEq] at e
          rw [← HMG.out.1]; exact e.1
        have hAT := fun w' (hb : Below W6.heap.size W6 w') => refAt_t _ D mm w' ((HDd.out.keep (Below.then HBh.out HB6.out)).keep hb) hmm1 HRI.out.most
        rw [hah] at hAT
        have ATE := Lib.hid hAT
        have HBW6 := Lib.hid (KW.out _ (Below.then HBd.out (Below.then HBh.out HB6.out)))
        have qh : (hat == hat) = true := beq_self_eq_true hat
        have hsome := fw_some D m0 u renew NT
        rw [HFW.out, HKL.out, ← HBL.out.2] at hsome
        clear hXd hah hAT
        obtain ⟨b0, b1⟩ := HN6.out.cells
        obtain ⟨y0, y1, y2, y3, y4, y5⟩ := HW6.out.cells
        obtain ⟨r0, -, r1, r2, -⟩ := KD.out W6 HB6.out
        obtain ⟨a0, a1⟩ := HA6.out.cells
        have hbA := Below.refl W6.heap.size W6
        by_cases hbp : 0 < bl
        · have hqp := hsome.1 hbp
          have hbi : (0 : Int) < (bl : Int) := by omega
          have hqi : (0 : Int) < (q : Int) := by omega
          clear hsome
          go_region_held3 (fun w' => w'.cell? ⟨Bn, 0, none⟩ = some (.slice za t1 zc) ∧ w'.cell? ⟨Bn, 1, none⟩ = some (.slice za' t2 zc') ∧ w'.cell? ⟨Bw, 0, none⟩ = some (.slice q1 m1 j1) ∧ w'.cell? ⟨Bw, 1, none⟩ = some (.slice q2 m2 j2) ∧ w'.cell? ⟨sb, 0, none⟩ = some (.slice f0a q f0c) ∧ w'.cell? ⟨sb, 1, none⟩ = some (.slice (some ⟨hb, ho, none⟩) 1 hcp) ∧ w'.cell? ⟨hb, ho, none⟩ = some (.int .i64 hat) ∧ w'.cell? ⟨Bd, 0, none⟩ = some (.slice fa fn fc) ∧ w'.cell? ⟨Bd, 1, none⟩ = some (.slice fa' fn' fc')) (exact ⟨b0, b1, y0, y1, r0, r1, r2, a0, a1⟩)
            (first
            | (go_simp; go_at_call 29
               refine (LKE.out _ (by first | exact hbA | exact hbA.drew)).mono ?_
               rintro e wS ⟨r, rfl, hr, hbS⟩
               obtain rfl : r = true := hr.2 rfl
               have hbA : Below W6.heap.size W6 wS := by first | exact Below.then hbA hbS | exact Below.then hbA.drew hbS
               obtain ⟨b0, b1⟩ := (HN6.out.keep hbA).cells
               obtain ⟨y0, y1, y2, y3, y4, y5⟩ := (HW6.out.keep hbA).cells
               obtain ⟨r0, -, r1, r2, -⟩ := KD.out wS (Below.then HB6.out hbA)
               obtain ⟨a0, a1⟩ := (HA6.out.keep hbA).cells)
            | (go_simp; go_at_call 30
               refine (ATE.out _ (by first | exact hbA | exact hbA.drew)).mono ?_
               rintro e wS ⟨rfl, hbS⟩
               have hbA : Below W6.heap.size W6 wS := by first | exact Below.then hbA hbS | exact Below.then hbA.drew hbS
               obtain ⟨b0, b1⟩ := (HN6.out.keep hbA).cells
               obtain ⟨y0, y1, y2, y3, y4, y5⟩ := (HW6.out.keep hbA).cells
               obtain ⟨r0, -, r1, r2, -⟩ := KD.out wS (Below.then HB6.out hbA)
               obtain ⟨a0, a1⟩ := (HA6.out.keep hbA).cells))
          all_goals
            have HBF := Lib.hid (Below.then HBW6.out hbA)
            clear hbA hbS b0 b1 y0 y1 y2 y3 y4 y5 r0 r1 r2 a0 a1
            go_wp2_with fail
            go_ret
            exact ⟨rfl, HBF.out⟩
        · have hqp : ¬ 0 < q := fun h => hbp (hsome.2 h)
          have hbi : ¬ (0 : Int) < (bl : Int) := by omega
          have hqi : ¬ (0 : Int) < (q : Int) := by omega
          clear hsome
          go_region_held3 (fun w' => w'.cell? ⟨Bn, 0, none⟩ = some (.slice za t1 zc) ∧ w'.cell? ⟨Bn, 1, none⟩ = some (.slice za' t2 zc') ∧ w'.cell? ⟨Bw, 0, none⟩ = some (.slice q1 m1 j1) ∧ w'.cell? ⟨Bw, 1, none⟩ = some (.slice q2 m2 j2) ∧ w'.cell? ⟨sb, 0, none⟩ = some (.slice f0a q f0c) ∧ w'.cell? ⟨sb, 1, none⟩ = some (.slice (some ⟨hb, ho, none⟩) 1 hcp) ∧ w'.cell? ⟨hb, ho, none⟩ = some (.int .i64 hat) ∧ w'.cell? ⟨Bd, 0, none⟩ = some (.slice fa fn fc) ∧ w'.cell? ⟨Bd, 1, none⟩ = some (.slice fa' fn' fc')) (exact ⟨b0, b1, y0, y1, r0, r1, r2, a0, a1⟩)
            (first
            | (go_simp; go_at_call 29
               refine (LKE.out _ (by first | exact hbA | exact hbA.drew)).mono ?_
               rintro e wS ⟨r, rfl, hr, hbS⟩
               obtain rfl : r = true := hr.2 rfl
               have hbA : Below W6.heap.size W6 wS := by first | exact Below.then hbA hbS | exact Below.then hbA.drew hbS
               obtain ⟨b0, b1⟩ := (HN6.out.keep hbA).cells
               obtain ⟨y0, y1, y2, y3, y4, y5⟩ := (HW6.out.keep hbA).cells
               obtain ⟨r0, -, r1, r2, -⟩ := KD.out wS (Below.then HB6.out hbA)
               obtain ⟨a0, a1⟩ := (HA6.out.keep hbA).cells)
            | (go_simp; go_at_call 30
               refine (ATE.out _ (by first | exact hbA | exact hbA.drew)).mono ?_
               rintro e wS ⟨rfl, hbS⟩
               have hbA : Below W6.heap.size W6 wS := by first | exact Below.then hbA hbS | exact Below.then hbA.drew hbS
               obtain ⟨b0, b1⟩ := (HN6.out.keep hbA).cells
               obtain ⟨y0, y1, y2, y3, y4, y5⟩ := (HW6.out.keep hbA).cells
               obtain ⟨r0, -, r1, r2, -⟩ := KD.out wS (Below.then HB6.out hbA)
               obtain ⟨a0, a1⟩ := (HA6.out.keep hbA).cells))
          all_goals
            have HBF := Lib.hid (Below.then HBW6.out hbA)
            clear hbA hbS b0 b1 y0 y1 y2 y3 y4 y5 r0 r1 r2 a0 a1
            go_wp2_with fail
            go_ret
            exact ⟨rfl, HBF.out⟩
end Go.Proofs.YtkplpodljmlanaaGreatDoor
