/-
  The law WireOnce, walked: it returns true at every row of texts and row of ints. Conditions: texts no longer than memory; they are ints.
-/
import Derived.Test.YtjjefdgcbdfclaaNetOnceW
import Derived.Test.YtjjefdgcbdfclaaNetCalls
import Derived.Test.YtjjefdgcbdfclaaPrgWire
import Derived.Test.YtjjefdgcbdfclaaLawWAlive
import Derived.Deep.CutBlock
import Derived.Lib.MinMax
import Derived.Carry
namespace Go.Proofs.Ytjjefdgcbdfclaa
open Go.RowKit Go.WideShapes

theorem rem_on (c m : Int) (h0 : 0 < m) : ∃ x, (c.tmod m + m).tmod m = x ∧ 0 ≤ x ∧ x < m ∧ -m < c.tmod m ∧ c.tmod m < m := by
  have h1 : -m < c.tmod m ∧ c.tmod m < m := by
    have h := Int.natAbs_tmod c m
    have h2 : (c.tmod m).natAbs < m.natAbs := by rw [h]; exact Nat.mod_lt _ (by omega)
    omega
  have h2 := Int.tmod_nonneg m (show 0 ≤ c.tmod m + m by omega)
  have h3 := Int.tmod_lt_of_pos (c.tmod m + m) h0
  exact ⟨_, rfl, h2, h3, h1.1, h1.2⟩
theorem once_start (w : World) : OnceW w (((w.alloc (.cells #[nilV, .int .i64 0, .int .i64 0] 24)).alloc (.map #[] 0)).alloc (.map #[] 0)) w.heap.size (w.heap.size + 1) (w.heap.size + 2) noN (fun _ => ⟨#[]⟩) (fun _ => 0) 0 0 := by
  have e1 := StrMap.new (w.alloc (.cells #[nilV, .int .i64 0, .int .i64 0] 24))
  have e2 := IntMap.new ((w.alloc (.cells #[nilV, .int .i64 0, .int .i64 0] 24)).alloc (.map #[] 0))
  rw [World.size_alloc] at e1
  rw [World.size_alloc, World.size_alloc] at e2
  exact ⟨((VarN.new (noN_at w)).keep (below_new _ _)).keep (below_new _ _), e1.keep (below_new _ _), e2, Below.then (Below.then (below_new _ _) (below_new _ _)) (below_new _ _), Nat.le_refl _, by omega, by omega⟩

set_option maxRecDepth 100000 in
set_option maxHeartbeats 8000000 in
theorem once_any (v av : Value) (ss : List ByteArray) (acts : List Int) (w : World) (h : StrRw w v ss) (hz : ∀ s ∈ ss, s.size ≤ maxLen) (h2 : IntRw w av acts) (hz2 : ∀ a ∈ acts, i64 a) :
    Calls Try.prog 4 #[v, av] w fun e w' => e = .returned (.bool true) ∧ Below w.heap.size w w' := by
  have AL := Lib.hid alive13_t
  have RP := Lib.hid WRight_t
  obtain ⟨sa, sc, rfl, hsc, hsm⟩ := h.shape
  obtain ⟨ia, ic, rfl, hic, him⟩ := h2.shape
  have HSZ := Lib.hid hz
  have HIZ := Lib.hid hz2
  have HS0 := Lib.hid h
  have HI0 := Lib.hid h2
  obtain ⟨ns, hns⟩ : ∃ k, ss.length = k := ⟨_, rfl⟩
  obtain ⟨ni, hni⟩ : ∃ k, acts.length = k := ⟨_, rfl⟩
  rw [hns] at HS0 hsc ⊢
  rw [hni] at HI0 hic ⊢
  have HNS := Lib.hid hns
  have HNI := Lib.hid hni
  have ST := Lib.hid (once_start w)
  obtain ⟨Bn, hBn⟩ : ∃ x, w.heap.size = x := ⟨_, rfl⟩
  obtain ⟨Bs, hBs⟩ : ∃ x, Bn + 1 = x := ⟨_, rfl⟩
  obtain ⟨Bl, hBl⟩ : ∃ x, Bs + 1 = x := ⟨_, rfl⟩
  have HNE := Lib.hid (show Bs ≠ Bl by omega)
  have hmm := @run_makeMap Try.prog
  clear h h2 hz hz2 hns hni
  go_enter Try.func4, Try.ntmps4
  go_upto_region 4 with fail
  obtain ⟨W, hW⟩ : ∃ x, ((w.alloc (.cells #[nilV, .int .i64 0, .int .i64 0] 24)).alloc (.map #[] 0)).alloc (.map #[] 0) = x := ⟨_, rfl⟩
  rw [hW]
  have HOW := Lib.hid (show OnceW w W Bn Bs Bl noN (fun _ => ⟨#[]⟩) (fun _ => 0) 0 0 by
    have := ST.out
    rw [hW, show w.heap.size + 2 = Bl by omega, show w.heap.size + 1 = Bs by omega, hBn] at this
    exact this)
  clear hW ST hBn hBs hBl hmm
  go_upto_block 0 with fail
  go_cut [] from 33 to 68 (fun wx => ∃ (n : Nt) (N : Nat) (g : Int → ByteArray) (f : Int → Int), Once n N g f ∧ OnceW w wx Bn Bs Bl n g f N N)
  case first =>
    go_wp2_with fail
    go_loopw [33] (fun iv wr => ∃ (n : Nt) (N : Nat) (g : Int → ByteArray) (f : Int → Int), N ≤ ns ∧ iv = .int .i64 N ∧ Once n N g f ∧ n.fl.length = N ∧ OnceW w wr Bn Bs Bl n g f N N) (fun i _ => ns - (intOf i).toNat)
    case atStart => exact ⟨noN, 0, _, _, Nat.zero_le _, rfl, Once.zero, rfl, HOW.out⟩
    case round =>
      obtain ⟨n, N, g, f, hN, rfl, ht, hlen, how⟩ := hrel
      have HT := Lib.hid ht
      have HL := Lib.hid hlen
      replace HOW := Lib.hid how
      have Hn := Lib.hid how.net
      have HB := Lib.hid how.below
      have hN20 := ht.few
      clear ht hlen how
      by_cases hlt : N < ns
      · have k1 : N < ss.length := by rw [HNS.out]; exact hlt
        obtain ⟨lb, lo, rfl, e0⟩ := (HS0.out.keep HB.out).at N k1
        have hsz := HSZ.out ss[N] (List.getElem_mem k1)
        obtain ⟨s0, hs0⟩ : ∃ x, ss[N] = x := ⟨_, rfl⟩
        rw [hs0] at e0 hsz
        clear hs0
        by_cases hk2 : N = 20
        · subst hk2
          go_wp2_with fail
          go_meet
          exact ⟨n, 20, g, f, HT.out, HOW.out⟩
        have hk3 : N < 20 := by omega
        have q20 : decide (20 ≤ N) = false := decide_eq_false (by omega)
        clear hk2
        unfold maxLen at hsz
        obtain ⟨z, hz⟩ : ∃ z, min s0.size 100 = z := ⟨_, rfl⟩
        have q1 : min (s0.size : Int) 100 = (z : Int) := by omega
        have hzb : z ≤ s0.size := by omega
        obtain ⟨s1, hs1⟩ : ∃ x, s0.extract 0 z = x := ⟨_, rfl⟩
        have hs100 : s1.size ≤ 100 := by rw [← hs1, ByteArray.size_extract]; omega
        have hsm1 : s1.size ≤ maxLen := by unfold maxLen; omega
        have E1 := Lib.hid (HT.out.send hk3 HL.out hs100)
        have HT2 := Lib.hid (HT.out.sent hk3 HL.out hs100)
        have hnone := HT.out.none
        obtain ⟨x, hx⟩ : ∃ x, wroteN n N s1 = x := ⟨_, rfl⟩
        have HXL := Lib.hid (show x.fl.length = N + 1 by rw [← hx]; show (n.fl ++ [_]).length = _; rw [List.length_append, HL.out]; rfl)
        obtain ⟨sid, hsid⟩ : ∃ y, (N : Int) + 1 = y := ⟨_, rfl⟩
        rw [hx, hsid] at E1 HT2
        rw [hsid] at hnone
        have p64 : (N : Int).tmod 64 = (N : Int) := by rw [Int.tmod_eq_emod_of_nonneg (by omega)]; omega
        have p2 : IntKind.i64.wrap ((N : Int) + 1) = sid := by rw [IntKind.wrap_i64]; omega
        have isid : i64 sid := ⟨by omega, by omega⟩
        have iN : i64 (N : Int) := ⟨by omega, by omega⟩
        have HSID := Lib.hid hsid
        have HNONE := Lib.hid hnone
        clear hz hx hsid hnone
        go_upto_region 9 with fail
        clear e0 q1 hs1
        obtain ⟨xa, xk, xc, xl, xt, hA, hV⟩ := Hn.out.is
        have C0 := Send_t _ n N s1 wr hV iN hsm1
        rw [E1.out] at C0
        have C := Lib.hid C0
        clear C0
        obtain ⟨a0, a1, a2⟩ := hA.cells
        clear hA hV
        go_wp2_with fail
        refine C.out.mono ?_
        rintro e w1 ⟨v1, rfl, hv1, hb1⟩
        obtain ⟨ya, yk, yc, yl, yt, rfl⟩ := hv1.three
        have HV1 := Lib.hid hv1
        clear hv1
        replace HB := Lib.hid (Below.then HB.out hb1)
        replace Hn := Lib.hid (Hn.out.keep hb1)
        replace HOW := Lib.hid (HOW.out.keep hb1)
        clear C hb1 a0 a1 a2
        obtain ⟨w2, hw2⟩ : ∃ x, w1.alloc (.cells #[.slice ya yk yc, .int .i64 yl, .int .i64 yt] 24) = x := ⟨_, rfl⟩
        obtain ⟨Bx, hBx⟩ : ∃ x, w1.heap.size = x := ⟨_, rfl⟩
        have Hx := Lib.hid (show VarN w2 Bx x by rw [← hw2, ← hBx]; exact VarN.new HV1.out)
        have hb2 : Below w1.heap.size w1 w2 := by rw [← hw2]; exact below_new _ _
        have HNnx := Lib.hid (show Bn ≠ Bx by have := Hn.out.lt; omega)
        have HNxn := Lib.hid (HNnx.out.symm)
        replace Hn := Lib.hid (Hn.out.keep hb2)
        replace HOW := Lib.hid (HOW.out.keep hb2)
        have HLx := Lib.hid (show w.heap.size ≤ Bx by rw [← hBx]; exact HB.out.size)
        replace HB := Lib.hid (Below.then HB.out hb2)
        have HW2 := Lib.hid hw2
        clear hw2 hb2 HV1
        go_upto_region 10 with fail
        rw [HW2.out]
        clear hBx HW2
        have hrun := HOW.out.left.run isid
        rw [HNONE.out] at hrun
        go_upto_region 12 with fail
        clear hrun
        obtain ⟨xa, xk, xc, xl, xt, hA, hV⟩ := Hx.out.is
        obtain ⟨a0, a1, a2⟩ := hA.cells
        obtain ⟨na, nk, nc, nl, nt, hA2, -⟩ := Hn.out.is
        obtain ⟨b0, b1, b2⟩ := hA2.cells
        obtain ⟨f0, f1, f2⟩ := hA2.free
        have HVX := Lib.hid hV
        clear hA hV hA2
        go_wp2_with (at_mapUpdate; refine wpList_put_str _ rfl _ _ _ rfl Bs N g ((HOW.out.set HVX.out).sent) rfl (by unfold maxLen; omega) sid s1 rfl rfl isid hsm1 ?_)
        intro w30 hs3 hg3
        have HO3 := Lib.hid ((HOW.out.set HVX.out).putS HNE.out hs3 hg3)
        clear hs3 hg3 a0 a1 a2 b0 b1 b2 f0 f1 f2
        go_wp2_with (at_mapUpdate; refine wpList_put_int _ rfl _ _ _ rfl Bl N f HO3.out.left rfl (by unfold maxLen; omega) sid 1 rfl rfl isid ⟨by decide, by decide⟩ ?_)
        intro w40 hs4 hg4
        have HO4 := Lib.hid (HO3.out.putL HNE.out hs4 hg4)
        clear hs4 hg4
        go_wp2_with fail
        go_roundw
        case rel => exact ⟨x, N + 1, _, _, by omega, by rw [← HSID.out]; go_num, HT2.out, HXL.out, HO4.out⟩
        case measure => have := HSID.out; simp [intOf]; omega
      · go_wp2_with fail
        go_meet
        exact ⟨n, N, g, f, HT.out, HOW.out⟩
  case rest =>
  obtain ⟨n, N, g, f, ht, how⟩ := hcut
  have HT := Lib.hid ht
  replace HOW := Lib.hid how
  clear ht how HS0 HSZ HNS hsc hsm
  go_upto_block 2 with fail
  go_cut [] from 71 to 178 (fun wx => ∃ (n : Nt) (f : Int → Int) (c2 : Nat), c2 ≤ 80 ∧ Once n N g f ∧ OnceW w wx Bn Bs Bl n g f N c2)
  case first =>
    have hN20 := HT.out.few
    go_wp2_with fail
    go_loopw [71] (fun iv wr => ∃ (i : Nat) (n : Nt) (f : Int → Int) (c2 : Nat), i ≤ ni ∧ i ≤ 60 ∧ iv = .int .i64 i ∧ c2 ≤ 20 + i ∧ Once n N g f ∧ OnceW w wr Bn Bs Bl n g f N c2) (fun i _ => ni - (intOf i).toNat)
    case atStart => exact ⟨0, n, f, N, Nat.zero_le _, Nat.zero_le _, rfl, by omega, HT.out, HOW.out⟩
    case round =>
      clear HT HOW
      obtain ⟨i, n, f, c2, hi, hi60, rfl, hc2, ht, how⟩ := hrel
      have HT := Lib.hid ht
      have HOW := Lib.hid how
      have Hn := Lib.hid how.net
      have HB := Lib.hid how.below
      clear ht how
      by_cases hlt : i < ni
      · have k1 : i < acts.length := by rw [HNI.out]; exact hlt
        obtain ⟨lb, lo, rfl, e0⟩ := (HI0.out.keep HB.out).at i k1
        have haz := HIZ.out acts[i] (List.getElem_mem k1)
        obtain ⟨a, ha⟩ : ∃ x, acts[i] = x := ⟨_, rfl⟩
        rw [ha] at e0 haz
        clear ha
        by_cases hk2 : i = 60
        · subst hk2
          go_wp2_with fail
          go_meet
          exact ⟨n, f, c2, hc2, HT.out, HOW.out⟩
        have hk3 : i < 60 := by omega
        have q60 : decide (60 ≤ i) = false := decide_eq_false (by omega)
        clear hk2
        obtain ⟨na, nk, nc, nl, nt, hA, hV⟩ := Hn.out.is
        obtain ⟨hnk, -, -, hnc, hncm, hrow⟩ := hV.parts
        have HNK := Lib.hid hnk
        have HRW := Lib.hid hrow
        have hn32 := ((Nt.right_iff n).1 HT.out.right).few
        rw [← hnk] at hn32
        have HAN := Lib.hid hA
        obtain ⟨a0, a1, a2⟩ := hA.cells
        clear hA hV hnk hrow
        by_cases hk0 : nk = 0
        · have q0 : ((nk : Int) == 0) = true := by rw [hk0]; rfl
          go_wp2_with fail
          go_meet
          exact ⟨n, f, c2, by omega, HT.out, HOW.out⟩
        have q0 : ((nk : Int) == 0) = false := beq_eq_false_iff_ne.2 (by omega)
        obtain ⟨q, hq⟩ : ∃ x, a.tdiv 3 = x := ⟨_, rfl⟩
        have hqb : i64 q := by
          rw [← hq]
          have := Int.natAbs_tdiv a 3
          unfold i64 at haz
          have h2 : (a.tdiv 3).natAbs = a.natAbs / 3 := this
          constructor <;> omega
        have pq : IntKind.i64.wrap q = q := by rw [IntKind.wrap_i64]; omega
        obtain ⟨pi, ep, hp0, hp1, hp2, hp3⟩ := rem_on q nk (by omega)
        obtain ⟨p, rfl⟩ : ∃ p : Nat, pi = (p : Int) := ⟨pi.toNat, by omega⟩
        have pw : IntKind.i64.wrap (q.tmod nk + nk) = q.tmod nk + nk := by rw [IntKind.wrap_i64]; omega
        obtain ⟨c, ec, hc0, hc1, hc2', hc3⟩ := rem_on a 3 (by decide)
        have pc : IntKind.i64.wrap (a.tmod 3 + 3) = a.tmod 3 + 3 := by rw [IntKind.wrap_i64]; omega
        have hpk : p < n.fl.length := by rw [← HNK.out]; omega
        obtain ⟨rb, ro, rfl, m0, m1, m2, m3⟩ := ms_at HRW.out p hpk
        have hat := HT.out.at p hpk
        have ET := Lib.hid (take_ok HT.out.right hpk)
        have EL := Lib.hid (show loseA n p = (offN n p, 0) from lose_some HT.out.right hpk)
        have EW := Lib.hid (show n.fl.length ≠ 32 → twiceA n p = (twiceN n p hpk, 0) from fun h => twice_some HT.out.right hpk h)
        have EF := Lib.hid (fun h => twice_full HT.out.right hpk h)
        have HT2 := Lib.hid (HT.out.off p hpk)
        have HT3 := Lib.hid (HT.out.twice p hpk)
        obtain ⟨tw, htw⟩ : ∃ x, twiceN n p hpk = x := ⟨_, rfl⟩
        rw [htw] at EW HT3
        obtain ⟨off, hoff⟩ : ∃ x, offN n p = x := ⟨_, rfl⟩
        rw [hoff] at ET EL HT2
        obtain ⟨M, hM⟩ : ∃ x, n.fl[p] = x := ⟨_, rfl⟩
        rw [hM] at m0 m1 m2 m3 hat ET HT2 HT3
        obtain ⟨mi, mt, mb, mm⟩ := M
        simp only at m0 m1 m2 m3 hat HT2 HT3
        obtain ⟨hf1, hf2, hmt, hmb, hmi1, hmi2⟩ := hat
        obtain ⟨fv, hfv⟩ : ∃ x, f mi = x := ⟨_, rfl⟩
        rw [hfv] at hf1 hf2 HT2 HT3
        have HFV := Lib.hid hfv
        have HMB := Lib.hid hmb
        obtain ⟨fm, hfm⟩ : ∃ x, fv - 1 = x := ⟨_, rfl⟩
        obtain ⟨fp, hfp⟩ : ∃ x, fv + 1 = x := ⟨_, rfl⟩
        have pm : IntKind.i64.wrap (fv - 1) = fm := by rw [IntKind.wrap_i64]; omega
        have pp : IntKind.i64.wrap (fv + 1) = fp := by rw [IntKind.wrap_i64]; omega
        have ifm : i64 fm := ⟨by omega, by omega⟩
        have ifp : i64 fp := ⟨by omega, by omega⟩
        rw [hfm] at HT2
        rw [hfp] at HT3
        have ptm : IntKind.i64.wrap (mi - 1) = mt := by rw [IntKind.wrap_i64]; omega
        have pt64 : mt.tmod 64 = mt := by rw [Int.tmod_eq_emod_of_nonneg (by omega)]; omega
        have imi : i64 mi := ⟨by omega, by omega⟩
        have ip : i64 (p : Int) := ⟨by omega, by omega⟩
        have dfv : decide (fv < 1) = false := decide_eq_false (by omega)
        clear hM hoff htw hmt hmb hfv hfm hfp hp2 hp3 hc2' hc3 hqb
        go_upto_region 27 with fail
        clear e0 m0 m1 m2 m3 a0 a1 a2 ep pw ec pc pq hq
        have hc : c = 0 ∨ c = 1 ∨ c = 2 := by omega
        rcases hc with rfl | rfl | rfl
        · go_upto_region 28 with fail
          obtain ⟨xa, xk, xc, xl, xt, hA, hV⟩ := Hn.out.is
          have C0 := Take_t _ n p wr hV ip
          rw [ET.out] at C0
          unfold msV at C0
          have C := Lib.hid C0
          clear C0
          obtain ⟨a0, a1, a2⟩ := hA.cells
          clear hA hV
          go_wp2_with fail
          refine C.out.mono ?_
          rintro e w1 ⟨v1, rfl, hv1, hb1⟩
          obtain ⟨ya, yk, yc, yl, yt, rfl⟩ := hv1.three
          have HV1 := Lib.hid hv1
          clear hv1
          replace HB := Lib.hid (Below.then HB.out hb1)
          replace Hn := Lib.hid (Hn.out.keep hb1)
          replace HOW := Lib.hid (HOW.out.keep hb1)
          clear C hb1 a0 a1 a2
          obtain ⟨w2, hw2⟩ : ∃ x, (w1.alloc (.cells #[.slice ya yk yc, .int .i64 yl, .int .i64 yt] 24)).alloc (.cells #[.int .i64 mi, .int .i64 mt, .string mb, .int .i64 mm] 30) = x := ⟨_, rfl⟩
          obtain ⟨Bb, hBb⟩ : ∃ x, w1.heap.size = x := ⟨_, rfl⟩
          have Hb := Lib.hid (show VarN w2 Bb off by rw [← hw2, ← hBb]; exact (VarN.new HV1.out).keep (below_new _ _))
          have Hm := Lib.hid (show At4 30 w2 (Bb + 1) (.int .i64 mi) (.int .i64 mt) (.string mb) (.int .i64 mm) by
            rw [← hw2, ← hBb]
            have e := At4.new 30 (w1.alloc (.cells #[.slice ya yk yc, .int .i64 yl, .int .i64 yt] 24)) (.int .i64 mi) (.int .i64 mt) (.string mb) (.int .i64 mm)
            rwa [World.size_alloc] at e)
          have hb2 : Below w1.heap.size w1 w2 := by rw [← hw2]; exact Below.then (below_new _ _) (below_new _ _)
          have HNnb := Lib.hid (show Bn ≠ Bb by have := Hn.out.lt; omega)
          have HNbn := Lib.hid (HNnb.out.symm)
          replace Hn := Lib.hid (Hn.out.keep hb2)
          replace HOW := Lib.hid (HOW.out.keep hb2)
          have HLb := Lib.hid (show w.heap.size ≤ Bb by rw [← hBb]; exact HB.out.size)
          replace HB := Lib.hid (Below.then HB.out hb2)
          have HW2 := Lib.hid hw2
          clear hw2 hb2 HV1
          go_upto_region 29 with fail
          rw [HW2.out]
          clear hBb HW2
          have hr1 := HOW.out.sent.run imi
          rw [← HMB.out] at hr1
          have hr2 := HOW.out.left.run imi
          rw [HFV.out] at hr2
          obtain ⟨x0, x1, x2, x3⟩ := Hm.out.cells
          go_upto_region 31 with fail
          clear hr1 hr2 x0 x1 x2 x3
          obtain ⟨xa, xk, xc, xl, xt, hA, hV⟩ := Hb.out.is
          obtain ⟨a0, a1, a2⟩ := hA.cells
          obtain ⟨ya', yk', yc', yl', yt', hA2, -⟩ := Hn.out.is
          obtain ⟨b0, b1, b2⟩ := hA2.cells
          obtain ⟨f0, f1, f2⟩ := hA2.free
          have HVX := Lib.hid hV
          clear hA hV hA2
          go_upto_region 32 with fail
          obtain ⟨w50, hw50⟩ : ∃ x, ((w2.setCell ⟨Bn, 0, none⟩ (.slice xa xk xc)).setCell ⟨Bn, 1, none⟩ (.int .i64 xl)).setCell ⟨Bn, 2, none⟩ (.int .i64 xt) = x := ⟨_, rfl⟩
          rw [hw50]
          have HO5 := Lib.hid (show OnceW w w50 Bn Bs Bl off g f N c2 by rw [← hw50]; exact HOW.out.set HVX.out)
          clear hw50 a0 a1 a2 b0 b1 b2 f0 f1 f2
          have hrun := HO5.out.left.run imi
          rw [HFV.out] at hrun
          go_wp2_with (at_mapUpdate; refine wpList_put_int _ rfl _ _ _ rfl Bl c2 f HO5.out.left rfl (by unfold maxLen; omega) mi fm rfl rfl imi ifm ?_)
          intro w60 hs6 hg6
          have HO6 := Lib.hid (HO5.out.putL HNE.out hs6 hg6)
          clear hs6 hg6 hrun
          go_wp2_with fail
          go_roundw
          case rel => exact ⟨i + 1, off, _, c2 + 1, by omega, by omega, by go_num, by omega, HT2.out, HO6.out⟩
          case measure => simp [intOf]; omega
        · by_cases h32 : nk = 32
          · have E3 := Lib.hid (EF.out (by rw [← HNK.out]; exact h32))
            clear h32
            go_upto_region 34 with fail
            obtain ⟨xa, xk, xc, xl, xt, hA, hV⟩ := Hn.out.is
            have C0 := Twice_t _ n p wr hV ip
            rw [E3.out] at C0
            have C := Lib.hid C0
            clear C0
            obtain ⟨a0, a1, a2⟩ := hA.cells
            clear hA hV
            go_wp2_with fail
            refine C.out.mono ?_
            rintro e w1 ⟨v1, rfl, hv1, hb1⟩
            obtain ⟨ya, yk, yc, yl, yt, rfl⟩ := hv1.three
            have HV1 := Lib.hid hv1
            clear hv1
            replace HB := Lib.hid (Below.then HB.out hb1)
            replace Hn := Lib.hid (Hn.out.keep hb1)
            replace HOW := Lib.hid (HOW.out.keep hb1)
            clear C hb1 a0 a1 a2
            obtain ⟨w2, hw2⟩ : ∃ x, w1.alloc (.cells #[.slice ya yk yc, .int .i64 yl, .int .i64 yt] 24) = x := ⟨_, rfl⟩
            obtain ⟨Bx, hBx⟩ : ∃ x, w1.heap.size = x := ⟨_, rfl⟩
            have Hx := Lib.hid (show VarN w2 Bx noN by rw [← hw2, ← hBx]; exact VarN.new HV1.out)
            have hb2 : Below w1.heap.size w1 w2 := by rw [← hw2]; exact below_new _ _
            have HNnx := Lib.hid (show Bn ≠ Bx by have := Hn.out.lt; omega)
            have HNxn := Lib.hid (HNnx.out.symm)
            replace Hn := Lib.hid (Hn.out.keep hb2)
            replace HOW := Lib.hid (HOW.out.keep hb2)
            have HLx := Lib.hid (show w.heap.size ≤ Bx by rw [← hBx]; exact HB.out.size)
            replace HB := Lib.hid (Below.then HB.out hb2)
            have HW2 := Lib.hid hw2
            clear hw2 hb2 HV1
            go_upto_region 35 with fail
            rw [HW2.out]
            clear hBx HW2
            go_wp2_with fail
            go_roundw
            case rel => exact ⟨i + 1, n, f, c2, by omega, by omega, by go_num, by omega, HT.out, HOW.out⟩
            case measure => simp [intOf]; omega
          · have h33 : n.fl.length ≠ 32 := by rw [← HNK.out]; exact h32
            have E3 := Lib.hid (EW.out h33)
            have HT4 := Lib.hid (HT3.out h33)
            clear h32 h33
            go_upto_region 34 with fail
            obtain ⟨xa, xk, xc, xl, xt, hA, hV⟩ := Hn.out.is
            have C0 := Twice_t _ n p wr hV ip
            rw [E3.out] at C0
            have C := Lib.hid C0
            clear C0
            obtain ⟨a0, a1, a2⟩ := hA.cells
            clear hA hV
            go_wp2_with fail
            refine C.out.mono ?_
            rintro e w1 ⟨v1, rfl, hv1, hb1⟩
            obtain ⟨ya, yk, yc, yl, yt, rfl⟩ := hv1.three
            have HV1 := Lib.hid hv1
            clear hv1
            replace HB := Lib.hid (Below.then HB.out hb1)
            replace Hn := Lib.hid (Hn.out.keep hb1)
            replace HOW := Lib.hid (HOW.out.keep hb1)
            clear C hb1 a0 a1 a2
            obtain ⟨w2, hw2⟩ : ∃ x, w1.alloc (.cells #[.slice ya yk yc, .int .i64 yl, .int .i64 yt] 24) = x := ⟨_, rfl⟩
            obtain ⟨Bx, hBx⟩ : ∃ x, w1.heap.size = x := ⟨_, rfl⟩
            have Hx := Lib.hid (show VarN w2 Bx tw by rw [← hw2, ← hBx]; exact VarN.new HV1.out)
            have hb2 : Below w1.heap.size w1 w2 := by rw [← hw2]; exact below_new _ _
            have HNnx := Lib.hid (show Bn ≠ Bx by have := Hn.out.lt; omega)
            have HNxn := Lib.hid (HNnx.out.symm)
            replace Hn := Lib.hid (Hn.out.keep hb2)
            replace HOW := Lib.hid (HOW.out.keep hb2)
            have HLx := Lib.hid (show w.heap.size ≤ Bx by rw [← hBx]; exact HB.out.size)
            replace HB := Lib.hid (Below.then HB.out hb2)
            have HW2 := Lib.hid hw2
            clear hw2 hb2 HV1
            go_upto_region 35 with fail
            rw [HW2.out]
            clear hBx HW2
            go_upto_region 36 with fail
            obtain ⟨xa, xk, xc, xl, xt, hA, hV⟩ := Hx.out.is
            obtain ⟨a0, a1, a2⟩ := hA.cells
            obtain ⟨ya', yk', yc', yl', yt', hA2, -⟩ := Hn.out.is
            obtain ⟨b0, b1, b2⟩ := hA2.cells
            obtain ⟨f0, f1, f2⟩ := hA2.free
            have HVX := Lib.hid hV
            clear hA hV hA2
            go_upto_region 37 with fail
            obtain ⟨w50, hw50⟩ : ∃ x, ((w2.setCell ⟨Bn, 0, none⟩ (.slice xa xk xc)).setCell ⟨Bn, 1, none⟩ (.int .i64 xl)).setCell ⟨Bn, 2, none⟩ (.int .i64 xt) = x := ⟨_, rfl⟩
            rw [hw50]
            have HO5 := Lib.hid (show OnceW w w50 Bn Bs Bl tw g f N c2 by rw [← hw50]; exact HOW.out.set HVX.out)
            clear hw50 a0 a1 a2 b0 b1 b2 f0 f1 f2
            have hrun := HO5.out.left.run imi
            rw [HFV.out] at hrun
            go_wp2_with (at_mapUpdate; refine wpList_put_int _ rfl _ _ _ rfl Bl c2 f HO5.out.left rfl (by unfold maxLen; omega) mi fp rfl rfl imi ifp ?_)
            intro w60 hs6 hg6
            have HO6 := Lib.hid (HO5.out.putL HNE.out hs6 hg6)
            clear hs6 hg6 hrun
            go_wp2_with fail
            go_roundw
            case rel => exact ⟨i + 1, tw, _, c2 + 1, by omega, by omega, by go_num, by omega, HT4.out, HO6.out⟩
            case measure => simp [intOf]; omega
        · go_upto_region 22 with fail
          obtain ⟨xa, xk, xc, xl, xt, hA, hV⟩ := Hn.out.is
          have C0 := Lose_t _ n p wr hV ip
          rw [EL.out] at C0
          have C := Lib.hid C0
          clear C0
          obtain ⟨a0, a1, a2⟩ := hA.cells
          clear hA hV
          go_wp2_with fail
          refine C.out.mono ?_
          rintro e w1 ⟨v1, rfl, hv1, hb1⟩
          obtain ⟨ya, yk, yc, yl, yt, rfl⟩ := hv1.three
          have HV1 := Lib.hid hv1
          clear hv1
          replace HB := Lib.hid (Below.then HB.out hb1)
          replace Hn := Lib.hid (Hn.out.keep hb1)
          replace HOW := Lib.hid (HOW.out.keep hb1)
          clear C hb1 a0 a1 a2
          obtain ⟨w2, hw2⟩ : ∃ x, w1.alloc (.cells #[.slice ya yk yc, .int .i64 yl, .int .i64 yt] 24) = x := ⟨_, rfl⟩
          obtain ⟨Bd, hBd⟩ : ∃ x, w1.heap.size = x := ⟨_, rfl⟩
          have Hd := Lib.hid (show VarN w2 Bd off by rw [← hw2, ← hBd]; exact VarN.new HV1.out)
          have hb2 : Below w1.heap.size w1 w2 := by rw [← hw2]; exact below_new _ _
          have HNnd := Lib.hid (show Bn ≠ Bd by have := Hn.out.lt; omega)
          have HNdn := Lib.hid (HNnd.out.symm)
          replace Hn := Lib.hid (Hn.out.keep hb2)
          replace HOW := Lib.hid (HOW.out.keep hb2)
          have HLd := Lib.hid (show w.heap.size ≤ Bd by rw [← hBd]; exact HB.out.size)
          replace HB := Lib.hid (Below.then HB.out hb2)
          have HW2 := Lib.hid hw2
          clear hw2 hb2 HV1
          go_upto_region 23 with fail
          rw [HW2.out]
          clear hBd HW2
          go_upto_region 25 with fail
          obtain ⟨xa, xk, xc, xl, xt, hA, hV⟩ := Hd.out.is
          obtain ⟨a0, a1, a2⟩ := hA.cells
          obtain ⟨ya', yk', yc', yl', yt', hA2, -⟩ := Hn.out.is
          obtain ⟨b0, b1, b2⟩ := hA2.cells
          obtain ⟨f0, f1, f2⟩ := hA2.free
          have HVX := Lib.hid hV
          clear hA hV hA2
          go_upto_region 26 with fail
          obtain ⟨w50, hw50⟩ : ∃ x, ((w2.setCell ⟨Bn, 0, none⟩ (.slice xa xk xc)).setCell ⟨Bn, 1, none⟩ (.int .i64 xl)).setCell ⟨Bn, 2, none⟩ (.int .i64 xt) = x := ⟨_, rfl⟩
          rw [hw50]
          have HO5 := Lib.hid (show OnceW w w50 Bn Bs Bl off g f N c2 by rw [← hw50]; exact HOW.out.set HVX.out)
          clear hw50 a0 a1 a2 b0 b1 b2 f0 f1 f2
          have hrun := HO5.out.left.run imi
          rw [HFV.out] at hrun
          go_wp2_with (at_mapUpdate; refine wpList_put_int _ rfl _ _ _ rfl Bl c2 f HO5.out.left rfl (by unfold maxLen; omega) mi fm rfl rfl imi ifm ?_)
          intro w60 hs6 hg6
          have HO6 := Lib.hid (HO5.out.putL HNE.out hs6 hg6)
          clear hs6 hg6 hrun
          go_wp2_with fail
          go_roundw
          case rel => exact ⟨i + 1, off, _, c2 + 1, by omega, by omega, by go_num, by omega, HT2.out, HO6.out⟩
          case measure => simp [intOf]; omega
      · go_wp2_with fail
        go_meet
        exact ⟨n, f, c2, by omega, HT.out, HOW.out⟩
  case rest =>
  obtain ⟨n, f, c2, hc80, ht, how⟩ := hcut
  clear HT HOW HI0 HIZ HNI hic him
  have HT := Lib.hid ht
  have HOW := Lib.hid how
  clear ht how
  obtain ⟨na, nk, nc, nl, nt, hA, hV⟩ := HOW.out.net.is
  obtain ⟨hnk, -, -, hnc, hncm, hrow⟩ := hV.parts
  have HNK := Lib.hid hnk
  have hn32 := ((Nt.right_iff n).1 HT.out.right).few
  rw [← hnk] at hn32
  have HRW := Lib.hid hrow
  obtain ⟨a0, a1, a2⟩ := hA.cells
  clear hA hV hnk hrow
  go_wp2_with fail
  clear a0 a1 a2
  go_loopw [182] (fun iv wr => ∃ j c3 : Nat, j ≤ nk ∧ iv = .int .i64 j ∧ c3 ≤ 80 + j ∧ RwAt 4 wr (.slice na nk nc) (n.fl.map msCell) ∧ OnceW w wr Bn Bs Bl n g (leftJ f n.fl j) N c3) (fun i _ => nk - (intOf i).toNat)
  case atStart => exact ⟨0, c2, Nat.zero_le _, rfl, by omega, HRW.out, by rw [leftJ_zero]; exact HOW.out⟩
  case round =>
    clear HOW HRW
    obtain ⟨j, c3, hj, rfl, hc3, hrow, how⟩ := hrel
    have HOW := Lib.hid how
    have HRW := Lib.hid hrow
    clear how hrow
    by_cases hlt : j < nk
    · have k1 : j < n.fl.length := by rw [← HNK.out]; exact hlt
      obtain ⟨lb, lo, rfl, e0, e1, e2, e3⟩ := ms_at HRW.out j k1
      have hids := HT.out.ids _ (List.getElem_mem k1)
      have hbd := HT.out.bound j n.fl[j].id
      have HNX := Lib.hid (leftJ_next f n.fl j k1)
      have hf20 := HT.out.few
      obtain ⟨⟨y1, y2, y3, y4⟩, hy⟩ : ∃ x, n.fl[j] = x := ⟨_, rfl⟩
      rw [hy] at e0 e1 e2 e3 hids hbd HNX
      simp only at e0 e1 e2 e3 hids hbd HNX
      obtain ⟨fv, hfv⟩ : ∃ x, leftJ f n.fl j y1 = x := ⟨_, rfl⟩
      rw [hfv] at hbd HNX
      have HFV := Lib.hid hfv
      obtain ⟨fm, hfm⟩ : ∃ x, fv - 1 = x := ⟨_, rfl⟩
      have pm : IntKind.i64.wrap (fv - 1) = fm := by rw [IntKind.wrap_i64]; omega
      have ifm : i64 fm := ⟨by omega, by omega⟩
      have iy : i64 y1 := ⟨by omega, by omega⟩
      rw [hfm] at HNX
      obtain ⟨W1, hW1⟩ : ∃ W1, wr.alloc (.cells #[.int .i64 y1, .int .i64 y2, .string y3, .int .i64 y4] 30) = W1 := ⟨_, rfl⟩
      obtain ⟨B1, hB1⟩ : ∃ B, wr.heap.size = B := ⟨_, rfl⟩
      have hb1 : Below wr.heap.size wr W1 := by rw [← hW1]; exact below_new _ _
      have HX := Lib.hid (show At4 30 W1 B1 (.int .i64 y1) (.int .i64 y2) (.string y3) (.int .i64 y4) by rw [← hW1, ← hB1]; exact At4.new _ _ _ _ _ _)
      have HO1 := Lib.hid (HOW.out.keep hb1)
      have HR1 := Lib.hid (RwAt.keep HRW.out hb1)
      have HW1 := Lib.hid hW1
      clear hW1 hy hb1 hfv hfm hids hbd
      go_upto_region 42 with fail
      rw [HW1.out]
      clear hB1 e0 e1 e2 e3
      obtain ⟨x0, x1, x2, x3⟩ := HX.out.cells
      have hrun := HO1.out.left.run iy
      rw [HFV.out] at hrun
      go_wp2_with (at_mapUpdate; refine wpList_put_int _ rfl _ _ _ rfl Bl c3 _ HO1.out.left rfl (by unfold maxLen; omega) y1 fm rfl rfl iy ifm ?_)
      intro w60 hs6 hg6
      have HO6 := Lib.hid (HO1.out.putL HNE.out hs6 hg6)
      have HR6 := Lib.hid (RwAt.past HR1.out HO1.out.left.isMap hg6)
      clear hs6 hg6 hrun x0 x1 x2 x3
      go_wp2_with fail
      go_roundw
      case rel => exact ⟨j + 1, c3 + 1, by omega, by go_num, by omega, HR6.out, by rw [← HNX.out]; exact HO6.out⟩
      case measure => simp [intOf]; omega
    · obtain rfl : j = nk := by omega
      obtain ⟨wo, rfl⟩ : ∃ x : World, x = wr := ⟨_, rfl⟩
      have HZ := Lib.hid (show ∀ k, leftJ f n.fl j k = 0 from fun k => by rw [HNK.out]; exact HT.out.left k)
      obtain ⟨D, hown, hat⟩ := HOW.out.left
      have HAT := Lib.hid hat
      have HOWN := Lib.hid hown
      obtain ⟨R, hR⟩ : ∃ r, wo.heap.size = r := ⟨_, rfl⟩
      have HRR := Lib.hid hR
      clear hat hown hR
      go_wp2_with (at_range; refine wpList_range_own _ rfl _ 43 rfl 3 3 intK Try.underlying43 _ Bl c3 D rfl HOWN.out ?_)
      intro w70 hrg0 hg0 hs0
      have HG0 := Lib.hid (show Below wo.heap.size wo w70 from (Below.refl _ _).grown hg0 (Nat.le_refl _) (fun i hi => by cases hi))
      rw [HRR.out] at hrg0 ⊢
      have HRG0 := Lib.hid hrg0
      clear hrg0 hg0 hs0
      go_wp2_with fail
      go_loopw [28] (fun _ wr => ∃ (left : Lit → Bool) (cnt : Nat), wr.ranges Try.prog 3 (plainElem Try.prog 3) Bl R c3 D left cnt ∧ Below wo.heap.size wo wr) (fun _ wr => wr.rangeLeft Bl R)
      case atStart => exact ⟨_, _, HRG0.out, HG0.out⟩
      case round =>
        obtain ⟨left, cnt, hrg, hbw⟩ := hrel
        have HBW := Lib.hid hbw
        clear hbw
        go_wp2_with (at_next; refine wpList_next_ranges_ii _ rfl _ rfl 3 3 .i64 .i64 intK Try.underlying3 Try.underlying3 Bl R c3 _ _ _ rfl hrg ?_ ?_)
        · intro _ _
          have HN2 := Lib.hid (HOW.out.net.keep HBW.out)
          have HBX := Lib.hid (Below.then HOW.out.below HBW.out)
          have C := Lib.hid (AL.out wr)
          go_wp2_with fail
          refine C.out.mono ?_
          rintro e w80 ⟨rfl, hb8⟩
          replace HBX := Lib.hid (Below.then HBX.out hb8)
          obtain ⟨pa, pk, pc, pl, pt', hA, hV⟩ := (HN2.out.keep hb8).is
          obtain ⟨a0, a1, a2⟩ := hA.cells
          have C2 := RP.out _ n w80 hV
          rw [HT.out.right] at C2
          have CC := Lib.hid C2
          clear hb8 hA hV C C2
          go_wp2_with fail
          refine CC.out.mono ?_
          rintro e w81 ⟨rfl, hb9⟩
          have HBY := Lib.hid (Below.then HBX.out hb9)
          clear hb9 CC a0 a1 a2
          go_wp2_with fail
          go_ret
          exact ⟨rfl, HBY.out⟩
        · intro x c w71 cnt1 hwx _ _ hat1 hrg1 hltc hg1 _ hen
          have hc : c = 0 := by
            have e1 := hat1 (.lit (.int .i64 0))
            rw [HAT.out x (bounds_i64 hwx), HZ.out x] at e1
            simpa using e1.symm
          have HB2 := Lib.hid (HBW.out.grown hg1 HBW.out.size (fun i hi => by cases hi; exact Nat.le_of_eq HRR.out))
          have HRG := Lib.hid hrg
          have HRG1 := Lib.hid hrg1
          have HLT := Lib.hid hltc
          subst hc
          clear hat1 hwx hg1 hrg hrg1 hltc
          go_wp2_with fail
          go_roundw
          case rel => exact ⟨_, cnt1, HRG1.out, HB2.out⟩
          case measure => rw [HRG1.out.left_eq, HRG.out.left_eq]; exact HLT.out
end Go.Proofs.Ytjjefdgcbdfclaa
