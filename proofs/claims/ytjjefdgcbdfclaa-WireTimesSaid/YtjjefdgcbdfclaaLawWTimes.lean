/-
  The law WireTimes, walked: it returns true at every row of ints and place. Conditions: they are ints.
-/
import Derived.Test.YtjjefdgcbdfclaaNetTimes
import Derived.Test.YtjjefdgcbdfclaaNetVar
import Derived.Test.YtjjefdgcbdfclaaNetInts
import Derived.Test.YtjjefdgcbdfclaaPrgWire
import Derived.Test.YtjjefdgcbdfclaaLawWAlive
import Derived.Deep.CutBlock
namespace Go.Proofs.Ytjjefdgcbdfclaa
open Go.RowKit Go.WideShapes

theorem rem_in (c m : Int) (h0 : 0 < m) : ∃ x, (c.tmod m + m).tmod m = x ∧ 0 ≤ x ∧ x < m ∧ -m < c.tmod m ∧ c.tmod m < m := by
  have h1 : -m < c.tmod m ∧ c.tmod m < m := by
    have h := Int.natAbs_tmod c m
    have h2 : (c.tmod m).natAbs < m.natAbs := by rw [h]; exact Nat.mod_lt _ (by omega)
    omega
  have h2 := Int.tmod_nonneg m (show 0 ≤ c.tmod m + m by omega)
  have h3 := Int.tmod_lt_of_pos (c.tmod m + m) h0
  exact ⟨_, rfl, h2, h3, h1.1, h1.2⟩
theorem sent_at {n : Nt} {k : Nat} {g : Int} (h : n.fl.length = k) (hk : k < (sentN n k g).fl.length) : ((sentN n k g).fl[k]).tm = n.now + g := by
  have e : (sentN n k g).fl[k]? = some ⟨(k : Int) + 1, k, ⟨#[]⟩, n.now + g⟩ := by
    show (n.fl ++ [_])[k]? = _
    rw [List.getElem?_append_right (by omega), h, Nat.sub_self]; rfl
  rw [List.getElem?_eq_getElem hk] at e
  injection e with e
  rw [e]
/-- What the last loop looks back at. -/
abbrev bysL : List Int := [0, 50, 200, 1000]
theorem bys_in : ∀ j (h : j < bysL.length), 0 ≤ bysL[j] ∧ bysL[j] ≤ 1000
  | 0, _ => by show (0 : Int) ≤ 0 ∧ (0 : Int) ≤ 1000; decide
  | 1, _ => by show (0 : Int) ≤ 50 ∧ (50 : Int) ≤ 1000; decide
  | 2, _ => by show (0 : Int) ≤ 200 ∧ (200 : Int) ≤ 1000; decide
  | 3, _ => by show (0 : Int) ≤ 1000 ∧ (1000 : Int) ≤ 1000; decide
theorem bys_up : ∀ j (h : j + 1 < bysL.length), bysL[j] ≤ bysL[j + 1]
  | 0, _ => by show (0 : Int) ≤ 50; decide
  | 1, _ => by show (50 : Int) ≤ 200; decide
  | 2, _ => by show (200 : Int) ≤ 1000; decide

set_option maxRecDepth 100000 in
set_option maxHeartbeats 8000000 in
theorem times_any (v : Value) (gs : List Int) (place : Int) (w : World) (h : IntRw w v gs) (hz : ∀ g ∈ gs, i64 g) (hp : i64 place) :
    Calls Try.prog 6 #[v, .int .i64 place] w fun e w' => e = .returned (.bool true) ∧ Below w.heap.size w w' := by
  have AL := Lib.hid alive13_t
  obtain ⟨ga, gc, rfl, hgc, hgm⟩ := h.shape
  have HGZ := Lib.hid hz
  have HP := Lib.hid hp
  have HG0 := Lib.hid h
  obtain ⟨ng, hng⟩ : ∃ k, gs.length = k := ⟨_, rfl⟩
  rw [hng] at HG0 hgc ⊢
  have HNG := Lib.hid hng
  obtain ⟨W, hW⟩ : ∃ W, w.alloc (.cells #[nilV, .int .i64 0, .int .i64 0] 24) = W := ⟨_, rfl⟩
  obtain ⟨Bn, hBn⟩ : ∃ x, w.heap.size = x := ⟨_, rfl⟩
  have HB := Lib.hid (show Below w.heap.size w W by rw [← hW]; exact below_new _ _)
  have Hn0 := Lib.hid (show VarN W Bn noN by rw [← hW, ← hBn]; exact VarN.new (noN_at w))
  have HLn := Lib.hid (show w.heap.size ≤ Bn by omega)
  have HW := Lib.hid hW
  clear hW h hng hz hp
  go_enter Try.func6, Try.ntmps6
  go_upto_region 2 with fail
  rw [HW.out]
  clear hBn HW
  go_upto_block 0 with fail
  go_cut [] from 29 to 87 (fun wx => ∃ (n : Nt) (k : Nat), Tms n k ∧ VarN wx Bn n ∧ Below w.heap.size w wx)
  case first =>
    go_wp2_with fail
    go_loopw [6, 28] (fun av iv wr => ∃ (n : Nt) (k : Nat), k ≤ ng ∧ iv = .int .i64 k ∧ Tms n k ∧ av = .int .i64 n.now ∧ VarN wr Bn n ∧ Below w.heap.size w wr) (fun _ i _ => ng - (intOf i).toNat)
    case atStart => exact ⟨noN, 0, Nat.zero_le _, rfl, Tms.zero, rfl, Hn0.out, HB.out⟩
    case round =>
      obtain ⟨n, k, hk, rfl, ht, rfl, hv, hb⟩ := hrel
      have HT := Lib.hid ht
      have Hn := Lib.hid hv
      replace HB := Lib.hid hb
      have hk20 := ht.few
      have hnow := ht.now
      obtain ⟨at0, hat0⟩ : ∃ x, n.now = x := ⟨_, rfl⟩
      rw [hat0] at hnow ⊢
      have HAT := Lib.hid hat0
      clear hv hb ht hat0
      by_cases hlt : k < ng
      · have k1 : k < gs.length := by rw [HNG.out]; exact hlt
        obtain ⟨lb, lo, rfl, e0⟩ := (HG0.out.keep HB.out).at k k1
        have e0z : k = 0 → wr.cell? ⟨lb, lo, none⟩ = some (.int .i64 gs[k]) := fun hz => by have := e0; simpa [hz] using this
        have hgb := HGZ.out gs[k] (List.getElem_mem k1)
        obtain ⟨g, hg⟩ : ∃ x, gs[k] = x := ⟨_, rfl⟩
        rw [hg] at e0 e0z hgb
        clear hg
        by_cases hk2 : k = 20
        · subst hk2
          go_wp2_with fail
          go_meet
          exact ⟨n, 20, HT.out, Hn.out, HB.out⟩
        have hk3 : k < 20 := by omega
        have q20 : decide (20 ≤ k) = false := decide_eq_false (by omega)
        clear hk2
        obtain ⟨g1, eg, hg0, hg1, hg2, hg3⟩ := rem_in g 100 (by decide)
        have p1 : IntKind.i64.wrap (g.tmod 100 + 100) = g.tmod 100 + 100 := by rw [IntKind.wrap_i64]; omega
        have hgg : 0 ≤ g1 ∧ g1 ≤ 99 := ⟨hg0, by omega⟩
        have ig : i64 g1 := ⟨by omega, by omega⟩
        have E1 := Lib.hid (HT.out.pass hgg)
        have E2 := Lib.hid (HT.out.send hk3 hgg)
        have HT2 := Lib.hid (HT.out.next hk3 hgg)
        have HAK := Lib.hid (fun hk => sent_at (n := n) (k := k) (g := g1) HT.out.len hk)
        have hn2 : (sentN n k g1).now = at0 + g1 := by rw [← HAT.out]; rfl
        have HN2 := Lib.hid hn2
        obtain ⟨x, hx⟩ : ∃ x, laterN n g1 = x := ⟨_, rfl⟩
        obtain ⟨y, hy⟩ : ∃ x, sentN n k g1 = x := ⟨_, rfl⟩
        rw [hx] at E1 E2
        rw [hy] at E2 HT2 HN2
        simp only [hy] at HAK
        have p64 : (k : Int).tmod 64 = (k : Int) := by rw [Int.tmod_eq_emod_of_nonneg (by omega)]; omega
        obtain ⟨sid, hsid⟩ : ∃ x, (k : Int) + 1 = x := ⟨_, rfl⟩
        rw [hsid] at E2
        have p2 : IntKind.i64.wrap ((k : Int) + 1) = sid := by rw [IntKind.wrap_i64]; omega
        obtain ⟨at1, hat1⟩ : ∃ x, at0 + g1 = x := ⟨_, rfl⟩
        have p3 : IntKind.i64.wrap (at0 + g1) = at1 := by rw [IntKind.wrap_i64]; omega
        have qs : (sid != sid) = false := by rw [bne_self_eq_false]
        have qa : (at1 != at1) = false := by rw [bne_self_eq_false]
        have HAT1 := Lib.hid (show y.now = at1 by rw [HN2.out, hat1])
        have HAK1 := Lib.hid (show ∀ hk : k < y.fl.length, (y.fl[k]).tm = at1 from fun hk => by rw [HAK.out hk, HAT.out, hat1])
        have HSID := Lib.hid hsid
        have HZ := Lib.hid e0z
        clear hx hy hn2 hat1 HAK HN2 hsid e0z hg2 hg3 hgb
        rcases Nat.eq_zero_or_pos k with hk0 | hk0
        · have e0 := HZ.out hk0
          have hk00 := Lib.hid hk0
          clear hk0
          go_upto_region 8 with fail
          clear e0 p1 eg
          obtain ⟨xa, xk, xc, xl, xt, hA, hV⟩ := Hn.out.is
          have C0 := Pass_t _ n g1 wr hV ig
          rw [E1.out] at C0
          have C := Lib.hid C0
          clear C0
          obtain ⟨a0, a1, a2⟩ := hA.cells
          clear hA hV
          go_wp2_with fail
          refine C.out.mono ?_
          rintro e w1 ⟨v1, rfl, hv1, hb1⟩
          obtain ⟨ya, yk, yc, yl, yt, rfl⟩ := hv1.three
          have HV1 := Lib.hid hv1
          clear hv1
          replace HB := Lib.hid (Below.then HB.out hb1)
          replace Hn := Lib.hid (Hn.out.keep hb1)
          clear C hb1 a0 a1 a2
          obtain ⟨w2, hw2⟩ : ∃ x, w1.alloc (.cells #[.slice ya yk yc, .int .i64 yl, .int .i64 yt] 24) = x := ⟨_, rfl⟩
          obtain ⟨Bx, hBx⟩ : ∃ x, w1.heap.size = x := ⟨_, rfl⟩
          have Hx := Lib.hid (show VarN w2 Bx x by rw [← hw2, ← hBx]; exact VarN.new HV1.out)
          have hb2 : Below w1.heap.size w1 w2 := by rw [← hw2]; exact below_new _ _
          have HNnx := Lib.hid (show Bn ≠ Bx by have := Hn.out.lt; omega)
          have HNxn := Lib.hid (HNnx.out.symm)
          replace Hn := Lib.hid (Hn.out.keep hb2)
          have HLx := Lib.hid (show w.heap.size ≤ Bx by rw [← hBx]; exact HB.out.size)
          replace HB := Lib.hid (Below.then HB.out hb2)
          have HW2 := Lib.hid hw2
          clear hw2 hb2 HV1
          go_upto_region 9 with fail
          rw [HW2.out]
          clear hBx HW2
          obtain ⟨xa, xk, xc, xl, xt, hA, hV⟩ := Hx.out.is
          have C0 := Send_t _ x k ⟨#[]⟩ w2 hV ⟨by omega, by omega⟩ (by decide)
          rw [E2.out] at C0
          have C := Lib.hid C0
          clear C0
          obtain ⟨a0, a1, a2⟩ := hA.cells
          clear hA hV
          go_wp2_with fail
          refine C.out.mono ?_
          rintro e w3 ⟨v1, rfl, hv1, hb1⟩
          obtain ⟨ya, yk, yc, yl, yt, rfl⟩ := hv1.three
          have HV1 := Lib.hid hv1
          clear hv1
          replace HB := Lib.hid (Below.then HB.out hb1)
          replace Hn := Lib.hid (Hn.out.keep hb1)
          replace Hx := Lib.hid (Hx.out.keep hb1)
          clear C hb1 a0 a1 a2
          obtain ⟨w4, hw2⟩ : ∃ x, w3.alloc (.cells #[.slice ya yk yc, .int .i64 yl, .int .i64 yt] 24) = x := ⟨_, rfl⟩
          obtain ⟨By, hBy⟩ : ∃ x, w3.heap.size = x := ⟨_, rfl⟩
          have Hy := Lib.hid (show VarN w4 By y by rw [← hw2, ← hBy]; exact VarN.new HV1.out)
          have hb2 : Below w3.heap.size w3 w4 := by rw [← hw2]; exact below_new _ _
          have HNny := Lib.hid (show Bn ≠ By by have := Hn.out.lt; omega)
          have HNyn := Lib.hid (HNny.out.symm)
          replace Hn := Lib.hid (Hn.out.keep hb2)
          have HNxy := Lib.hid (show Bx ≠ By by have := Hx.out.lt; omega)
          have HNyx := Lib.hid (HNxy.out.symm)
          replace Hx := Lib.hid (Hx.out.keep hb2)
          have HLy := Lib.hid (show w.heap.size ≤ By by rw [← hBy]; exact HB.out.size)
          replace HB := Lib.hid (Below.then HB.out hb2)
          have HW2 := Lib.hid hw2
          clear hw2 hb2 HV1
          go_upto_region 10 with fail
          rw [HW2.out]
          clear hBy HW2
          obtain ⟨ya, yk, yc, yl, yt, hA, hV⟩ := Hy.out.is
          obtain ⟨hyk, hyl, hyt, hyc, hym, hrow⟩ := hV.parts
          rw [HT2.out.len] at hyk
          subst hyk
          have qk : (((k + 1 : Nat) : Int) != sid) = false := by rw [← HSID.out]; simp
          have qk2 : ((k : Int) + 1 != sid) = false := by rw [← HSID.out]; simp
          have ky : k < y.fl.length := by rw [HT2.out.len]; omega
          obtain ⟨mb, mo, rfl, c0, c1, c2, c3⟩ := ms_at hrow k ky
          rw [HAK1.out ky] at c3
          have c3z : k = 0 → w4.cell? ⟨mb, mo + 3, none⟩ = some (.int .i64 at1) := fun hz => by have := c3; simpa [hz] using this
          clear c0 c1 c2
          obtain ⟨a0, a1', a2⟩ := hA.cells
          have HAY := Lib.hid hA
          have HVY := Lib.hid hV
          clear hA hV hrow hyl hyt hyc ky
          have c3 := c3z hk00.out
          clear c3z
          obtain ⟨za, zk, zc, zl, zt, hA, hV⟩ := Hn.out.is
          obtain ⟨b0, b1', b2⟩ := hA.cells
          obtain ⟨f0, f1, f2⟩ := hA.free
          clear hA hV
          go_upto_region 14 with fail
          obtain ⟨w5, hw2⟩ : ∃ x, ((w4.setCell ⟨Bn, 0, none⟩ (.slice (some ⟨mb, mo, none⟩) (k + 1) yc)).setCell ⟨Bn, 1, none⟩ (.int .i64 yl)).setCell ⟨Bn, 2, none⟩ (.int .i64 yt) = x := ⟨_, rfl⟩
          rw [hw2]
          have Hn' := Lib.hid (show VarN w5 Bn y by rw [← hw2]; exact Hn.out.set HVY.out)
          have HB' := Lib.hid (show Below w.heap.size w w5 by rw [← hw2]; exact set3_below HB.out HLn.out _ _ _)
          clear hw2
          go_wp2_with fail
          go_roundw
          case rel => exact ⟨y, k + 1, by omega, by rw [← HSID.out]; go_num, HT2.out, by rw [HAT1.out], Hn'.out, HB'.out⟩
          case measure => have := HSID.out; simp [intOf]; omega
        · skip
          go_upto_region 8 with fail
          clear e0 p1 eg
          obtain ⟨xa, xk, xc, xl, xt, hA, hV⟩ := Hn.out.is
          have C0 := Pass_t _ n g1 wr hV ig
          rw [E1.out] at C0
          have C := Lib.hid C0
          clear C0
          obtain ⟨a0, a1, a2⟩ := hA.cells
          clear hA hV
          go_wp2_with fail
          refine C.out.mono ?_
          rintro e w1 ⟨v1, rfl, hv1, hb1⟩
          obtain ⟨ya, yk, yc, yl, yt, rfl⟩ := hv1.three
          have HV1 := Lib.hid hv1
          clear hv1
          replace HB := Lib.hid (Below.then HB.out hb1)
          replace Hn := Lib.hid (Hn.out.keep hb1)
          clear C hb1 a0 a1 a2
          obtain ⟨w2, hw2⟩ : ∃ x, w1.alloc (.cells #[.slice ya yk yc, .int .i64 yl, .int .i64 yt] 24) = x := ⟨_, rfl⟩
          obtain ⟨Bx, hBx⟩ : ∃ x, w1.heap.size = x := ⟨_, rfl⟩
          have Hx := Lib.hid (show VarN w2 Bx x by rw [← hw2, ← hBx]; exact VarN.new HV1.out)
          have hb2 : Below w1.heap.size w1 w2 := by rw [← hw2]; exact below_new _ _
          have HNnx := Lib.hid (show Bn ≠ Bx by have := Hn.out.lt; omega)
          have HNxn := Lib.hid (HNnx.out.symm)
          replace Hn := Lib.hid (Hn.out.keep hb2)
          have HLx := Lib.hid (show w.heap.size ≤ Bx by rw [← hBx]; exact HB.out.size)
          replace HB := Lib.hid (Below.then HB.out hb2)
          have HW2 := Lib.hid hw2
          clear hw2 hb2 HV1
          go_upto_region 9 with fail
          rw [HW2.out]
          clear hBx HW2
          obtain ⟨xa, xk, xc, xl, xt, hA, hV⟩ := Hx.out.is
          have C0 := Send_t _ x k ⟨#[]⟩ w2 hV ⟨by omega, by omega⟩ (by decide)
          rw [E2.out] at C0
          have C := Lib.hid C0
          clear C0
          obtain ⟨a0, a1, a2⟩ := hA.cells
          clear hA hV
          go_wp2_with fail
          refine C.out.mono ?_
          rintro e w3 ⟨v1, rfl, hv1, hb1⟩
          obtain ⟨ya, yk, yc, yl, yt, rfl⟩ := hv1.three
          have HV1 := Lib.hid hv1
          clear hv1
          replace HB := Lib.hid (Below.then HB.out hb1)
          replace Hn := Lib.hid (Hn.out.keep hb1)
          replace Hx := Lib.hid (Hx.out.keep hb1)
          clear C hb1 a0 a1 a2
          obtain ⟨w4, hw2⟩ : ∃ x, w3.alloc (.cells #[.slice ya yk yc, .int .i64 yl, .int .i64 yt] 24) = x := ⟨_, rfl⟩
          obtain ⟨By, hBy⟩ : ∃ x, w3.heap.size = x := ⟨_, rfl⟩
          have Hy := Lib.hid (show VarN w4 By y by rw [← hw2, ← hBy]; exact VarN.new HV1.out)
          have hb2 : Below w3.heap.size w3 w4 := by rw [← hw2]; exact below_new _ _
          have HNny := Lib.hid (show Bn ≠ By by have := Hn.out.lt; omega)
          have HNyn := Lib.hid (HNny.out.symm)
          replace Hn := Lib.hid (Hn.out.keep hb2)
          have HNxy := Lib.hid (show Bx ≠ By by have := Hx.out.lt; omega)
          have HNyx := Lib.hid (HNxy.out.symm)
          replace Hx := Lib.hid (Hx.out.keep hb2)
          have HLy := Lib.hid (show w.heap.size ≤ By by rw [← hBy]; exact HB.out.size)
          replace HB := Lib.hid (Below.then HB.out hb2)
          have HW2 := Lib.hid hw2
          clear hw2 hb2 HV1
          go_upto_region 10 with fail
          rw [HW2.out]
          clear hBy HW2
          obtain ⟨ya, yk, yc, yl, yt, hA, hV⟩ := Hy.out.is
          obtain ⟨hyk, hyl, hyt, hyc, hym, hrow⟩ := hV.parts
          rw [HT2.out.len] at hyk
          subst hyk
          have qk : (((k + 1 : Nat) : Int) != sid) = false := by rw [← HSID.out]; simp
          have qk2 : ((k : Int) + 1 != sid) = false := by rw [← HSID.out]; simp
          have ky : k < y.fl.length := by rw [HT2.out.len]; omega
          obtain ⟨mb, mo, rfl, c0, c1, c2, c3⟩ := ms_at hrow k ky
          rw [HAK1.out ky] at c3
          have c3z : k = 0 → w4.cell? ⟨mb, mo + 3, none⟩ = some (.int .i64 at1) := fun hz => by have := c3; simpa [hz] using this
          clear c0 c1 c2
          obtain ⟨a0, a1', a2⟩ := hA.cells
          have HAY := Lib.hid hA
          have HVY := Lib.hid hV
          clear hA hV hrow hyl hyt hyc ky
          clear c3z
          obtain ⟨za, zk, zc, zl, zt, hA, hV⟩ := Hn.out.is
          obtain ⟨b0, b1', b2⟩ := hA.cells
          obtain ⟨f0, f1, f2⟩ := hA.free
          clear hA hV
          go_upto_region 14 with fail
          obtain ⟨w5, hw2⟩ : ∃ x, ((w4.setCell ⟨Bn, 0, none⟩ (.slice (some ⟨mb, mo, none⟩) (k + 1) yc)).setCell ⟨Bn, 1, none⟩ (.int .i64 yl)).setCell ⟨Bn, 2, none⟩ (.int .i64 yt) = x := ⟨_, rfl⟩
          rw [hw2]
          have Hn' := Lib.hid (show VarN w5 Bn y by rw [← hw2]; exact Hn.out.set HVY.out)
          have HB' := Lib.hid (show Below w.heap.size w w5 by rw [← hw2]; exact set3_below HB.out HLn.out _ _ _)
          clear hw2
          go_wp2_with fail
          go_roundw
          case rel => exact ⟨y, k + 1, by omega, by rw [← HSID.out]; go_num, HT2.out, by rw [HAT1.out], Hn'.out, HB'.out⟩
          case measure => have := HSID.out; simp [intOf]; omega
      · go_wp2_with fail
        go_meet
        exact ⟨n, k, HT.out, Hn.out, HB.out⟩
  case rest =>
    obtain ⟨n, k, ht, hv, hb⟩ := hcut
    have HT := Lib.hid ht
    have Hn := Lib.hid hv
    replace HB := Lib.hid hb
    clear ht hv hb Hn0 HG0 HGZ
    obtain ⟨qa, qk, qc, ql, qt, hA, hV⟩ := Hn.out.is
    have hqk := hV.parts.1
    rw [HT.out.len] at hqk
    obtain ⟨a0, a1', a2⟩ := hA.cells
    rw [hqk] at a0
    clear hA hV hqk
    have hk20 := HT.out.few
    go_upto_region 17 with fail
    clear a0 a1' a2
    obtain ⟨W2, hW2⟩ : ∃ x, wc.alloc (.cells #[.int .i64 0, .int .i64 50, .int .i64 200, .int .i64 1000] 3) = x := ⟨_, rfl⟩
    obtain ⟨Bb, hBb⟩ : ∃ x, wc.heap.size = x := ⟨_, rfl⟩
    have HBY := Lib.hid (show ∀ j (h : j < bysL.length), W2.cell? ⟨Bb, j, none⟩ = some (.int .i64 bysL[j]) from fun j h => by
      have e : W2.heap[Bb]? = some (.cells #[.int .i64 0, .int .i64 50, .int .i64 200, .int .i64 1000] 3 (0, 0)) := by rw [← hW2, ← hBb]; exact heap_alloc_new wc _
      match j, h with
      | 0, _ => simp [World.cell?, e]
      | 1, _ => simp [World.cell?, e]
      | 2, _ => simp [World.cell?, e]
      | 3, _ => simp [World.cell?, e])
    have hb2 : Below wc.heap.size wc W2 := by rw [← hW2]; exact below_new _ _
    replace Hn := Lib.hid (Hn.out.keep hb2)
    replace HB := Lib.hid (Below.then HB.out hb2)
    have HW2 := Lib.hid hW2
    clear hW2 hb2
    go_upto_region 18 with fail
    rw [HW2.out]
    clear hBb HW2
    go_loopw [15, 94] (fun lv iv wr => ∃ j q : Nat, j ≤ 4 ∧ iv = .int .i64 j ∧ lv = .int .i64 q ∧ q ≤ 20 ∧ (∀ h : j < bysL.length, (lateA n bysL[j]).length ≤ q) ∧ Below W2.heap.size W2 wr) (fun _ i _ => 4 - (intOf i).toNat)
    case atStart => exact ⟨0, k, by decide, rfl, rfl, hk20, fun _ => HT.out.late_k (by show (0 : Int) ≤ 0; decide), Below.refl _ _⟩
    case round =>
      obtain ⟨j, q, hj, rfl, rfl, hq20, hql, hbr⟩ := hrel
      have HQL := Lib.hid hql
      have HBR := Lib.hid hbr
      have HN0 := Hn
      have HB0 := HB
      replace Hn := Lib.hid (Hn.out.keep hbr)
      replace HB := Lib.hid (Below.then HB.out hbr)
      clear hql hbr
      obtain ⟨wo, rfl⟩ : ∃ x : World, x = wr := ⟨_, rfl⟩
      by_cases hlt : j < 4
      · have j1 : j < bysL.length := hlt
        have c0 := Below.keepc HBR.out (HBY.out j j1)
        have hbi := bys_in j j1
        have HUP := Lib.hid (show ∀ h : j + 1 < bysL.length, (lateA n bysL[j + 1]).length ≤ (lateA n bysL[j]).length from fun h => HT.out.late_le hbi.1 (bys_up j h))
        have hlq := HQL.out j1
        have hlk := HT.out.late_k hbi.1
        have HLA := Lib.hid (show ∀ (i x : Nat), (lateA n bysL[j])[i]? = some x → x = i from fun i x h => by
          obtain ⟨hi, rfl⟩ := List.getElem?_eq_some_iff.1 h
          exact HT.out.late hbi.1 i hi)
        obtain ⟨c, hc⟩ : ∃ x, bysL[j] = x := ⟨_, rfl⟩
        rw [hc] at c0 hlq hlk hbi HLA
        have HUP2 := Lib.hid (show ∀ h : j + 1 < bysL.length, (lateA n bysL[j + 1]).length ≤ (lateA n c).length from fun h => by rw [← hc]; exact HUP.out h)
        clear hc HUP
        obtain ⟨L, hL⟩ : ∃ x, lateA n c = x := ⟨_, rfl⟩
        obtain ⟨m, hm⟩ : ∃ x, L.length = x := ⟨_, rfl⟩
        rw [hL, hm] at hlq hlk HUP2
        rw [hL] at HLA
        have HM := Lib.hid hm
        have ic : i64 c := ⟨by omega, by omega⟩
        obtain ⟨xa, xk, xc, xl, xt, hA, hV⟩ := Hn.out.is
        have C0 := Late_t _ n c wo hV ic
        rw [hL] at C0
        rw [hm] at C0
        have C := Lib.hid C0
        clear C0
        obtain ⟨a0, a1, a2⟩ := hA.cells
        clear hA hV
        go_wp2_with fail
        refine C.out.mono ?_
        rintro e w1 ⟨ru1, ru2, rfl, hru, hb1⟩
        have Hru := Lib.hid hru
        clear hru
        replace HB := Lib.hid (Below.then HB.out hb1)
        replace Hn := Lib.hid (Hn.out.keep hb1)
        replace HBR := Lib.hid (Below.then HBR.out hb1)
        clear C hb1 a0 a1 a2
        go_upto_region 21 with fail
        clear hL hm c0
        have qgt : decide (q < m) = false := decide_eq_false (by omega)
        have hm32 : m ≤ 20 := by omega
        go_wp2_with fail
        go_loopw [103] (fun iv wr => ∃ i : Nat, i ≤ m ∧ iv = .int .i64 i ∧ SameW wr w1) (fun i _ => m - (intOf i).toNat)
        case atStart => exact ⟨0, Nat.zero_le _, rfl, SameW.rfl'⟩
        case round =>
          obtain ⟨i, hi, rfl, hsw⟩ := hrel
          obtain rfl := hsw.out
          by_cases hi2 : i < m
          · have i1 : i < L.length := by rw [HM.out]; exact hi2
            obtain ⟨lb, lo, rfl, e0⟩ := Hru.out.at i i1
            rw [show L[i] = i from HLA.out i _ (List.getElem?_eq_getElem i1)] at e0
            have HZ := Lib.hid (show i = 0 → wr.cell? ⟨lb, lo, none⟩ = some (.int .i64 (i : Int)) from fun hz => by have := e0; simpa [hz] using this)
            have qi : ((i : Int) != (i : Int)) = false := by rw [bne_self_eq_false]
            rcases Nat.eq_zero_or_pos i with rfl | hi0
            · have e0z := HZ.out rfl
              go_wp2_with fail
              go_roundw
              case rel => exact ⟨0 + 1, by omega, by go_num, SameW.rfl'⟩
              case measure => simp [intOf]; omega
            · go_wp2_with fail
              go_roundw
              case rel => exact ⟨i + 1, by omega, by go_num, SameW.rfl'⟩
              case measure => simp [intOf]; omega
          · obtain rfl : i = m := by omega
            go_wp2_with fail
            go_roundw
            case rel => exact ⟨j + 1, i, by omega, by go_num, rfl, hm32, HUP2.out, HBR.out⟩
            case measure => simp [intOf]; omega
      · obtain rfl : j = 4 := by omega
        by_cases hk0 : k = 0
        · subst hk0
          have C0 := AL.out wo
          have C := Lib.hid C0
          clear C0
          go_wp2_with fail
          refine C.out.mono ?_
          rintro e w1 ⟨rfl, hb1⟩
          replace HB := Lib.hid (Below.then HB.out hb1)
          replace Hn := Lib.hid (Hn.out.keep hb1)
          clear C hb1
          go_wp2_with fail
          go_ret
          exact ⟨rfl, HB.out⟩
        · have qk0 : ((k : Int) == 0) = false := beq_eq_false_iff_ne.2 (by omega)
          have hpl := HP.out
          obtain ⟨pi, ep, hp0, hp1, hp2, hp3⟩ := rem_in place k (by omega)
          obtain ⟨p, rfl⟩ : ∃ p : Nat, pi = (p : Int) := ⟨pi.toNat, by omega⟩
          have pw : IntKind.i64.wrap (place.tmod k + k) = place.tmod k + k := by rw [IntKind.wrap_i64]; omega
          have hpk : p < n.fl.length := by rw [HT.out.len]; omega
          have ET := Lib.hid (take_ok HT.out.right hpk)
          have hmid := (HT.out.ms p hpk).1
          have HOL := Lib.hid ((offN_len hpk).trans (by rw [HT.out.len]))
          have HOA := Lib.hid (show ∀ (i : Nat) (x : Ms), (offN n p).fl[i]? = some x → (i < p → x.id = (i : Int) + 1) ∧ (¬ i < p → x.id = (i : Int) + 2) from fun i x h => by
            obtain ⟨hi, rfl⟩ := List.getElem?_eq_some_iff.1 h
            obtain ⟨q, hq, e, hqe⟩ := offN_at hpk i hi
            have := (HT.out.ms q hq).1
            rw [e, this]
            constructor
            · intro h; rw [if_pos h] at hqe; omega
            · intro h; rw [if_neg h] at hqe; omega)
          obtain ⟨M, hM⟩ : ∃ x, n.fl[p] = x := ⟨_, rfl⟩
          rw [hM] at ET hmid
          obtain ⟨mi, mt, mb, mm⟩ := M
          obtain ⟨b, hb⟩ : ∃ x, offN n p = x := ⟨_, rfl⟩
          rw [hb] at ET HOL HOA
          replace hmid : mi = (p : Int) + 1 := hmid
          have p5 : IntKind.i64.wrap ((p : Int) + 1) = mi := by rw [IntKind.wrap_i64]; omega
          have p6 : IntKind.i64.wrap ((k : Int) - 1) = ((k - 1 : Nat) : Int) := by rw [IntKind.wrap_i64]; omega
          have qm : (mi != mi) = false := by rw [bne_self_eq_false]
          have HMI := Lib.hid hmid
          have ipl : i64 (p : Int) := ⟨by omega, by omega⟩
          clear hM hb hmid hp2 hp3 hpl
          go_upto_region 34 with fail
          clear ep pw
          obtain ⟨xa, xk, xc, xl, xt, hA, hV⟩ := Hn.out.is
          have C0 := Take_t _ n p wo hV ipl
          rw [ET.out] at C0
          unfold msV at C0
          have C := Lib.hid C0
          clear C0
          obtain ⟨a0, a1, a2⟩ := hA.cells
          clear hA hV
          go_wp2_with fail
          refine C.out.mono ?_
          rintro e w1 ⟨v1, rfl, hv1, hb1⟩
          obtain ⟨ya, yk, yc, yl, yt, rfl⟩ := hv1.three
          have HV1 := Lib.hid hv1
          clear hv1
          replace HB := Lib.hid (Below.then HB.out hb1)
          replace Hn := Lib.hid (Hn.out.keep hb1)
          clear C hb1 a0 a1 a2
          obtain ⟨w2, hw2⟩ : ∃ x, (w1.alloc (.cells #[.slice ya yk yc, .int .i64 yl, .int .i64 yt] 24)).alloc (.cells #[.int .i64 mi, .int .i64 mt, .string mb, .int .i64 mm] 30) = x := ⟨_, rfl⟩
          obtain ⟨Bb, hBb⟩ : ∃ x, w1.heap.size = x := ⟨_, rfl⟩
          have Hb := Lib.hid (show VarN w2 Bb b by rw [← hw2, ← hBb]; exact (VarN.new HV1.out).keep (below_new _ _))
          have Hm := Lib.hid (show At4 30 w2 (Bb + 1) (.int .i64 mi) (.int .i64 mt) (.string mb) (.int .i64 mm) by
            rw [← hw2, ← hBb]
            have e := At4.new 30 (w1.alloc (.cells #[.slice ya yk yc, .int .i64 yl, .int .i64 yt] 24)) (.int .i64 mi) (.int .i64 mt) (.string mb) (.int .i64 mm)
            rwa [World.size_alloc] at e)
          have hb2 : Below w1.heap.size w1 w2 := by rw [← hw2]; exact Below.then (below_new _ _) (below_new _ _)
          have HNnb := Lib.hid (show Bn ≠ Bb by have := Hn.out.lt; omega)
          have HNbn := Lib.hid (HNnb.out.symm)
          replace Hn := Lib.hid (Hn.out.keep hb2)
          have HLb := Lib.hid (show w.heap.size ≤ Bb by rw [← hBb]; exact HB.out.size)
          replace HB := Lib.hid (Below.then HB.out hb2)
          have HW2 := Lib.hid hw2
          clear hw2 hb2 HV1
          go_upto_region 35 with fail
          rw [HW2.out]
          clear hBb HW2
          obtain ⟨qa, qk, qc, ql, qt, hA, hV⟩ := Hb.out.is
          have hqk := hV.parts.1
          rw [HOL.out] at hqk
          have hrow := hV.parts.2.2.2.2.2
          obtain ⟨a0, a1', a2⟩ := hA.cells
          rw [hqk] at a0 hrow
          clear hA hV hqk
          obtain ⟨x0, x1, x2, x3⟩ := Hm.out.cells
          obtain ⟨kk, hkk⟩ : ∃ x, k - 1 = x := ⟨_, rfl⟩
          rw [hkk] at a0 hrow p6 HOL
          have HKK := Lib.hid hkk
          have qkk : ((kk : Int) != (kk : Int)) = false := by rw [bne_self_eq_false]
          have HROW := Lib.hid hrow
          clear hrow hkk
          have C0 := AL.out w2
          have C := Lib.hid C0
          clear C0
          go_wp2_with fail
          refine C.out.mono ?_
          rintro e w3 ⟨rfl, hb1⟩
          replace HB := Lib.hid (Below.then HB.out hb1)
          replace Hn := Lib.hid (Hn.out.keep hb1)
          replace Hb := Lib.hid (Hb.out.keep hb1)
          replace Hm := Lib.hid (Hm.out.keep hb1)
          clear C hb1
          clear a0 a1' a2 x0 x1 x2 x3 HROW
          obtain ⟨ra, rk, rc, rl, rt, hA, hV⟩ := Hb.out.is
          have hrk := hV.parts.1
          rw [HOL.out] at hrk
          have hrow := hV.parts.2.2.2.2.2
          obtain ⟨a0, a1', a2⟩ := hA.cells
          rw [hrk] at a0 hrow
          clear hA hV hrk
          have HROW := Lib.hid hrow
          clear hrow
          have hkk32 : kk ≤ 20 := by have := HKK.out; omega
          go_wp2_with fail
          go_loopw [160] (fun iv wr => ∃ i : Nat, i ≤ kk ∧ iv = .int .i64 i ∧ Below w3.heap.size w3 wr) (fun i _ => kk - (intOf i).toNat)
          case atStart => exact ⟨0, Nat.zero_le _, rfl, Below.refl _ _⟩
          case round =>
            obtain ⟨i, hi, rfl, hbq⟩ := hrel
            have HBQ := Lib.hid hbq
            clear hbq
            by_cases hi2 : i < kk
            · have i1 : i < b.fl.length := by rw [HOL.out]; exact hi2
              obtain ⟨lb, lo, rfl, e0, e1, e2, e3⟩ := ms_at (RwAt.keep HROW.out HBQ.out) i i1
              have hoa := HOA.out i _ (List.getElem?_eq_getElem i1)
              obtain ⟨⟨y1, y2, y3, y4⟩, hy⟩ : ∃ x, b.fl[i] = x := ⟨_, rfl⟩
              rw [hy] at e0 e1 e2 e3 hoa
              simp only at e0 e1 e2 e3 hoa
              obtain ⟨W1, hW1⟩ : ∃ W1, wr.alloc (.cells #[.int .i64 y1, .int .i64 y2, .string y3, .int .i64 y4] 30) = W1 := ⟨_, rfl⟩
              obtain ⟨B1, hB1⟩ : ∃ B, wr.heap.size = B := ⟨_, rfl⟩
              have HB1 := Lib.hid (show Below w3.heap.size w3 W1 by rw [← hW1]; exact Below.then HBQ.out (below_new _ _))
              have HX := Lib.hid (show At4 30 W1 B1 (.int .i64 y1) (.int .i64 y2) (.string y3) (.int .i64 y4) by rw [← hW1, ← hB1]; exact At4.new _ _ _ _ _ _)
              have HW1 := Lib.hid hW1
              have qy : (y1 != y1) = false := by rw [bne_self_eq_false]
              have HOI := Lib.hid hoa
              have Z := Lib.hid (show i = 0 → wr.cell? ⟨lb, lo, none⟩ = some (.int .i64 y1) ∧ wr.cell? ⟨lb, lo + 1, none⟩ = some (.int .i64 y2) ∧ wr.cell? ⟨lb, lo + 2, none⟩ = some (.string y3) ∧ wr.cell? ⟨lb, lo + 3, none⟩ = some (.int .i64 y4) from fun hz => by subst hz; simp only [Nat.zero_mul, Nat.add_zero] at e0 e1 e2 e3; exact ⟨e0, e1, e2, e3⟩)
              clear hW1 hy hoa
              rcases Nat.eq_zero_or_pos i with hi0 | hi0
              · subst hi0
                clear e0 e1 e2 e3
                obtain ⟨e0, e1, e2, e3⟩ := Z.out rfl
                go_upto_region 40 with fail
                rw [HW1.out]
                clear hB1 e0 e1 e2 e3
                obtain ⟨x0, x1, x2, x3⟩ := HX.out.cells
                by_cases hip : 0 < p
                · have hid := HOI.out.1 hip
                  have d1 : decide (0 < p) = true := decide_eq_true hip
                  have d2 : decide (p ≤ 0) = false := decide_eq_false (by omega)
                  obtain rfl : y1 = 1 := by omega
                  clear hid
                  go_wp2_with fail
                  go_roundw
                  case rel => exact ⟨0 + 1, by omega, by go_num, HB1.out⟩
                  case measure => simp [intOf]; omega
                · have hid := HOI.out.2 hip
                  obtain rfl : p = 0 := by omega
                  obtain rfl : y1 = 2 := by omega
                  clear hid
                  go_wp2_with fail
                  go_roundw
                  case rel => exact ⟨0 + 1, by omega, by go_num, HB1.out⟩
                  case measure => simp [intOf]; omega
              · go_upto_region 40 with fail
                rw [HW1.out]
                clear hB1 e0 e1 e2 e3
                obtain ⟨x0, x1, x2, x3⟩ := HX.out.cells
                by_cases hip : i < p
                · have hid := HOI.out.1 hip
                  have d1 : decide (i < p) = true := decide_eq_true hip
                  have d2 : decide (p ≤ i) = false := decide_eq_false (by omega)
                  have pw1 : IntKind.i64.wrap ((i : Int) + 1) = y1 := by rw [IntKind.wrap_i64]; omega
                  have HID := Lib.hid hid
                  clear hid
                  go_wp2_with fail
                  go_roundw
                  case rel => exact ⟨i + 1, by omega, by rw [HID.out]; go_num, HB1.out⟩
                  case measure => have := HID.out; simp [intOf]; omega
                · have hid := HOI.out.2 hip
                  have d1 : decide (i < p) = false := decide_eq_false hip
                  have d2 : decide (p ≤ i) = true := decide_eq_true (by omega)
                  have pw2 : IntKind.i64.wrap ((i : Int) + 2) = y1 := by rw [IntKind.wrap_i64]; omega
                  have HID := Lib.hid hid
                  clear hid
                  go_wp2_with fail
                  go_roundw
                  case rel => exact ⟨i + 1, by omega, by go_num, HB1.out⟩
                  case measure => simp [intOf]; omega
            · have HBW := Lib.hid (Below.then HB.out HBQ.out)
              go_wp2_with fail
              go_ret
              exact ⟨rfl, HBW.out⟩
end Go.Proofs.Ytjjefdgcbdfclaa
