/-
  The law WireCalls, walked: it returns true at every net, numbers and text. Conditions: the numbers are ints, the text no longer than memory.
-/
import Derived.Test.YtjjefdgcbdfclaaNetLaws
import Derived.Test.YtjjefdgcbdfclaaNetLike
import Derived.Test.YtjjefdgcbdfclaaNetRight13
import Derived.Test.YtjjefdgcbdfclaaNetFew
import Derived.Test.YtjjefdgcbdfclaaNetVar
import Derived.Test.YtjjefdgcbdfclaaNetInts
import Derived.Test.YtjjefdgcbdfclaaNetCalls
import Derived.Test.YtjjefdgcbdfclaaPrgWire
import Derived.Test.YtjjefdgcbdfclaaLawWAlive
import Derived.Deep.RegionHeld3
import Derived.Deep.CutBlock
import Derived.Deep.AppendLies
import Derived.Lib.MinMax
namespace Go.Proofs.Ytjjefdgcbdfclaa
open Go.RowKit Go.WideShapes

set_option maxRecDepth 100000 in
set_option maxHeartbeats 8000000 in
theorem calls_any (v : Value) (n0 : Nt) (dst place ticks : Int) (body : ByteArray) (w : World) (h : NtAt w v n0) (hto : i64 dst) (hpl : i64 place) (htk : i64 ticks) (_hbd : body.size ≤ maxLen) :
    Calls Try.prog 3 #[v, .int .i64 dst, .int .i64 place, .int .i64 ticks, .string body] w fun e w' => e = .returned (.bool true) ∧ Below w.heap.size w w' := by
  have AL := Lib.hid alive13_t
  have RT := Lib.hid right13_t
  have RP := Lib.hid WRight_t
  have LK := Lib.hid like_yes13
  obtain ⟨va, vk, vc, vl, vt, rfl⟩ := h.three
  obtain ⟨z, hz⟩ : ∃ z, min body.size 4100 = z := ⟨_, rfl⟩
  have q1 : min (body.size : Int) 4100 = (z : Int) := by omega
  have hzb : z ≤ body.size := by omega
  obtain ⟨bd, hbe⟩ : ∃ x, body.extract 0 z = x := ⟨_, rfl⟩
  have hbz : bd.size ≤ 4100 := by rw [← hbe, ByteArray.size_extract]; omega
  have hbm : bd.size ≤ maxLen := by unfold maxLen; omega
  have HI := Lib.hid (And.intro hto (And.intro hpl (And.intro htk hbm)))
  obtain ⟨n1, hn1⟩ : ∃ x, fewN n0 = x := ⟨_, rfl⟩
  obtain ⟨r, hr⟩ : ∃ x, n1.right = x := ⟨_, rfl⟩
  obtain ⟨⟨sa, sid, se⟩, hS⟩ : ∃ x, sendA n1 dst bd = x := ⟨_, rfl⟩
  obtain ⟨⟨tb, ⟨mi, mt, mb, mm⟩, te⟩, hT⟩ : ∃ x, takeA n1 place = x := ⟨_, rfl⟩
  obtain ⟨⟨tc, ce⟩, hC⟩ : ∃ x, twiceA n1 place = x := ⟨_, rfl⟩
  obtain ⟨⟨td, de⟩, hD⟩ : ∃ x, loseA n1 place = x := ⟨_, rfl⟩
  obtain ⟨⟨tp, pe⟩, hP⟩ : ∃ x, passA n1 ticks = x := ⟨_, rfl⟩
  obtain ⟨L, hL⟩ : ∃ x, lateA n1 ticks = x := ⟨_, rfl⟩
  obtain ⟨m, hm⟩ : ∃ x, L.length = x := ⟨_, rfl⟩
  have HR := Lib.hid hr
  have HE := Lib.hid (show sendA n1 dst bd = (sa, sid, se) ∧ takeA n1 place = (tb, ⟨mi, mt, mb, mm⟩, te) ∧ twiceA n1 place = (tc, ce) ∧ loseA n1 place = (td, de) ∧ passA n1 ticks = (tp, pe) ∧ lateA n1 ticks = L ∧ L.length = m from ⟨hS, hT, hC, hD, hP, hL, hm⟩)
  obtain ⟨W, hW⟩ : ∃ W, w.alloc (.cells #[.slice va vk vc, .int .i64 vl, .int .i64 vt] 24) = W := ⟨_, rfl⟩
  obtain ⟨Bn, hBn⟩ : ∃ x, w.heap.size = x := ⟨_, rfl⟩
  have HB := Lib.hid (show Below w.heap.size w W by rw [← hW]; exact below_new _ _)
  have Hn := Lib.hid (show VarN W Bn n0 by rw [← hW, ← hBn]; exact VarN.new h)
  have HLn := Lib.hid (show w.heap.size ≤ Bn by omega)
  have HW := Lib.hid hW
  have HN1 := Lib.hid hn1
  clear hW h hto hpl htk hr hS hT hC hD hP hL hm hz hn1 hbm
  go_enter Try.func3, Try.ntmps3
  go_upto_region 1 with fail
  rw [HW.out]
  clear hBn HW
  obtain ⟨xa, xk, xc, xl, xt, hA, hV⟩ := Hn.out.is
  have C0 := few13_t _ n0 W hV
  rw [HN1.out] at C0
  have C := Lib.hid C0
  clear C0
  obtain ⟨a0, a1, a2⟩ := hA.cells
  clear hA hV
  go_wp2_with fail
  refine C.out.mono ?_
  rintro e w1 ⟨v1, rfl, hv1, hb1⟩
  obtain ⟨ya, yk, yc, yl, yt, rfl⟩ := hv1.three
  have HV1 := Lib.hid hv1
  clear hv1
  replace HB := Lib.hid (Below.then HB.out hb1)
  replace Hn := Lib.hid (Hn.out.keep hb1)
  clear C hb1 a0 a1 a2
  obtain ⟨za, zk, zc, zl, zt, hA, hV⟩ := Hn.out.is
  obtain ⟨a0, a1, a2⟩ := hA.cells
  obtain ⟨f0, f1, f2⟩ := hA.free
  clear hA hV
  go_upto_region 2 with fail
  obtain ⟨w2, hw2⟩ : ∃ x, ((w1.setCell ⟨Bn, 0, none⟩ (.slice ya yk yc)).setCell ⟨Bn, 1, none⟩ (.int .i64 yl)).setCell ⟨Bn, 2, none⟩ (.int .i64 yt) = x := ⟨_, rfl⟩
  rw [hw2]
  replace Hn := Lib.hid (show VarN w2 Bn n1 by rw [← hw2]; exact Hn.out.set HV1.out)
  replace HB := Lib.hid (show Below w.heap.size w w2 by rw [← hw2]; exact set3_below HB.out HLn.out (.slice ya yk yc) (.int .i64 yl) (.int .i64 yt))
  clear hw2 a0 a1 a2 f0 f1 f2 HV1
  clear HN1
  go_upto_region 3 with fail
  clear q1 hzb hbe
  obtain ⟨xa, xk, xc, xl, xt, hA, hV⟩ := Hn.out.is
  have C0 := Send_t _ n1 dst bd w2 hV HI.out.1 HI.out.2.2.2
  rw [HE.out.1] at C0
  have C := Lib.hid C0
  clear C0
  obtain ⟨a0, a1, a2⟩ := hA.cells
  clear hA hV
  go_wp2_with fail
  refine C.out.mono ?_
  rintro e w3 ⟨v1, rfl, hv1, hb1⟩
  obtain ⟨ya, yk, yc, yl, yt, rfl⟩ := hv1.three
  have HV1 := Lib.hid hv1
  clear hv1
  replace HB := Lib.hid (Below.then HB.out hb1)
  replace Hn := Lib.hid (Hn.out.keep hb1)
  clear C hb1 a0 a1 a2
  obtain ⟨w4, hw2⟩ : ∃ x, w3.alloc (.cells #[.slice ya yk yc, .int .i64 yl, .int .i64 yt] 24) = x := ⟨_, rfl⟩
  obtain ⟨Ba, hBa⟩ : ∃ x, w3.heap.size = x := ⟨_, rfl⟩
  have Ha := Lib.hid (show VarN w4 Ba sa by rw [← hw2, ← hBa]; exact VarN.new HV1.out)
  have hb2 : Below w3.heap.size w3 w4 := by rw [← hw2]; exact below_new _ _
  have HNna := Lib.hid (show Bn ≠ Ba by have := Hn.out.lt; omega)
  have HNan := Lib.hid (HNna.out.symm)
  replace Hn := Lib.hid (Hn.out.keep hb2)
  have HLa := Lib.hid (show w.heap.size ≤ Ba by rw [← hBa]; exact HB.out.size)
  replace HB := Lib.hid (Below.then HB.out hb2)
  have HW2 := Lib.hid hw2
  clear hw2 hb2 HV1
  go_upto_region 4 with fail
  rw [HW2.out]
  clear hBa HW2
  obtain ⟨xa, xk, xc, xl, xt, hA, hV⟩ := Hn.out.is
  have C0 := Take_t _ n1 place w4 hV HI.out.2.1
  rw [HE.out.2.1] at C0
  unfold msV at C0
  have C := Lib.hid C0
  clear C0
  obtain ⟨a0, a1, a2⟩ := hA.cells
  clear hA hV
  go_wp2_with fail
  refine C.out.mono ?_
  rintro e w5 ⟨v1, rfl, hv1, hb1⟩
  obtain ⟨ya, yk, yc, yl, yt, rfl⟩ := hv1.three
  have HV1 := Lib.hid hv1
  clear hv1
  replace HB := Lib.hid (Below.then HB.out hb1)
  replace Hn := Lib.hid (Hn.out.keep hb1)
  replace Ha := Lib.hid (Ha.out.keep hb1)
  clear C hb1 a0 a1 a2
  obtain ⟨w6, hw2⟩ : ∃ x, (w5.alloc (.cells #[.slice ya yk yc, .int .i64 yl, .int .i64 yt] 24)).alloc (.cells #[.int .i64 mi, .int .i64 mt, .string mb, .int .i64 mm] 30) = x := ⟨_, rfl⟩
  obtain ⟨Bb, hBb⟩ : ∃ x, w5.heap.size = x := ⟨_, rfl⟩
  have Hb := Lib.hid (show VarN w6 Bb tb by rw [← hw2, ← hBb]; exact (VarN.new HV1.out).keep (below_new _ _))
  have Hm := Lib.hid (show At4 30 w6 (Bb + 1) (.int .i64 mi) (.int .i64 mt) (.string mb) (.int .i64 mm) by
    rw [← hw2, ← hBb]
    have e := At4.new 30 (w5.alloc (.cells #[.slice ya yk yc, .int .i64 yl, .int .i64 yt] 24)) (.int .i64 mi) (.int .i64 mt) (.string mb) (.int .i64 mm)
    rwa [World.size_alloc] at e)
  have hb2 : Below w5.heap.size w5 w6 := by rw [← hw2]; exact Below.then (below_new _ _) (below_new _ _)
  have HNnb := Lib.hid (show Bn ≠ Bb by have := Hn.out.lt; omega)
  have HNbn := Lib.hid (HNnb.out.symm)
  replace Hn := Lib.hid (Hn.out.keep hb2)
  have HNab := Lib.hid (show Ba ≠ Bb by have := Ha.out.lt; omega)
  have HNba := Lib.hid (HNab.out.symm)
  replace Ha := Lib.hid (Ha.out.keep hb2)
  have HLb := Lib.hid (show w.heap.size ≤ Bb by rw [← hBb]; exact HB.out.size)
  replace HB := Lib.hid (Below.then HB.out hb2)
  have HW2 := Lib.hid hw2
  clear hw2 hb2 HV1
  go_upto_region 5 with fail
  rw [HW2.out]
  clear hBb HW2
  obtain ⟨xa, xk, xc, xl, xt, hA, hV⟩ := Hn.out.is
  have C0 := Twice_t _ n1 place w6 hV HI.out.2.1
  rw [HE.out.2.2.1] at C0
  have C := Lib.hid C0
  clear C0
  obtain ⟨a0, a1, a2⟩ := hA.cells
  clear hA hV
  go_wp2_with fail
  refine C.out.mono ?_
  rintro e w7 ⟨v1, rfl, hv1, hb1⟩
  obtain ⟨ya, yk, yc, yl, yt, rfl⟩ := hv1.three
  have HV1 := Lib.hid hv1
  clear hv1
  replace HB := Lib.hid (Below.then HB.out hb1)
  replace Hn := Lib.hid (Hn.out.keep hb1)
  replace Ha := Lib.hid (Ha.out.keep hb1)
  replace Hb := Lib.hid (Hb.out.keep hb1)
  replace Hm := Lib.hid (Hm.out.keep hb1)
  clear C hb1 a0 a1 a2
  obtain ⟨w8, hw2⟩ : ∃ x, w7.alloc (.cells #[.slice ya yk yc, .int .i64 yl, .int .i64 yt] 24) = x := ⟨_, rfl⟩
  obtain ⟨Bc, hBc⟩ : ∃ x, w7.heap.size = x := ⟨_, rfl⟩
  have Hc := Lib.hid (show VarN w8 Bc tc by rw [← hw2, ← hBc]; exact VarN.new HV1.out)
  have hb2 : Below w7.heap.size w7 w8 := by rw [← hw2]; exact below_new _ _
  have HNnc := Lib.hid (show Bn ≠ Bc by have := Hn.out.lt; omega)
  have HNcn := Lib.hid (HNnc.out.symm)
  replace Hn := Lib.hid (Hn.out.keep hb2)
  have HNac := Lib.hid (show Ba ≠ Bc by have := Ha.out.lt; omega)
  have HNca := Lib.hid (HNac.out.symm)
  replace Ha := Lib.hid (Ha.out.keep hb2)
  have HNbc := Lib.hid (show Bb ≠ Bc by have := Hb.out.lt; omega)
  have HNcb := Lib.hid (HNbc.out.symm)
  replace Hb := Lib.hid (Hb.out.keep hb2)
  replace Hm := Lib.hid (Hm.out.keep hb2)
  have HLc := Lib.hid (show w.heap.size ≤ Bc by rw [← hBc]; exact HB.out.size)
  replace HB := Lib.hid (Below.then HB.out hb2)
  have HW2 := Lib.hid hw2
  clear hw2 hb2 HV1
  go_upto_region 6 with fail
  rw [HW2.out]
  clear hBc HW2
  obtain ⟨xa, xk, xc, xl, xt, hA, hV⟩ := Hn.out.is
  have C0 := Lose_t _ n1 place w8 hV HI.out.2.1
  rw [HE.out.2.2.2.1] at C0
  have C := Lib.hid C0
  clear C0
  obtain ⟨a0, a1, a2⟩ := hA.cells
  clear hA hV
  go_wp2_with fail
  refine C.out.mono ?_
  rintro e w9 ⟨v1, rfl, hv1, hb1⟩
  obtain ⟨ya, yk, yc, yl, yt, rfl⟩ := hv1.three
  have HV1 := Lib.hid hv1
  clear hv1
  replace HB := Lib.hid (Below.then HB.out hb1)
  replace Hn := Lib.hid (Hn.out.keep hb1)
  replace Ha := Lib.hid (Ha.out.keep hb1)
  replace Hb := Lib.hid (Hb.out.keep hb1)
  replace Hc := Lib.hid (Hc.out.keep hb1)
  replace Hm := Lib.hid (Hm.out.keep hb1)
  clear C hb1 a0 a1 a2
  obtain ⟨w10, hw2⟩ : ∃ x, w9.alloc (.cells #[.slice ya yk yc, .int .i64 yl, .int .i64 yt] 24) = x := ⟨_, rfl⟩
  obtain ⟨Bd, hBd⟩ : ∃ x, w9.heap.size = x := ⟨_, rfl⟩
  have Hd := Lib.hid (show VarN w10 Bd td by rw [← hw2, ← hBd]; exact VarN.new HV1.out)
  have hb2 : Below w9.heap.size w9 w10 := by rw [← hw2]; exact below_new _ _
  have HNnd := Lib.hid (show Bn ≠ Bd by have := Hn.out.lt; omega)
  have HNdn := Lib.hid (HNnd.out.symm)
  replace Hn := Lib.hid (Hn.out.keep hb2)
  have HNad := Lib.hid (show Ba ≠ Bd by have := Ha.out.lt; omega)
  have HNda := Lib.hid (HNad.out.symm)
  replace Ha := Lib.hid (Ha.out.keep hb2)
  have HNbd := Lib.hid (show Bb ≠ Bd by have := Hb.out.lt; omega)
  have HNdb := Lib.hid (HNbd.out.symm)
  replace Hb := Lib.hid (Hb.out.keep hb2)
  have HNcd := Lib.hid (show Bc ≠ Bd by have := Hc.out.lt; omega)
  have HNdc := Lib.hid (HNcd.out.symm)
  replace Hc := Lib.hid (Hc.out.keep hb2)
  replace Hm := Lib.hid (Hm.out.keep hb2)
  have HLd := Lib.hid (show w.heap.size ≤ Bd by rw [← hBd]; exact HB.out.size)
  replace HB := Lib.hid (Below.then HB.out hb2)
  have HW2 := Lib.hid hw2
  clear hw2 hb2 HV1
  go_upto_region 7 with fail
  rw [HW2.out]
  clear hBd HW2
  obtain ⟨xa, xk, xc, xl, xt, hA, hV⟩ := Hn.out.is
  have C0 := Late_t _ n1 ticks w10 hV HI.out.2.2.1
  rw [HE.out.2.2.2.2.2.1] at C0
  rw [HE.out.2.2.2.2.2.2] at C0
  have C := Lib.hid C0
  clear C0
  obtain ⟨a0, a1, a2⟩ := hA.cells
  clear hA hV
  go_wp2_with fail
  refine C.out.mono ?_
  rintro e w11 ⟨ru1, ru2, rfl, hru, hb1⟩
  have Hru := Lib.hid hru
  clear hru
  replace HB := Lib.hid (Below.then HB.out hb1)
  replace Hn := Lib.hid (Hn.out.keep hb1)
  replace Ha := Lib.hid (Ha.out.keep hb1)
  replace Hb := Lib.hid (Hb.out.keep hb1)
  replace Hc := Lib.hid (Hc.out.keep hb1)
  replace Hd := Lib.hid (Hd.out.keep hb1)
  replace Hm := Lib.hid (Hm.out.keep hb1)
  clear C hb1 a0 a1 a2
  go_upto_region 8 with fail
  obtain ⟨xa, xk, xc, xl, xt, hA, hV⟩ := Hn.out.is
  have C0 := Pass_t _ n1 ticks w11 hV HI.out.2.2.1
  rw [HE.out.2.2.2.2.1] at C0
  have C := Lib.hid C0
  clear C0
  obtain ⟨a0, a1, a2⟩ := hA.cells
  clear hA hV
  go_wp2_with fail
  refine C.out.mono ?_
  rintro e w12 ⟨v1, rfl, hv1, hb1⟩
  obtain ⟨ya, yk, yc, yl, yt, rfl⟩ := hv1.three
  have HV1 := Lib.hid hv1
  clear hv1
  replace HB := Lib.hid (Below.then HB.out hb1)
  replace Hn := Lib.hid (Hn.out.keep hb1)
  replace Ha := Lib.hid (Ha.out.keep hb1)
  replace Hb := Lib.hid (Hb.out.keep hb1)
  replace Hc := Lib.hid (Hc.out.keep hb1)
  replace Hd := Lib.hid (Hd.out.keep hb1)
  replace Hm := Lib.hid (Hm.out.keep hb1)
  replace Hru := Lib.hid (Hru.out.keep hb1)
  clear C hb1 a0 a1 a2
  obtain ⟨w13, hw2⟩ : ∃ x, w12.alloc (.cells #[.slice ya yk yc, .int .i64 yl, .int .i64 yt] 24) = x := ⟨_, rfl⟩
  obtain ⟨Bp, hBp⟩ : ∃ x, w12.heap.size = x := ⟨_, rfl⟩
  have Hp := Lib.hid (show VarN w13 Bp tp by rw [← hw2, ← hBp]; exact VarN.new HV1.out)
  have hb2 : Below w12.heap.size w12 w13 := by rw [← hw2]; exact below_new _ _
  have HNnp := Lib.hid (show Bn ≠ Bp by have := Hn.out.lt; omega)
  have HNpn := Lib.hid (HNnp.out.symm)
  replace Hn := Lib.hid (Hn.out.keep hb2)
  have HNap := Lib.hid (show Ba ≠ Bp by have := Ha.out.lt; omega)
  have HNpa := Lib.hid (HNap.out.symm)
  replace Ha := Lib.hid (Ha.out.keep hb2)
  have HNbp := Lib.hid (show Bb ≠ Bp by have := Hb.out.lt; omega)
  have HNpb := Lib.hid (HNbp.out.symm)
  replace Hb := Lib.hid (Hb.out.keep hb2)
  have HNcp := Lib.hid (show Bc ≠ Bp by have := Hc.out.lt; omega)
  have HNpc := Lib.hid (HNcp.out.symm)
  replace Hc := Lib.hid (Hc.out.keep hb2)
  have HNdp := Lib.hid (show Bd ≠ Bp by have := Hd.out.lt; omega)
  have HNpd := Lib.hid (HNdp.out.symm)
  replace Hd := Lib.hid (Hd.out.keep hb2)
  replace Hm := Lib.hid (Hm.out.keep hb2)
  replace Hru := Lib.hid (Hru.out.keep hb2)
  have HLp := Lib.hid (show w.heap.size ≤ Bp by rw [← hBp]; exact HB.out.size)
  replace HB := Lib.hid (Below.then HB.out hb2)
  have HW2 := Lib.hid hw2
  clear hw2 hb2 HV1
  go_upto_region 9 with fail
  rw [HW2.out]
  clear hBp HW2
  obtain ⟨w14, hw2⟩ : ∃ x, w13.alloc (.cells #[nilV, .int .i64 0, .int .i64 0] 24) = x := ⟨_, rfl⟩
  obtain ⟨Bo, hBo⟩ : ∃ x, w13.heap.size = x := ⟨_, rfl⟩
  have Ho := Lib.hid (show VarN w14 Bo noN by rw [← hw2, ← hBo]; exact VarN.new (noN_at w13))
  have hb2 : Below w13.heap.size w13 w14 := by rw [← hw2]; exact below_new _ _
  replace Hn := Lib.hid (Hn.out.keep hb2)
  replace Ha := Lib.hid (Ha.out.keep hb2)
  replace Hb := Lib.hid (Hb.out.keep hb2)
  replace Hc := Lib.hid (Hc.out.keep hb2)
  replace Hd := Lib.hid (Hd.out.keep hb2)
  replace Hp := Lib.hid (Hp.out.keep hb2)
  replace Hm := Lib.hid (Hm.out.keep hb2)
  replace Hru := Lib.hid (Hru.out.keep hb2)
  replace HB := Lib.hid (Below.then HB.out hb2)
  have HW2 := Lib.hid hw2
  clear hw2 hb2
  go_upto_region 10 with fail
  rw [HW2.out]
  clear hBo HW2
  obtain ⟨na, nk, nc, nl, nt, hA, hV⟩ := Hn.out.is
  have HAn := Lib.hid hA
  have HVn := Lib.hid hV
  obtain ⟨a0, a1, a2⟩ := hA.cells
  clear hA hV
  have qr : (r != r) = false := by cases r <;> rfl
  have hbA := Below.refl w14.heap.size w14
  have CP := Lib.hid (show ∀ w', Below w14.heap.size w14 w' → Calls Try.prog 14 #[.agg #[.slice na nk nc, .int .i64 nl, .int .i64 nt]] w' fun e w'' => e = .returned (.bool r) ∧ Below w'.heap.size w' w'' from fun w' hb => by have := RP.out _ n1 w' (HVn.out.keep hb); rwa [HR.out] at this)
  have CR := Lib.hid (show ∀ w', Below w14.heap.size w14 w' → Calls Try.prog 15 #[.agg #[.slice na nk nc, .int .i64 nl, .int .i64 nt]] w' fun e w'' => e = .returned (.bool r) ∧ Below w'.heap.size w' w'' from fun w' hb => by have := RT.out _ n1 w' (HVn.out.keep hb); rwa [HR.out] at this)
  have CA := Lib.hid (show ∀ w', Below w14.heap.size w14 w' → Calls Try.prog 16 #[] w' fun e w'' => e = .returned (.bool true) ∧ Below w'.heap.size w' w'' from fun w' _ => AL.out w')
  go_cut [86] from 78 to 86 (fun v wx => v = .bool false ∧ Below w14.heap.size w14 wx)
  case first =>
    go_region_held3 (fun w' => w'.cell? ⟨Bn, 0, none⟩ = some (.slice na nk nc) ∧ w'.cell? ⟨Bn, 1, none⟩ = some (.int .i64 nl) ∧ w'.cell? ⟨Bn, 2, none⟩ = some (.int .i64 nt)) (exact ⟨a0, a1, a2⟩)
        (first
      | (go_simp; go_at_call 14
         refine (CP.out _ (by first | exact hbA | exact hbA.drew)).mono ?_
         rintro e wS ⟨rfl, hbS⟩
         have hbA : Below w14.heap.size w14 wS := by first | exact Below.then hbA hbS | exact Below.then hbA.drew hbS
         obtain ⟨a0, a1, a2⟩ := (HAn.out.keep hbA).cells)
      | (go_simp; go_at_call 15
         refine (CR.out _ (by first | exact hbA | exact hbA.drew)).mono ?_
         rintro e wS ⟨rfl, hbS⟩
         have hbA : Below w14.heap.size w14 wS := by first | exact Below.then hbA hbS | exact Below.then hbA.drew hbS
         obtain ⟨a0, a1, a2⟩ := (HAn.out.keep hbA).cells)
      | (go_simp; go_at_call 16
         refine (CA.out _ (by first | exact hbA | exact hbA.drew)).mono ?_
         rintro e wS ⟨rfl, hbS⟩
         have hbA : Below w14.heap.size w14 wS := by first | exact Below.then hbA hbS | exact Below.then hbA.drew hbS
         obtain ⟨a0, a1, a2⟩ := (HAn.out.keep hbA).cells))
    all_goals
      go_wp2_with fail
      go_meet
      exact ⟨rfl, by first | exact hbA | exact hbA.drew⟩
  case rest =>
  obtain ⟨rfl, hb1⟩ := hcut
  clear a0 a1 a2 qr hbA CP CR CA HAn HVn
  obtain ⟨w15, rfl⟩ : ∃ x : World, x = wc := ⟨_, rfl⟩
  replace HB := Lib.hid (Below.then HB.out hb1)
  replace Hn := Lib.hid (Hn.out.keep hb1)
  replace Ha := Lib.hid (Ha.out.keep hb1)
  replace Hb := Lib.hid (Hb.out.keep hb1)
  replace Hc := Lib.hid (Hc.out.keep hb1)
  replace Hd := Lib.hid (Hd.out.keep hb1)
  replace Hp := Lib.hid (Hp.out.keep hb1)
  replace Ho := Lib.hid (Ho.out.keep hb1)
  replace Hm := Lib.hid (Hm.out.keep hb1)
  replace Hru := Lib.hid (Hru.out.keep hb1)
  clear hb1
  obtain ⟨xa, xk, xc, xl, xt, hA, hV⟩ := Hn.out.is
  have C0 := RT.out _ n1 w15 hV
  rw [HR.out] at C0
  have C := Lib.hid C0
  clear C0
  obtain ⟨a0, a1, a2⟩ := hA.cells
  clear hA hV
  go_wp2_with fail
  refine C.out.mono ?_
  rintro e w16 ⟨rfl, hb1⟩
  replace HB := Lib.hid (Below.then HB.out hb1)
  replace Hn := Lib.hid (Hn.out.keep hb1)
  replace Ha := Lib.hid (Ha.out.keep hb1)
  replace Hb := Lib.hid (Hb.out.keep hb1)
  replace Hc := Lib.hid (Hc.out.keep hb1)
  replace Hd := Lib.hid (Hd.out.keep hb1)
  replace Hp := Lib.hid (Hp.out.keep hb1)
  replace Ho := Lib.hid (Ho.out.keep hb1)
  replace Hm := Lib.hid (Hm.out.keep hb1)
  replace Hru := Lib.hid (Hru.out.keep hb1)
  clear C hb1 a0 a1 a2
  cases r with
  | false =>
    as_aux_lemma =>
      obtain ⟨e1, e2, e3, e4, e5, e6, e7⟩ := HE.out
      rw [send_bad HR.out] at e1
      rw [take_bad HR.out] at e2
      rw [twice_bad HR.out] at e3
      rw [lose_bad HR.out] at e4
      rw [pass_no (Or.inl HR.out)] at e5
      rw [late_no (Or.inl HR.out)] at e6
      unfold noM at e2
      simp only [Prod.mk.injEq, Ms.mk.injEq] at e1 e2 e3 e4 e5
      obtain ⟨rfl, rfl, rfl⟩ := e1
      obtain ⟨rfl, ⟨rfl, rfl, rfl, rfl⟩, rfl⟩ := e2
      obtain ⟨rfl, rfl⟩ := e3
      obtain ⟨rfl, rfl⟩ := e4
      obtain ⟨rfl, rfl⟩ := e5
      subst e6
      obtain rfl : m = 0 := e7.symm
      clear e7 HE
      have q0 : ((⟨#[]⟩ : ByteArray).toList == (⟨#[]⟩ : ByteArray).toList) = true := by simp
      obtain ⟨x0, x1, x2, x3⟩ := Hm.out.cells
      obtain ⟨ua, uk, uc, ul, ut, hA, hV⟩ := Ha.out.is
      obtain ⟨wa, wk, wc', wl, wt, hA2, hV2⟩ := Ho.out.is
      have C := Lib.hid (LK.out noN noN _ _ w16 hV hV2 rfl)
      obtain ⟨a0, a1, a2⟩ := hA.cells
      obtain ⟨b0, b1, b2⟩ := hA2.cells
      clear hA hV hA2 hV2
      go_wp2_with fail
      refine C.out.mono ?_
      rintro e w17 ⟨rfl, hb1⟩
      replace HB := Lib.hid (Below.then HB.out hb1)
      replace Hn := Lib.hid (Hn.out.keep hb1)
      replace Ha := Lib.hid (Ha.out.keep hb1)
      replace Hb := Lib.hid (Hb.out.keep hb1)
      replace Hc := Lib.hid (Hc.out.keep hb1)
      replace Hd := Lib.hid (Hd.out.keep hb1)
      replace Hp := Lib.hid (Hp.out.keep hb1)
      replace Ho := Lib.hid (Ho.out.keep hb1)
      replace Hm := Lib.hid (Hm.out.keep hb1)
      replace Hru := Lib.hid (Hru.out.keep hb1)
      clear C hb1 a0 a1 a2 b0 b1 b2 x0 x1 x2 x3 q0
      obtain ⟨ua, uk, uc, ul, ut, hA, hV⟩ := Hb.out.is
      obtain ⟨wa, wk, wc', wl, wt, hA2, hV2⟩ := Ho.out.is
      have C := Lib.hid (LK.out noN noN _ _ w17 hV hV2 rfl)
      obtain ⟨a0, a1, a2⟩ := hA.cells
      obtain ⟨b0, b1, b2⟩ := hA2.cells
      clear hA hV hA2 hV2
      go_wp2_with fail
      refine C.out.mono ?_
      rintro e w18 ⟨rfl, hb1⟩
      replace HB := Lib.hid (Below.then HB.out hb1)
      replace Hn := Lib.hid (Hn.out.keep hb1)
      replace Ha := Lib.hid (Ha.out.keep hb1)
      replace Hb := Lib.hid (Hb.out.keep hb1)
      replace Hc := Lib.hid (Hc.out.keep hb1)
      replace Hd := Lib.hid (Hd.out.keep hb1)
      replace Hp := Lib.hid (Hp.out.keep hb1)
      replace Ho := Lib.hid (Ho.out.keep hb1)
      replace Hm := Lib.hid (Hm.out.keep hb1)
      replace Hru := Lib.hid (Hru.out.keep hb1)
      clear C hb1 a0 a1 a2 b0 b1 b2 
      obtain ⟨ua, uk, uc, ul, ut, hA, hV⟩ := Hc.out.is
      obtain ⟨wa, wk, wc', wl, wt, hA2, hV2⟩ := Ho.out.is
      have C := Lib.hid (LK.out noN noN _ _ w18 hV hV2 rfl)
      obtain ⟨a0, a1, a2⟩ := hA.cells
      obtain ⟨b0, b1, b2⟩ := hA2.cells
      clear hA hV hA2 hV2
      go_wp2_with fail
      refine C.out.mono ?_
      rintro e w19 ⟨rfl, hb1⟩
      replace HB := Lib.hid (Below.then HB.out hb1)
      replace Hn := Lib.hid (Hn.out.keep hb1)
      replace Ha := Lib.hid (Ha.out.keep hb1)
      replace Hb := Lib.hid (Hb.out.keep hb1)
      replace Hc := Lib.hid (Hc.out.keep hb1)
      replace Hd := Lib.hid (Hd.out.keep hb1)
      replace Hp := Lib.hid (Hp.out.keep hb1)
      replace Ho := Lib.hid (Ho.out.keep hb1)
      replace Hm := Lib.hid (Hm.out.keep hb1)
      replace Hru := Lib.hid (Hru.out.keep hb1)
      clear C hb1 a0 a1 a2 b0 b1 b2 
      obtain ⟨ua, uk, uc, ul, ut, hA, hV⟩ := Hd.out.is
      obtain ⟨wa, wk, wc', wl, wt, hA2, hV2⟩ := Ho.out.is
      have C := Lib.hid (LK.out noN noN _ _ w19 hV hV2 rfl)
      obtain ⟨a0, a1, a2⟩ := hA.cells
      obtain ⟨b0, b1, b2⟩ := hA2.cells
      clear hA hV hA2 hV2
      go_wp2_with fail
      refine C.out.mono ?_
      rintro e w20 ⟨rfl, hb1⟩
      replace HB := Lib.hid (Below.then HB.out hb1)
      replace Hn := Lib.hid (Hn.out.keep hb1)
      replace Ha := Lib.hid (Ha.out.keep hb1)
      replace Hb := Lib.hid (Hb.out.keep hb1)
      replace Hc := Lib.hid (Hc.out.keep hb1)
      replace Hd := Lib.hid (Hd.out.keep hb1)
      replace Hp := Lib.hid (Hp.out.keep hb1)
      replace Ho := Lib.hid (Ho.out.keep hb1)
      replace Hm := Lib.hid (Hm.out.keep hb1)
      replace Hru := Lib.hid (Hru.out.keep hb1)
      clear C hb1 a0 a1 a2 b0 b1 b2 
      obtain ⟨ua, uk, uc, ul, ut, hA, hV⟩ := Hp.out.is
      obtain ⟨wa, wk, wc', wl, wt, hA2, hV2⟩ := Ho.out.is
      have C := Lib.hid (LK.out noN noN _ _ w20 hV hV2 rfl)
      obtain ⟨a0, a1, a2⟩ := hA.cells
      obtain ⟨b0, b1, b2⟩ := hA2.cells
      clear hA hV hA2 hV2
      go_wp2_with fail
      refine C.out.mono ?_
      rintro e w21 ⟨rfl, hb1⟩
      replace HB := Lib.hid (Below.then HB.out hb1)
      replace Hn := Lib.hid (Hn.out.keep hb1)
      replace Ha := Lib.hid (Ha.out.keep hb1)
      replace Hb := Lib.hid (Hb.out.keep hb1)
      replace Hc := Lib.hid (Hc.out.keep hb1)
      replace Hd := Lib.hid (Hd.out.keep hb1)
      replace Hp := Lib.hid (Hp.out.keep hb1)
      replace Ho := Lib.hid (Ho.out.keep hb1)
      replace Hm := Lib.hid (Hm.out.keep hb1)
      replace Hru := Lib.hid (Hru.out.keep hb1)
      clear C hb1 a0 a1 a2 b0 b1 b2 
      go_wp2_with fail
      go_ret
      exact ⟨rfl, HB.out⟩
  | true =>
  have HMAY := Lib.hid ((Nt.right_iff _).1 HR.out)
  obtain ⟨bt, hbt⟩ : ∃ b, decide (ticks < 0) = b := ⟨_, rfl⟩
  have HBT := Lib.hid hbt
  go_upto_if 153 with fail
  clear hbt
  go_cut [] from 154 to 223 (fun wx => Below w16.heap.size w16 wx)
  case first =>
    as_aux_lemma =>
      have HA0 := Lib.hid (Below.refl w16.heap.size w16)
      cases bt with
      | true =>
        have ht : ticks < 0 := of_decide_eq_true HBT.out
        obtain ⟨-, -, -, -, e5, e6, e7⟩ := HE.out
        rw [pass_no (Or.inr ht)] at e5
        rw [late_no (Or.inr ht)] at e6
        simp only [Prod.mk.injEq] at e5
        obtain ⟨rfl, rfl⟩ := e5
        subst e6
        obtain rfl : m = 0 := e7.symm
        clear e7
        obtain ⟨ua, uk, uc, ul, ut, hA, hV⟩ := Hp.out.is
        obtain ⟨wa, wk, wc', wl, wt, hA2, hV2⟩ := Ho.out.is
        have C := Lib.hid (LK.out noN noN _ _ w16 hV hV2 rfl)
        obtain ⟨a0, a1, a2⟩ := hA.cells
        obtain ⟨b0, b1, b2⟩ := hA2.cells
        clear hA hV hA2 hV2
        go_wp2_with fail
        refine C.out.mono ?_
        rintro e w17 ⟨rfl, hb1⟩
        replace HB := Lib.hid (Below.then HB.out hb1)
        replace Hn := Lib.hid (Hn.out.keep hb1)
        replace Ha := Lib.hid (Ha.out.keep hb1)
        replace Hb := Lib.hid (Hb.out.keep hb1)
        replace Hc := Lib.hid (Hc.out.keep hb1)
        replace Hd := Lib.hid (Hd.out.keep hb1)
        replace Hp := Lib.hid (Hp.out.keep hb1)
        replace Ho := Lib.hid (Ho.out.keep hb1)
        replace Hm := Lib.hid (Hm.out.keep hb1)
        replace Hru := Lib.hid (Hru.out.keep hb1)
        replace HA0 := Lib.hid (Below.then HA0.out hb1)
        clear C hb1 a0 a1 a2 b0 b1 b2 
        go_wp2_with fail
        go_meet
        exact HA0.out
      | false =>
        have ht : ¬ ticks < 0 := of_decide_eq_false HBT.out
        obtain ⟨-, -, -, -, e5, e6, e7⟩ := HE.out
        rw [pass_ok HR.out (by omega)] at e5
        rw [late_ok HR.out (by omega)] at e6
        simp only [Prod.mk.injEq] at e5
        obtain ⟨htp, rfl⟩ := e5
        have hnow := HMAY.out.now
        have hlen := HMAY.out.few
        have htk2 := HI.out.2.2.1.2
        have HL := Lib.hid (And.intro e6 e7)
        have HTP := Lib.hid htp
        clear e6 e7 htp
        obtain ⟨na, nk, nc, nl, nt, hA, hV⟩ := Hn.out.is
        obtain ⟨hnk, hnl, hnt, hnc, hncm, hrow⟩ := hV.parts
        rw [← hnt] at hnow
        rw [← hnk] at hlen
        have HNK := Lib.hid hnk
        have HNT := Lib.hid hnt
        have HRW := Lib.hid hrow
        have HVN := Lib.hid hV
        have HAN := Lib.hid hA
        obtain ⟨a0, a1, a2⟩ := hA.cells
        clear hA hV hnk hnl hnt hnc hrow
        obtain ⟨w1, hw1⟩ : ∃ x, w16.alloc (.cells #[.slice na nk nc, .int .i64 nl, .int .i64 nt] 24) = x := ⟨_, rfl⟩
        obtain ⟨Bw, hBw⟩ : ∃ x, w16.heap.size = x := ⟨_, rfl⟩
        have HAw := Lib.hid (show At3 24 w1 Bw (.slice na nk nc) (.int .i64 nl) (.int .i64 nt) by rw [← hw1, ← hBw]; exact At3.new _ _ _ _ _)
        have HB1 := Lib.hid (show Below w16.heap.size w16 w1 by rw [← hw1]; exact below_new _ _)
        have HBw := Lib.hid (show w16.heap.size ≤ Bw by rw [← hBw]; exact Nat.le_refl _)
        have HW1 := Lib.hid hw1
        clear hw1
        go_upto_region 18 with fail
        rw [HW1.out]
        clear hBw HW1 a0 a1 a2
        obtain ⟨d0, d1, d2⟩ := HAw.out.cells
        obtain ⟨f0, f1, f2⟩ := HAw.out.free
        go_upto_region 19 with fail
        clear d0 d1 d2 f0 f1 f2
        obtain ⟨w2, hw2⟩ : ∃ x, w1.setCell ⟨Bw, 2, none⟩ (.int .i64 1099511627776) = x := ⟨_, rfl⟩
        rw [hw2]
        have HAw2 := Lib.hid (show At3 24 w2 Bw (.slice na nk nc) (.int .i64 nl) (.int .i64 1099511627776) by rw [← hw2]; exact HAw.out.at2 _)
        have HB2 := Lib.hid (show Below w16.heap.size w16 w2 by rw [← hw2]; exact HB1.out.setCell (p := ⟨Bw, 2, none⟩) HBw.out _)
        clear hw2 HAw
        obtain ⟨a0, a1, a2⟩ := (HAN.out.keep HB2.out).cells
        obtain ⟨rs, hrs⟩ : ∃ x, 1099511627776 - nt = x := ⟨_, rfl⟩
        have p6 : IntKind.i64.wrap (1099511627776 - nt) = rs := by rw [IntKind.wrap_i64]; omega
        obtain ⟨pv, hpv⟩ : ∃ x, pt nt ticks = x := ⟨_, rfl⟩
        have HPV := Lib.hid hpv
        have HRS := Lib.hid hrs
        clear hrs hpv
        obtain ⟨bl, hbl⟩ : ∃ b, decide (ticks < rs) = b := ⟨_, rfl⟩
        have HBL := Lib.hid hbl
        go_upto_if 174 with fail
        clear a2 p6 hbl
        go_cut [] from 175 to 179 (fun wx => At3 24 wx Bw (.slice na nk nc) (.int .i64 nl) (.int .i64 pv) ∧ Below w16.heap.size w16 wx)
        case first =>
          cases bl with
          | true =>
            have hlt : ticks < rs := of_decide_eq_true HBL.out
            have p7 : IntKind.i64.wrap (nt + ticks) = pv := by
              have := HPV.out
              have := HRS.out
              unfold pt at this
              rw [IntKind.wrap_i64, ← HPV.out]
              unfold pt
              rw [if_pos (by have := HRS.out; omega)]
              have := HRS.out
              omega
            obtain ⟨a0, a1, a2⟩ := (HAN.out.keep HB2.out).cells
            obtain ⟨d0, d1, d2⟩ := HAw2.out.cells
            obtain ⟨f0, f1, f2⟩ := HAw2.out.free
            go_wp2_with fail
            go_meet
            exact ⟨HAw2.out.at2 _, HB2.out.setCell (p := ⟨Bw, 2, none⟩) HBw.out _⟩
          | false =>
            have hlt : ¬ ticks < rs := of_decide_eq_false HBL.out
            have hp7 : pv = 1099511627776 := by rw [← HPV.out]; unfold pt; rw [if_neg (by have := HRS.out; omega)]
            have HP7 := Lib.hid hp7
            clear hp7
            go_wp2_with fail
            go_meet
            exact ⟨by rw [HP7.out]; exact HAw2.out, HB2.out⟩
        case rest =>
        obtain ⟨hAw, hb3⟩ := hcut
        obtain ⟨w3, rfl⟩ : ∃ x : World, x = wc := ⟨_, rfl⟩
        clear a0 a1
        have ipv : i64 pv := by
          have := pt_ge (now := nt) (a := ticks) hnow (by omega)
          rw [HPV.out] at this
          exact ⟨by omega, by omega⟩
        have HWN := Lib.hid (show VarN w3 Bw tp by
          have e : (⟨n1.fl, n1.last, pv⟩ : Nt) = tp := by rw [← HTP.out, ← HPV.out, HNT.out]
          rw [← e]
          exact VarN.of hAw ((HVN.out.keep hb3).later ipv))
        replace Hn := Lib.hid (Hn.out.keep hb3)
        replace Ha := Lib.hid (Ha.out.keep hb3)
        replace Hb := Lib.hid (Hb.out.keep hb3)
        replace Hc := Lib.hid (Hc.out.keep hb3)
        replace Hd := Lib.hid (Hd.out.keep hb3)
        replace Hp := Lib.hid (Hp.out.keep hb3)
        replace Ho := Lib.hid (Ho.out.keep hb3)
        replace Hm := Lib.hid (Hm.out.keep hb3)
        replace Hru := Lib.hid (Hru.out.keep hb3)
        replace HA0 := Lib.hid (Below.then HA0.out hb3)
        replace HB := Lib.hid (Below.then HB.out hb3)
        replace HRW := Lib.hid (RwAt.keep HRW.out hb3)
        replace HAN := Lib.hid (HAN.out.keep hb3)
        clear hAw hb3 HVN HAw2 HB2 HB1 HBw ipv
        have Hw := HWN
        clear HWN
        obtain ⟨T, hT⟩ : ∃ x, nt - ticks = x := ⟨_, rfl⟩
        have pT : IntKind.i64.wrap (nt - ticks) = T := by rw [IntKind.wrap_i64]; omega
        have HL2 := Lib.hid (show lateL T 0 n1.fl = L ∧ L.length = m from ⟨by rw [← hT, HNT.out]; exact HL.out.1, HL.out.2⟩)
        clear hT HL
        obtain ⟨a0, a1, a2⟩ := HAN.out.cells
        go_wp2_with fail
        clear a0 a1 a2
        go_loopw [27, 183] (fun kv iv wr => ∃ j : Nat, j ≤ nk ∧ iv = .int .i64 j ∧ kv = .int .i64 (((lateL T 0 (n1.fl.take j)).length : Nat) : Int) ∧ Below w3.heap.size w3 wr) (fun _ i _ => nk - (intOf i).toNat)
        case atStart => exact ⟨0, Nat.zero_le _, rfl, rfl, Below.refl _ _⟩
        case round =>
          obtain ⟨j, hj, rfl, rfl, hbq⟩ := hrel
          have HBQ := Lib.hid hbq
          obtain ⟨c, hc⟩ : ∃ x, (lateL T 0 (n1.fl.take j)).length = x := ⟨_, rfl⟩
          rw [hc]
          by_cases hlt : j < nk
          · have k1 : j < n1.fl.length := by rw [← HNK.out]; exact hlt
            obtain ⟨lb, lo, rfl, e0, e1, e2, e3⟩ := ms_at (RwAt.keep HRW.out hbq) j k1
            have HLT := Lib.hid (show (n1.fl[j]).tm ≤ T → c < m ∧ (∀ x, L[c]? = some x → x = j) ∧ (lateL T 0 (n1.fl.take (j + 1))).length = c + 1 from fun h => by
              have := late_take k1 h
              rwa [HL2.out.1, HL2.out.2, hc] at this)
            have HLP := Lib.hid (show ¬ (n1.fl[j]).tm ≤ T → (lateL T 0 (n1.fl.take (j + 1))).length = c from fun h => by rw [late_pass k1 h, hc])
            have hcj : c ≤ j := by rw [← hc]; have := lateL_len T 0 (n1.fl.take j); rw [List.length_take] at this; omega
            obtain ⟨⟨y1, y2, y3, y4⟩, hy⟩ : ∃ x, n1.fl[j] = x := ⟨_, rfl⟩
            rw [hy] at e0 e1 e2 e3 HLT HLP
            simp only at e0 e1 e2 e3 HLT HLP
            obtain ⟨W1, hW1⟩ : ∃ W1, wr.alloc (.cells #[.int .i64 y1, .int .i64 y2, .string y3, .int .i64 y4] 30) = W1 := ⟨_, rfl⟩
            obtain ⟨B1, hB1⟩ : ∃ B, wr.heap.size = B := ⟨_, rfl⟩
            have HB1 := Lib.hid (show Below w3.heap.size w3 W1 by rw [← hW1]; exact Below.then hbq (below_new _ _))
            have HX := Lib.hid (show At4 30 W1 B1 (.int .i64 y1) (.int .i64 y2) (.string y3) (.int .i64 y4) by rw [← hW1, ← hB1]; exact At4.new _ _ _ _ _ _)
            have HW1 := Lib.hid hW1
            clear hW1 hy hbq hc
            have qj : ((j : Int) != (j : Int)) = false := by rw [bne_self_eq_false]
            have p9 : IntKind.i64.wrap ((c : Int) + 1) = ((c + 1 : Nat) : Int) := by rw [IntKind.wrap_i64]; omega
            by_cases hx : y4 ≤ T
            · obtain ⟨c1, c2, c3⟩ := HLT.out hx
              have k2 : c < L.length := by rw [HL2.out.2]; exact c1
              have d1 : decide (m ≤ c) = false := decide_eq_false (by omega)
              obtain ⟨rb, ro, rfl, g0⟩ := (Hru.out.keep HB1.out).at c k2
              rw [show L[c] = j from c2 _ (List.getElem?_eq_getElem k2)] at g0
              have C3 := Lib.hid c3
              clear c2 c3 HLT HLP
              go_upto_region 25 with fail
              rw [HW1.out]
              clear hB1 e0 e1 e2 e3
              obtain ⟨x0, x1, x2, x3⟩ := HX.out.cells
              obtain ⟨a0, a1, a2⟩ := (HAN.out.keep HB1.out).cells
              go_wp2_with fail
              go_roundw
              case rel => exact ⟨j + 1, by omega, by go_num, by rw [C3.out]; go_num, HB1.out⟩
              case measure => simp [intOf]; omega
            · have C3 := Lib.hid (HLP.out hx)
              clear HLT HLP
              go_upto_region 25 with fail
              rw [HW1.out]
              clear hB1 e0 e1 e2 e3
              obtain ⟨x0, x1, x2, x3⟩ := HX.out.cells
              obtain ⟨a0, a1, a2⟩ := (HAN.out.keep HB1.out).cells
              go_wp2_with fail
              go_roundw
              case rel => exact ⟨j + 1, by omega, by go_num, by rw [C3.out], HB1.out⟩
              case measure => simp [intOf]; omega
          · obtain rfl : j = nk := by omega
            have hcm : c = m := by rw [← hc, HNK.out, List.take_length, HL2.out.1, HL2.out.2]
            subst hcm
            have qc : ((c : Int) != (c : Int)) = false := by rw [bne_self_eq_false]
            clear hc
            obtain ⟨wo, rfl⟩ : ∃ x : World, x = wr := ⟨_, rfl⟩
            replace HA0 := Lib.hid (Below.then HA0.out HBQ.out)
            replace HB := Lib.hid (Below.then HB.out HBQ.out)
            replace Hp := Lib.hid (Hp.out.keep HBQ.out)
            replace Hw := Lib.hid (Hw.out.keep HBQ.out)
            obtain ⟨ua, uk, uc, ul, ut, hA, hV⟩ := Hp.out.is
            obtain ⟨wa, wk, wc', wl, wt, hA2, hV2⟩ := Hw.out.is
            have C := Lib.hid (LK.out tp tp _ _ wo hV hV2 rfl)
            obtain ⟨a0, a1, a2⟩ := hA.cells
            obtain ⟨b0, b1, b2⟩ := hA2.cells
            clear hA hV hA2 hV2
            go_wp2_with fail
            refine C.out.mono ?_
            rintro e w301 ⟨rfl, hb1⟩
            replace HB := Lib.hid (Below.then HB.out hb1)
            replace Hp := Lib.hid (Hp.out.keep hb1)
            replace Hw := Lib.hid (Hw.out.keep hb1)
            replace HA0 := Lib.hid (Below.then HA0.out hb1)
            clear C hb1 a0 a1 a2 b0 b1 b2 
            go_wp2_with fail
            go_meet
            exact HA0.out
  case rest =>
  have hb1 := hcut
  obtain ⟨w17, rfl⟩ : ∃ x : World, x = wc := ⟨_, rfl⟩
  replace HB := Lib.hid (Below.then HB.out hb1)
  replace Hn := Lib.hid (Hn.out.keep hb1)
  replace Ha := Lib.hid (Ha.out.keep hb1)
  replace Hb := Lib.hid (Hb.out.keep hb1)
  replace Hc := Lib.hid (Hc.out.keep hb1)
  replace Hd := Lib.hid (Hd.out.keep hb1)
  replace Hp := Lib.hid (Hp.out.keep hb1)
  replace Ho := Lib.hid (Ho.out.keep hb1)
  replace Hm := Lib.hid (Hm.out.keep hb1)
  replace Hru := Lib.hid (Hru.out.keep hb1)
  clear hb1
  go_upto_block 2 with fail
  go_cut [] from 224 to 296 (fun wx => Below w17.heap.size w17 wx)
  case first =>
    as_aux_lemma =>
      have HA0 := Lib.hid (Below.refl w17.heap.size w17)
      obtain ⟨e1, -⟩ := HE.out
      by_cases c1 : dst < 0
      · rw [send_to (Or.inl c1)] at e1
        simp only [Prod.mk.injEq] at e1
        obtain ⟨rfl, rfl, rfl⟩ := e1
        go_wp2_with fail
        go_meet
        exact HA0.out
      by_cases c2 : 63 < dst
      · rw [send_to (Or.inr c2)] at e1
        simp only [Prod.mk.injEq] at e1
        obtain ⟨rfl, rfl, rfl⟩ := e1
        go_wp2_with fail
        go_meet
        exact HA0.out
      have hd : 0 ≤ dst ∧ dst ≤ 63 := by omega
      by_cases c3 : 4096 < bd.size
      · rw [send_long HR.out hd c3] at e1
        simp only [Prod.mk.injEq] at e1
        obtain ⟨rfl, rfl, rfl⟩ := e1
        go_wp2_with fail
        go_meet
        exact HA0.out
      obtain ⟨na, nk, nc, nl, nt, hA, hV⟩ := Hn.out.is
      obtain ⟨hnk, hnl, hnt, hnc, hncm, hrow⟩ := hV.parts
      have HNK := Lib.hid hnk
      have hlast := HMAY.out.last
      have hlen := HMAY.out.few
      have hnow := HMAY.out.now
      rw [← hnl] at hlast
      rw [← hnk] at hlen
      rw [← hnt] at hnow
      have HNL := Lib.hid hnl
      have HNT := Lib.hid hnt
      have HRW := Lib.hid hrow
      have HAN := Lib.hid hA
      obtain ⟨a0, a1, a2⟩ := hA.cells
      clear hA hV hnk hnl hnt hrow
      by_cases c4 : nk = 32
      · rw [send_full HR.out hd (by omega) (Or.inl (by rw [← HNK.out]; exact c4))] at e1
        have q4 : ((nk : Int) == 32) = true := by rw [c4]; rfl
        simp only [Prod.mk.injEq] at e1
        obtain ⟨rfl, rfl, rfl⟩ := e1
        go_wp2_with fail
        go_meet
        exact HA0.out
      have q4 : ((nk : Int) == 32) = false := beq_eq_false_iff_ne.2 (by omega)
      by_cases c5 : nl = 1099511627776
      · rw [send_full HR.out hd (by omega) (Or.inr (by rw [← HNL.out]; exact c5))] at e1
        have q5 : (nl == 1099511627776) = true := by rw [c5]; rfl
        simp only [Prod.mk.injEq] at e1
        obtain ⟨rfl, rfl, rfl⟩ := e1
        go_wp2_with fail
        go_meet
        exact HA0.out
      have q5 : (nl == 1099511627776) = false := beq_eq_false_iff_ne.2 c5
      rw [send_ok HR.out hd (by omega) (by rw [← HNK.out]; exact c4) (by rw [← HNL.out]; exact c5)] at e1
      rw [← HNL.out, ← HNT.out] at e1
      simp only [Prod.mk.injEq] at e1
      obtain ⟨hsa, hsid, rfl⟩ := e1
      have HSA := Lib.hid hsa
      have HSID := Lib.hid hsid
      have p8 : IntKind.i64.wrap (nl + 1) = sid := by rw [IntKind.wrap_i64]; omega
      have hsid2 : i64 sid := ⟨by omega, by omega⟩
      have hnt2 : i64 nt := ⟨by omega, by omega⟩
      clear hsa hsid
      obtain ⟨w1, hw1⟩ : ∃ x, w17.alloc (.cells #[.slice na nk nc, .int .i64 nl, .int .i64 nt] 24) = x := ⟨_, rfl⟩
      obtain ⟨Bq, hBq⟩ : ∃ x, w17.heap.size = x := ⟨_, rfl⟩
      have HAq0 := Lib.hid (show At3 24 w1 Bq (.slice na nk nc) (.int .i64 nl) (.int .i64 nt) by rw [← hw1, ← hBq]; exact At3.new _ _ _ _ _)
      have HB1 := Lib.hid (show Below w17.heap.size w17 w1 by rw [← hw1]; exact below_new _ _)
      have HBq := Lib.hid (show w17.heap.size ≤ Bq by rw [← hBq]; exact Nat.le_refl _)
      have HNE := Lib.hid (show Bq ≠ Bn by have := HAN.out.lt; omega)
      have HW1 := Lib.hid hw1
      clear hw1
      go_upto_region 33 with fail
      rw [HW1.out]
      clear hBq HW1 a0 a1 a2
      obtain ⟨d0, d1, d2⟩ := HAq0.out.cells
      obtain ⟨f0, f1, f2⟩ := HAq0.out.free
      go_upto_region 34 with fail
      clear d0 d1 d2 f0 f1 f2 p8
      obtain ⟨wn, hwn⟩ : ∃ x, w1.setCell ⟨Bq, 1, none⟩ (.int .i64 sid) = x := ⟨_, rfl⟩
      rw [hwn]
      have HAq := Lib.hid (show At3 24 wn Bq (.slice na nk nc) (.int .i64 sid) (.int .i64 nt) by rw [← hwn]; exact HAq0.out.at1 _)
      have HBN := Lib.hid (show Below w17.heap.size w17 wn by rw [← hwn]; exact HB1.out.setCell (p := ⟨Bq, 1, none⟩) HBq.out _)
      clear hwn HAq0 HB1
      have hAn := HAN.out.keep HBN.out
      obtain ⟨n0c, n1c, n2c⟩ := hAn.cells
      obtain ⟨-, q1c, -⟩ := HAq.out.cells
      clear hAn n1c
      obtain ⟨i1, hi1, hy0, hy1, hy2⟩ := info_parts infoMsg
      have hbA := Below.refl wn.heap.size wn
      have HSRC := Lib.hid (fun w' (hb : Below wn.heap.size wn w') => show SrcOf 4 w' (.slice na nk nc) nk (cellsN n1.fl) by
        have := RwAt.src (RwAt.keep (RwAt.keep HRW.out HBN.out) hb) (msWide n1.fl) (by decide)
        rwa [List.length_map, ← HNK.out] at this)
      have HONE := Lib.hid (ms_one n1.fl)
      have HMO := Lib.hid (msg_one ⟨sid, dst, bd, nt⟩)
      go_cut [] from 229 to 242 (fun wx => VarN wx Bq ⟨n1.fl ++ [⟨sid, dst, bd, nt⟩], sid, nt⟩ ∧ Below w17.heap.size w17 wx)
      case first =>
        as_aux_lemma =>
          refine wp_region_held_drew (S := fun w' => w'.cell? ⟨Bn, 0, none⟩ = some (.slice na nk nc) ∧ w'.cell? ⟨Bn, 2, none⟩ = some (.int .i64 nt) ∧ w'.cell? ⟨Bq, 1, none⟩ = some (.int .i64 sid)) (by kernel_rfl) ?hSu (fun hHeld => ?hRu)
          case hSu => exact ⟨n0c, n2c, q1c⟩
          refine wpAnyH_take (i := 1) (oi := { dst := some 230, op := Op.fieldAddr 24 (Operand.tmp 5) 0, type := 0, pos := "law.go:101", after := #[], guard := none }) (v := ?gvu1) rfl (by kernel_rfl) (by kernel_rfl) (by kernel_rfl) (fun _ _ _ h => h) (Or.inl ⟨by rfl, ?gyu1⟩) (by assumption) ?gru1
          case gyu1 => (intro w hSw; (try dsimp only at hSw); go_simp; try with_reducible rfl)
          try simp only [Act.put, List.setIfInBounds_toArray, List.set_cons_zero, List.set_cons_succ]
          refine wpAnyH_take (i := 2) (oi := { dst := some 231, op := Op.load 22 (Operand.tmp 230), type := 22, pos := "law.go:101", after := #[{ on := 1, ground := Ground.data }], guard := none }) (v := ?gvu2) rfl (by kernel_rfl) (by kernel_rfl) (by kernel_rfl) (fun _ _ _ h => h) (Or.inl ⟨by rfl, ?gyu2⟩) (by assumption) ?gru2
          case gyu2 => (intro w hSw; (try dsimp only at hSw); go_simp; try with_reducible rfl)
          try simp only [Act.put, List.setIfInBounds_toArray, List.set_cons_zero, List.set_cons_succ]
          refine wpAnyH_take (i := 4) (oi := { dst := some 233, op := Op.fieldAddr 24 (Operand.tmp 30) 1, type := 0, pos := "law.go:101", after := #[], guard := none }) (v := ?gvu4) rfl (by kernel_rfl) (by kernel_rfl) (by kernel_rfl) (fun _ _ _ h => h) (Or.inl ⟨by rfl, ?gyu4⟩) (by assumption) ?gru4
          case gyu4 => (intro w hSw; (try dsimp only at hSw); go_simp; try with_reducible rfl)
          try simp only [Act.put, List.setIfInBounds_toArray, List.set_cons_zero, List.set_cons_succ]
          refine wpAnyH_take (i := 5) (oi := { dst := some 234, op := Op.load 3 (Operand.tmp 233), type := 3, pos := "law.go:101", after := #[{ on := 4, ground := Ground.data }], guard := none }) (v := ?gvu5) rfl (by kernel_rfl) (by kernel_rfl) (by kernel_rfl) (fun _ _ _ h => h) (Or.inl ⟨by rfl, ?gyu5⟩) (by assumption) ?gru5
          case gyu5 => (intro w hSw; (try dsimp only at hSw); go_simp; try with_reducible rfl)
          try simp only [Act.put, List.setIfInBounds_toArray, List.set_cons_zero, List.set_cons_succ]
          refine wpAnyH_take (i := 6) (oi := { dst := some 235, op := Op.move (Operand.tmp 1), type := 3, pos := "law.go:101", after := #[], guard := none }) (v := ?gvu6) rfl (by kernel_rfl) (by kernel_rfl) (by kernel_rfl) (fun _ _ _ h => h) (Or.inl ⟨by rfl, ?gyu6⟩) (by assumption) ?gru6
          case gyu6 => (intro w hSw; (try dsimp only at hSw); go_simp; try with_reducible rfl)
          try simp only [Act.put, List.setIfInBounds_toArray, List.set_cons_zero, List.set_cons_succ]
          refine wpAnyH_take (i := 7) (oi := { dst := some 236, op := Op.move (Operand.tmp 4), type := 9, pos := "law.go:101", after := #[], guard := none }) (v := ?gvu7) rfl (by kernel_rfl) (by kernel_rfl) (by kernel_rfl) (fun _ _ _ h => h) (Or.inl ⟨by rfl, ?gyu7⟩) (by assumption) ?gru7
          case gyu7 => (intro w hSw; (try dsimp only at hSw); go_simp; try with_reducible rfl)
          try simp only [Act.put, List.setIfInBounds_toArray, List.set_cons_zero, List.set_cons_succ]
          refine wpAnyH_take (i := 8) (oi := { dst := some 237, op := Op.fieldAddr 24 (Operand.tmp 5) 2, type := 0, pos := "law.go:101", after := #[], guard := none }) (v := ?gvu8) rfl (by kernel_rfl) (by kernel_rfl) (by kernel_rfl) (fun _ _ _ h => h) (Or.inl ⟨by rfl, ?gyu8⟩) (by assumption) ?gru8
          case gyu8 => (intro w hSw; (try dsimp only at hSw); go_simp; try with_reducible rfl)
          try simp only [Act.put, List.setIfInBounds_toArray, List.set_cons_zero, List.set_cons_succ]
          refine wpAnyH_take (i := 9) (oi := { dst := some 238, op := Op.load 3 (Operand.tmp 237), type := 3, pos := "law.go:101", after := #[{ on := 8, ground := Ground.data }], guard := none }) (v := ?gvu9) rfl (by kernel_rfl) (by kernel_rfl) (by kernel_rfl) (fun _ _ _ h => h) (Or.inl ⟨by rfl, ?gyu9⟩) (by assumption) ?gru9
          case gyu9 => (intro w hSw; (try dsimp only at hSw); go_simp; try with_reducible rfl)
          try simp only [Act.put, List.setIfInBounds_toArray, List.set_cons_zero, List.set_cons_succ]
          refine wpAnyH_take (i := 10) (oi := { dst := some 239, op := Op.build 30 #[(0, Operand.tmp 234), (1, Operand.tmp 235), (2, Operand.tmp 236), (3, Operand.tmp 238)], type := 30, pos := "law.go:101", after := #[{ on := 5, ground := Ground.data }, { on := 6, ground := Ground.data }, { on := 7, ground := Ground.data }, { on := 9, ground := Ground.data }], guard := none }) (v := ?gvu10) rfl (by kernel_rfl) (by kernel_rfl) (by kernel_rfl) (fun _ _ _ h => h) (Or.inl ⟨by rfl, ?gyu10⟩) (by assumption) ?gru10
          case gyu10 => (intro w hSw; (try dsimp only at hSw); go_simp; try with_reducible rfl)
          try simp only [Act.put, List.setIfInBounds_toArray, List.set_cons_zero, List.set_cons_succ]
          refine wpAnyH_ready (rs := [0, 11]) (by kernel_rfl) (by simp) ?_
          refine AllReadyH.cons (o := { dst := some 229, op := Op.buildSlice 22 0 #[], type := 22, pos := "law.go:101", after := #[], guard := none }) rfl (fun K hK => ?ua) (AllReadyH.cons (o := { dst := some 240, op := Op.buildSlice 22 1 #[(0, Operand.tmp 239)], type := 22, pos := "law.go:101", after := #[{ on := 10, ground := Ground.data }], guard := none }) rfl (fun K hK => ?ub) AllReadyH.nil)
          case ua =>
            rw [if_pos (by kernel_rfl)]
            go_simp
            refine hK.out _ _ ?hSua0 (fun hHeldua0 => ?hRua0)
            case hSua0 => exact ⟨Below.keepc (hbA.drew.alloc (Nat.le_refl _) (.cells #[] 30)) n0c, Below.keepc (hbA.drew.alloc (Nat.le_refl _) (.cells #[] 30)) n2c, Below.keepc (hbA.drew.alloc (Nat.le_refl _) (.cells #[] 30)) q1c⟩
            clear hK K
            try simp only [Act.put, List.setIfInBounds_toArray, List.set_cons_zero, List.set_cons_succ]
            refine wpAnyH_ready (rs := [3, 11]) (by kernel_rfl) (by simp) ?_
            refine AllReadyH.cons (o := { dst := some 232, op := Op.call { callee := Callee.builtin Builtin.append, args := #[Operand.tmp 229, Operand.tmp 231], argTypes := #[22, 22] }, type := 22, pos := "law.go:101", after := #[{ on := 0, ground := Ground.data }, { on := 2, ground := Ground.data }], guard := none }) rfl (fun K hK => ?uaa) (AllReadyH.cons (o := { dst := some 240, op := Op.buildSlice 22 1 #[(0, Operand.tmp 239)], type := 22, pos := "law.go:101", after := #[{ on := 10, ground := Ground.data }], guard := none }) rfl (fun K hK => ?uab) AllReadyH.nil)
            case uaa =>
              have hO0 : (wn.drew.alloc (.cells #[] 30)).ownsRow wn.heap.size 30 4 _ 0 [] := (World.ownsRow_lit (wn.drew) #[] 0 (Nat.le_refl _) (Nat.zero_le _) rfl)
              have hbc : Below wn.heap.size wn (wn.drew.alloc (.cells #[] 30)) := (hbA.drew.alloc (Nat.le_refl _) (.cells #[] 30))
              refine step_append_src (wn.drew.alloc (.cells #[] 30)) (by rfl) (.tmp 229) (.tmp 231) 22 (by rfl) wn.heap.size 30 i1 (.agg #[.int .i64 0, .int .i64 0, .string ⟨#[]⟩, .int .i64 0]) 4 40 Try.underlying22 hi1 hy0 hy1 hy2 rfl (by decide) _ 0 [] (by rfl) hO0 _ nk _ (by rfl) (HSRC.out _ hbc) HONE.out (by unfold maxLen; omega) (by omega) hbc.size ?_
              intro v1 w4 hown4 hgrow4
              rw [Nat.zero_add, List.nil_append] at hown4
              have hb4 : Below wn.heap.size wn w4 := hbc.grown hgrow4 hbc.size (fun k hk => (hO0.lt k hk).1)
              clear hgrow4 hO0 hbc
              refine hK.out _ _ ?hSuaa3 (fun hHelduaa3 => ?hRuaa3)
              case hSuaa3 => exact ⟨Below.keepc hb4 n0c, Below.keepc hb4 n2c, Below.keepc hb4 q1c⟩
              clear hK K
              try simp only [Act.put, List.setIfInBounds_toArray, List.set_cons_zero, List.set_cons_succ]
              refine wpAnyH_ready (rs := [11]) (by kernel_rfl) (by simp) ?_
              refine AllReadyH.cons (o := { dst := some 240, op := Op.buildSlice 22 1 #[(0, Operand.tmp 239)], type := 22, pos := "law.go:101", after := #[{ on := 10, ground := Ground.data }], guard := none }) rfl (fun K hK => ?_) AllReadyH.nil
              rw [if_pos (by kernel_rfl)]
              go_simp
              refine hK.out _ _ ?hSuaa7 (fun hHelduaa7 => ?hRuaa7)
              case hSuaa7 => exact ⟨Below.keepc (hb4.alloc hb4.size (.cells #[.int .i64 sid, .int .i64 dst, .string bd, .int .i64 nt] 30)) n0c, Below.keepc (hb4.alloc hb4.size (.cells #[.int .i64 sid, .int .i64 dst, .string bd, .int .i64 nt] 30)) n2c, Below.keepc (hb4.alloc hb4.size (.cells #[.int .i64 sid, .int .i64 dst, .string bd, .int .i64 nt] 30)) q1c⟩
              clear hK K
              try simp only [Act.put, List.setIfInBounds_toArray, List.set_cons_zero, List.set_cons_succ]
              refine wpAnyH_ready (rs := [12]) (by kernel_rfl) (by simp) ?_
              refine AllReadyH.cons (o := { dst := some 241, op := Op.call { callee := Callee.builtin Builtin.append, args := #[Operand.tmp 232, Operand.tmp 240], argTypes := #[22, 22] }, type := 22, pos := "law.go:101", after := #[{ on := 3, ground := Ground.data }, { on := 11, ground := Ground.data }, { on := 3, ground := Ground.chain }], guard := none }) rfl (fun K hK => ?_) AllReadyH.nil
              have hO5 : (w4.alloc (.cells #[.int .i64 sid, .int .i64 dst, .string bd, .int .i64 nt] 30)).ownsRow wn.heap.size 30 4 v1 nk (cellsN n1.fl) := hown4.alloc (.cells #[.int .i64 sid, .int .i64 dst, .string bd, .int .i64 nt] 30)
              have hb5 : Below wn.heap.size wn (w4.alloc (.cells #[.int .i64 sid, .int .i64 dst, .string bd, .int .i64 nt] 30)) := hb4.alloc hb4.size (.cells #[.int .i64 sid, .int .i64 dst, .string bd, .int .i64 nt] 30)
              have hnw : ∀ j u, [Value.int .i64 sid, Value.int .i64 dst, Value.string bd, Value.int .i64 nt][j]? = some u → (w4.alloc (.cells #[.int .i64 sid, .int .i64 dst, .string bd, .int .i64 nt] 30)).cell? ((⟨w4.heap.size, 0, none⟩ : Addr).add j) = some u := World.news_of_block (heap_alloc_new w4 _)
              refine step_append_lies (w4.alloc (.cells #[.int .i64 sid, .int .i64 dst, .string bd, .int .i64 nt] 30)) (by rfl) (.tmp 232) (.tmp 240) 22 (by rfl) wn.heap.size 30 i1 (.agg #[.int .i64 0, .int .i64 0, .string ⟨#[]⟩, .int .i64 0]) 4 40 Try.underlying22 hi1 hy0 hy1 hy2 rfl (by decide) _ nk _ (by rfl) hO5 ⟨w4.heap.size, 0, none⟩ 1 1 [.int .i64 sid, .int .i64 dst, .string bd, .int .i64 nt] (by rfl) (by rfl) hnw HMO.out (by decide) (by unfold maxLen; omega) (by omega) hb5.size _ rfl ?_
              intro g6 c6 w6 hown6 hgrow6 hat6 hlt6
              have hb6 : Below wn.heap.size wn w6 := hb5.grown hgrow6 hb5.size (fun k hk => (hO5.lt k hk).1)
              clear hgrow6 hat6 hlt6 hO5 hb5 hnw
              refine hK.out _ _ ?hSuaa12 (fun hHelduaa12 => ?hRuaa12)
              case hSuaa12 => exact ⟨Below.keepc hb6 n0c, Below.keepc hb6 n2c, Below.keepc hb6 q1c⟩
              clear hK K
              try simp only [Act.put, List.setIfInBounds_toArray, List.set_cons_zero, List.set_cons_succ]
              refine wpAnyH_take (i := 13) (oi := { dst := some 242, op := Op.fieldAddr 24 (Operand.tmp 30) 0, type := 0, pos := "law.go:101", after := #[{ on := 0, ground := Ground.phase }, { on := 1, ground := Ground.phase }, { on := 2, ground := Ground.phase }, { on := 3, ground := Ground.phase }, { on := 4, ground := Ground.phase }, { on := 5, ground := Ground.phase }, { on := 6, ground := Ground.phase }, { on := 7, ground := Ground.phase }, { on := 8, ground := Ground.phase }, { on := 9, ground := Ground.phase }, { on := 10, ground := Ground.phase }, { on := 11, ground := Ground.phase }, { on := 12, ground := Ground.phase }], guard := none }) (v := ?gvuaa13) rfl (by kernel_rfl) (by kernel_rfl) (by kernel_rfl) (fun _ _ _ h => h) (Or.inl ⟨by rfl, ?gyuaa13⟩) (by assumption) ?gruaa13
              case gyuaa13 => (intro w hSw; (try dsimp only at hSw); go_simp; try with_reducible rfl)
              try simp only [Act.put, List.setIfInBounds_toArray, List.set_cons_zero, List.set_cons_succ]
              obtain ⟨s0, s1', s2'⟩ := (HAq.out.keep hb6).cells
              obtain ⟨f0, f1, f2⟩ := (HAq.out.keep hb6).free
              refine wpAnyH_ready (rs := [14]) (by kernel_rfl) (by simp) ?_
              refine AllReadyH.cons (o := { dst := none, op := Op.store 22 (Operand.tmp 242) (Operand.tmp 241), type := 0, pos := "law.go:101", after := #[{ on := 13, ground := Ground.data }, { on := 12, ground := Ground.data }, { on := 12, ground := Ground.chain }, { on := 0, ground := Ground.phase }, { on := 1, ground := Ground.phase }, { on := 2, ground := Ground.phase }, { on := 3, ground := Ground.phase }, { on := 4, ground := Ground.phase }, { on := 5, ground := Ground.phase }, { on := 6, ground := Ground.phase }, { on := 7, ground := Ground.phase }, { on := 8, ground := Ground.phase }, { on := 9, ground := Ground.phase }, { on := 10, ground := Ground.phase }, { on := 11, ground := Ground.phase }, { on := 12, ground := Ground.phase }], guard := none }) rfl (fun K hK => ?_) AllReadyH.nil
              rw [if_pos (by kernel_rfl)]
              go_simp
              refine hK.out _ _ ?hSuaas (fun hHelduaas => ?hRuaas)
              case hSuaas => exact ⟨far_cell (Below.keepc hb6 n0c) HNE.out, far_cell (Below.keepc hb6 n2c) HNE.out, (World.cell?_setCell_other _ _ _ _ (by simp)).trans (Below.keepc hb6 q1c)⟩
              clear hK K
              try simp only [Act.put, List.setIfInBounds_toArray, List.set_cons_zero, List.set_cons_succ]
              refine wpAnyH_done (by kernel_rfl) ?_ _
              go_wp2_with fail
              go_meet
              exact put_one HAq.out hb6 hown6 HNK.out.symm HMAY.out.fits ⟨hsid2, HI.out.1, HI.out.2.2.2, hnt2⟩ hsid2 hnt2 HBN.out HBq.out
            case uab =>
              rw [if_pos (by kernel_rfl)]
              go_simp
              refine hK.out _ _ ?hSuab7 (fun hHelduab7 => ?hRuab7)
              case hSuab7 => exact ⟨Below.keepc ((hbA.drew.alloc (Nat.le_refl _) (.cells #[] 30)).alloc (hbA.drew.alloc (Nat.le_refl _) (.cells #[] 30)).size (.cells #[.int .i64 sid, .int .i64 dst, .string bd, .int .i64 nt] 30)) n0c, Below.keepc ((hbA.drew.alloc (Nat.le_refl _) (.cells #[] 30)).alloc (hbA.drew.alloc (Nat.le_refl _) (.cells #[] 30)).size (.cells #[.int .i64 sid, .int .i64 dst, .string bd, .int .i64 nt] 30)) n2c, Below.keepc ((hbA.drew.alloc (Nat.le_refl _) (.cells #[] 30)).alloc (hbA.drew.alloc (Nat.le_refl _) (.cells #[] 30)).size (.cells #[.int .i64 sid, .int .i64 dst, .string bd, .int .i64 nt] 30)) q1c⟩
              clear hK K
              try simp only [Act.put, List.setIfInBounds_toArray, List.set_cons_zero, List.set_cons_succ]
              refine wpAnyH_ready (rs := [3]) (by kernel_rfl) (by simp) ?_
              refine AllReadyH.cons (o := { dst := some 232, op := Op.call { callee := Callee.builtin Builtin.append, args := #[Operand.tmp 229, Operand.tmp 231], argTypes := #[22, 22] }, type := 22, pos := "law.go:101", after := #[{ on := 0, ground := Ground.data }, { on := 2, ground := Ground.data }], guard := none }) rfl (fun K hK => ?_) AllReadyH.nil
              have hO0 : ((wn.drew.alloc (.cells #[] 30)).alloc (.cells #[.int .i64 sid, .int .i64 dst, .string bd, .int .i64 nt] 30)).ownsRow wn.heap.size 30 4 _ 0 [] := ((World.ownsRow_lit (wn.drew) #[] 0 (Nat.le_refl _) (Nat.zero_le _) rfl) : (wn.drew.alloc (.cells #[] 30)).ownsRow wn.heap.size 30 4 _ 0 []).alloc (.cells #[.int .i64 sid, .int .i64 dst, .string bd, .int .i64 nt] 30)
              have hbc : Below wn.heap.size wn ((wn.drew.alloc (.cells #[] 30)).alloc (.cells #[.int .i64 sid, .int .i64 dst, .string bd, .int .i64 nt] 30)) := ((hbA.drew.alloc (Nat.le_refl _) (.cells #[] 30)).alloc (hbA.drew.alloc (Nat.le_refl _) (.cells #[] 30)).size (.cells #[.int .i64 sid, .int .i64 dst, .string bd, .int .i64 nt] 30))
              refine step_append_src ((wn.drew.alloc (.cells #[] 30)).alloc (.cells #[.int .i64 sid, .int .i64 dst, .string bd, .int .i64 nt] 30)) (by rfl) (.tmp 229) (.tmp 231) 22 (by rfl) wn.heap.size 30 i1 (.agg #[.int .i64 0, .int .i64 0, .string ⟨#[]⟩, .int .i64 0]) 4 40 Try.underlying22 hi1 hy0 hy1 hy2 rfl (by decide) _ 0 [] (by rfl) hO0 _ nk _ (by rfl) (HSRC.out _ hbc) HONE.out (by unfold maxLen; omega) (by omega) hbc.size ?_
              intro v1 w4 hown4 hgrow4
              rw [Nat.zero_add, List.nil_append] at hown4
              have hb4 : Below wn.heap.size wn w4 := hbc.grown hgrow4 hbc.size (fun k hk => (hO0.lt k hk).1)
              have hne : w4.heap[wn.heap.size + 1]? = some (.cells #[.int .i64 sid, .int .i64 dst, .string bd, .int .i64 nt] 30 (0, 0)) := row_next hgrow4
              clear hgrow4 hO0 hbc
              refine hK.out _ _ ?hSuab3 (fun hHelduab3 => ?hRuab3)
              case hSuab3 => exact ⟨Below.keepc hb4 n0c, Below.keepc hb4 n2c, Below.keepc hb4 q1c⟩
              clear hK K
              try simp only [Act.put, List.setIfInBounds_toArray, List.set_cons_zero, List.set_cons_succ]
              refine wpAnyH_ready (rs := [12]) (by kernel_rfl) (by simp) ?_
              refine AllReadyH.cons (o := { dst := some 241, op := Op.call { callee := Callee.builtin Builtin.append, args := #[Operand.tmp 232, Operand.tmp 240], argTypes := #[22, 22] }, type := 22, pos := "law.go:101", after := #[{ on := 3, ground := Ground.data }, { on := 11, ground := Ground.data }, { on := 3, ground := Ground.chain }], guard := none }) rfl (fun K hK => ?_) AllReadyH.nil
              have hO5 : (w4).ownsRow wn.heap.size 30 4 v1 nk (cellsN n1.fl) := hown4
              have hb5 : Below wn.heap.size wn (w4) := hb4
              have hnw : ∀ j u, [Value.int .i64 sid, Value.int .i64 dst, Value.string bd, Value.int .i64 nt][j]? = some u → (w4).cell? ((⟨wn.heap.size + 1, 0, none⟩ : Addr).add j) = some u := World.news_of_block hne
              refine step_append_lies (w4) (by rfl) (.tmp 232) (.tmp 240) 22 (by rfl) wn.heap.size 30 i1 (.agg #[.int .i64 0, .int .i64 0, .string ⟨#[]⟩, .int .i64 0]) 4 40 Try.underlying22 hi1 hy0 hy1 hy2 rfl (by decide) _ nk _ (by rfl) hO5 ⟨wn.heap.size + 1, 0, none⟩ 1 1 [.int .i64 sid, .int .i64 dst, .string bd, .int .i64 nt] (by rfl) (by rfl) hnw HMO.out (by decide) (by unfold maxLen; omega) (by omega) hb5.size _ rfl ?_
              intro g6 c6 w6 hown6 hgrow6 hat6 hlt6
              have hb6 : Below wn.heap.size wn w6 := hb5.grown hgrow6 hb5.size (fun k hk => (hO5.lt k hk).1)
              clear hgrow6 hat6 hlt6 hO5 hb5 hnw
              refine hK.out _ _ ?hSuab12 (fun hHelduab12 => ?hRuab12)
              case hSuab12 => exact ⟨Below.keepc hb6 n0c, Below.keepc hb6 n2c, Below.keepc hb6 q1c⟩
              clear hK K
              try simp only [Act.put, List.setIfInBounds_toArray, List.set_cons_zero, List.set_cons_succ]
              refine wpAnyH_take (i := 13) (oi := { dst := some 242, op := Op.fieldAddr 24 (Operand.tmp 30) 0, type := 0, pos := "law.go:101", after := #[{ on := 0, ground := Ground.phase }, { on := 1, ground := Ground.phase }, { on := 2, ground := Ground.phase }, { on := 3, ground := Ground.phase }, { on := 4, ground := Ground.phase }, { on := 5, ground := Ground.phase }, { on := 6, ground := Ground.phase }, { on := 7, ground := Ground.phase }, { on := 8, ground := Ground.phase }, { on := 9, ground := Ground.phase }, { on := 10, ground := Ground.phase }, { on := 11, ground := Ground.phase }, { on := 12, ground := Ground.phase }], guard := none }) (v := ?gvuab13) rfl (by kernel_rfl) (by kernel_rfl) (by kernel_rfl) (fun _ _ _ h => h) (Or.inl ⟨by rfl, ?gyuab13⟩) (by assumption) ?gruab13
              case gyuab13 => (intro w hSw; (try dsimp only at hSw); go_simp; try with_reducible rfl)
              try simp only [Act.put, List.setIfInBounds_toArray, List.set_cons_zero, List.set_cons_succ]
              obtain ⟨s0, s1', s2'⟩ := (HAq.out.keep hb6).cells
              obtain ⟨f0, f1, f2⟩ := (HAq.out.keep hb6).free
              refine wpAnyH_ready (rs := [14]) (by kernel_rfl) (by simp) ?_
              refine AllReadyH.cons (o := { dst := none, op := Op.store 22 (Operand.tmp 242) (Operand.tmp 241), type := 0, pos := "law.go:101", after := #[{ on := 13, ground := Ground.data }, { on := 12, ground := Ground.data }, { on := 12, ground := Ground.chain }, { on := 0, ground := Ground.phase }, { on := 1, ground := Ground.phase }, { on := 2, ground := Ground.phase }, { on := 3, ground := Ground.phase }, { on := 4, ground := Ground.phase }, { on := 5, ground := Ground.phase }, { on := 6, ground := Ground.phase }, { on := 7, ground := Ground.phase }, { on := 8, ground := Ground.phase }, { on := 9, ground := Ground.phase }, { on := 10, ground := Ground.phase }, { on := 11, ground := Ground.phase }, { on := 12, ground := Ground.phase }], guard := none }) rfl (fun K hK => ?_) AllReadyH.nil
              rw [if_pos (by kernel_rfl)]
              go_simp
              refine hK.out _ _ ?hSuabs (fun hHelduabs => ?hRuabs)
              case hSuabs => exact ⟨far_cell (Below.keepc hb6 n0c) HNE.out, far_cell (Below.keepc hb6 n2c) HNE.out, (World.cell?_setCell_other _ _ _ _ (by simp)).trans (Below.keepc hb6 q1c)⟩
              clear hK K
              try simp only [Act.put, List.setIfInBounds_toArray, List.set_cons_zero, List.set_cons_succ]
              refine wpAnyH_done (by kernel_rfl) ?_ _
              go_wp2_with fail
              go_meet
              exact put_one HAq.out hb6 hown6 HNK.out.symm HMAY.out.fits ⟨hsid2, HI.out.1, HI.out.2.2.2, hnt2⟩ hsid2 hnt2 HBN.out HBq.out
          case ub =>
            rw [if_pos (by kernel_rfl)]
            go_simp
            refine hK.out _ _ ?hSub7 (fun hHeldub7 => ?hRub7)
            case hSub7 => exact ⟨Below.keepc (hbA.drew.alloc (Nat.le_refl _) (.cells #[.int .i64 sid, .int .i64 dst, .string bd, .int .i64 nt] 30)) n0c, Below.keepc (hbA.drew.alloc (Nat.le_refl _) (.cells #[.int .i64 sid, .int .i64 dst, .string bd, .int .i64 nt] 30)) n2c, Below.keepc (hbA.drew.alloc (Nat.le_refl _) (.cells #[.int .i64 sid, .int .i64 dst, .string bd, .int .i64 nt] 30)) q1c⟩
            clear hK K
            try simp only [Act.put, List.setIfInBounds_toArray, List.set_cons_zero, List.set_cons_succ]
            refine wpAnyH_ready (rs := [0]) (by kernel_rfl) (by simp) ?_
            refine AllReadyH.cons (o := { dst := some 229, op := Op.buildSlice 22 0 #[], type := 22, pos := "law.go:101", after := #[], guard := none }) rfl (fun K hK => ?_) AllReadyH.nil
            rw [if_pos (by kernel_rfl)]
            go_simp
            refine hK.out _ _ ?hSub0 (fun hHeldub0 => ?hRub0)
            case hSub0 => exact ⟨Below.keepc ((hbA.drew.alloc (Nat.le_refl _) (.cells #[.int .i64 sid, .int .i64 dst, .string bd, .int .i64 nt] 30)).alloc (hbA.drew.alloc (Nat.le_refl _) (.cells #[.int .i64 sid, .int .i64 dst, .string bd, .int .i64 nt] 30)).size (.cells #[] 30)) n0c, Below.keepc ((hbA.drew.alloc (Nat.le_refl _) (.cells #[.int .i64 sid, .int .i64 dst, .string bd, .int .i64 nt] 30)).alloc (hbA.drew.alloc (Nat.le_refl _) (.cells #[.int .i64 sid, .int .i64 dst, .string bd, .int .i64 nt] 30)).size (.cells #[] 30)) n2c, Below.keepc ((hbA.drew.alloc (Nat.le_refl _) (.cells #[.int .i64 sid, .int .i64 dst, .string bd, .int .i64 nt] 30)).alloc (hbA.drew.alloc (Nat.le_refl _) (.cells #[.int .i64 sid, .int .i64 dst, .string bd, .int .i64 nt] 30)).size (.cells #[] 30)) q1c⟩
            clear hK K
            try simp only [Act.put, List.setIfInBounds_toArray, List.set_cons_zero, List.set_cons_succ]
            refine wpAnyH_ready (rs := [3]) (by kernel_rfl) (by simp) ?_
            refine AllReadyH.cons (o := { dst := some 232, op := Op.call { callee := Callee.builtin Builtin.append, args := #[Operand.tmp 229, Operand.tmp 231], argTypes := #[22, 22] }, type := 22, pos := "law.go:101", after := #[{ on := 0, ground := Ground.data }, { on := 2, ground := Ground.data }], guard := none }) rfl (fun K hK => ?_) AllReadyH.nil
            have hO00 : ((wn.drew.alloc (.cells #[.int .i64 sid, .int .i64 dst, .string bd, .int .i64 nt] 30)).alloc (.cells #[] 30)).ownsRow wn.heap.size 30 4 (.slice (some ⟨(wn.drew.alloc (.cells #[.int .i64 sid, .int .i64 dst, .string bd, .int .i64 nt] 30)).heap.size, 0, none⟩) 0 0) 0 [] := (World.ownsRow_lit (wn.drew.alloc (.cells #[.int .i64 sid, .int .i64 dst, .string bd, .int .i64 nt] 30)) #[] 0 (hbA.drew.alloc (Nat.le_refl _) (.cells #[.int .i64 sid, .int .i64 dst, .string bd, .int .i64 nt] 30)).size (Nat.zero_le _) rfl)
            rw [size_one wn (.cells #[.int .i64 sid, .int .i64 dst, .string bd, .int .i64 nt] 30)] at hO00
            have hO0 : ((wn.drew.alloc (.cells #[.int .i64 sid, .int .i64 dst, .string bd, .int .i64 nt] 30)).alloc (.cells #[] 30)).ownsRow wn.heap.size 30 4 _ 0 [] := hO00
            have hbc : Below wn.heap.size wn ((wn.drew.alloc (.cells #[.int .i64 sid, .int .i64 dst, .string bd, .int .i64 nt] 30)).alloc (.cells #[] 30)) := ((hbA.drew.alloc (Nat.le_refl _) (.cells #[.int .i64 sid, .int .i64 dst, .string bd, .int .i64 nt] 30)).alloc (hbA.drew.alloc (Nat.le_refl _) (.cells #[.int .i64 sid, .int .i64 dst, .string bd, .int .i64 nt] 30)).size (.cells #[] 30))
            refine step_append_src ((wn.drew.alloc (.cells #[.int .i64 sid, .int .i64 dst, .string bd, .int .i64 nt] 30)).alloc (.cells #[] 30)) (by rfl) (.tmp 229) (.tmp 231) 22 (by rfl) wn.heap.size 30 i1 (.agg #[.int .i64 0, .int .i64 0, .string ⟨#[]⟩, .int .i64 0]) 4 40 Try.underlying22 hi1 hy0 hy1 hy2 rfl (by decide) _ 0 [] (by rfl) hO0 _ nk _ (by rfl) (HSRC.out _ hbc) HONE.out (by unfold maxLen; omega) (by omega) hbc.size ?_
            intro v1 w4 hown4 hgrow4
            rw [Nat.zero_add, List.nil_append] at hown4
            have hb4 : Below wn.heap.size wn w4 := hbc.grown hgrow4 hbc.size (fun k hk => (hO0.lt k hk).1)
            have hne : w4.heap[wn.heap.size]? = some (.cells #[.int .i64 sid, .int .i64 dst, .string bd, .int .i64 nt] 30 (0, 0)) := row_first hgrow4
            clear hgrow4 hO0 hbc hO00
            refine hK.out _ _ ?hSub3 (fun hHeldub3 => ?hRub3)
            case hSub3 => exact ⟨Below.keepc hb4 n0c, Below.keepc hb4 n2c, Below.keepc hb4 q1c⟩
            clear hK K
            try simp only [Act.put, List.setIfInBounds_toArray, List.set_cons_zero, List.set_cons_succ]
            refine wpAnyH_ready (rs := [12]) (by kernel_rfl) (by simp) ?_
            refine AllReadyH.cons (o := { dst := some 241, op := Op.call { callee := Callee.builtin Builtin.append, args := #[Operand.tmp 232, Operand.tmp 240], argTypes := #[22, 22] }, type := 22, pos := "law.go:101", after := #[{ on := 3, ground := Ground.data }, { on := 11, ground := Ground.data }, { on := 3, ground := Ground.chain }], guard := none }) rfl (fun K hK => ?_) AllReadyH.nil
            have hO5 : (w4).ownsRow wn.heap.size 30 4 v1 nk (cellsN n1.fl) := hown4
            have hb5 : Below wn.heap.size wn (w4) := hb4
            have hnw : ∀ j u, [Value.int .i64 sid, Value.int .i64 dst, Value.string bd, Value.int .i64 nt][j]? = some u → (w4).cell? ((⟨wn.drew.heap.size, 0, none⟩ : Addr).add j) = some u := World.news_of_block hne
            refine step_append_lies (w4) (by rfl) (.tmp 232) (.tmp 240) 22 (by rfl) wn.heap.size 30 i1 (.agg #[.int .i64 0, .int .i64 0, .string ⟨#[]⟩, .int .i64 0]) 4 40 Try.underlying22 hi1 hy0 hy1 hy2 rfl (by decide) _ nk _ (by rfl) hO5 ⟨wn.drew.heap.size, 0, none⟩ 1 1 [.int .i64 sid, .int .i64 dst, .string bd, .int .i64 nt] (by rfl) (by rfl) hnw HMO.out (by decide) (by unfold maxLen; omega) (by omega) hb5.size _ rfl ?_
            intro g6 c6 w6 hown6 hgrow6 hat6 hlt6
            have hb6 : Below wn.heap.size wn w6 := hb5.grown hgrow6 hb5.size (fun k hk => (hO5.lt k hk).1)
            clear hgrow6 hat6 hlt6 hO5 hb5 hnw
            refine hK.out _ _ ?hSub12 (fun hHeldub12 => ?hRub12)
            case hSub12 => exact ⟨Below.keepc hb6 n0c, Below.keepc hb6 n2c, Below.keepc hb6 q1c⟩
            clear hK K
            try simp only [Act.put, List.setIfInBounds_toArray, List.set_cons_zero, List.set_cons_succ]
            refine wpAnyH_take (i := 13) (oi := { dst := some 242, op := Op.fieldAddr 24 (Operand.tmp 30) 0, type := 0, pos := "law.go:101", after := #[{ on := 0, ground := Ground.phase }, { on := 1, ground := Ground.phase }, { on := 2, ground := Ground.phase }, { on := 3, ground := Ground.phase }, { on := 4, ground := Ground.phase }, { on := 5, ground := Ground.phase }, { on := 6, ground := Ground.phase }, { on := 7, ground := Ground.phase }, { on := 8, ground := Ground.phase }, { on := 9, ground := Ground.phase }, { on := 10, ground := Ground.phase }, { on := 11, ground := Ground.phase }, { on := 12, ground := Ground.phase }], guard := none }) (v := ?gvub13) rfl (by kernel_rfl) (by kernel_rfl) (by kernel_rfl) (fun _ _ _ h => h) (Or.inl ⟨by rfl, ?gyub13⟩) (by assumption) ?grub13
            case gyub13 => (intro w hSw; (try dsimp only at hSw); go_simp; try with_reducible rfl)
            try simp only [Act.put, List.setIfInBounds_toArray, List.set_cons_zero, List.set_cons_succ]
            obtain ⟨s0, s1', s2'⟩ := (HAq.out.keep hb6).cells
            obtain ⟨f0, f1, f2⟩ := (HAq.out.keep hb6).free
            refine wpAnyH_ready (rs := [14]) (by kernel_rfl) (by simp) ?_
            refine AllReadyH.cons (o := { dst := none, op := Op.store 22 (Operand.tmp 242) (Operand.tmp 241), type := 0, pos := "law.go:101", after := #[{ on := 13, ground := Ground.data }, { on := 12, ground := Ground.data }, { on := 12, ground := Ground.chain }, { on := 0, ground := Ground.phase }, { on := 1, ground := Ground.phase }, { on := 2, ground := Ground.phase }, { on := 3, ground := Ground.phase }, { on := 4, ground := Ground.phase }, { on := 5, ground := Ground.phase }, { on := 6, ground := Ground.phase }, { on := 7, ground := Ground.phase }, { on := 8, ground := Ground.phase }, { on := 9, ground := Ground.phase }, { on := 10, ground := Ground.phase }, { on := 11, ground := Ground.phase }, { on := 12, ground := Ground.phase }], guard := none }) rfl (fun K hK => ?_) AllReadyH.nil
            rw [if_pos (by kernel_rfl)]
            go_simp
            refine hK.out _ _ ?hSubs (fun hHeldubs => ?hRubs)
            case hSubs => exact ⟨far_cell (Below.keepc hb6 n0c) HNE.out, far_cell (Below.keepc hb6 n2c) HNE.out, (World.cell?_setCell_other _ _ _ _ (by simp)).trans (Below.keepc hb6 q1c)⟩
            clear hK K
            try simp only [Act.put, List.setIfInBounds_toArray, List.set_cons_zero, List.set_cons_succ]
            refine wpAnyH_done (by kernel_rfl) ?_ _
            go_wp2_with fail
            go_meet
            exact put_one HAq.out hb6 hown6 HNK.out.symm HMAY.out.fits ⟨hsid2, HI.out.1, HI.out.2.2.2, hnt2⟩ hsid2 hnt2 HBN.out HBq.out
      case rest =>
      obtain ⟨hq, hb1⟩ := hcut
      obtain ⟨w5, rfl⟩ : ∃ x : World, x = wc := ⟨_, rfl⟩
      clear n0c n2c q1c hbA HSRC HONE HMO HAq HBN
      replace Hn := Lib.hid (Hn.out.keep hb1)
      replace Ha := Lib.hid (Ha.out.keep hb1)
      replace Hb := Lib.hid (Hb.out.keep hb1)
      replace Hc := Lib.hid (Hc.out.keep hb1)
      replace Hd := Lib.hid (Hd.out.keep hb1)
      replace Hp := Lib.hid (Hp.out.keep hb1)
      replace Ho := Lib.hid (Ho.out.keep hb1)
      replace Hm := Lib.hid (Hm.out.keep hb1)
      replace Hru := Lib.hid (Hru.out.keep hb1)
      replace HA0 := Lib.hid (Below.then HA0.out hb1)
      replace HB := Lib.hid (Below.then HB.out hb1)
      have Hq := Lib.hid hq
      clear hq hb1
      have hsa := HSA.out
      rw [HSID.out] at hsa
      have HSA2 := Lib.hid hsa.symm
      have qsid : (sid != sid) = false := by rw [bne_self_eq_false]
      clear hsa
      obtain ⟨ua, uk, uc, ul, ut, hA, hV⟩ := Ha.out.is
      obtain ⟨wa, wk, wc', wl, wt, hA2, hV2⟩ := Hq.out.is
      have hwl : wl = sid := hV2.parts.2.1
      rw [hwl] at hA2 hV2
      clear hwl
      have C := Lib.hid (LK.out sa ⟨n1.fl ++ [⟨sid, dst, bd, nt⟩], sid, nt⟩ _ _ w5 hV hV2 HSA2.out)
      obtain ⟨a0, a1, a2⟩ := hA.cells
      obtain ⟨b0, b1, b2⟩ := hA2.cells
      clear hA hV hA2 hV2
      go_wp2_with fail
      refine C.out.mono ?_
      rintro e w18 ⟨rfl, hb1⟩
      replace HB := Lib.hid (Below.then HB.out hb1)
      replace Hn := Lib.hid (Hn.out.keep hb1)
      replace Ha := Lib.hid (Ha.out.keep hb1)
      replace Hb := Lib.hid (Hb.out.keep hb1)
      replace Hc := Lib.hid (Hc.out.keep hb1)
      replace Hd := Lib.hid (Hd.out.keep hb1)
      replace Hp := Lib.hid (Hp.out.keep hb1)
      replace Ho := Lib.hid (Ho.out.keep hb1)
      replace Hq := Lib.hid (Hq.out.keep hb1)
      replace Hm := Lib.hid (Hm.out.keep hb1)
      replace Hru := Lib.hid (Hru.out.keep hb1)
      replace HA0 := Lib.hid (Below.then HA0.out hb1)
      clear C hb1 a0 a1 a2 b0 b1 b2 
      go_wp2_with fail
      go_meet
      exact HA0.out
  case rest =>
  have hb1 := hcut
  obtain ⟨w18, rfl⟩ : ∃ x : World, x = wc := ⟨_, rfl⟩
  replace HB := Lib.hid (Below.then HB.out hb1)
  replace Hn := Lib.hid (Hn.out.keep hb1)
  replace Ha := Lib.hid (Ha.out.keep hb1)
  replace Hb := Lib.hid (Hb.out.keep hb1)
  replace Hc := Lib.hid (Hc.out.keep hb1)
  replace Hd := Lib.hid (Hd.out.keep hb1)
  replace Hp := Lib.hid (Hp.out.keep hb1)
  replace Ho := Lib.hid (Ho.out.keep hb1)
  replace Hm := Lib.hid (Hm.out.keep hb1)
  replace Hru := Lib.hid (Hru.out.keep hb1)
  clear hb1
  obtain ⟨na, nk, nc, nl, nt, hA, hV⟩ := Hn.out.is
  obtain ⟨hnk, hnl, hnt, hnc, hncm, hrow⟩ := hV.parts
  have HNK := Lib.hid hnk
  have hlast := HMAY.out.last
  have hlen := HMAY.out.few
  have hnow := HMAY.out.now
  rw [← hnl] at hlast
  rw [← hnk] at hlen
  rw [← hnt] at hnow
  have HNL := Lib.hid hnl
  have HNT := Lib.hid hnt
  have HRW := Lib.hid hrow
  have HAN := Lib.hid hA
  have HVN := Lib.hid hV
  obtain ⟨a0, a1, a2⟩ := hA.cells
  clear hA hV hnk hnl hnt hrow
  obtain ⟨-, e2, e3, e4, -⟩ := HE.out
  by_cases c1 : place < 0
  · have hpn : place < 0 ∨ (n1.fl.length : Int) ≤ place := Or.inl c1
    rw [take_none HR.out hpn] at e2
    rw [twice_none HR.out hpn] at e3
    rw [lose_none HR.out hpn] at e4
    unfold noM at e2
    simp only [Prod.mk.injEq, Ms.mk.injEq] at e2 e3 e4
    obtain ⟨rfl, ⟨rfl, rfl, rfl, rfl⟩, rfl⟩ := e2
    obtain ⟨rfl, rfl⟩ := e3
    obtain ⟨rfl, rfl⟩ := e4
    clear hpn
    have q0 : ((⟨#[]⟩ : ByteArray).toList == (⟨#[]⟩ : ByteArray).toList) = true := by simp
    obtain ⟨x0, x1, x2, x3⟩ := Hm.out.cells
    go_wp2_with fail
    go_ret
    exact ⟨rfl, HB.out⟩
  obtain ⟨p, rfl⟩ : ∃ p : Nat, place = (p : Int) := ⟨place.toNat, by omega⟩
  by_cases c2 : nk ≤ p
  · have hpn : (p : Int) < 0 ∨ (n1.fl.length : Int) ≤ (p : Int) := Or.inr (by rw [← HNK.out]; omega)
    rw [take_none HR.out hpn] at e2
    rw [twice_none HR.out hpn] at e3
    rw [lose_none HR.out hpn] at e4
    unfold noM at e2
    simp only [Prod.mk.injEq, Ms.mk.injEq] at e2 e3 e4
    obtain ⟨rfl, ⟨rfl, rfl, rfl, rfl⟩, rfl⟩ := e2
    obtain ⟨rfl, rfl⟩ := e3
    obtain ⟨rfl, rfl⟩ := e4
    clear hpn
    have q0 : ((⟨#[]⟩ : ByteArray).toList == (⟨#[]⟩ : ByteArray).toList) = true := by simp
    obtain ⟨x0, x1, x2, x3⟩ := Hm.out.cells
    go_wp2_with fail
    go_ret
    exact ⟨rfl, HB.out⟩
  have hpk : p < n1.fl.length := by rw [← HNK.out]; omega
  rw [take_some HR.out hpk] at e2
  rw [lose_some HR.out hpk] at e4
  have E3 := Lib.hid e3
  obtain ⟨lb, lo, hlb, m0, m1, m2, m3⟩ := ms_at HRW.out p hpk
  have hmf := HMAY.out.fits _ (List.getElem_mem hpk)
  simp only [Prod.mk.injEq] at e2 e4
  obtain ⟨htb, hmx, rfl⟩ := e2
  obtain ⟨htd, rfl⟩ := e4
  rw [hmx] at m0 m1 m2 m3 hmf
  simp only at m0 m1 m2 m3
  have HTB := Lib.hid (And.intro htb (And.intro htd hmx))
  have HMF := Lib.hid hmf
  have HLB := Lib.hid hlb
  subst hlb
  clear htb htd hmx e3 hmf
  obtain ⟨wx1, hwx1⟩ : ∃ x, w18.alloc (.cells #[.int .i64 mi, .int .i64 mt, .string mb, .int .i64 mm] 30) = x := ⟨_, rfl⟩
  obtain ⟨Bx, hBx⟩ : ∃ x, w18.heap.size = x := ⟨_, rfl⟩
  have HX := Lib.hid (show At4 30 wx1 Bx (.int .i64 mi) (.int .i64 mt) (.string mb) (.int .i64 mm) by rw [← hwx1, ← hBx]; exact At4.new _ _ _ _ _ _)
  have hb1 : Below w18.heap.size w18 wx1 := by rw [← hwx1]; exact below_new _ _
  have HXL := Lib.hid (show Bx < wx1.heap.size from HX.out.lt)
  replace Hn := Lib.hid (Hn.out.keep hb1)
  replace Ha := Lib.hid (Ha.out.keep hb1)
  replace Hb := Lib.hid (Hb.out.keep hb1)
  replace Hc := Lib.hid (Hc.out.keep hb1)
  replace Hd := Lib.hid (Hd.out.keep hb1)
  replace Hp := Lib.hid (Hp.out.keep hb1)
  replace Ho := Lib.hid (Ho.out.keep hb1)
  replace Hm := Lib.hid (Hm.out.keep hb1)
  replace Hru := Lib.hid (Hru.out.keep hb1)
  replace HB := Lib.hid (Below.then HB.out hb1)
  replace HRW := Lib.hid (RwAt.keep HRW.out hb1)
  replace HAN := Lib.hid (HAN.out.keep hb1)
  replace HVN := Lib.hid (HVN.out.keep hb1)
  have HWX := Lib.hid hwx1
  clear hwx1 hb1
  have hpnk : p < nk := by omega
  go_upto_region 49 with fail
  rw [HWX.out]
  clear hBx HWX a0 a1 a2 m0 m1 m2 m3
  obtain ⟨a0, a1, a2⟩ := HAN.out.cells
  have KS := Lib.hid (fun (w' : World) (hb : Below wx1.heap.size wx1 w') => (HAN.out.keep hb).cells)
  go_cut [32, 33] from 326 to 327 (fun x y wx => ∃ Br Bs, x = .pointer (some ⟨Br, 0, none⟩) ∧ y = .pointer (some ⟨Bs, 0, none⟩) ∧ At3 24 wx Br (.slice (some ⟨lb, lo, none⟩) nk nc) (.int .i64 nl) (.int .i64 nt) ∧ At3 24 wx Bs (.slice (some ⟨lb, lo, none⟩) nk nc) (.int .i64 nl) (.int .i64 nt) ∧ Br ≠ Bs ∧ wx1.heap.size ≤ Br ∧ wx1.heap.size ≤ Bs ∧ Below wx1.heap.size wx1 wx)
  case first =>
    go_region_held3 (fun w' => w'.cell? ⟨Bn, 0, none⟩ = some (.slice (some ⟨lb, lo, none⟩) nk nc) ∧ w'.cell? ⟨Bn, 1, none⟩ = some (.int .i64 nl) ∧ w'.cell? ⟨Bn, 2, none⟩ = some (.int .i64 nt)) (first | exact ⟨a0, a1, a2⟩ | exact KS.out _ (below_new wx1 _).drew | exact KS.out _ (Below.then (below_new wx1 _) (below_new _ _)).drew | exact KS.out _ (below_new wx1 _) | exact KS.out _ (Below.then (below_new wx1 _) (below_new _ _))) (fail)
    all_goals
      go_wp2_with fail
      go_meet
      have TN := two_new wx1 (.slice (some ⟨lb, lo, none⟩) nk nc) (.int .i64 nl) (.int .i64 nt)
      first
        | exact ⟨_, _, rfl, rfl, TN.1, TN.2.1, by omega, by omega, by omega, TN.2.2⟩
        | exact ⟨_, _, rfl, rfl, TN.2.1, TN.1, by omega, by omega, by omega, TN.2.2⟩
  case rest =>
  obtain ⟨Br, Bs, rfl, rfl, hAr, hAs, hrs, hr, hs, hb5⟩ := hcut
  obtain ⟨w5, rfl⟩ : ∃ x : World, x = wc := ⟨_, rfl⟩
  have HAr := Lib.hid hAr
  have HAs := Lib.hid hAs
  have HB5 := Lib.hid hb5
  have HRS := Lib.hid (And.intro hrs (And.intro hr hs))
  have HNB := Lib.hid (show Bn < wx1.heap.size from HAN.out.lt)
  clear hAr hAs hrs hr hs hb5 a0 a1 a2
  have hnl2 : i64 nl := ⟨by omega, by omega⟩
  have hnt2 : i64 nt := ⟨by omega, by omega⟩
  have HNN := Lib.hid (And.intro hnl2 hnt2)
  clear hnl2 hnt2
  obtain ⟨i1, hi1, hy0, hy1, hy2⟩ := info_parts infoMsg
  go_upto_region 50 with fail
  go_cut [] from 328 to 340 (fun wx => VarN wx Br ⟨n1.fl.take p ++ n1.fl.drop (p + 1), nl, nt⟩ ∧ At3 24 wx Bs (.slice (some ⟨lb, lo, none⟩) nk nc) (.int .i64 nl) (.int .i64 nt) ∧ Below wx1.heap.size wx1 wx)
  case first =>
    as_aux_lemma =>
      have n0c := (KS.out w5 HB5.out).1
      have hbA := Below.refl w5.heap.size w5
      obtain ⟨kk, hkk⟩ : ∃ x, p + 1 = x := ⟨_, rfl⟩
      have pk : IntKind.i64.wrap ((p : Int) + 1) = (kk : Int) := by rw [IntKind.wrap_i64]; omega
      obtain ⟨mr, hmr⟩ : ∃ x, nk - kk = x := ⟨_, rfl⟩
      have HMR := Lib.hid (show n1.fl.length = p + 1 + mr by rw [← HNK.out]; omega)
      have HKK := Lib.hid hkk
      have hkn : kk ≤ nk := by omega
      have hmk : nk - kk = mr := hmr
      have hpc : p ≤ nc := by omega
      have hkc : kk ≤ nc := by omega
      have HS1 := Lib.hid (fun w' (hb : Below w5.heap.size w5 w') => show SrcOf 4 w' (.slice (some ⟨lb, lo, none⟩) p nc) p (cellsN (n1.fl.take p)) by
        have := ((RwAt.keep (RwAt.keep HRW.out HB5.out) hb).take (by rw [List.length_map]; exact HNK.out.symm) p (by omega)).src (by rw [← List.map_take]; exact msWide _) (by decide)
        rwa [← List.map_take, List.length_map, List.length_take, show min p n1.fl.length = p by rw [← HNK.out]; omega] at this)
      by_cases hck : nc = kk
      · as_aux_lemma =>
          subst hck
          obtain rfl : mr = 0 := by omega
          have HS2 := Lib.hid (fun w' (_ : Below w5.heap.size w5 w') => show SrcOf 4 w' (.slice (some ⟨lb, lo, none⟩) 0 0) 0 (cellsN (n1.fl.drop (p + 1))) by
            have e : n1.fl.drop (p + 1) = [] := List.drop_of_length_le (by rw [← HNK.out]; have := HKK.out; omega)
            rw [e]
            exact Or.inr ⟨_, _, rfl, rfl, fun j u hj => by simp [cellsN] at hj⟩)
          clear hkk hmr
          refine wp_region_held_drew (S := fun w' => w'.cell? ⟨Bn, 0, none⟩ = some (.slice (some ⟨lb, lo, none⟩) nk nc)) (by kernel_rfl) ?hSv (fun hHeld => ?hRv)
          case hSv => exact n0c
          refine wpAnyH_take (i := 1) (oi := { dst := some 329, op := Op.fieldAddr 24 (Operand.tmp 5) 0, type := 0, pos := "law.go:111", after := #[], guard := none }) (v := ?gvv1) rfl (by kernel_rfl) (by kernel_rfl) (by kernel_rfl) (fun _ _ _ h => h) (Or.inl ⟨by rfl, ?gyv1⟩) (by assumption) ?grv1
          case gyv1 => (intro w hSw; (try dsimp only at hSw); go_simp; try with_reducible rfl)
          try simp only [Act.put, List.setIfInBounds_toArray, List.set_cons_zero, List.set_cons_succ]
          refine wpAnyH_take (i := 2) (oi := { dst := some 330, op := Op.load 22 (Operand.tmp 329), type := 22, pos := "law.go:111", after := #[{ on := 1, ground := Ground.data }], guard := none }) (v := ?gvv2) rfl (by kernel_rfl) (by kernel_rfl) (by kernel_rfl) (fun _ _ _ h => h) (Or.inl ⟨by rfl, ?gyv2⟩) (by assumption) ?grv2
          case gyv2 => (intro w hSw; (try dsimp only at hSw); go_simp; try with_reducible rfl)
          try simp only [Act.put, List.setIfInBounds_toArray, List.set_cons_zero, List.set_cons_succ]
          refine wpAnyH_take (i := 3) (oi := { dst := some 331, op := Op.move (Operand.tmp 2), type := 3, pos := "law.go:111", after := #[], guard := none }) (v := ?gvv3) rfl (by kernel_rfl) (by kernel_rfl) (by kernel_rfl) (fun _ _ _ h => h) (Or.inl ⟨by rfl, ?gyv3⟩) (by assumption) ?grv3
          case gyv3 => (intro w hSw; (try dsimp only at hSw); go_simp; try with_reducible rfl)
          try simp only [Act.put, List.setIfInBounds_toArray, List.set_cons_zero, List.set_cons_succ]
          refine wpAnyH_take (i := 4) (oi := { dst := some 332, op := Op.slice 22 (Operand.tmp 330) none (some (Operand.tmp 331)) none, type := 22, pos := "law.go:111", after := #[{ on := 2, ground := Ground.data }, { on := 3, ground := Ground.data }], guard := none }) (v := ?gvv4) rfl (by kernel_rfl) (by kernel_rfl) (by kernel_rfl) (fun _ _ _ h => h) (Or.inl ⟨by rfl, ?gyv4⟩) (by assumption) ?grv4
          case gyv4 => (intro w hSw; (try dsimp only at hSw); go_simp; try with_reducible rfl)
          try simp only [Act.put, List.setIfInBounds_toArray, List.set_cons_zero, List.set_cons_succ]
          refine wpAnyH_take (i := 6) (oi := { dst := some 334, op := Op.fieldAddr 24 (Operand.tmp 5) 0, type := 0, pos := "law.go:111", after := #[], guard := none }) (v := ?gvv6) rfl (by kernel_rfl) (by kernel_rfl) (by kernel_rfl) (fun _ _ _ h => h) (Or.inl ⟨by rfl, ?gyv6⟩) (by assumption) ?grv6
          case gyv6 => (intro w hSw; (try dsimp only at hSw); go_simp; try with_reducible rfl)
          try simp only [Act.put, List.setIfInBounds_toArray, List.set_cons_zero, List.set_cons_succ]
          refine wpAnyH_take (i := 7) (oi := { dst := some 335, op := Op.load 22 (Operand.tmp 334), type := 22, pos := "law.go:111", after := #[{ on := 6, ground := Ground.data }], guard := none }) (v := ?gvv7) rfl (by kernel_rfl) (by kernel_rfl) (by kernel_rfl) (fun _ _ _ h => h) (Or.inl ⟨by rfl, ?gyv7⟩) (by assumption) ?grv7
          case gyv7 => (intro w hSw; (try dsimp only at hSw); go_simp; try with_reducible rfl)
          try simp only [Act.put, List.setIfInBounds_toArray, List.set_cons_zero, List.set_cons_succ]
          refine wpAnyH_take (i := 8) (oi := { dst := some 336, op := Op.move (Operand.tmp 2), type := 3, pos := "law.go:111", after := #[], guard := none }) (v := ?gvv8) rfl (by kernel_rfl) (by kernel_rfl) (by kernel_rfl) (fun _ _ _ h => h) (Or.inl ⟨by rfl, ?gyv8⟩) (by assumption) ?grv8
          case gyv8 => (intro w hSw; (try dsimp only at hSw); go_simp; try with_reducible rfl)
          try simp only [Act.put, List.setIfInBounds_toArray, List.set_cons_zero, List.set_cons_succ]
          refine wpAnyH_take (i := 9) (oi := { dst := some 337, op := Op.binOp BinOp.add 3 (Operand.tmp 336) (Operand.const (Value.int IntKind.i64 1)) 3, type := 3, pos := "law.go:111", after := #[{ on := 8, ground := Ground.data }], guard := none }) (v := ?gvv9) rfl (by kernel_rfl) (by kernel_rfl) (by kernel_rfl) (fun _ _ _ h => h) (Or.inl ⟨by rfl, ?gyv9⟩) (by assumption) ?grv9
          case gyv9 => (intro w hSw; (try dsimp only at hSw); go_simp; try with_reducible rfl)
          try simp only [Act.put, List.setIfInBounds_toArray, List.set_cons_zero, List.set_cons_succ]
          refine wpAnyH_take (i := 10) (oi := { dst := some 338, op := Op.slice 22 (Operand.tmp 335) (some (Operand.tmp 337)) none none, type := 22, pos := "law.go:111", after := #[{ on := 7, ground := Ground.data }, { on := 9, ground := Ground.data }], guard := none }) (v := ?gvv10) rfl (by kernel_rfl) (by kernel_rfl) (by kernel_rfl) (fun _ _ _ h => h) (Or.inl ⟨by rfl, ?gyv10⟩) (by assumption) ?grv10
          case gyv10 => (intro w hSw; (try dsimp only at hSw); go_simp; try with_reducible rfl)
          try simp only [Act.put, List.setIfInBounds_toArray, List.set_cons_zero, List.set_cons_succ]
          refine wpAnyH_ready (rs := [0]) (by kernel_rfl) (by simp) ?_
          refine AllReadyH.cons (o := { dst := some 328, op := Op.buildSlice 22 0 #[], type := 22, pos := "law.go:111", after := #[], guard := none }) rfl (fun K hK => ?_) AllReadyH.nil
          rw [if_pos (by kernel_rfl)]
          go_simp
          refine hK.out _ _ ?hSv0 (fun hHeldv0 => ?hRv0)
          case hSv0 => exact Below.keepc (hbA.drew.alloc (Nat.le_refl _) (.cells #[] 30)) n0c
          clear hK K
          try simp only [Act.put, List.setIfInBounds_toArray, List.set_cons_zero, List.set_cons_succ]
          refine wpAnyH_ready (rs := [5]) (by kernel_rfl) (by simp) ?_
          refine AllReadyH.cons (o := { dst := some 333, op := Op.call { callee := Callee.builtin Builtin.append, args := #[Operand.tmp 328, Operand.tmp 332], argTypes := #[22, 22] }, type := 22, pos := "law.go:111", after := #[{ on := 0, ground := Ground.data }, { on := 4, ground := Ground.data }], guard := none }) rfl (fun K hK => ?_) AllReadyH.nil
          have hO0 : (w5.drew.alloc (.cells #[] 30)).ownsRow w5.heap.size 30 4 _ 0 [] := (World.ownsRow_lit (w5.drew) #[] 0 (Nat.le_refl _) (Nat.zero_le _) rfl)
          have hbc : Below w5.heap.size w5 (w5.drew.alloc (.cells #[] 30)) := (hbA.drew.alloc (Nat.le_refl _) (.cells #[] 30))
          refine step_append_src (w5.drew.alloc (.cells #[] 30)) (by rfl) (.tmp 328) (.tmp 332) 22 (by rfl) w5.heap.size 30 i1 (.agg #[.int .i64 0, .int .i64 0, .string ⟨#[]⟩, .int .i64 0]) 4 40 Try.underlying22 hi1 hy0 hy1 hy2 rfl (by decide) _ 0 [] (by rfl) hO0 _ p _ (by rfl) (HS1.out _ hbc) (ms_one _) (by unfold maxLen; omega) (by omega) hbc.size ?_
          intro v1 w4 hown4 hgrow4
          rw [Nat.zero_add, List.nil_append] at hown4
          have hb4 : Below w5.heap.size w5 w4 := hbc.grown hgrow4 hbc.size (fun k hk => (hO0.lt k hk).1)
          clear hgrow4 hO0 hbc
          refine hK.out _ _ ?hSv5 (fun hHeldv5 => ?hRv5)
          case hSv5 => exact Below.keepc hb4 n0c
          clear hK K
          try simp only [Act.put, List.setIfInBounds_toArray, List.set_cons_zero, List.set_cons_succ]
          refine wpAnyH_ready (rs := [11]) (by kernel_rfl) (by simp) ?_
          refine AllReadyH.cons (o := { dst := some 339, op := Op.call { callee := Callee.builtin Builtin.append, args := #[Operand.tmp 333, Operand.tmp 338], argTypes := #[22, 22] }, type := 22, pos := "law.go:111", after := #[{ on := 5, ground := Ground.data }, { on := 10, ground := Ground.data }, { on := 5, ground := Ground.chain }], guard := none }) rfl (fun K hK => ?_) AllReadyH.nil
          refine step_append_src w4 (by rfl) (.tmp 333) (.tmp 338) 22 (by rfl) w5.heap.size 30 i1 (.agg #[.int .i64 0, .int .i64 0, .string ⟨#[]⟩, .int .i64 0]) 4 40 Try.underlying22 hi1 hy0 hy1 hy2 rfl (by decide) _ p _ (by rfl) hown4 _ 0 _ (by rfl) (HS2.out _ hb4) (ms_one _) (by unfold maxLen; omega) (by omega) hb4.size ?_
          intro v2 w6 hown6 hgrow6
          have hb6 : Below w5.heap.size w5 w6 := hb4.grown hgrow6 hb4.size (fun k hk => (hown4.lt k hk).1)
          clear hgrow6
          obtain ⟨s2, t2, rfl, -, -⟩ := own_shape hown6
          refine hK.out _ _ ?hSv11 (fun hHeldv11 => ?hRv11)
          case hSv11 => exact Below.keepc hb6 n0c
          clear hK K
          try simp only [Act.put, List.setIfInBounds_toArray, List.set_cons_zero, List.set_cons_succ]
          refine wpAnyH_take (i := 12) (oi := { dst := some 340, op := Op.fieldAddr 24 (Operand.tmp 32) 0, type := 0, pos := "law.go:111", after := #[{ on := 0, ground := Ground.phase }, { on := 1, ground := Ground.phase }, { on := 2, ground := Ground.phase }, { on := 3, ground := Ground.phase }, { on := 4, ground := Ground.phase }, { on := 5, ground := Ground.phase }, { on := 6, ground := Ground.phase }, { on := 7, ground := Ground.phase }, { on := 8, ground := Ground.phase }, { on := 9, ground := Ground.phase }, { on := 10, ground := Ground.phase }, { on := 11, ground := Ground.phase }], guard := none }) (v := ?gvv12) rfl (by kernel_rfl) (by kernel_rfl) (by kernel_rfl) (fun _ _ _ h => h) (Or.inl ⟨by rfl, ?gyv12⟩) (by assumption) ?grv12
          case gyv12 => (intro w hSw; (try dsimp only at hSw); go_simp; try with_reducible rfl)
          try simp only [Act.put, List.setIfInBounds_toArray, List.set_cons_zero, List.set_cons_succ]
          obtain ⟨s0, s1', s2'⟩ := (HAr.out.keep hb6).cells
          obtain ⟨f0, f1, f2⟩ := (HAr.out.keep hb6).free
          refine wpAnyH_ready (rs := [13]) (by kernel_rfl) (by simp) ?_
          refine AllReadyH.cons (o := { dst := none, op := Op.store 22 (Operand.tmp 340) (Operand.tmp 339), type := 0, pos := "law.go:111", after := #[{ on := 12, ground := Ground.data }, { on := 11, ground := Ground.data }, { on := 11, ground := Ground.chain }, { on := 0, ground := Ground.phase }, { on := 1, ground := Ground.phase }, { on := 2, ground := Ground.phase }, { on := 3, ground := Ground.phase }, { on := 4, ground := Ground.phase }, { on := 5, ground := Ground.phase }, { on := 6, ground := Ground.phase }, { on := 7, ground := Ground.phase }, { on := 8, ground := Ground.phase }, { on := 9, ground := Ground.phase }, { on := 10, ground := Ground.phase }, { on := 11, ground := Ground.phase }], guard := none }) rfl (fun K hK => ?_) AllReadyH.nil
          rw [if_pos (by kernel_rfl)]
          go_simp
          refine hK.out _ _ ?hSvs (fun hHeldvs => ?hRvs)
          case hSvs => exact far_cell (Below.keepc hb6 n0c) (by have := HNB.out; have := HRS.out.2.1; omega)
          clear hK K
          try simp only [Act.put, List.setIfInBounds_toArray, List.set_cons_zero, List.set_cons_succ]
          refine wpAnyH_done (by kernel_rfl) ?_ _
          go_wp2_with fail
          go_meet
          exact put_off HAr.out HAs.out HRS.out.1 hb6 hown6 rfl HMR.out HMAY.out.fits HNN.out.1 HNN.out.2 HB5.out HRS.out.2.1
      · as_aux_lemma =>
          have HS2 := Lib.hid (fun w' (hb : Below w5.heap.size w5 w') => show SrcOf 4 w' (.slice (some ⟨lb, lo + kk * 4, none⟩) mr (nc - kk)) mr (cellsN (n1.fl.drop (p + 1))) by
            have := ((RwAt.keep (RwAt.keep HRW.out HB5.out) hb).drop (by rw [List.length_map]; exact HNK.out.symm) kk hkn hck).src (by rw [← List.map_drop]; exact msWide _) (by decide)
            rw [add_plain, ← List.map_drop, List.length_map, List.length_drop, ← HNK.out, hmk] at this
            rw [HKK.out]
            exact this)
          clear hkk hmr
          refine wp_region_held_drew (S := fun w' => w'.cell? ⟨Bn, 0, none⟩ = some (.slice (some ⟨lb, lo, none⟩) nk nc)) (by kernel_rfl) ?hSx (fun hHeld => ?hRx)
          case hSx => exact n0c
          refine wpAnyH_take (i := 1) (oi := { dst := some 329, op := Op.fieldAddr 24 (Operand.tmp 5) 0, type := 0, pos := "law.go:111", after := #[], guard := none }) (v := ?gvx1) rfl (by kernel_rfl) (by kernel_rfl) (by kernel_rfl) (fun _ _ _ h => h) (Or.inl ⟨by rfl, ?gyx1⟩) (by assumption) ?grx1
          case gyx1 => (intro w hSw; (try dsimp only at hSw); go_simp; try with_reducible rfl)
          try simp only [Act.put, List.setIfInBounds_toArray, List.set_cons_zero, List.set_cons_succ]
          refine wpAnyH_take (i := 2) (oi := { dst := some 330, op := Op.load 22 (Operand.tmp 329), type := 22, pos := "law.go:111", after := #[{ on := 1, ground := Ground.data }], guard := none }) (v := ?gvx2) rfl (by kernel_rfl) (by kernel_rfl) (by kernel_rfl) (fun _ _ _ h => h) (Or.inl ⟨by rfl, ?gyx2⟩) (by assumption) ?grx2
          case gyx2 => (intro w hSw; (try dsimp only at hSw); go_simp; try with_reducible rfl)
          try simp only [Act.put, List.setIfInBounds_toArray, List.set_cons_zero, List.set_cons_succ]
          refine wpAnyH_take (i := 3) (oi := { dst := some 331, op := Op.move (Operand.tmp 2), type := 3, pos := "law.go:111", after := #[], guard := none }) (v := ?gvx3) rfl (by kernel_rfl) (by kernel_rfl) (by kernel_rfl) (fun _ _ _ h => h) (Or.inl ⟨by rfl, ?gyx3⟩) (by assumption) ?grx3
          case gyx3 => (intro w hSw; (try dsimp only at hSw); go_simp; try with_reducible rfl)
          try simp only [Act.put, List.setIfInBounds_toArray, List.set_cons_zero, List.set_cons_succ]
          refine wpAnyH_take (i := 4) (oi := { dst := some 332, op := Op.slice 22 (Operand.tmp 330) none (some (Operand.tmp 331)) none, type := 22, pos := "law.go:111", after := #[{ on := 2, ground := Ground.data }, { on := 3, ground := Ground.data }], guard := none }) (v := ?gvx4) rfl (by kernel_rfl) (by kernel_rfl) (by kernel_rfl) (fun _ _ _ h => h) (Or.inl ⟨by rfl, ?gyx4⟩) (by assumption) ?grx4
          case gyx4 => (intro w hSw; (try dsimp only at hSw); go_simp; try with_reducible rfl)
          try simp only [Act.put, List.setIfInBounds_toArray, List.set_cons_zero, List.set_cons_succ]
          refine wpAnyH_take (i := 6) (oi := { dst := some 334, op := Op.fieldAddr 24 (Operand.tmp 5) 0, type := 0, pos := "law.go:111", after := #[], guard := none }) (v := ?gvx6) rfl (by kernel_rfl) (by kernel_rfl) (by kernel_rfl) (fun _ _ _ h => h) (Or.inl ⟨by rfl, ?gyx6⟩) (by assumption) ?grx6
          case gyx6 => (intro w hSw; (try dsimp only at hSw); go_simp; try with_reducible rfl)
          try simp only [Act.put, List.setIfInBounds_toArray, List.set_cons_zero, List.set_cons_succ]
          refine wpAnyH_take (i := 7) (oi := { dst := some 335, op := Op.load 22 (Operand.tmp 334), type := 22, pos := "law.go:111", after := #[{ on := 6, ground := Ground.data }], guard := none }) (v := ?gvx7) rfl (by kernel_rfl) (by kernel_rfl) (by kernel_rfl) (fun _ _ _ h => h) (Or.inl ⟨by rfl, ?gyx7⟩) (by assumption) ?grx7
          case gyx7 => (intro w hSw; (try dsimp only at hSw); go_simp; try with_reducible rfl)
          try simp only [Act.put, List.setIfInBounds_toArray, List.set_cons_zero, List.set_cons_succ]
          refine wpAnyH_take (i := 8) (oi := { dst := some 336, op := Op.move (Operand.tmp 2), type := 3, pos := "law.go:111", after := #[], guard := none }) (v := ?gvx8) rfl (by kernel_rfl) (by kernel_rfl) (by kernel_rfl) (fun _ _ _ h => h) (Or.inl ⟨by rfl, ?gyx8⟩) (by assumption) ?grx8
          case gyx8 => (intro w hSw; (try dsimp only at hSw); go_simp; try with_reducible rfl)
          try simp only [Act.put, List.setIfInBounds_toArray, List.set_cons_zero, List.set_cons_succ]
          refine wpAnyH_take (i := 9) (oi := { dst := some 337, op := Op.binOp BinOp.add 3 (Operand.tmp 336) (Operand.const (Value.int IntKind.i64 1)) 3, type := 3, pos := "law.go:111", after := #[{ on := 8, ground := Ground.data }], guard := none }) (v := ?gvx9) rfl (by kernel_rfl) (by kernel_rfl) (by kernel_rfl) (fun _ _ _ h => h) (Or.inl ⟨by rfl, ?gyx9⟩) (by assumption) ?grx9
          case gyx9 => (intro w hSw; (try dsimp only at hSw); go_simp; try with_reducible rfl)
          try simp only [Act.put, List.setIfInBounds_toArray, List.set_cons_zero, List.set_cons_succ]
          refine wpAnyH_take (i := 10) (oi := { dst := some 338, op := Op.slice 22 (Operand.tmp 335) (some (Operand.tmp 337)) none none, type := 22, pos := "law.go:111", after := #[{ on := 7, ground := Ground.data }, { on := 9, ground := Ground.data }], guard := none }) (v := ?gvx10) rfl (by kernel_rfl) (by kernel_rfl) (by kernel_rfl) (fun _ _ _ h => h) (Or.inl ⟨by rfl, ?gyx10⟩) (by assumption) ?grx10
          case gyx10 => (intro w hSw; (try dsimp only at hSw); go_simp; try with_reducible rfl)
          try simp only [Act.put, List.setIfInBounds_toArray, List.set_cons_zero, List.set_cons_succ]
          refine wpAnyH_ready (rs := [0]) (by kernel_rfl) (by simp) ?_
          refine AllReadyH.cons (o := { dst := some 328, op := Op.buildSlice 22 0 #[], type := 22, pos := "law.go:111", after := #[], guard := none }) rfl (fun K hK => ?_) AllReadyH.nil
          rw [if_pos (by kernel_rfl)]
          go_simp
          refine hK.out _ _ ?hSx0 (fun hHeldx0 => ?hRx0)
          case hSx0 => exact Below.keepc (hbA.drew.alloc (Nat.le_refl _) (.cells #[] 30)) n0c
          clear hK K
          try simp only [Act.put, List.setIfInBounds_toArray, List.set_cons_zero, List.set_cons_succ]
          refine wpAnyH_ready (rs := [5]) (by kernel_rfl) (by simp) ?_
          refine AllReadyH.cons (o := { dst := some 333, op := Op.call { callee := Callee.builtin Builtin.append, args := #[Operand.tmp 328, Operand.tmp 332], argTypes := #[22, 22] }, type := 22, pos := "law.go:111", after := #[{ on := 0, ground := Ground.data }, { on := 4, ground := Ground.data }], guard := none }) rfl (fun K hK => ?_) AllReadyH.nil
          have hO0 : (w5.drew.alloc (.cells #[] 30)).ownsRow w5.heap.size 30 4 _ 0 [] := (World.ownsRow_lit (w5.drew) #[] 0 (Nat.le_refl _) (Nat.zero_le _) rfl)
          have hbc : Below w5.heap.size w5 (w5.drew.alloc (.cells #[] 30)) := (hbA.drew.alloc (Nat.le_refl _) (.cells #[] 30))
          refine step_append_src (w5.drew.alloc (.cells #[] 30)) (by rfl) (.tmp 328) (.tmp 332) 22 (by rfl) w5.heap.size 30 i1 (.agg #[.int .i64 0, .int .i64 0, .string ⟨#[]⟩, .int .i64 0]) 4 40 Try.underlying22 hi1 hy0 hy1 hy2 rfl (by decide) _ 0 [] (by rfl) hO0 _ p _ (by rfl) (HS1.out _ hbc) (ms_one _) (by unfold maxLen; omega) (by omega) hbc.size ?_
          intro v1 w4 hown4 hgrow4
          rw [Nat.zero_add, List.nil_append] at hown4
          have hb4 : Below w5.heap.size w5 w4 := hbc.grown hgrow4 hbc.size (fun k hk => (hO0.lt k hk).1)
          clear hgrow4 hO0 hbc
          refine hK.out _ _ ?hSx5 (fun hHeldx5 => ?hRx5)
          case hSx5 => exact Below.keepc hb4 n0c
          clear hK K
          try simp only [Act.put, List.setIfInBounds_toArray, List.set_cons_zero, List.set_cons_succ]
          refine wpAnyH_ready (rs := [11]) (by kernel_rfl) (by simp) ?_
          refine AllReadyH.cons (o := { dst := some 339, op := Op.call { callee := Callee.builtin Builtin.append, args := #[Operand.tmp 333, Operand.tmp 338], argTypes := #[22, 22] }, type := 22, pos := "law.go:111", after := #[{ on := 5, ground := Ground.data }, { on := 10, ground := Ground.data }, { on := 5, ground := Ground.chain }], guard := none }) rfl (fun K hK => ?_) AllReadyH.nil
          refine step_append_src w4 (by rfl) (.tmp 333) (.tmp 338) 22 (by rfl) w5.heap.size 30 i1 (.agg #[.int .i64 0, .int .i64 0, .string ⟨#[]⟩, .int .i64 0]) 4 40 Try.underlying22 hi1 hy0 hy1 hy2 rfl (by decide) _ p _ (by rfl) hown4 _ mr _ (by rfl) (HS2.out _ hb4) (ms_one _) (by unfold maxLen; omega) (by omega) hb4.size ?_
          intro v2 w6 hown6 hgrow6
          have hb6 : Below w5.heap.size w5 w6 := hb4.grown hgrow6 hb4.size (fun k hk => (hown4.lt k hk).1)
          clear hgrow6
          obtain ⟨s2, t2, rfl, -, -⟩ := own_shape hown6
          refine hK.out _ _ ?hSx11 (fun hHeldx11 => ?hRx11)
          case hSx11 => exact Below.keepc hb6 n0c
          clear hK K
          try simp only [Act.put, List.setIfInBounds_toArray, List.set_cons_zero, List.set_cons_succ]
          refine wpAnyH_take (i := 12) (oi := { dst := some 340, op := Op.fieldAddr 24 (Operand.tmp 32) 0, type := 0, pos := "law.go:111", after := #[{ on := 0, ground := Ground.phase }, { on := 1, ground := Ground.phase }, { on := 2, ground := Ground.phase }, { on := 3, ground := Ground.phase }, { on := 4, ground := Ground.phase }, { on := 5, ground := Ground.phase }, { on := 6, ground := Ground.phase }, { on := 7, ground := Ground.phase }, { on := 8, ground := Ground.phase }, { on := 9, ground := Ground.phase }, { on := 10, ground := Ground.phase }, { on := 11, ground := Ground.phase }], guard := none }) (v := ?gvx12) rfl (by kernel_rfl) (by kernel_rfl) (by kernel_rfl) (fun _ _ _ h => h) (Or.inl ⟨by rfl, ?gyx12⟩) (by assumption) ?grx12
          case gyx12 => (intro w hSw; (try dsimp only at hSw); go_simp; try with_reducible rfl)
          try simp only [Act.put, List.setIfInBounds_toArray, List.set_cons_zero, List.set_cons_succ]
          obtain ⟨s0, s1', s2'⟩ := (HAr.out.keep hb6).cells
          obtain ⟨f0, f1, f2⟩ := (HAr.out.keep hb6).free
          refine wpAnyH_ready (rs := [13]) (by kernel_rfl) (by simp) ?_
          refine AllReadyH.cons (o := { dst := none, op := Op.store 22 (Operand.tmp 340) (Operand.tmp 339), type := 0, pos := "law.go:111", after := #[{ on := 12, ground := Ground.data }, { on := 11, ground := Ground.data }, { on := 11, ground := Ground.chain }, { on := 0, ground := Ground.phase }, { on := 1, ground := Ground.phase }, { on := 2, ground := Ground.phase }, { on := 3, ground := Ground.phase }, { on := 4, ground := Ground.phase }, { on := 5, ground := Ground.phase }, { on := 6, ground := Ground.phase }, { on := 7, ground := Ground.phase }, { on := 8, ground := Ground.phase }, { on := 9, ground := Ground.phase }, { on := 10, ground := Ground.phase }, { on := 11, ground := Ground.phase }], guard := none }) rfl (fun K hK => ?_) AllReadyH.nil
          rw [if_pos (by kernel_rfl)]
          go_simp
          refine hK.out _ _ ?hSxs (fun hHeldxs => ?hRxs)
          case hSxs => exact far_cell (Below.keepc hb6 n0c) (by have := HNB.out; have := HRS.out.2.1; omega)
          clear hK K
          try simp only [Act.put, List.setIfInBounds_toArray, List.set_cons_zero, List.set_cons_succ]
          refine wpAnyH_done (by kernel_rfl) ?_ _
          go_wp2_with fail
          go_meet
          exact put_off HAr.out HAs.out HRS.out.1 hb6 hown6 rfl HMR.out HMAY.out.fits HNN.out.1 HNN.out.2 HB5.out HRS.out.2.1
  case rest =>
  obtain ⟨hVr, hAs, hb7⟩ := hcut
  obtain ⟨w7, rfl⟩ : ∃ x : World, x = wc := ⟨_, rfl⟩
  have HVr := Lib.hid hVr
  have HAq := Lib.hid hAs
  have HB7 := Lib.hid hb7
  have HXB := Lib.hid (show Bs ≠ Bx ∧ Bs ≠ Bn from by have := HXL.out; have := HNB.out; have := HRS.out.2.2; omega)
  clear hVr hAs hb7 HAr HAs HB5
  go_upto_region 51 with fail
  have n0c := (KS.out w7 HB7.out).1
  obtain ⟨x0c, x1c, x2c, x3c⟩ := (HX.out.keep HB7.out).cells
  have hbA := Below.refl w7.heap.size w7
  have HSRC := Lib.hid (fun w' (hb : Below w7.heap.size w7 w') => show SrcOf 4 w' (.slice (some ⟨lb, lo, none⟩) nk nc) nk (cellsN n1.fl) by
    have := RwAt.src (RwAt.keep (RwAt.keep HRW.out HB7.out) hb) (msWide n1.fl) (by decide)
    rwa [List.length_map, ← HNK.out] at this)
  have HONE := Lib.hid (ms_one n1.fl)
  have HMO := Lib.hid (msg_one ⟨mi, mt, mb, mm⟩)
  go_cut [] from 341 to 348 (fun wx => VarN wx Br ⟨n1.fl.take p ++ n1.fl.drop (p + 1), nl, nt⟩ ∧ VarN wx Bs ⟨n1.fl ++ [⟨mi, mt, mb, mm⟩], nl, nt⟩ ∧ Below wx1.heap.size wx1 wx)
  case first =>
    as_aux_lemma =>
      refine wp_region_held_drew (S := fun w' => w'.cell? ⟨Bn, 0, none⟩ = some (.slice (some ⟨lb, lo, none⟩) nk nc) ∧ w'.cell? ⟨Bx, 0, none⟩ = some (.int .i64 mi) ∧ w'.cell? ⟨Bx, 1, none⟩ = some (.int .i64 mt) ∧ w'.cell? ⟨Bx, 2, none⟩ = some (.string mb) ∧ w'.cell? ⟨Bx, 3, none⟩ = some (.int .i64 mm)) (by kernel_rfl) ?hSy (fun hHeld => ?hRy)
      case hSy => exact ⟨n0c, x0c, x1c, x2c, x3c⟩
      refine wpAnyH_take (i := 1) (oi := { dst := some 342, op := Op.fieldAddr 24 (Operand.tmp 5) 0, type := 0, pos := "law.go:112", after := #[], guard := none }) (v := ?gvy1) rfl (by kernel_rfl) (by kernel_rfl) (by kernel_rfl) (fun _ _ _ h => h) (Or.inl ⟨by rfl, ?gyy1⟩) (by assumption) ?gry1
      case gyy1 => (intro w hSw; (try dsimp only at hSw); go_simp; try with_reducible rfl)
      try simp only [Act.put, List.setIfInBounds_toArray, List.set_cons_zero, List.set_cons_succ]
      refine wpAnyH_take (i := 2) (oi := { dst := some 343, op := Op.load 22 (Operand.tmp 342), type := 22, pos := "law.go:112", after := #[{ on := 1, ground := Ground.data }], guard := none }) (v := ?gvy2) rfl (by kernel_rfl) (by kernel_rfl) (by kernel_rfl) (fun _ _ _ h => h) (Or.inl ⟨by rfl, ?gyy2⟩) (by assumption) ?gry2
      case gyy2 => (intro w hSw; (try dsimp only at hSw); go_simp; try with_reducible rfl)
      try simp only [Act.put, List.setIfInBounds_toArray, List.set_cons_zero, List.set_cons_succ]
      refine wpAnyH_take (i := 4) (oi := { dst := some 345, op := Op.load 30 (Operand.tmp 31), type := 30, pos := "law.go:112", after := #[], guard := none }) (v := ?gvy4) rfl (by kernel_rfl) (by kernel_rfl) (by kernel_rfl) (fun _ _ _ h => h) (Or.inl ⟨by rfl, ?gyy4⟩) (by assumption) ?gry4
      case gyy4 => (intro w hSw; (try dsimp only at hSw); go_simp; try with_reducible rfl)
      try simp only [Act.put, List.setIfInBounds_toArray, List.set_cons_zero, List.set_cons_succ]
      refine wpAnyH_ready (rs := [0, 5]) (by kernel_rfl) (by simp) ?_
      refine AllReadyH.cons (o := { dst := some 341, op := Op.buildSlice 22 0 #[], type := 22, pos := "law.go:112", after := #[], guard := none }) rfl (fun K hK => ?ya) (AllReadyH.cons (o := { dst := some 346, op := Op.buildSlice 22 1 #[(0, Operand.tmp 345)], type := 22, pos := "law.go:112", after := #[{ on := 4, ground := Ground.data }], guard := none }) rfl (fun K hK => ?yb) AllReadyH.nil)
      case ya =>
        rw [if_pos (by kernel_rfl)]
        go_simp
        refine hK.out _ _ ?hSya0 (fun hHeldya0 => ?hRya0)
        case hSya0 => exact ⟨Below.keepc (hbA.drew.alloc (Nat.le_refl _) (.cells #[] 30)) n0c, Below.keepc (hbA.drew.alloc (Nat.le_refl _) (.cells #[] 30)) x0c, Below.keepc (hbA.drew.alloc (Nat.le_refl _) (.cells #[] 30)) x1c, Below.keepc (hbA.drew.alloc (Nat.le_refl _) (.cells #[] 30)) x2c, Below.keepc (hbA.drew.alloc (Nat.le_refl _) (.cells #[] 30)) x3c⟩
        clear hK K
        try simp only [Act.put, List.setIfInBounds_toArray, List.set_cons_zero, List.set_cons_succ]
        refine wpAnyH_ready (rs := [3, 5]) (by kernel_rfl) (by simp) ?_
        refine AllReadyH.cons (o := { dst := some 344, op := Op.call { callee := Callee.builtin Builtin.append, args := #[Operand.tmp 341, Operand.tmp 343], argTypes := #[22, 22] }, type := 22, pos := "law.go:112", after := #[{ on := 0, ground := Ground.data }, { on := 2, ground := Ground.data }], guard := none }) rfl (fun K hK => ?yaa) (AllReadyH.cons (o := { dst := some 346, op := Op.buildSlice 22 1 #[(0, Operand.tmp 345)], type := 22, pos := "law.go:112", after := #[{ on := 4, ground := Ground.data }], guard := none }) rfl (fun K hK => ?yab) AllReadyH.nil)
        case yaa =>
          have hO0 : (w7.drew.alloc (.cells #[] 30)).ownsRow w7.heap.size 30 4 _ 0 [] := (World.ownsRow_lit (w7.drew) #[] 0 (Nat.le_refl _) (Nat.zero_le _) rfl)
          have hbc : Below w7.heap.size w7 (w7.drew.alloc (.cells #[] 30)) := (hbA.drew.alloc (Nat.le_refl _) (.cells #[] 30))
          refine step_append_src (w7.drew.alloc (.cells #[] 30)) (by rfl) (.tmp 341) (.tmp 343) 22 (by rfl) w7.heap.size 30 i1 (.agg #[.int .i64 0, .int .i64 0, .string ⟨#[]⟩, .int .i64 0]) 4 40 Try.underlying22 hi1 hy0 hy1 hy2 rfl (by decide) _ 0 [] (by rfl) hO0 _ nk _ (by rfl) (HSRC.out _ hbc) HONE.out (by unfold maxLen; omega) (by omega) hbc.size ?_
          intro v1 w4 hown4 hgrow4
          rw [Nat.zero_add, List.nil_append] at hown4
          have hb4 : Below w7.heap.size w7 w4 := hbc.grown hgrow4 hbc.size (fun k hk => (hO0.lt k hk).1)
          clear hgrow4 hO0 hbc
          refine hK.out _ _ ?hSyaa3 (fun hHeldyaa3 => ?hRyaa3)
          case hSyaa3 => exact ⟨Below.keepc hb4 n0c, Below.keepc hb4 x0c, Below.keepc hb4 x1c, Below.keepc hb4 x2c, Below.keepc hb4 x3c⟩
          clear hK K
          try simp only [Act.put, List.setIfInBounds_toArray, List.set_cons_zero, List.set_cons_succ]
          refine wpAnyH_ready (rs := [5]) (by kernel_rfl) (by simp) ?_
          refine AllReadyH.cons (o := { dst := some 346, op := Op.buildSlice 22 1 #[(0, Operand.tmp 345)], type := 22, pos := "law.go:112", after := #[{ on := 4, ground := Ground.data }], guard := none }) rfl (fun K hK => ?_) AllReadyH.nil
          rw [if_pos (by kernel_rfl)]
          go_simp
          refine hK.out _ _ ?hSyaa7 (fun hHeldyaa7 => ?hRyaa7)
          case hSyaa7 => exact ⟨Below.keepc (hb4.alloc hb4.size (.cells #[.int .i64 mi, .int .i64 mt, .string mb, .int .i64 mm] 30)) n0c, Below.keepc (hb4.alloc hb4.size (.cells #[.int .i64 mi, .int .i64 mt, .string mb, .int .i64 mm] 30)) x0c, Below.keepc (hb4.alloc hb4.size (.cells #[.int .i64 mi, .int .i64 mt, .string mb, .int .i64 mm] 30)) x1c, Below.keepc (hb4.alloc hb4.size (.cells #[.int .i64 mi, .int .i64 mt, .string mb, .int .i64 mm] 30)) x2c, Below.keepc (hb4.alloc hb4.size (.cells #[.int .i64 mi, .int .i64 mt, .string mb, .int .i64 mm] 30)) x3c⟩
          clear hK K
          try simp only [Act.put, List.setIfInBounds_toArray, List.set_cons_zero, List.set_cons_succ]
          refine wpAnyH_ready (rs := [6]) (by kernel_rfl) (by simp) ?_
          refine AllReadyH.cons (o := { dst := some 347, op := Op.call { callee := Callee.builtin Builtin.append, args := #[Operand.tmp 344, Operand.tmp 346], argTypes := #[22, 22] }, type := 22, pos := "law.go:112", after := #[{ on := 3, ground := Ground.data }, { on := 5, ground := Ground.data }, { on := 3, ground := Ground.chain }], guard := none }) rfl (fun K hK => ?_) AllReadyH.nil
          have hO5 : (w4.alloc (.cells #[.int .i64 mi, .int .i64 mt, .string mb, .int .i64 mm] 30)).ownsRow w7.heap.size 30 4 v1 nk (cellsN n1.fl) := hown4.alloc (.cells #[.int .i64 mi, .int .i64 mt, .string mb, .int .i64 mm] 30)
          have hb5 : Below w7.heap.size w7 (w4.alloc (.cells #[.int .i64 mi, .int .i64 mt, .string mb, .int .i64 mm] 30)) := hb4.alloc hb4.size (.cells #[.int .i64 mi, .int .i64 mt, .string mb, .int .i64 mm] 30)
          have hnw : ∀ j u, [Value.int .i64 mi, Value.int .i64 mt, Value.string mb, Value.int .i64 mm][j]? = some u → (w4.alloc (.cells #[.int .i64 mi, .int .i64 mt, .string mb, .int .i64 mm] 30)).cell? ((⟨w4.heap.size, 0, none⟩ : Addr).add j) = some u := World.news_of_block (heap_alloc_new w4 _)
          refine step_append_lies (w4.alloc (.cells #[.int .i64 mi, .int .i64 mt, .string mb, .int .i64 mm] 30)) (by rfl) (.tmp 344) (.tmp 346) 22 (by rfl) w7.heap.size 30 i1 (.agg #[.int .i64 0, .int .i64 0, .string ⟨#[]⟩, .int .i64 0]) 4 40 Try.underlying22 hi1 hy0 hy1 hy2 rfl (by decide) _ nk _ (by rfl) hO5 ⟨w4.heap.size, 0, none⟩ 1 1 [.int .i64 mi, .int .i64 mt, .string mb, .int .i64 mm] (by rfl) (by rfl) hnw HMO.out (by decide) (by unfold maxLen; omega) (by omega) hb5.size _ rfl ?_
          intro g6 c6 w6 hown6 hgrow6 hat6 hlt6
          have hb6 : Below w7.heap.size w7 w6 := hb5.grown hgrow6 hb5.size (fun k hk => (hO5.lt k hk).1)
          clear hgrow6 hat6 hlt6 hO5 hb5 hnw
          refine hK.out _ _ ?hSyaa6 (fun hHeldyaa6 => ?hRyaa6)
          case hSyaa6 => exact ⟨Below.keepc hb6 n0c, Below.keepc hb6 x0c, Below.keepc hb6 x1c, Below.keepc hb6 x2c, Below.keepc hb6 x3c⟩
          clear hK K
          try simp only [Act.put, List.setIfInBounds_toArray, List.set_cons_zero, List.set_cons_succ]
          refine wpAnyH_take (i := 7) (oi := { dst := some 348, op := Op.fieldAddr 24 (Operand.tmp 33) 0, type := 0, pos := "law.go:112", after := #[{ on := 0, ground := Ground.phase }, { on := 1, ground := Ground.phase }, { on := 2, ground := Ground.phase }, { on := 3, ground := Ground.phase }, { on := 4, ground := Ground.phase }, { on := 5, ground := Ground.phase }, { on := 6, ground := Ground.phase }], guard := none }) (v := ?gvyaa7) rfl (by kernel_rfl) (by kernel_rfl) (by kernel_rfl) (fun _ _ _ h => h) (Or.inl ⟨by rfl, ?gyyaa7⟩) (by assumption) ?gryaa7
          case gyyaa7 => (intro w hSw; (try dsimp only at hSw); go_simp; try with_reducible rfl)
          try simp only [Act.put, List.setIfInBounds_toArray, List.set_cons_zero, List.set_cons_succ]
          obtain ⟨s0, s1', s2'⟩ := (HAq.out.keep hb6).cells
          obtain ⟨f0, f1, f2⟩ := (HAq.out.keep hb6).free
          refine wpAnyH_ready (rs := [8]) (by kernel_rfl) (by simp) ?_
          refine AllReadyH.cons (o := { dst := none, op := Op.store 22 (Operand.tmp 348) (Operand.tmp 347), type := 0, pos := "law.go:112", after := #[{ on := 7, ground := Ground.data }, { on := 6, ground := Ground.data }, { on := 6, ground := Ground.chain }, { on := 0, ground := Ground.phase }, { on := 1, ground := Ground.phase }, { on := 2, ground := Ground.phase }, { on := 3, ground := Ground.phase }, { on := 4, ground := Ground.phase }, { on := 5, ground := Ground.phase }, { on := 6, ground := Ground.phase }], guard := none }) rfl (fun K hK => ?_) AllReadyH.nil
          rw [if_pos (by kernel_rfl)]
          go_simp
          refine hK.out _ _ ?hSyaas (fun hHeldyaas => ?hRyaas)
          case hSyaas => exact ⟨far_cell (Below.keepc hb6 n0c) HXB.out.2, far_cell (Below.keepc hb6 x0c) HXB.out.1, far_cell (Below.keepc hb6 x1c) HXB.out.1, far_cell (Below.keepc hb6 x2c) HXB.out.1, far_cell (Below.keepc hb6 x3c) HXB.out.1⟩
          clear hK K
          try simp only [Act.put, List.setIfInBounds_toArray, List.set_cons_zero, List.set_cons_succ]
          refine wpAnyH_done (by kernel_rfl) ?_ _
          go_wp2_with fail
          go_meet
          have PO := put_one HAq.out hb6 hown6 HNK.out.symm HMAY.out.fits HMF.out HNN.out.1 HNN.out.2 HB7.out HRS.out.2.2
          exact ⟨(HVr.out.keep hb6).past (HAq.out.keep hb6) HRS.out.1, PO.1, PO.2⟩
        case yab =>
          rw [if_pos (by kernel_rfl)]
          go_simp
          refine hK.out _ _ ?hSyab7 (fun hHeldyab7 => ?hRyab7)
          case hSyab7 => exact ⟨Below.keepc ((hbA.drew.alloc (Nat.le_refl _) (.cells #[] 30)).alloc (hbA.drew.alloc (Nat.le_refl _) (.cells #[] 30)).size (.cells #[.int .i64 mi, .int .i64 mt, .string mb, .int .i64 mm] 30)) n0c, Below.keepc ((hbA.drew.alloc (Nat.le_refl _) (.cells #[] 30)).alloc (hbA.drew.alloc (Nat.le_refl _) (.cells #[] 30)).size (.cells #[.int .i64 mi, .int .i64 mt, .string mb, .int .i64 mm] 30)) x0c, Below.keepc ((hbA.drew.alloc (Nat.le_refl _) (.cells #[] 30)).alloc (hbA.drew.alloc (Nat.le_refl _) (.cells #[] 30)).size (.cells #[.int .i64 mi, .int .i64 mt, .string mb, .int .i64 mm] 30)) x1c, Below.keepc ((hbA.drew.alloc (Nat.le_refl _) (.cells #[] 30)).alloc (hbA.drew.alloc (Nat.le_refl _) (.cells #[] 30)).size (.cells #[.int .i64 mi, .int .i64 mt, .string mb, .int .i64 mm] 30)) x2c, Below.keepc ((hbA.drew.alloc (Nat.le_refl _) (.cells #[] 30)).alloc (hbA.drew.alloc (Nat.le_refl _) (.cells #[] 30)).size (.cells #[.int .i64 mi, .int .i64 mt, .string mb, .int .i64 mm] 30)) x3c⟩
          clear hK K
          try simp only [Act.put, List.setIfInBounds_toArray, List.set_cons_zero, List.set_cons_succ]
          refine wpAnyH_ready (rs := [3]) (by kernel_rfl) (by simp) ?_
          refine AllReadyH.cons (o := { dst := some 344, op := Op.call { callee := Callee.builtin Builtin.append, args := #[Operand.tmp 341, Operand.tmp 343], argTypes := #[22, 22] }, type := 22, pos := "law.go:112", after := #[{ on := 0, ground := Ground.data }, { on := 2, ground := Ground.data }], guard := none }) rfl (fun K hK => ?_) AllReadyH.nil
          have hO0 : ((w7.drew.alloc (.cells #[] 30)).alloc (.cells #[.int .i64 mi, .int .i64 mt, .string mb, .int .i64 mm] 30)).ownsRow w7.heap.size 30 4 _ 0 [] := ((World.ownsRow_lit (w7.drew) #[] 0 (Nat.le_refl _) (Nat.zero_le _) rfl) : (w7.drew.alloc (.cells #[] 30)).ownsRow w7.heap.size 30 4 _ 0 []).alloc (.cells #[.int .i64 mi, .int .i64 mt, .string mb, .int .i64 mm] 30)
          have hbc : Below w7.heap.size w7 ((w7.drew.alloc (.cells #[] 30)).alloc (.cells #[.int .i64 mi, .int .i64 mt, .string mb, .int .i64 mm] 30)) := ((hbA.drew.alloc (Nat.le_refl _) (.cells #[] 30)).alloc (hbA.drew.alloc (Nat.le_refl _) (.cells #[] 30)).size (.cells #[.int .i64 mi, .int .i64 mt, .string mb, .int .i64 mm] 30))
          refine step_append_src ((w7.drew.alloc (.cells #[] 30)).alloc (.cells #[.int .i64 mi, .int .i64 mt, .string mb, .int .i64 mm] 30)) (by rfl) (.tmp 341) (.tmp 343) 22 (by rfl) w7.heap.size 30 i1 (.agg #[.int .i64 0, .int .i64 0, .string ⟨#[]⟩, .int .i64 0]) 4 40 Try.underlying22 hi1 hy0 hy1 hy2 rfl (by decide) _ 0 [] (by rfl) hO0 _ nk _ (by rfl) (HSRC.out _ hbc) HONE.out (by unfold maxLen; omega) (by omega) hbc.size ?_
          intro v1 w4 hown4 hgrow4
          rw [Nat.zero_add, List.nil_append] at hown4
          have hb4 : Below w7.heap.size w7 w4 := hbc.grown hgrow4 hbc.size (fun k hk => (hO0.lt k hk).1)
          have hne : w4.heap[w7.heap.size + 1]? = some (.cells #[.int .i64 mi, .int .i64 mt, .string mb, .int .i64 mm] 30 (0, 0)) := row_next hgrow4
          clear hgrow4 hO0 hbc
          refine hK.out _ _ ?hSyab3 (fun hHeldyab3 => ?hRyab3)
          case hSyab3 => exact ⟨Below.keepc hb4 n0c, Below.keepc hb4 x0c, Below.keepc hb4 x1c, Below.keepc hb4 x2c, Below.keepc hb4 x3c⟩
          clear hK K
          try simp only [Act.put, List.setIfInBounds_toArray, List.set_cons_zero, List.set_cons_succ]
          refine wpAnyH_ready (rs := [6]) (by kernel_rfl) (by simp) ?_
          refine AllReadyH.cons (o := { dst := some 347, op := Op.call { callee := Callee.builtin Builtin.append, args := #[Operand.tmp 344, Operand.tmp 346], argTypes := #[22, 22] }, type := 22, pos := "law.go:112", after := #[{ on := 3, ground := Ground.data }, { on := 5, ground := Ground.data }, { on := 3, ground := Ground.chain }], guard := none }) rfl (fun K hK => ?_) AllReadyH.nil
          have hO5 : (w4).ownsRow w7.heap.size 30 4 v1 nk (cellsN n1.fl) := hown4
          have hb5 : Below w7.heap.size w7 (w4) := hb4
          have hnw : ∀ j u, [Value.int .i64 mi, Value.int .i64 mt, Value.string mb, Value.int .i64 mm][j]? = some u → (w4).cell? ((⟨w7.heap.size + 1, 0, none⟩ : Addr).add j) = some u := World.news_of_block hne
          refine step_append_lies (w4) (by rfl) (.tmp 344) (.tmp 346) 22 (by rfl) w7.heap.size 30 i1 (.agg #[.int .i64 0, .int .i64 0, .string ⟨#[]⟩, .int .i64 0]) 4 40 Try.underlying22 hi1 hy0 hy1 hy2 rfl (by decide) _ nk _ (by rfl) hO5 ⟨w7.heap.size + 1, 0, none⟩ 1 1 [.int .i64 mi, .int .i64 mt, .string mb, .int .i64 mm] (by rfl) (by rfl) hnw HMO.out (by decide) (by unfold maxLen; omega) (by omega) hb5.size _ rfl ?_
          intro g6 c6 w6 hown6 hgrow6 hat6 hlt6
          have hb6 : Below w7.heap.size w7 w6 := hb5.grown hgrow6 hb5.size (fun k hk => (hO5.lt k hk).1)
          clear hgrow6 hat6 hlt6 hO5 hb5 hnw
          refine hK.out _ _ ?hSyab6 (fun hHeldyab6 => ?hRyab6)
          case hSyab6 => exact ⟨Below.keepc hb6 n0c, Below.keepc hb6 x0c, Below.keepc hb6 x1c, Below.keepc hb6 x2c, Below.keepc hb6 x3c⟩
          clear hK K
          try simp only [Act.put, List.setIfInBounds_toArray, List.set_cons_zero, List.set_cons_succ]
          refine wpAnyH_take (i := 7) (oi := { dst := some 348, op := Op.fieldAddr 24 (Operand.tmp 33) 0, type := 0, pos := "law.go:112", after := #[{ on := 0, ground := Ground.phase }, { on := 1, ground := Ground.phase }, { on := 2, ground := Ground.phase }, { on := 3, ground := Ground.phase }, { on := 4, ground := Ground.phase }, { on := 5, ground := Ground.phase }, { on := 6, ground := Ground.phase }], guard := none }) (v := ?gvyab7) rfl (by kernel_rfl) (by kernel_rfl) (by kernel_rfl) (fun _ _ _ h => h) (Or.inl ⟨by rfl, ?gyyab7⟩) (by assumption) ?gryab7
          case gyyab7 => (intro w hSw; (try dsimp only at hSw); go_simp; try with_reducible rfl)
          try simp only [Act.put, List.setIfInBounds_toArray, List.set_cons_zero, List.set_cons_succ]
          obtain ⟨s0, s1', s2'⟩ := (HAq.out.keep hb6).cells
          obtain ⟨f0, f1, f2⟩ := (HAq.out.keep hb6).free
          refine wpAnyH_ready (rs := [8]) (by kernel_rfl) (by simp) ?_
          refine AllReadyH.cons (o := { dst := none, op := Op.store 22 (Operand.tmp 348) (Operand.tmp 347), type := 0, pos := "law.go:112", after := #[{ on := 7, ground := Ground.data }, { on := 6, ground := Ground.data }, { on := 6, ground := Ground.chain }, { on := 0, ground := Ground.phase }, { on := 1, ground := Ground.phase }, { on := 2, ground := Ground.phase }, { on := 3, ground := Ground.phase }, { on := 4, ground := Ground.phase }, { on := 5, ground := Ground.phase }, { on := 6, ground := Ground.phase }], guard := none }) rfl (fun K hK => ?_) AllReadyH.nil
          rw [if_pos (by kernel_rfl)]
          go_simp
          refine hK.out _ _ ?hSyabs (fun hHeldyabs => ?hRyabs)
          case hSyabs => exact ⟨far_cell (Below.keepc hb6 n0c) HXB.out.2, far_cell (Below.keepc hb6 x0c) HXB.out.1, far_cell (Below.keepc hb6 x1c) HXB.out.1, far_cell (Below.keepc hb6 x2c) HXB.out.1, far_cell (Below.keepc hb6 x3c) HXB.out.1⟩
          clear hK K
          try simp only [Act.put, List.setIfInBounds_toArray, List.set_cons_zero, List.set_cons_succ]
          refine wpAnyH_done (by kernel_rfl) ?_ _
          go_wp2_with fail
          go_meet
          have PO := put_one HAq.out hb6 hown6 HNK.out.symm HMAY.out.fits HMF.out HNN.out.1 HNN.out.2 HB7.out HRS.out.2.2
          exact ⟨(HVr.out.keep hb6).past (HAq.out.keep hb6) HRS.out.1, PO.1, PO.2⟩
      case yb =>
        rw [if_pos (by kernel_rfl)]
        go_simp
        refine hK.out _ _ ?hSyb7 (fun hHeldyb7 => ?hRyb7)
        case hSyb7 => exact ⟨Below.keepc (hbA.drew.alloc (Nat.le_refl _) (.cells #[.int .i64 mi, .int .i64 mt, .string mb, .int .i64 mm] 30)) n0c, Below.keepc (hbA.drew.alloc (Nat.le_refl _) (.cells #[.int .i64 mi, .int .i64 mt, .string mb, .int .i64 mm] 30)) x0c, Below.keepc (hbA.drew.alloc (Nat.le_refl _) (.cells #[.int .i64 mi, .int .i64 mt, .string mb, .int .i64 mm] 30)) x1c, Below.keepc (hbA.drew.alloc (Nat.le_refl _) (.cells #[.int .i64 mi, .int .i64 mt, .string mb, .int .i64 mm] 30)) x2c, Below.keepc (hbA.drew.alloc (Nat.le_refl _) (.cells #[.int .i64 mi, .int .i64 mt, .string mb, .int .i64 mm] 30)) x3c⟩
        clear hK K
        try simp only [Act.put, List.setIfInBounds_toArray, List.set_cons_zero, List.set_cons_succ]
        refine wpAnyH_ready (rs := [0]) (by kernel_rfl) (by simp) ?_
        refine AllReadyH.cons (o := { dst := some 341, op := Op.buildSlice 22 0 #[], type := 22, pos := "law.go:112", after := #[], guard := none }) rfl (fun K hK => ?_) AllReadyH.nil
        rw [if_pos (by kernel_rfl)]
        go_simp
        refine hK.out _ _ ?hSyb0 (fun hHeldyb0 => ?hRyb0)
        case hSyb0 => exact ⟨Below.keepc ((hbA.drew.alloc (Nat.le_refl _) (.cells #[.int .i64 mi, .int .i64 mt, .string mb, .int .i64 mm] 30)).alloc (hbA.drew.alloc (Nat.le_refl _) (.cells #[.int .i64 mi, .int .i64 mt, .string mb, .int .i64 mm] 30)).size (.cells #[] 30)) n0c, Below.keepc ((hbA.drew.alloc (Nat.le_refl _) (.cells #[.int .i64 mi, .int .i64 mt, .string mb, .int .i64 mm] 30)).alloc (hbA.drew.alloc (Nat.le_refl _) (.cells #[.int .i64 mi, .int .i64 mt, .string mb, .int .i64 mm] 30)).size (.cells #[] 30)) x0c, Below.keepc ((hbA.drew.alloc (Nat.le_refl _) (.cells #[.int .i64 mi, .int .i64 mt, .string mb, .int .i64 mm] 30)).alloc (hbA.drew.alloc (Nat.le_refl _) (.cells #[.int .i64 mi, .int .i64 mt, .string mb, .int .i64 mm] 30)).size (.cells #[] 30)) x1c, Below.keepc ((hbA.drew.alloc (Nat.le_refl _) (.cells #[.int .i64 mi, .int .i64 mt, .string mb, .int .i64 mm] 30)).alloc (hbA.drew.alloc (Nat.le_refl _) (.cells #[.int .i64 mi, .int .i64 mt, .string mb, .int .i64 mm] 30)).size (.cells #[] 30)) x2c, Below.keepc ((hbA.drew.alloc (Nat.le_refl _) (.cells #[.int .i64 mi, .int .i64 mt, .string mb, .int .i64 mm] 30)).alloc (hbA.drew.alloc (Nat.le_refl _) (.cells #[.int .i64 mi, .int .i64 mt, .string mb, .int .i64 mm] 30)).size (.cells #[] 30)) x3c⟩
        clear hK K
        try simp only [Act.put, List.setIfInBounds_toArray, List.set_cons_zero, List.set_cons_succ]
        refine wpAnyH_ready (rs := [3]) (by kernel_rfl) (by simp) ?_
        refine AllReadyH.cons (o := { dst := some 344, op := Op.call { callee := Callee.builtin Builtin.append, args := #[Operand.tmp 341, Operand.tmp 343], argTypes := #[22, 22] }, type := 22, pos := "law.go:112", after := #[{ on := 0, ground := Ground.data }, { on := 2, ground := Ground.data }], guard := none }) rfl (fun K hK => ?_) AllReadyH.nil
        have hO00 : ((w7.drew.alloc (.cells #[.int .i64 mi, .int .i64 mt, .string mb, .int .i64 mm] 30)).alloc (.cells #[] 30)).ownsRow w7.heap.size 30 4 (.slice (some ⟨(w7.drew.alloc (.cells #[.int .i64 mi, .int .i64 mt, .string mb, .int .i64 mm] 30)).heap.size, 0, none⟩) 0 0) 0 [] := (World.ownsRow_lit (w7.drew.alloc (.cells #[.int .i64 mi, .int .i64 mt, .string mb, .int .i64 mm] 30)) #[] 0 (hbA.drew.alloc (Nat.le_refl _) (.cells #[.int .i64 mi, .int .i64 mt, .string mb, .int .i64 mm] 30)).size (Nat.zero_le _) rfl)
        rw [size_one w7 (.cells #[.int .i64 mi, .int .i64 mt, .string mb, .int .i64 mm] 30)] at hO00
        have hO0 : ((w7.drew.alloc (.cells #[.int .i64 mi, .int .i64 mt, .string mb, .int .i64 mm] 30)).alloc (.cells #[] 30)).ownsRow w7.heap.size 30 4 _ 0 [] := hO00
        have hbc : Below w7.heap.size w7 ((w7.drew.alloc (.cells #[.int .i64 mi, .int .i64 mt, .string mb, .int .i64 mm] 30)).alloc (.cells #[] 30)) := ((hbA.drew.alloc (Nat.le_refl _) (.cells #[.int .i64 mi, .int .i64 mt, .string mb, .int .i64 mm] 30)).alloc (hbA.drew.alloc (Nat.le_refl _) (.cells #[.int .i64 mi, .int .i64 mt, .string mb, .int .i64 mm] 30)).size (.cells #[] 30))
        refine step_append_src ((w7.drew.alloc (.cells #[.int .i64 mi, .int .i64 mt, .string mb, .int .i64 mm] 30)).alloc (.cells #[] 30)) (by rfl) (.tmp 341) (.tmp 343) 22 (by rfl) w7.heap.size 30 i1 (.agg #[.int .i64 0, .int .i64 0, .string ⟨#[]⟩, .int .i64 0]) 4 40 Try.underlying22 hi1 hy0 hy1 hy2 rfl (by decide) _ 0 [] (by rfl) hO0 _ nk _ (by rfl) (HSRC.out _ hbc) HONE.out (by unfold maxLen; omega) (by omega) hbc.size ?_
        intro v1 w4 hown4 hgrow4
        rw [Nat.zero_add, List.nil_append] at hown4
        have hb4 : Below w7.heap.size w7 w4 := hbc.grown hgrow4 hbc.size (fun k hk => (hO0.lt k hk).1)
        have hne : w4.heap[w7.heap.size]? = some (.cells #[.int .i64 mi, .int .i64 mt, .string mb, .int .i64 mm] 30 (0, 0)) := row_first hgrow4
        clear hgrow4 hO0 hbc hO00
        refine hK.out _ _ ?hSyb3 (fun hHeldyb3 => ?hRyb3)
        case hSyb3 => exact ⟨Below.keepc hb4 n0c, Below.keepc hb4 x0c, Below.keepc hb4 x1c, Below.keepc hb4 x2c, Below.keepc hb4 x3c⟩
        clear hK K
        try simp only [Act.put, List.setIfInBounds_toArray, List.set_cons_zero, List.set_cons_succ]
        refine wpAnyH_ready (rs := [6]) (by kernel_rfl) (by simp) ?_
        refine AllReadyH.cons (o := { dst := some 347, op := Op.call { callee := Callee.builtin Builtin.append, args := #[Operand.tmp 344, Operand.tmp 346], argTypes := #[22, 22] }, type := 22, pos := "law.go:112", after := #[{ on := 3, ground := Ground.data }, { on := 5, ground := Ground.data }, { on := 3, ground := Ground.chain }], guard := none }) rfl (fun K hK => ?_) AllReadyH.nil
        have hO5 : (w4).ownsRow w7.heap.size 30 4 v1 nk (cellsN n1.fl) := hown4
        have hb5 : Below w7.heap.size w7 (w4) := hb4
        have hnw : ∀ j u, [Value.int .i64 mi, Value.int .i64 mt, Value.string mb, Value.int .i64 mm][j]? = some u → (w4).cell? ((⟨w7.drew.heap.size, 0, none⟩ : Addr).add j) = some u := World.news_of_block hne
        refine step_append_lies (w4) (by rfl) (.tmp 344) (.tmp 346) 22 (by rfl) w7.heap.size 30 i1 (.agg #[.int .i64 0, .int .i64 0, .string ⟨#[]⟩, .int .i64 0]) 4 40 Try.underlying22 hi1 hy0 hy1 hy2 rfl (by decide) _ nk _ (by rfl) hO5 ⟨w7.drew.heap.size, 0, none⟩ 1 1 [.int .i64 mi, .int .i64 mt, .string mb, .int .i64 mm] (by rfl) (by rfl) hnw HMO.out (by decide) (by unfold maxLen; omega) (by omega) hb5.size _ rfl ?_
        intro g6 c6 w6 hown6 hgrow6 hat6 hlt6
        have hb6 : Below w7.heap.size w7 w6 := hb5.grown hgrow6 hb5.size (fun k hk => (hO5.lt k hk).1)
        clear hgrow6 hat6 hlt6 hO5 hb5 hnw
        refine hK.out _ _ ?hSyb6 (fun hHeldyb6 => ?hRyb6)
        case hSyb6 => exact ⟨Below.keepc hb6 n0c, Below.keepc hb6 x0c, Below.keepc hb6 x1c, Below.keepc hb6 x2c, Below.keepc hb6 x3c⟩
        clear hK K
        try simp only [Act.put, List.setIfInBounds_toArray, List.set_cons_zero, List.set_cons_succ]
        refine wpAnyH_take (i := 7) (oi := { dst := some 348, op := Op.fieldAddr 24 (Operand.tmp 33) 0, type := 0, pos := "law.go:112", after := #[{ on := 0, ground := Ground.phase }, { on := 1, ground := Ground.phase }, { on := 2, ground := Ground.phase }, { on := 3, ground := Ground.phase }, { on := 4, ground := Ground.phase }, { on := 5, ground := Ground.phase }, { on := 6, ground := Ground.phase }], guard := none }) (v := ?gvyb7) rfl (by kernel_rfl) (by kernel_rfl) (by kernel_rfl) (fun _ _ _ h => h) (Or.inl ⟨by rfl, ?gyyb7⟩) (by assumption) ?gryb7
        case gyyb7 => (intro w hSw; (try dsimp only at hSw); go_simp; try with_reducible rfl)
        try simp only [Act.put, List.setIfInBounds_toArray, List.set_cons_zero, List.set_cons_succ]
        obtain ⟨s0, s1', s2'⟩ := (HAq.out.keep hb6).cells
        obtain ⟨f0, f1, f2⟩ := (HAq.out.keep hb6).free
        refine wpAnyH_ready (rs := [8]) (by kernel_rfl) (by simp) ?_
        refine AllReadyH.cons (o := { dst := none, op := Op.store 22 (Operand.tmp 348) (Operand.tmp 347), type := 0, pos := "law.go:112", after := #[{ on := 7, ground := Ground.data }, { on := 6, ground := Ground.data }, { on := 6, ground := Ground.chain }, { on := 0, ground := Ground.phase }, { on := 1, ground := Ground.phase }, { on := 2, ground := Ground.phase }, { on := 3, ground := Ground.phase }, { on := 4, ground := Ground.phase }, { on := 5, ground := Ground.phase }, { on := 6, ground := Ground.phase }], guard := none }) rfl (fun K hK => ?_) AllReadyH.nil
        rw [if_pos (by kernel_rfl)]
        go_simp
        refine hK.out _ _ ?hSybs (fun hHeldybs => ?hRybs)
        case hSybs => exact ⟨far_cell (Below.keepc hb6 n0c) HXB.out.2, far_cell (Below.keepc hb6 x0c) HXB.out.1, far_cell (Below.keepc hb6 x1c) HXB.out.1, far_cell (Below.keepc hb6 x2c) HXB.out.1, far_cell (Below.keepc hb6 x3c) HXB.out.1⟩
        clear hK K
        try simp only [Act.put, List.setIfInBounds_toArray, List.set_cons_zero, List.set_cons_succ]
        refine wpAnyH_done (by kernel_rfl) ?_ _
        go_wp2_with fail
        go_meet
        have PO := put_one HAq.out hb6 hown6 HNK.out.symm HMAY.out.fits HMF.out HNN.out.1 HNN.out.2 HB7.out HRS.out.2.2
        exact ⟨(HVr.out.keep hb6).past (HAq.out.keep hb6) HRS.out.1, PO.1, PO.2⟩
  case rest =>
  obtain ⟨hVr, hVs, hb8⟩ := hcut
  obtain ⟨w8, rfl⟩ : ∃ x : World, x = wc := ⟨_, rfl⟩
  clear n0c x0c x1c x2c x3c hbA HSRC HONE HMO HAq HVr KS HB7
  replace Hn := Lib.hid (Hn.out.keep hb8)
  replace Ha := Lib.hid (Ha.out.keep hb8)
  replace Hb := Lib.hid (Hb.out.keep hb8)
  replace Hc := Lib.hid (Hc.out.keep hb8)
  replace Hd := Lib.hid (Hd.out.keep hb8)
  replace Hp := Lib.hid (Hp.out.keep hb8)
  replace Ho := Lib.hid (Ho.out.keep hb8)
  replace Hm := Lib.hid (Hm.out.keep hb8)
  replace Hru := Lib.hid (Hru.out.keep hb8)
  replace HB := Lib.hid (Below.then HB.out hb8)
  replace HX := Lib.hid (HX.out.keep hb8)
  have Hr := Lib.hid hVr
  have Hs := Lib.hid hVs
  clear hVr hVs hb8 HAN HVN HRW
  obtain ⟨x0, x1, x2, x3⟩ := HX.out.cells
  obtain ⟨y0, y1, y2, y3⟩ := Hm.out.cells
  have qs1 : (mi == mi) = true := by simp
  have qs2 : (mt == mt) = true := by simp
  have qs3 : (mb.toList == mb.toList) = true := by simp
  have qs4 : (mm == mm) = true := by simp
  obtain ⟨ua, uk, uc, ul, ut, hA, hV⟩ := Hb.out.is
  obtain ⟨wa, wk, wc', wl, wt, hA2, hV2⟩ := Hr.out.is
  have C := Lib.hid (LK.out tb ⟨n1.fl.take p ++ n1.fl.drop (p + 1), nl, nt⟩ _ _ w8 hV hV2 (by rw [← HTB.out.1, HNL.out, HNT.out]))
  obtain ⟨a0, a1, a2⟩ := hA.cells
  obtain ⟨b0, b1, b2⟩ := hA2.cells
  clear hA hV hA2 hV2
  go_wp2_with fail
  refine C.out.mono ?_
  rintro e w19 ⟨rfl, hb1⟩
  replace HB := Lib.hid (Below.then HB.out hb1)
  replace Hn := Lib.hid (Hn.out.keep hb1)
  replace Ha := Lib.hid (Ha.out.keep hb1)
  replace Hb := Lib.hid (Hb.out.keep hb1)
  replace Hc := Lib.hid (Hc.out.keep hb1)
  replace Hd := Lib.hid (Hd.out.keep hb1)
  replace Hp := Lib.hid (Hp.out.keep hb1)
  replace Ho := Lib.hid (Ho.out.keep hb1)
  replace Hr := Lib.hid (Hr.out.keep hb1)
  replace Hs := Lib.hid (Hs.out.keep hb1)
  replace Hm := Lib.hid (Hm.out.keep hb1)
  replace Hru := Lib.hid (Hru.out.keep hb1)
  replace HX := Lib.hid (HX.out.keep hb1)
  clear C hb1 a0 a1 a2 b0 b1 b2 x0 x1 x2 x3 y0 y1 y2 y3 qs1 qs2 qs3 qs4
  obtain ⟨ua, uk, uc, ul, ut, hA, hV⟩ := Hd.out.is
  obtain ⟨wa, wk, wc', wl, wt, hA2, hV2⟩ := Hr.out.is
  have C := Lib.hid (LK.out td ⟨n1.fl.take p ++ n1.fl.drop (p + 1), nl, nt⟩ _ _ w19 hV hV2 (by rw [← HTB.out.2.1, HNL.out, HNT.out]))
  obtain ⟨a0, a1, a2⟩ := hA.cells
  obtain ⟨b0, b1, b2⟩ := hA2.cells
  clear hA hV hA2 hV2
  go_wp2_with fail
  refine C.out.mono ?_
  rintro e w20 ⟨rfl, hb1⟩
  replace HB := Lib.hid (Below.then HB.out hb1)
  replace Hn := Lib.hid (Hn.out.keep hb1)
  replace Ha := Lib.hid (Ha.out.keep hb1)
  replace Hb := Lib.hid (Hb.out.keep hb1)
  replace Hc := Lib.hid (Hc.out.keep hb1)
  replace Hd := Lib.hid (Hd.out.keep hb1)
  replace Hp := Lib.hid (Hp.out.keep hb1)
  replace Ho := Lib.hid (Ho.out.keep hb1)
  replace Hr := Lib.hid (Hr.out.keep hb1)
  replace Hs := Lib.hid (Hs.out.keep hb1)
  replace Hm := Lib.hid (Hm.out.keep hb1)
  replace Hru := Lib.hid (Hru.out.keep hb1)
  replace HX := Lib.hid (HX.out.keep hb1)
  clear C hb1 a0 a1 a2 b0 b1 b2 
  obtain ⟨ga, gk, gc, gl, gt, hA, hV⟩ := Hn.out.is
  have hgk := hV.parts.1.trans HNK.out.symm
  rw [hgk] at hA
  obtain ⟨a0, a1, a2⟩ := hA.cells
  clear hA hV hgk
  by_cases c9 : nk = 32
  · have e3 := E3.out
    rw [twice_full HR.out hpk (by rw [← HNK.out]; exact c9)] at e3
    simp only [Prod.mk.injEq] at e3
    obtain ⟨rfl, rfl⟩ := e3
    have q9 : ((nk : Int) == 32) = true := by rw [c9]; rfl
    clear c9
    go_upto_region 55 with fail
    clear a0 a1 a2 q9
    obtain ⟨ua, uk, uc, ul, ut, hA, hV⟩ := Hc.out.is
    obtain ⟨wa, wk, wc', wl, wt, hA2, hV2⟩ := Ho.out.is
    have C := Lib.hid (LK.out noN noN _ _ w20 hV hV2 rfl)
    obtain ⟨a0, a1, a2⟩ := hA.cells
    obtain ⟨b0, b1, b2⟩ := hA2.cells
    clear hA hV hA2 hV2
    go_wp2_with fail
    refine C.out.mono ?_
    rintro e w21 ⟨rfl, hb1⟩
    replace HB := Lib.hid (Below.then HB.out hb1)
    replace Hn := Lib.hid (Hn.out.keep hb1)
    replace Ha := Lib.hid (Ha.out.keep hb1)
    replace Hb := Lib.hid (Hb.out.keep hb1)
    replace Hc := Lib.hid (Hc.out.keep hb1)
    replace Hd := Lib.hid (Hd.out.keep hb1)
    replace Hp := Lib.hid (Hp.out.keep hb1)
    replace Ho := Lib.hid (Ho.out.keep hb1)
    replace Hr := Lib.hid (Hr.out.keep hb1)
    replace Hs := Lib.hid (Hs.out.keep hb1)
    replace Hm := Lib.hid (Hm.out.keep hb1)
    replace Hru := Lib.hid (Hru.out.keep hb1)
    replace HX := Lib.hid (HX.out.keep hb1)
    clear C hb1 a0 a1 a2 b0 b1 b2 
    go_wp2_with fail
    go_ret
    exact ⟨rfl, HB.out⟩
  · have e3 := E3.out
    rw [twice_some HR.out hpk (by rw [← HNK.out]; exact c9)] at e3
    simp only [Prod.mk.injEq] at e3
    obtain ⟨htc, rfl⟩ := e3
    have HTC := Lib.hid htc
    have q9 : ((nk : Int) == 32) = false := beq_eq_false_iff_ne.2 (by omega)
    clear c9 htc
    go_upto_region 56 with fail
    clear a0 a1 a2 q9
    obtain ⟨ua, uk, uc, ul, ut, hA, hV⟩ := Hc.out.is
    obtain ⟨wa, wk, wc', wl, wt, hA2, hV2⟩ := Hs.out.is
    have C := Lib.hid (LK.out tc ⟨n1.fl ++ [⟨mi, mt, mb, mm⟩], nl, nt⟩ _ _ w20 hV hV2 (by rw [← HTC.out, HTB.out.2.2, HNL.out, HNT.out]))
    obtain ⟨a0, a1, a2⟩ := hA.cells
    obtain ⟨b0, b1, b2⟩ := hA2.cells
    clear hA hV hA2 hV2
    go_wp2_with fail
    refine C.out.mono ?_
    rintro e w21 ⟨rfl, hb1⟩
    replace HB := Lib.hid (Below.then HB.out hb1)
    replace Hn := Lib.hid (Hn.out.keep hb1)
    replace Ha := Lib.hid (Ha.out.keep hb1)
    replace Hb := Lib.hid (Hb.out.keep hb1)
    replace Hc := Lib.hid (Hc.out.keep hb1)
    replace Hd := Lib.hid (Hd.out.keep hb1)
    replace Hp := Lib.hid (Hp.out.keep hb1)
    replace Ho := Lib.hid (Ho.out.keep hb1)
    replace Hr := Lib.hid (Hr.out.keep hb1)
    replace Hs := Lib.hid (Hs.out.keep hb1)
    replace Hm := Lib.hid (Hm.out.keep hb1)
    replace Hru := Lib.hid (Hru.out.keep hb1)
    replace HX := Lib.hid (HX.out.keep hb1)
    clear C hb1 a0 a1 a2 b0 b1 b2 
    go_wp2_with fail
    go_ret
    exact ⟨rfl, HB.out⟩
end Go.Proofs.Ytjjefdgcbdfclaa
