/-
  BlobWrites of the laws, by a contract: it answers true. Conditions: the digest's tables and octet's errors lie where they were laid.
-/
import Derived.Test.YtodjhmphneoifaaGreatDoorZLaw3
import Derived.Lib.MinMax
import Derived.Deep.RegionHeld3
namespace Go.Proofs.YtodjhmphneoifaaGreatDoor
open Go.RowKit Go.WideShapes

set_option maxRecDepth 100000 in
set_option maxHeartbeats 8000000 in
theorem writes_any (aD aS aZ : Addr) (v : Value) (b0 : Blb) (id offset : Int) (s0 d : ByteArray) (w : World) (he : DEnv w aD aS aZ) (h : BlbAt w v b0) (hs0 : s0.size ≤ maxLen) (hd : d.size ≤ maxLen) :
    Calls Tryz.prog 4 #[v, .int .i64 id, .int .i64 offset, .string s0, .string d] w fun e w' => e = .returned (.bool true) ∧ Below w.heap.size w w' := by
  unfold maxLen at hs0 hd
  have HE := Lib.hid he
  obtain ⟨m, hm⟩ : ∃ m, min s0.size 4100 = m := ⟨_, rfl⟩
  have q3 : min (s0.size : Int) 4100 = (m : Int) := by omega
  have hms : m ≤ s0.size ∧ m ≤ 4100 := by omega
  obtain ⟨s, hss⟩ : ∃ s, s0.extract 0 m = s := ⟨_, rfl⟩
  have hsm : s.size ≤ 4100 := by rw [← hss, ByteArray.size_extract]; omega
  obtain ⟨ya, yn, yc, yq, ya', yn', yc', yl, rfl⟩ := h.four
  have HV1 := Lib.hid h
  obtain ⟨w0, hw0⟩ : ∃ x, w.alloc (.cells #[.slice ya yn yc, .int .i64 yq, .slice ya' yn' yc', .int .i64 yl] 25) = x := ⟨_, rfl⟩
  obtain ⟨Bb, hBb⟩ : ∃ x, w.heap.size = x := ⟨_, rfl⟩
  have Hb := Lib.hid (show VarB w0 Bb b0 by rw [← hw0, ← hBb]; exact VarB.new HV1.out)
  have HB := Lib.hid (show Below w.heap.size w w0 by rw [← hw0]; exact below_new _ _)
  have HLb := Lib.hid (show w.heap.size ≤ Bb by rw [← hBb]; exact Nat.le_refl _)
  have HW0 := Lib.hid hw0
  clear he h hw0 HV1 hm
  go_enter Tryz.func4, Tryz.ntmps4
  go_upto_region 1 with fail
  rw [HW0.out]
  clear hBb HW0
  obtain ⟨xa, xn, xc, xq, xa', xn', xc', xl, hA, hV⟩ := Hb.out.is
  have C0 := few_v _ b0  w0 aD aS aZ hV (HE.out.keep HB.out)
  have C := Lib.hid C0
  clear C0
  obtain ⟨a0, a1, a2, a3⟩ := hA.cells
  clear hA hV
  go_wp2_with fail
  refine C.out.mono ?_
  rintro e w1 ⟨v1, rfl, hv1, hb1⟩
  obtain ⟨ya, yn, yc, yq, ya', yn', yc', yl, rfl⟩ := hv1.four
  have HV1 := Lib.hid hv1
  replace HB := Lib.hid (Below.then HB.out hb1)
  replace Hb := Lib.hid (Hb.out.keep hb1)
  clear C hb1 a0 a1 a2 a3 hv1
  obtain ⟨za, zn, zc, zq, za', zn', zc', zl, hA, hV⟩ := Hb.out.is
  obtain ⟨a0, a1, a2, a3⟩ := hA.cells
  obtain ⟨f0, f1, f2, f3⟩ := hA.free
  clear hA hV
  go_upto_region 2 with fail
  obtain ⟨w2, hw2⟩ : ∃ x, (((w1.setCell ⟨Bb, 0, none⟩ (.slice ya yn yc)).setCell ⟨Bb, 1, none⟩ (.int .i64 yq)).setCell ⟨Bb, 2, none⟩ (.slice ya' yn' yc')).setCell ⟨Bb, 3, none⟩ (.int .i64 yl) = x := ⟨_, rfl⟩
  rw [hw2]
  replace Hb := Lib.hid (show VarB w2 Bb (fewB b0) by rw [← hw2]; exact Hb.out.set HV1.out)
  replace HB := Lib.hid (show Below w.heap.size w w2 by rw [← hw2]; exact set4_below HB.out HLb.out (.slice ya yn yc) (.int .i64 yq) (.slice ya' yn' yc') (.int .i64 yl))
  clear hw2 a0 a1 a2 a3 f0 f1 f2 f3 HV1
  obtain ⟨bl, hbl⟩ : ∃ x, fewB b0 = x := ⟨_, rfl⟩
  rw [hbl] at Hb
  have HF := Lib.hid (show FewIs bl by rw [← hbl]; exact fewB_few b0)
  clear hbl
  obtain ⟨r, hr⟩ : ∃ r, rightBlb bl = r := ⟨_, rfl⟩
  have HRR := Lib.hid hr
  clear hr
  obtain ⟨rx, ix, ex, hx⟩ : ∃ r i e, beginB bl = (r, i, e) := ⟨_, _, _, rfl⟩
  have HQx := Lib.hid hx
  clear hx
  obtain ⟨xa, xn, xc, xq, xa', xn', xc', xl, hA, hV⟩ := Hb.out.is
  have C0 := Begin_t _ bl  w2 aD aS aZ hV (HE.out.keep HB.out)
  rw [HQx.out] at C0
  have C := Lib.hid C0
  clear C0
  obtain ⟨a0, a1, a2, a3⟩ := hA.cells
  clear hA hV
  go_wp2_with fail
  refine C.out.mono ?_
  rintro e w3 ⟨v1, rfl, hv1, hb1⟩
  obtain ⟨ya, yn, yc, yq, ya', yn', yc', yl, rfl⟩ := hv1.four
  have HV1 := Lib.hid hv1
  replace HB := Lib.hid (Below.then HB.out hb1)
  replace Hb := Lib.hid (Hb.out.keep hb1)
  clear C hb1 a0 a1 a2 a3 hv1
  obtain ⟨w4, hw2⟩ : ∃ x, w3.alloc (.cells #[.slice ya yn yc, .int .i64 yq, .slice ya' yn' yc', .int .i64 yl] 25) = x := ⟨_, rfl⟩
  obtain ⟨Bx, hBx⟩ : ∃ x, w3.heap.size = x := ⟨_, rfl⟩
  have Hx := Lib.hid (show VarB w4 Bx rx by rw [← hw2, ← hBx]; exact VarB.new HV1.out)
  have hb2 : Below w3.heap.size w3 w4 := by rw [← hw2]; exact below_new _ _
  have HNbx := Lib.hid (show Bb ≠ Bx by have := Hb.out.lt; omega)
  have HNxb := Lib.hid (HNbx.out.symm)
  replace Hb := Lib.hid (Hb.out.keep hb2)
  have HLx := Lib.hid (show w.heap.size ≤ Bx by rw [← hBx]; exact HB.out.size)
  replace HB := Lib.hid (Below.then HB.out hb2)
  have HW2 := Lib.hid hw2
  clear hw2 hb2 HV1
  go_upto_region 4 with fail
  rw [HW2.out]
  clear hBx HW2
  obtain ⟨ry, ey, hy⟩ : ∃ r e, pushB bl id offset s = (r, e) := ⟨_, _, rfl⟩
  have HQy := Lib.hid hy
  clear hy
  obtain ⟨xa, xn, xc, xq, xa', xn', xc', xl, hA, hV⟩ := Hb.out.is
  have C0 := Push_t _ bl id offset s w4 aD aS aZ hV (HE.out.keep HB.out) (by omega)
  rw [HQy.out] at C0
  have C := Lib.hid C0
  clear C0
  obtain ⟨a0, a1, a2, a3⟩ := hA.cells
  clear hA hV
  go_wp2_with fail
  refine C.out.mono ?_
  rintro e w5 ⟨v1, rfl, hv1, hb1⟩
  obtain ⟨ya, yn, yc, yq, ya', yn', yc', yl, rfl⟩ := hv1.four
  have HV1 := Lib.hid hv1
  replace HB := Lib.hid (Below.then HB.out hb1)
  replace Hb := Lib.hid (Hb.out.keep hb1)
  replace Hx := Lib.hid (Hx.out.keep hb1)
  clear C hb1 a0 a1 a2 a3 hv1
  obtain ⟨w6, hw2⟩ : ∃ x, w5.alloc (.cells #[.slice ya yn yc, .int .i64 yq, .slice ya' yn' yc', .int .i64 yl] 25) = x := ⟨_, rfl⟩
  obtain ⟨By, hBy⟩ : ∃ x, w5.heap.size = x := ⟨_, rfl⟩
  have Hy := Lib.hid (show VarB w6 By ry by rw [← hw2, ← hBy]; exact VarB.new HV1.out)
  have hb2 : Below w5.heap.size w5 w6 := by rw [← hw2]; exact below_new _ _
  have HNby := Lib.hid (show Bb ≠ By by have := Hb.out.lt; omega)
  have HNyb := Lib.hid (HNby.out.symm)
  replace Hb := Lib.hid (Hb.out.keep hb2)
  have HNxy := Lib.hid (show Bx ≠ By by have := Hx.out.lt; omega)
  have HNyx := Lib.hid (HNxy.out.symm)
  replace Hx := Lib.hid (Hx.out.keep hb2)
  have HLy := Lib.hid (show w.heap.size ≤ By by rw [← hBy]; exact HB.out.size)
  replace HB := Lib.hid (Below.then HB.out hb2)
  have HW2 := Lib.hid hw2
  clear hw2 hb2 HV1
  go_upto_region 5 with fail
  rw [HW2.out]
  clear hBy HW2
  obtain ⟨rz, ez, hz⟩ : ∃ r e, endB bl id d = (r, e) := ⟨_, _, rfl⟩
  have HQz := Lib.hid hz
  clear hz
  obtain ⟨xa, xn, xc, xq, xa', xn', xc', xl, hA, hV⟩ := Hb.out.is
  have C0 := End_t _ bl id d w6 aD aS aZ hV (HE.out.keep HB.out) (by omega)
  rw [HQz.out] at C0
  have C := Lib.hid C0
  clear C0
  obtain ⟨a0, a1, a2, a3⟩ := hA.cells
  clear hA hV
  go_wp2_with fail
  refine C.out.mono ?_
  rintro e w7 ⟨v1, rfl, hv1, hb1⟩
  obtain ⟨ya, yn, yc, yq, ya', yn', yc', yl, rfl⟩ := hv1.four
  have HV1 := Lib.hid hv1
  replace HB := Lib.hid (Below.then HB.out hb1)
  replace Hb := Lib.hid (Hb.out.keep hb1)
  replace Hx := Lib.hid (Hx.out.keep hb1)
  replace Hy := Lib.hid (Hy.out.keep hb1)
  clear C hb1 a0 a1 a2 a3 hv1
  obtain ⟨w8, hw2⟩ : ∃ x, w7.alloc (.cells #[.slice ya yn yc, .int .i64 yq, .slice ya' yn' yc', .int .i64 yl] 25) = x := ⟨_, rfl⟩
  obtain ⟨Bz, hBz⟩ : ∃ x, w7.heap.size = x := ⟨_, rfl⟩
  have Hz := Lib.hid (show VarB w8 Bz rz by rw [← hw2, ← hBz]; exact VarB.new HV1.out)
  have hb2 : Below w7.heap.size w7 w8 := by rw [← hw2]; exact below_new _ _
  have HNbz := Lib.hid (show Bb ≠ Bz by have := Hb.out.lt; omega)
  have HNzb := Lib.hid (HNbz.out.symm)
  replace Hb := Lib.hid (Hb.out.keep hb2)
  have HNxz := Lib.hid (show Bx ≠ Bz by have := Hx.out.lt; omega)
  have HNzx := Lib.hid (HNxz.out.symm)
  replace Hx := Lib.hid (Hx.out.keep hb2)
  have HNyz := Lib.hid (show By ≠ Bz by have := Hy.out.lt; omega)
  have HNzy := Lib.hid (HNyz.out.symm)
  replace Hy := Lib.hid (Hy.out.keep hb2)
  have HLz := Lib.hid (show w.heap.size ≤ Bz by rw [← hBz]; exact HB.out.size)
  replace HB := Lib.hid (Below.then HB.out hb2)
  have HW2 := Lib.hid hw2
  clear hw2 hb2 HV1
  go_upto_region 6 with fail
  rw [HW2.out]
  clear hBz HW2
  obtain ⟨rv, ev, hv⟩ : ∃ r e, dropB bl id = (r, e) := ⟨_, _, rfl⟩
  have HQv := Lib.hid hv
  clear hv
  obtain ⟨xa, xn, xc, xq, xa', xn', xc', xl, hA, hV⟩ := Hb.out.is
  have C0 := Drop_t _ bl id w8 aD aS aZ hV (HE.out.keep HB.out)
  rw [HQv.out] at C0
  have C := Lib.hid C0
  clear C0
  obtain ⟨a0, a1, a2, a3⟩ := hA.cells
  clear hA hV
  go_wp2_with fail
  refine C.out.mono ?_
  rintro e w9 ⟨v1, rfl, hv1, hb1⟩
  obtain ⟨ya, yn, yc, yq, ya', yn', yc', yl, rfl⟩ := hv1.four
  have HV1 := Lib.hid hv1
  replace HB := Lib.hid (Below.then HB.out hb1)
  replace Hb := Lib.hid (Hb.out.keep hb1)
  replace Hx := Lib.hid (Hx.out.keep hb1)
  replace Hy := Lib.hid (Hy.out.keep hb1)
  replace Hz := Lib.hid (Hz.out.keep hb1)
  clear C hb1 a0 a1 a2 a3 hv1
  obtain ⟨w10, hw2⟩ : ∃ x, w9.alloc (.cells #[.slice ya yn yc, .int .i64 yq, .slice ya' yn' yc', .int .i64 yl] 25) = x := ⟨_, rfl⟩
  obtain ⟨Bv, hBv⟩ : ∃ x, w9.heap.size = x := ⟨_, rfl⟩
  have Hv := Lib.hid (show VarB w10 Bv rv by rw [← hw2, ← hBv]; exact VarB.new HV1.out)
  have hb2 : Below w9.heap.size w9 w10 := by rw [← hw2]; exact below_new _ _
  have HNbv := Lib.hid (show Bb ≠ Bv by have := Hb.out.lt; omega)
  have HNvb := Lib.hid (HNbv.out.symm)
  replace Hb := Lib.hid (Hb.out.keep hb2)
  have HNxv := Lib.hid (show Bx ≠ Bv by have := Hx.out.lt; omega)
  have HNvx := Lib.hid (HNxv.out.symm)
  replace Hx := Lib.hid (Hx.out.keep hb2)
  have HNyv := Lib.hid (show By ≠ Bv by have := Hy.out.lt; omega)
  have HNvy := Lib.hid (HNyv.out.symm)
  replace Hy := Lib.hid (Hy.out.keep hb2)
  have HNzv := Lib.hid (show Bz ≠ Bv by have := Hz.out.lt; omega)
  have HNvz := Lib.hid (HNzv.out.symm)
  replace Hz := Lib.hid (Hz.out.keep hb2)
  have HLv := Lib.hid (show w.heap.size ≤ Bv by rw [← hBv]; exact HB.out.size)
  replace HB := Lib.hid (Below.then HB.out hb2)
  have HW2 := Lib.hid hw2
  clear hw2 hb2 HV1
  go_upto_region 7 with fail
  rw [HW2.out]
  clear hBv HW2
  obtain ⟨w11, hw2⟩ : ∃ x, w10.alloc (.cells #[.slice none 0 0, .int .i64 0, .slice none 0 0, .int .i64 0] 25) = x := ⟨_, rfl⟩
  obtain ⟨Bo, hBo⟩ : ∃ x, w10.heap.size = x := ⟨_, rfl⟩
  have Ho := Lib.hid (show VarB w11 Bo nilBlb by rw [← hw2, ← hBo]; exact VarB.new (nilBlb_at _))
  have hb2 : Below w10.heap.size w10 w11 := by rw [← hw2]; exact below_new _ _
  replace Hb := Lib.hid (Hb.out.keep hb2)
  replace Hx := Lib.hid (Hx.out.keep hb2)
  replace Hy := Lib.hid (Hy.out.keep hb2)
  replace Hz := Lib.hid (Hz.out.keep hb2)
  replace Hv := Lib.hid (Hv.out.keep hb2)
  replace HB := Lib.hid (Below.then HB.out hb2)
  have HW2 := Lib.hid hw2
  clear hw2 hb2
  go_upto_region 8 with fail
  rw [HW2.out]
  clear hBo HW2
  obtain ⟨xa, xn, xc, xq, xa', xn', xc', xl, hA, hV⟩ := Hb.out.is
  have C0 := rright_v _ bl  w11 aD aS aZ hV (HE.out.keep HB.out) HRR.out HF.out
  have C := Lib.hid C0
  clear C0
  obtain ⟨a0, a1, a2, a3⟩ := hA.cells
  clear hA hV
  go_wp2_with fail
  refine C.out.mono ?_
  rintro e w12 ⟨rfl, hb1⟩
  replace HB := Lib.hid (Below.then HB.out hb1)
  replace Hb := Lib.hid (Hb.out.keep hb1)
  replace Hx := Lib.hid (Hx.out.keep hb1)
  replace Hy := Lib.hid (Hy.out.keep hb1)
  replace Hz := Lib.hid (Hz.out.keep hb1)
  replace Hv := Lib.hid (Hv.out.keep hb1)
  replace Ho := Lib.hid (Ho.out.keep hb1)
  clear C hb1 a0 a1 a2 a3
  cases r with
  | false =>
    have e1 := HQx.out.symm.trans (begin_no HRR.out)
    simp only [Prod.mk.injEq] at e1
    obtain ⟨rfl, rfl, rfl⟩ := e1
    have e1 := HQy.out.symm.trans (push_no HRR.out)
    simp only [Prod.mk.injEq] at e1
    obtain ⟨rfl, rfl⟩ := e1
    have e1 := HQz.out.symm.trans (endB_no HRR.out)
    simp only [Prod.mk.injEq] at e1
    obtain ⟨rfl, rfl⟩ := e1
    have e1 := HQv.out.symm.trans (drop_no HRR.out)
    simp only [Prod.mk.injEq] at e1
    obtain ⟨rfl, rfl⟩ := e1
    have AL := Lib.hid (alive_b w12 aD aS aZ (HE.out.keep HB.out))
    go_wp2_with fail
    refine AL.out.mono ?_
    rintro e w13 ⟨rfl, hb1⟩
    replace HB := Lib.hid (Below.then HB.out hb1)
    replace Hb := Lib.hid (Hb.out.keep hb1)
    replace Hx := Lib.hid (Hx.out.keep hb1)
    replace Hy := Lib.hid (Hy.out.keep hb1)
    replace Hz := Lib.hid (Hz.out.keep hb1)
    replace Hv := Lib.hid (Hv.out.keep hb1)
    replace Ho := Lib.hid (Ho.out.keep hb1)
    clear hb1 AL
    obtain ⟨pa, pn, pc, pq, pa', pn', pc', pl, hAp, hVp⟩ := Hx.out.is
    obtain ⟨p0, p1, p2, p3⟩ := hAp.cells
    obtain ⟨ra, rn, rc, rq, ra', rn', rc', rl, hAr, hVr⟩ := Ho.out.is
    obtain ⟨r0, r1, r2, r3⟩ := hAr.cells
    have C := Lib.hid (like_v _ nilBlb _ nilBlb w13 aD aS aZ hVp (HE.out.keep HB.out) hVr rfl)
    clear hAp hVp hAr hVr
    go_wp2_with fail
    refine C.out.mono ?_
    rintro e w14 ⟨rfl, hb1⟩
    replace HB := Lib.hid (Below.then HB.out hb1)
    replace Hb := Lib.hid (Hb.out.keep hb1)
    replace Hx := Lib.hid (Hx.out.keep hb1)
    replace Hy := Lib.hid (Hy.out.keep hb1)
    replace Hz := Lib.hid (Hz.out.keep hb1)
    replace Hv := Lib.hid (Hv.out.keep hb1)
    replace Ho := Lib.hid (Ho.out.keep hb1)
    clear C hb1 p0 p1 p2 p3 r0 r1 r2 r3
    obtain ⟨pa, pn, pc, pq, pa', pn', pc', pl, hAp, hVp⟩ := Hy.out.is
    obtain ⟨p0, p1, p2, p3⟩ := hAp.cells
    obtain ⟨ra, rn, rc, rq, ra', rn', rc', rl, hAr, hVr⟩ := Ho.out.is
    obtain ⟨r0, r1, r2, r3⟩ := hAr.cells
    have C := Lib.hid (like_v _ nilBlb _ nilBlb w14 aD aS aZ hVp (HE.out.keep HB.out) hVr rfl)
    clear hAp hVp hAr hVr
    go_wp2_with fail
    refine C.out.mono ?_
    rintro e w15 ⟨rfl, hb1⟩
    replace HB := Lib.hid (Below.then HB.out hb1)
    replace Hb := Lib.hid (Hb.out.keep hb1)
    replace Hx := Lib.hid (Hx.out.keep hb1)
    replace Hy := Lib.hid (Hy.out.keep hb1)
    replace Hz := Lib.hid (Hz.out.keep hb1)
    replace Hv := Lib.hid (Hv.out.keep hb1)
    replace Ho := Lib.hid (Ho.out.keep hb1)
    clear C hb1 p0 p1 p2 p3 r0 r1 r2 r3
    obtain ⟨pa, pn, pc, pq, pa', pn', pc', pl, hAp, hVp⟩ := Hz.out.is
    obtain ⟨p0, p1, p2, p3⟩ := hAp.cells
    obtain ⟨ra, rn, rc, rq, ra', rn', rc', rl, hAr, hVr⟩ := Ho.out.is
    obtain ⟨r0, r1, r2, r3⟩ := hAr.cells
    have C := Lib.hid (like_v _ nilBlb _ nilBlb w15 aD aS aZ hVp (HE.out.keep HB.out) hVr rfl)
    clear hAp hVp hAr hVr
    go_wp2_with fail
    refine C.out.mono ?_
    rintro e w16 ⟨rfl, hb1⟩
    replace HB := Lib.hid (Below.then HB.out hb1)
    replace Hb := Lib.hid (Hb.out.keep hb1)
    replace Hx := Lib.hid (Hx.out.keep hb1)
    replace Hy := Lib.hid (Hy.out.keep hb1)
    replace Hz := Lib.hid (Hz.out.keep hb1)
    replace Hv := Lib.hid (Hv.out.keep hb1)
    replace Ho := Lib.hid (Ho.out.keep hb1)
    clear C hb1 p0 p1 p2 p3 r0 r1 r2 r3
    obtain ⟨pa, pn, pc, pq, pa', pn', pc', pl, hAp, hVp⟩ := Hv.out.is
    obtain ⟨p0, p1, p2, p3⟩ := hAp.cells
    obtain ⟨ra, rn, rc, rq, ra', rn', rc', rl, hAr, hVr⟩ := Ho.out.is
    obtain ⟨r0, r1, r2, r3⟩ := hAr.cells
    have C := Lib.hid (like_v _ nilBlb _ nilBlb w16 aD aS aZ hVp (HE.out.keep HB.out) hVr rfl)
    clear hAp hVp hAr hVr
    go_wp2_with fail
    refine C.out.mono ?_
    rintro e w17 ⟨rfl, hb1⟩
    replace HB := Lib.hid (Below.then HB.out hb1)
    replace Hb := Lib.hid (Hb.out.keep hb1)
    replace Hx := Lib.hid (Hx.out.keep hb1)
    replace Hy := Lib.hid (Hy.out.keep hb1)
    replace Hz := Lib.hid (Hz.out.keep hb1)
    replace Hv := Lib.hid (Hv.out.keep hb1)
    replace Ho := Lib.hid (Ho.out.keep hb1)
    clear C hb1 p0 p1 p2 p3 r0 r1 r2 r3
    go_wp2_with fail
    go_ret
    exact ⟨rfl, HB.out⟩
  | true =>
    have HRP := Lib.hid ((right_iff _).1 HRR.out)
    have HQE := Lib.hid ((end_yes HRR.out).symm.trans HQz.out)
    obtain ⟨up1, hup1⟩ : ∃ x, upL bl.ups id = x := ⟨_, rfl⟩
    have HUP := Lib.hid hup1
    have HUC := Lib.hid (find_two (fun u => u.1 == id) bl.ups)
    clear hup1
    by_cases hc : bl.ups.length = 16
    · have e1 := HQx.out.symm.trans (begin_full HRR.out (Or.inl hc))
      simp only [Prod.mk.injEq] at e1
      obtain ⟨rfl, rfl, rfl⟩ := e1
      obtain ⟨ka, kc, ka', kc', hAk, hVk⟩ := Hb.out.open
      obtain ⟨k0, k1, k2, k3⟩ := hAk.cells
      rw [hc] at k2
      clear hAk hVk
      go_upto_region 12 with fail
      clear k0 k1 k2 k3
      obtain ⟨pa, pn, pc, pq, pa', pn', pc', pl, hAp, hVp⟩ := Hx.out.is
      obtain ⟨p0, p1, p2, p3⟩ := hAp.cells
      obtain ⟨ra, rn, rc, rq, ra', rn', rc', rl, hAr, hVr⟩ := Ho.out.is
      obtain ⟨r0, r1, r2, r3⟩ := hAr.cells
      have C := Lib.hid (like_v _ nilBlb _ nilBlb w12 aD aS aZ hVp (HE.out.keep HB.out) hVr rfl)
      clear hAp hVp hAr hVr
      go_wp2_with fail
      refine C.out.mono ?_
      rintro e w13 ⟨rfl, hb1⟩
      replace HB := Lib.hid (Below.then HB.out hb1)
      replace Hb := Lib.hid (Hb.out.keep hb1)
      replace Hx := Lib.hid (Hx.out.keep hb1)
      replace Hy := Lib.hid (Hy.out.keep hb1)
      replace Hz := Lib.hid (Hz.out.keep hb1)
      replace Hv := Lib.hid (Hv.out.keep hb1)
      replace Ho := Lib.hid (Ho.out.keep hb1)
      clear C hb1 p0 p1 p2 p3 r0 r1 r2 r3
      clear Hx
      obtain ⟨xa, xn, xc, xq, xa', xn', xc', xl, hA, hV⟩ := Hb.out.is
      have C0 := rend_v _ bl id d w13 aD aS aZ hV (HE.out.keep HB.out) HRP.out HQE.out
      have C := Lib.hid C0
      clear C0
      obtain ⟨a0, a1, a2, a3⟩ := hA.cells
      clear hA hV
      go_wp2_with fail
      refine C.out.mono ?_
      rintro e w14 ⟨v1, rfl, hv1, hb1⟩
      obtain ⟨ya, yn, yc, yq, ya', yn', yc', yl, rfl⟩ := hv1.four
      have HV1 := Lib.hid hv1
      replace HB := Lib.hid (Below.then HB.out hb1)
      replace Hb := Lib.hid (Hb.out.keep hb1)
      replace Hy := Lib.hid (Hy.out.keep hb1)
      replace Hz := Lib.hid (Hz.out.keep hb1)
      replace Hv := Lib.hid (Hv.out.keep hb1)
      replace Ho := Lib.hid (Ho.out.keep hb1)
      clear C hb1 a0 a1 a2 a3 hv1
      obtain ⟨w15, hw2⟩ : ∃ x, w14.alloc (.cells #[.slice ya yn yc, .int .i64 yq, .slice ya' yn' yc', .int .i64 yl] 25) = x := ⟨_, rfl⟩
      obtain ⟨Bu, hBu⟩ : ∃ x, w14.heap.size = x := ⟨_, rfl⟩
      have Hu := Lib.hid (show VarB w15 Bu rz by rw [← hw2, ← hBu]; exact VarB.new HV1.out)
      have hb2 : Below w14.heap.size w14 w15 := by rw [← hw2]; exact below_new _ _
      have HNbu := Lib.hid (show Bb ≠ Bu by have := Hb.out.lt; omega)
      have HNub := Lib.hid (HNbu.out.symm)
      replace Hb := Lib.hid (Hb.out.keep hb2)
      have HNyu := Lib.hid (show By ≠ Bu by have := Hy.out.lt; omega)
      have HNuy := Lib.hid (HNyu.out.symm)
      replace Hy := Lib.hid (Hy.out.keep hb2)
      have HNzu := Lib.hid (show Bz ≠ Bu by have := Hz.out.lt; omega)
      have HNuz := Lib.hid (HNzu.out.symm)
      replace Hz := Lib.hid (Hz.out.keep hb2)
      have HNvu := Lib.hid (show Bv ≠ Bu by have := Hv.out.lt; omega)
      have HNuv := Lib.hid (HNvu.out.symm)
      replace Hv := Lib.hid (Hv.out.keep hb2)
      have HNou := Lib.hid (show Bo ≠ Bu by have := Ho.out.lt; omega)
      have HNuo := Lib.hid (HNou.out.symm)
      replace Ho := Lib.hid (Ho.out.keep hb2)
      have HLu := Lib.hid (show w.heap.size ≤ Bu by rw [← hBu]; exact HB.out.size)
      replace HB := Lib.hid (Below.then HB.out hb2)
      have HW2 := Lib.hid hw2
      clear hw2 hb2 HV1
      go_upto_region 20 with fail
      rw [HW2.out]
      clear hBu HW2
      have q8 : (ez != ez) = false := bne_self_eq_false _
      obtain ⟨pa, pn, pc, pq, pa', pn', pc', pl, hAp, hVp⟩ := Hz.out.is
      obtain ⟨p0, p1, p2, p3⟩ := hAp.cells
      obtain ⟨ra, rn, rc, rq, ra', rn', rc', rl, hAr, hVr⟩ := Hu.out.is
      obtain ⟨r0, r1, r2, r3⟩ := hAr.cells
      have C := Lib.hid (like_v _ rz _ rz w15 aD aS aZ hVp (HE.out.keep HB.out) hVr rfl)
      clear hAp hVp hAr hVr
      go_wp2_with fail
      refine C.out.mono ?_
      rintro e w16 ⟨rfl, hb1⟩
      replace HB := Lib.hid (Below.then HB.out hb1)
      replace Hb := Lib.hid (Hb.out.keep hb1)
      replace Hy := Lib.hid (Hy.out.keep hb1)
      replace Hz := Lib.hid (Hz.out.keep hb1)
      replace Hv := Lib.hid (Hv.out.keep hb1)
      replace Ho := Lib.hid (Ho.out.keep hb1)
      replace Hu := Lib.hid (Hu.out.keep hb1)
      clear C hb1 p0 p1 p2 p3 r0 r1 r2 r3
      clear Hz HQE q8
      have AL := Lib.hid (alive_b w16 aD aS aZ (HE.out.keep HB.out))
      go_wp2_with fail
      refine AL.out.mono ?_
      rintro e w17 ⟨rfl, hb1⟩
      replace HB := Lib.hid (Below.then HB.out hb1)
      replace Hb := Lib.hid (Hb.out.keep hb1)
      replace Hy := Lib.hid (Hy.out.keep hb1)
      replace Hv := Lib.hid (Hv.out.keep hb1)
      replace Ho := Lib.hid (Ho.out.keep hb1)
      replace Hu := Lib.hid (Hu.out.keep hb1)
      clear hb1 AL
      obtain ⟨xa, xn, xc, xq, xa', xn', xc', xl, hA, hV⟩ := Hb.out.is
      have C0 := rup_v _ bl id w17 aD aS aZ hV (HE.out.keep HB.out) HUP.out
      have C := Lib.hid C0
      clear C0
      obtain ⟨a0, a1, a2, a3⟩ := hA.cells
      clear hA hV
      go_wp2_with fail
      refine C.out.mono ?_
      rintro e w18 ⟨rfl, hb1⟩
      replace HB := Lib.hid (Below.then HB.out hb1)
      replace Hb := Lib.hid (Hb.out.keep hb1)
      replace Hy := Lib.hid (Hy.out.keep hb1)
      replace Hv := Lib.hid (Hv.out.keep hb1)
      replace Ho := Lib.hid (Ho.out.keep hb1)
      replace Hu := Lib.hid (Hu.out.keep hb1)
      clear C hb1 a0 a1 a2 a3
      rcases HUC.out with hup | ⟨j, hj, hup⟩
      · obtain rfl : up1 = -1 := HUP.out.symm.trans hup
        have e1 := HQy.out.symm.trans (push_none HRR.out hup)
        simp only [Prod.mk.injEq] at e1
        obtain ⟨rfl, rfl⟩ := e1
        have e1 := HQv.out.symm.trans (drop_none HRR.out hup)
        simp only [Prod.mk.injEq] at e1
        obtain ⟨rfl, rfl⟩ := e1
        clear hup
        obtain ⟨pa, pn, pc, pq, pa', pn', pc', pl, hAp, hVp⟩ := Hy.out.is
        obtain ⟨p0, p1, p2, p3⟩ := hAp.cells
        obtain ⟨ra, rn, rc, rq, ra', rn', rc', rl, hAr, hVr⟩ := Ho.out.is
        obtain ⟨r0, r1, r2, r3⟩ := hAr.cells
        have C := Lib.hid (like_v _ nilBlb _ nilBlb w18 aD aS aZ hVp (HE.out.keep HB.out) hVr rfl)
        clear hAp hVp hAr hVr
        go_wp2_with fail
        refine C.out.mono ?_
        rintro e w19 ⟨rfl, hb1⟩
        replace HB := Lib.hid (Below.then HB.out hb1)
        replace Hb := Lib.hid (Hb.out.keep hb1)
        replace Hy := Lib.hid (Hy.out.keep hb1)
        replace Hv := Lib.hid (Hv.out.keep hb1)
        replace Ho := Lib.hid (Ho.out.keep hb1)
        replace Hu := Lib.hid (Hu.out.keep hb1)
        clear C hb1 p0 p1 p2 p3 r0 r1 r2 r3
        obtain ⟨pa, pn, pc, pq, pa', pn', pc', pl, hAp, hVp⟩ := Hv.out.is
        obtain ⟨p0, p1, p2, p3⟩ := hAp.cells
        obtain ⟨ra, rn, rc, rq, ra', rn', rc', rl, hAr, hVr⟩ := Ho.out.is
        obtain ⟨r0, r1, r2, r3⟩ := hAr.cells
        have C := Lib.hid (like_v _ nilBlb _ nilBlb w19 aD aS aZ hVp (HE.out.keep HB.out) hVr rfl)
        clear hAp hVp hAr hVr
        go_wp2_with fail
        refine C.out.mono ?_
        rintro e w20 ⟨rfl, hb1⟩
        replace HB := Lib.hid (Below.then HB.out hb1)
        replace Hb := Lib.hid (Hb.out.keep hb1)
        replace Hy := Lib.hid (Hy.out.keep hb1)
        replace Hv := Lib.hid (Hv.out.keep hb1)
        replace Ho := Lib.hid (Ho.out.keep hb1)
        replace Hu := Lib.hid (Hu.out.keep hb1)
        clear C hb1 p0 p1 p2 p3 r0 r1 r2 r3
        go_wp2_with fail
        go_ret
        exact ⟨rfl, HB.out⟩
      · obtain rfl : up1 = (j : Int) := HUP.out.symm.trans hup
        have e1 := HQv.out.symm.trans (drop_some HRR.out hup)
        simp only [Prod.mk.injEq] at e1
        obtain ⟨rfl, rfl⟩ := e1
        obtain ⟨pa, pn, pc, pq, pa', pn', pc', pl, hAp, hVp⟩ := Hv.out.is
        obtain ⟨p0, p1, p2, p3⟩ := hAp.cells
        obtain ⟨ra, rn, rc, rq, ra', rn', rc', rl, hAr, hVr⟩ := Hb.out.is
        obtain ⟨r0, r1, r2, r3⟩ := hAr.cells
        have WO := Lib.hid (fun w' (hb : Below w18.heap.size w18 w') => rwithout_v _ bl j w' (hVr.keep hb) hj HRP.out)
        have LK := Lib.hid (fun w' (hb : Below w18.heap.size w18 w') va' (h' : BlbAt w' va' (withoutB bl j)) => like_v _ (withoutB bl j) va' (withoutB bl j) w' aD aS aZ (hVp.keep hb) (HE.out.keep (Below.then HB.out hb)) h' rfl)
        have HAp := Lib.hid hAp
        have HAr := Lib.hid hAr
        have hbA := Below.refl w18.heap.size w18
        clear hAp hVp hAr hVr
        go_upto_region 25 with fail
        refine wp_region_held_drew (S := fun w' => w'.cell? ⟨Bv, 0, none⟩ = some (.slice pa pn pc) ∧ w'.cell? ⟨Bv, 1, none⟩ = some (.int .i64 pq) ∧ w'.cell? ⟨Bv, 2, none⟩ = some (.slice pa' pn' pc') ∧ w'.cell? ⟨Bv, 3, none⟩ = some (.int .i64 pl) ∧ w'.cell? ⟨Bb, 0, none⟩ = some (.slice ra rn rc) ∧ w'.cell? ⟨Bb, 1, none⟩ = some (.int .i64 rq) ∧ w'.cell? ⟨Bb, 2, none⟩ = some (.slice ra' rn' rc') ∧ w'.cell? ⟨Bb, 3, none⟩ = some (.int .i64 rl)) (by kernel_rfl) ?hSs1x (fun hHeld => ?hRs1x)
        case hSs1x => exact ⟨p0, p1, p2, p3, r0, r1, r2, r3⟩
        refine wpAnyH_take (i := 0) (oi := { dst := some 201, op := Op.move (Operand.tmp 19), type := 27, pos := "law.go:103", after := #[], guard := none }) (v := ?gvs1x0) rfl (by kernel_rfl) (by kernel_rfl) (by kernel_rfl) (fun _ _ _ h => h) (Or.inl ⟨by rfl, ?gys1x0⟩) (by assumption) ?grs1x0
        case gys1x0 => (intro w hSw; (try dsimp only at hSw); go_simp; try with_reducible rfl)
        try simp only [Act.put, List.setIfInBounds_toArray, List.set_cons_zero, List.set_cons_succ]
        refine wpAnyH_take (i := 1) (oi := { dst := some 202, op := Op.binOp BinOp.neq 27 (Operand.tmp 201) (Operand.const (Value.int IntKind.i64 0)) 27, type := 4, pos := "law.go:103", after := #[{ on := 0, ground := Ground.data }], guard := none }) (v := ?gvs1x1) rfl (by kernel_rfl) (by kernel_rfl) (by kernel_rfl) (fun _ _ _ h => h) (Or.inl ⟨by rfl, ?gys1x1⟩) (by assumption) ?grs1x1
        case gys1x1 => (intro w hSw; (try dsimp only at hSw); go_simp; try with_reducible rfl)
        try simp only [Act.put, List.setIfInBounds_toArray, List.set_cons_zero, List.set_cons_succ]
        refine wpAnyH_take (i := 2) (oi := { dst := some 203, op := Op.move (Operand.tmp 202), type := 4, pos := "law.go:103", after := #[{ on := 1, ground := Ground.data }], guard := none }) (v := ?gvs1x2) rfl (by kernel_rfl) (by kernel_rfl) (by kernel_rfl) (fun _ _ _ h => h) (Or.inl ⟨by rfl, ?gys1x2⟩) (by assumption) ?grs1x2
        case gys1x2 => (intro w hSw; (try dsimp only at hSw); go_simp; try with_reducible rfl)
        try simp only [Act.put, List.setIfInBounds_toArray, List.set_cons_zero, List.set_cons_succ]
        refine wpAnyH_take (i := 3) (oi := { dst := some 204, op := Op.load 25 (Operand.tmp 18), type := 25, pos := "law.go:103", after := #[{ on := 2, ground := Ground.guard }], guard := some (2, false) }) (v := ?gvs1x3) rfl (by kernel_rfl) (by kernel_rfl) (by kernel_rfl) (fun _ _ _ h => h) (Or.inl ⟨by rfl, ?gys1x3⟩) (by assumption) ?grs1x3
        case gys1x3 => (intro w hSw; (try dsimp only at hSw); go_simp; try with_reducible rfl)
        try simp only [Act.put, List.setIfInBounds_toArray, List.set_cons_zero, List.set_cons_succ]
        refine wpAnyH_take (i := 4) (oi := { dst := some 205, op := Op.load 25 (Operand.tmp 5), type := 25, pos := "law.go:103", after := #[{ on := 2, ground := Ground.guard }], guard := some (2, false) }) (v := ?gvs1x4) rfl (by kernel_rfl) (by kernel_rfl) (by kernel_rfl) (fun _ _ _ h => h) (Or.inl ⟨by rfl, ?gys1x4⟩) (by assumption) ?grs1x4
        case gys1x4 => (intro w hSw; (try dsimp only at hSw); go_simp; try with_reducible rfl)
        try simp only [Act.put, List.setIfInBounds_toArray, List.set_cons_zero, List.set_cons_succ]
        refine wpAnyH_take (i := 5) (oi := { dst := some 206, op := Op.move (Operand.tmp 25), type := 3, pos := "law.go:103", after := #[{ on := 2, ground := Ground.guard }], guard := some (2, false) }) (v := ?gvs1x5) rfl (by kernel_rfl) (by kernel_rfl) (by kernel_rfl) (fun _ _ _ h => h) (Or.inl ⟨by rfl, ?gys1x5⟩) (by assumption) ?grs1x5
        case gys1x5 => (intro w hSw; (try dsimp only at hSw); go_simp; try with_reducible rfl)
        try simp only [Act.put, List.setIfInBounds_toArray, List.set_cons_zero, List.set_cons_succ]
        refine wpAnyH_ready (rs := [6]) (by kernel_rfl) (by simp) ?_
        refine AllReadyH.cons (o := { dst := some 207, op := Op.call { callee := Callee.value (Operand.func 22), args := #[Operand.tmp 205, Operand.tmp 206], argTypes := #[25, 3] }, type := 25, pos := "law.go:103", after := #[{ on := 4, ground := Ground.data }, { on := 5, ground := Ground.data }, { on := 2, ground := Ground.chain }, { on := 2, ground := Ground.guard }], guard := some (2, false) }) rfl (fun K hK => ?_) AllReadyH.nil
        rw [if_pos (by kernel_rfl)]
        go_simp
        go_wp2_with (go_at_call 22; refine (WO.out w18.drew hbA.drew).mono ?_; rintro e wr1 ⟨v1, rfl, hv1, hbn⟩)
        have hb1 := Below.then hbA.drew hbn
        obtain ⟨p0, p1, p2, p3⟩ := (HAp.out.keep hb1).cells
        obtain ⟨r0, r1, r2, r3⟩ := (HAr.out.keep hb1).cells
        clear hbn
        refine hK.out _ _ ?hSs1x6 (fun hHeld6 => ?hRs1x6)
        case hSs1x6 => exact ⟨p0, p1, p2, p3, r0, r1, r2, r3⟩
        clear hK K
        try simp only [Act.put, List.setIfInBounds_toArray, List.set_cons_zero, List.set_cons_succ]
        refine wpAnyH_ready (rs := [7]) (by kernel_rfl) (by simp) ?_
        refine AllReadyH.cons (o := { dst := some 208, op := Op.call { callee := Callee.value (Operand.func 11), args := #[Operand.tmp 204, Operand.tmp 207], argTypes := #[25, 25] }, type := 4, pos := "law.go:103", after := #[{ on := 3, ground := Ground.data }, { on := 6, ground := Ground.data }, { on := 6, ground := Ground.chain }, { on := 2, ground := Ground.guard }], guard := some (2, false) }) rfl (fun K hK => ?_) AllReadyH.nil
        rw [if_pos (by kernel_rfl)]
        go_simp
        go_wp2_with (go_at_call 11; refine (LK.out wr1 hb1 _ hv1).mono ?_; rintro e wr2 ⟨rfl, hbn⟩)
        have hb2 := Below.then hb1 hbn
        obtain ⟨p0, p1, p2, p3⟩ := (HAp.out.keep hb2).cells
        obtain ⟨r0, r1, r2, r3⟩ := (HAr.out.keep hb2).cells
        clear hbn
        refine hK.out _ _ ?hSs1x7 (fun hHeld7 => ?hRs1x7)
        case hSs1x7 => exact ⟨p0, p1, p2, p3, r0, r1, r2, r3⟩
        clear hK K
        try simp only [Act.put, List.setIfInBounds_toArray, List.set_cons_zero, List.set_cons_succ]
        refine wpAnyH_take (i := 8) (oi := { dst := some 209, op := Op.unOp UnOp.not 4 (Operand.tmp 208), type := 4, pos := "law.go:103", after := #[{ on := 7, ground := Ground.data }, { on := 2, ground := Ground.guard }], guard := some (2, false) }) (v := ?gvs1x8) rfl (by kernel_rfl) (by kernel_rfl) (by kernel_rfl) (fun _ _ _ h => h) (Or.inl ⟨by rfl, ?gys1x8⟩) (by assumption) ?grs1x8
        case gys1x8 => (intro w hSw; (try dsimp only at hSw); go_simp; try with_reducible rfl)
        try simp only [Act.put, List.setIfInBounds_toArray, List.set_cons_zero, List.set_cons_succ]
        refine wpAnyH_take (i := 9) (oi := { dst := some 210, op := Op.pick (Operand.tmp 203) (Operand.const (Value.bool true)) (Operand.tmp 209), type := 4, pos := "law.go:103", after := #[{ on := 2, ground := Ground.data }, { on := 8, ground := Ground.data }], guard := none }) (v := ?gvs1x9) rfl (by kernel_rfl) (by kernel_rfl) (by kernel_rfl) (fun _ _ _ h => h) (Or.inl ⟨by rfl, ?gys1x9⟩) (by assumption) ?grs1x9
        case gys1x9 => (intro w hSw; (try dsimp only at hSw); go_simp; try with_reducible rfl)
        try simp only [Act.put, List.setIfInBounds_toArray, List.set_cons_zero, List.set_cons_succ]
        refine wpAnyH_done (by kernel_rfl) ?_ _
        replace HB := Lib.hid (Below.then HB.out hb2)
        replace Hb := Lib.hid (Hb.out.keep hb2)
        replace Hy := Lib.hid (Hy.out.keep hb2)
        replace Hv := Lib.hid (Hv.out.keep hb2)
        replace Ho := Lib.hid (Ho.out.keep hb2)
        replace Hu := Lib.hid (Hu.out.keep hb2)
        clear hb1 hb2 hbA p0 p1 p2 p3 r0 r1 r2 r3 WO LK HAp HAr hv1 hHeld hHeld6 hHeld7
        clear Hv
        obtain ⟨ka, kc, ka', kc', hAk, hVk⟩ := Hb.out.open
        obtain ⟨ub, uo, ux, us, rfl, hue, hus, g0, g1, hpo, hpl, hpd⟩ := up_facts HRR.out hup hj hVk.parts.2.1
        have HPO := Lib.hid hpo
        have HPL := Lib.hid hpl
        have HPD := Lib.hid hpd
        have HUE := Lib.hid hue
        have HJ := Lib.hid hj
        obtain ⟨m9, hm9⟩ : ∃ n, bl.ups.length = n := ⟨_, rfl⟩
        have HM9 := Lib.hid hm9
        rw [hm9] at hAk hj
        obtain ⟨k0, k1, k2, k3⟩ := hAk.cells
        clear hAk hVk hm9 hup hpo hpl hpd hue
        have q13 : IntKind.i64.wrap ((us.size : Int) + (s.size : Int)) = (us.size : Int) + (s.size : Int) := by rw [IntKind.wrap_i64]; omega
        by_cases ho : offset = (us.size : Nat)
        · subst ho
          have q11 : ((us.size : Int) != (us.size : Int)) = false := bne_self_eq_false _
          by_cases hl : 4096 < us.size + s.size
          · have e1 := HQy.out.symm.trans (HPL.out _ hl)
            simp only [Prod.mk.injEq] at e1
            obtain ⟨rfl, rfl⟩ := e1
            have q12 : 4096 < (us.size : Int) + (s.size : Int) := by omega
            clear HPO HPL HPD
            obtain ⟨pa, pn, pc, pq, pa', pn', pc', pl, hAp, hVp⟩ := Hy.out.is
            obtain ⟨p0, p1, p2, p3⟩ := hAp.cells
            obtain ⟨ra, rn, rc, rq, ra', rn', rc', rl, hAr, hVr⟩ := Ho.out.is
            obtain ⟨r0, r1, r2, r3⟩ := hAr.cells
            have C := Lib.hid (like_v _ nilBlb _ nilBlb wr2 aD aS aZ hVp (HE.out.keep HB.out) hVr rfl)
            clear hAp hVp hAr hVr
            go_wp2_with fail
            refine C.out.mono ?_
            rintro e w301 ⟨rfl, hb1⟩
            replace HB := Lib.hid (Below.then HB.out hb1)
            replace Hb := Lib.hid (Hb.out.keep hb1)
            replace Hy := Lib.hid (Hy.out.keep hb1)
            replace Ho := Lib.hid (Ho.out.keep hb1)
            replace Hu := Lib.hid (Hu.out.keep hb1)
            clear C hb1 p0 p1 p2 p3 r0 r1 r2 r3
            go_wp2_with fail
            go_ret
            exact ⟨rfl, HB.out⟩
          · have e1 := HQy.out.symm.trans (HPD.out _ hl)
            simp only [Prod.mk.injEq] at e1
            obtain ⟨rfl, rfl⟩ := e1
            have q12 : ¬ 4096 < (us.size : Int) + (s.size : Int) := by omega
            clear HPO HPL HPD
            clear Ho
            have hzs : us.size + s.size ≤ 4096 := by omega
            go_upto_region 32 with fail
            clear k0 k1 k2 k3 g0 g1 hl
            obtain ⟨ya, yn, yc, yq, ya', yn', yc', yl, hA1, hV1⟩ := Hb.out.is
            have HV1 := Lib.hid hV1
            obtain ⟨b0, b1, b2, b3⟩ := hA1.cells
            clear hA1 hV1
            obtain ⟨za, zn, zc, zq, za', zn', zc', zl, hA, hV⟩ := Hu.out.is
            obtain ⟨a0, a1, a2, a3⟩ := hA.cells
            obtain ⟨f0, f1, f2, f3⟩ := hA.free
            clear hA hV
            go_upto_region 33 with fail
            obtain ⟨w401, hw2⟩ : ∃ x, (((wr2.setCell ⟨Bu, 0, none⟩ (.slice ya yn yc)).setCell ⟨Bu, 1, none⟩ (.int .i64 yq)).setCell ⟨Bu, 2, none⟩ (.slice ya' yn' yc')).setCell ⟨Bu, 3, none⟩ (.int .i64 yl) = x := ⟨_, rfl⟩
            rw [hw2]
            replace Hb := Lib.hid (show VarB w401 Bb bl by rw [← hw2]; exact Hb.out.other Hu.out HNbu.out)
            replace Hy := Lib.hid (show VarB w401 By (setUp bl j (us ++ s)) by rw [← hw2]; exact Hy.out.other Hu.out HNyu.out)
            replace Hu := Lib.hid (show VarB w401 Bu bl by rw [← hw2]; exact Hu.out.set HV1.out)
            replace HB := Lib.hid (show Below w.heap.size w w401 by rw [← hw2]; exact set4_below HB.out HLu.out (.slice ya yn yc) (.int .i64 yq) (.slice ya' yn' yc') (.int .i64 yl))
            clear hw2 a0 a1 a2 a3 f0 f1 f2 f3 HV1
            clear b0 b1 b2 b3
            obtain ⟨pa, pn, pc, pq, pa', pn', pc', pl, hAp, hVp⟩ := Hb.out.is
            obtain ⟨p0, p1, p2, p3⟩ := hAp.cells
            obtain ⟨ra, rn, rc, rq, ra', rn', rc', rl, hAr, hVr⟩ := Hu.out.is
            obtain ⟨r0, r1, r2, r3⟩ := hAr.cells
            obtain ⟨i1, hi1, hy0, hy1, hy2⟩ := info_parts infoUp
            have hpn : pn' = bl.ups.length := by
              obtain ⟨x1, x2, e, -, -⟩ := hVp.parts.2.1.shape3
              simp only [Value.slice.injEq] at e
              rw [e.2.1, List.length_map]
            have hp16 : pn' ≤ 16 := by rw [hpn]; exact HRP.out.ups
            have hjp : j < pn' := by rw [hpn]; exact HJ.out
            have HSRC := Lib.hid (show SrcOf 2 (w401.alloc (.cells #[] 40)) (.slice pa' pn' pc') pn' (cellsL (bl.ups.map upCell)) by
              have := (hVp.parts.2.1.keep (below_new w401 (.cells #[] 40))).src
              rwa [List.length_map, ← hpn] at this)
            have HOWN1 := Lib.hid (show (w401.alloc (.cells #[] 40)).ownsRow w401.heap.size 40 2 (.slice (some ⟨w401.heap.size, 0, none⟩) 0 0) 0 [] from World.ownsRow_lit w401 #[] 0 (Nat.le_refl _) (Nat.zero_le _) rfl)
            have HLE1 := Lib.hid (show w401.heap.size ≤ (w401.alloc (.cells #[] 40)).heap.size by rw [World.size_alloc]; exact Nat.le_succ _)
            have p2a : (w401.alloc (.cells #[] 40)).cell? ⟨Bb, 2, none⟩ = some (.slice pa' pn' pc') := Below.keepc (below_new _ _) p2
            have HAr := Lib.hid hAr
            have HVr := Lib.hid hVr
            have HPN := Lib.hid hpn
            clear hAp hVp hAr hVr p0 p1 p2 p3 r0 r1 r2 r3 hpn
            go_wp2_with (at_builtin; refine wpList_append_src _ rfl _ _ 23 rfl w401.heap.size 40 i1 (.agg #[.int .i64 0, .string ⟨#[]⟩]) 2 24 Tryz.underlying23 hi1 hy0 hy1 hy2 rfl (by decide) _ 0 [] rfl HOWN1.out _ pn' _ rfl HSRC.out (one_ups _) (by unfold maxLen; omega) (by omega) HLE1.out ?_)
            intro v2 wa hown2 hgrow2
            obtain ⟨su, ku, rfl⟩ := own_shape hown2
            obtain ⟨g, rfl, hgb, hmk, cur, hcur⟩ := own_some hown2 (by omega)
            have hB2 : Below w401.heap.size w401 wa := ((Below.refl _ w401).alloc (Nat.le_refl _) _).grown hgrow2 HLE1.out (fun k hk => (HOWN1.out.lt k hk).1)
            have HR2 := Lib.hid (HAr.out.keep hB2)
            have HB2 := Lib.hid hB2
            have HO2 := Lib.hid hown2
            have HCU := Lib.hid hcur
            have HGB := Lib.hid hgb
            clear hown2 hgrow2 hB2 hcur hgb p2a HSRC HOWN1 HLE1
            obtain ⟨r0, r1, r2, r3⟩ := HR2.out.cells
            obtain ⟨f0, f1, f2, f3⟩ := HR2.out.free
            go_upto_region 34 with fail
            clear r0 r1 r2 r3 f0 f1 f2 f3
            obtain ⟨wb, hwb⟩ : ∃ x, wa.setCell ⟨Bu, 2, none⟩ (.slice (some ⟨g, 0, none⟩) pn' ku) = x := ⟨_, rfl⟩
            have HWB := Lib.hid hwb
            rw [hwb]
            have hne : g ≠ Bu := by have := HGB.out; have := HAr.out.lt; omega
            have HR3 := Lib.hid (show At4 25 wb Bu (.slice ra rn rc) (.int .i64 rq) (.slice (some ⟨g, 0, none⟩) pn' ku) (.int .i64 rl) by rw [← hwb]; exact HR2.out.at2 _)
            have hbul := HAr.out.lt
            have hO3 : wb.ownsRow w401.heap.size 40 2 (.slice (some ⟨g, 0, none⟩) pn' ku) pn' (cellsL (bl.ups.map upCell)) := by rw [← hwb]; exact own_same HO2.out fun k hk => Below.heap_setCell _ _ _ _ (show k ≠ Bu by omega)
            have hcur2 : wb.heap[g]? = some (.cells cur 40 (0, 0)) := by rw [← hwb, Below.heap_setCell _ _ _ _ hne]; exact HCU.out
            have hfz : wb.frozen? ⟨g, j * 2 + 1, none⟩ = false := by simp only [World.frozen?, hcur2]; rfl
            have hce : wb.cell? ⟨g, j * 2 + 1, none⟩ = some (.string us) := by
              have h1 := (cellsL_at (bl.ups.map upCell) j (by rw [List.length_map]; exact HJ.out)).2
              rw [up_getElem bl.ups j HJ.out, List.getElem_of_getElem? HUE.out |>.2] at h1
              have h2 := hO3.cells (g := g) rfl (j * 2 + 1) _ h1
              rwa [add_plain, Nat.zero_add] at h2
            clear hwb hcur2 hO3
            obtain ⟨r0, r1, r2, r3⟩ := HR3.out.cells
            go_upto_region 35 with fail
            obtain ⟨wc, hwc⟩ : ∃ x, wb.setCell ⟨g, j * 2 + 1, none⟩ (.string (us ++ s)) = x := ⟨_, rfl⟩
            rw [hwc]
            have PU := put_up (x := us ++ s) HAr.out HVr.out HB2.out HO2.out HPN.out.symm HJ.out (by rw [ByteArray.size_append]; unfold maxLen; omega)
            rw [HWB.out, hwc] at PU
            replace Hy := Lib.hid (Hy.out.past Hu.out HNyu.out PU.2)
            replace Hu := Lib.hid PU.1
            replace HB := Lib.hid (show Below w.heap.size w wc by rw [← hwc, ← HWB.out]; exact ((Below.then HB.out HB2.out).setCell (p := ⟨Bu, 2, none⟩) HLu.out _).setCell (p := ⟨g, j * 2 + 1, none⟩) (Nat.le_trans HB.out.size HGB.out) _)
            clear PU hwc r0 r1 r2 r3 hce hfz HR2 HR3 HAr HVr HWB
            obtain ⟨pa, pn, pc, pq, pa', pn', pc', pl, hAp, hVp⟩ := Hy.out.is
            obtain ⟨p0, p1, p2, p3⟩ := hAp.cells
            obtain ⟨ra, rn, rc, rq, ra', rn', rc', rl, hAr, hVr⟩ := Hu.out.is
            obtain ⟨r0, r1, r2, r3⟩ := hAr.cells
            have C := Lib.hid (like_v _ (setUp bl j (us ++ s)) _ (setUp bl j (us ++ s)) wc aD aS aZ hVp (HE.out.keep HB.out) hVr rfl)
            clear hAp hVp hAr hVr
            go_wp2_with fail
            refine C.out.mono ?_
            rintro e w402 ⟨rfl, hb1⟩
            replace HB := Lib.hid (Below.then HB.out hb1)
            replace Hy := Lib.hid (Hy.out.keep hb1)
            replace Hu := Lib.hid (Hu.out.keep hb1)
            clear C hb1 p0 p1 p2 p3 r0 r1 r2 r3
            go_wp2_with fail
            go_ret
            exact ⟨rfl, HB.out⟩
        · have e1 := HQy.out.symm.trans (HPO.out _ _ ho)
          simp only [Prod.mk.injEq] at e1
          obtain ⟨rfl, rfl⟩ := e1
          have q11 : (offset != (us.size : Int)) = true := bne_iff_ne.2 ho
          clear HPO HPL HPD
          obtain ⟨pa, pn, pc, pq, pa', pn', pc', pl, hAp, hVp⟩ := Hy.out.is
          obtain ⟨p0, p1, p2, p3⟩ := hAp.cells
          obtain ⟨ra, rn, rc, rq, ra', rn', rc', rl, hAr, hVr⟩ := Ho.out.is
          obtain ⟨r0, r1, r2, r3⟩ := hAr.cells
          have C := Lib.hid (like_v _ nilBlb _ nilBlb wr2 aD aS aZ hVp (HE.out.keep HB.out) hVr rfl)
          clear hAp hVp hAr hVr
          go_wp2_with fail
          refine C.out.mono ?_
          rintro e w301 ⟨rfl, hb1⟩
          replace HB := Lib.hid (Below.then HB.out hb1)
          replace Hb := Lib.hid (Hb.out.keep hb1)
          replace Hy := Lib.hid (Hy.out.keep hb1)
          replace Ho := Lib.hid (Ho.out.keep hb1)
          replace Hu := Lib.hid (Hu.out.keep hb1)
          clear C hb1 p0 p1 p2 p3 r0 r1 r2 r3
          go_wp2_with fail
          go_ret
          exact ⟨rfl, HB.out⟩
    · by_cases hd2 : bl.last = 1099511627776
      · have e1 := HQx.out.symm.trans (begin_full HRR.out (Or.inr hd2))
        simp only [Prod.mk.injEq] at e1
        obtain ⟨rfl, rfl, rfl⟩ := e1
        obtain ⟨ka, kc, ka', kc', hAk, hVk⟩ := Hb.out.open
        obtain ⟨k0, k1, k2, k3⟩ := hAk.cells
        rw [hd2] at k3
        have q9 : ¬ (bl.ups.length : Int) = 16 := by omega
        have q10 : ((bl.ups.length : Int) == 16) = false := beq_eq_false_iff_ne.2 q9
        clear hAk hVk
        go_upto_region 12 with fail
        clear k0 k1 k2 k3
        obtain ⟨pa, pn, pc, pq, pa', pn', pc', pl, hAp, hVp⟩ := Hx.out.is
        obtain ⟨p0, p1, p2, p3⟩ := hAp.cells
        obtain ⟨ra, rn, rc, rq, ra', rn', rc', rl, hAr, hVr⟩ := Ho.out.is
        obtain ⟨r0, r1, r2, r3⟩ := hAr.cells
        have C := Lib.hid (like_v _ nilBlb _ nilBlb w12 aD aS aZ hVp (HE.out.keep HB.out) hVr rfl)
        clear hAp hVp hAr hVr
        go_wp2_with fail
        refine C.out.mono ?_
        rintro e w13 ⟨rfl, hb1⟩
        replace HB := Lib.hid (Below.then HB.out hb1)
        replace Hb := Lib.hid (Hb.out.keep hb1)
        replace Hx := Lib.hid (Hx.out.keep hb1)
        replace Hy := Lib.hid (Hy.out.keep hb1)
        replace Hz := Lib.hid (Hz.out.keep hb1)
        replace Hv := Lib.hid (Hv.out.keep hb1)
        replace Ho := Lib.hid (Ho.out.keep hb1)
        clear C hb1 p0 p1 p2 p3 r0 r1 r2 r3
        clear Hx
        obtain ⟨xa, xn, xc, xq, xa', xn', xc', xl, hA, hV⟩ := Hb.out.is
        have C0 := rend_v _ bl id d w13 aD aS aZ hV (HE.out.keep HB.out) HRP.out HQE.out
        have C := Lib.hid C0
        clear C0
        obtain ⟨a0, a1, a2, a3⟩ := hA.cells
        clear hA hV
        go_wp2_with fail
        refine C.out.mono ?_
        rintro e w14 ⟨v1, rfl, hv1, hb1⟩
        obtain ⟨ya, yn, yc, yq, ya', yn', yc', yl, rfl⟩ := hv1.four
        have HV1 := Lib.hid hv1
        replace HB := Lib.hid (Below.then HB.out hb1)
        replace Hb := Lib.hid (Hb.out.keep hb1)
        replace Hy := Lib.hid (Hy.out.keep hb1)
        replace Hz := Lib.hid (Hz.out.keep hb1)
        replace Hv := Lib.hid (Hv.out.keep hb1)
        replace Ho := Lib.hid (Ho.out.keep hb1)
        clear C hb1 a0 a1 a2 a3 hv1
        obtain ⟨w15, hw2⟩ : ∃ x, w14.alloc (.cells #[.slice ya yn yc, .int .i64 yq, .slice ya' yn' yc', .int .i64 yl] 25) = x := ⟨_, rfl⟩
        obtain ⟨Bu, hBu⟩ : ∃ x, w14.heap.size = x := ⟨_, rfl⟩
        have Hu := Lib.hid (show VarB w15 Bu rz by rw [← hw2, ← hBu]; exact VarB.new HV1.out)
        have hb2 : Below w14.heap.size w14 w15 := by rw [← hw2]; exact below_new _ _
        have HNbu := Lib.hid (show Bb ≠ Bu by have := Hb.out.lt; omega)
        have HNub := Lib.hid (HNbu.out.symm)
        replace Hb := Lib.hid (Hb.out.keep hb2)
        have HNyu := Lib.hid (show By ≠ Bu by have := Hy.out.lt; omega)
        have HNuy := Lib.hid (HNyu.out.symm)
        replace Hy := Lib.hid (Hy.out.keep hb2)
        have HNzu := Lib.hid (show Bz ≠ Bu by have := Hz.out.lt; omega)
        have HNuz := Lib.hid (HNzu.out.symm)
        replace Hz := Lib.hid (Hz.out.keep hb2)
        have HNvu := Lib.hid (show Bv ≠ Bu by have := Hv.out.lt; omega)
        have HNuv := Lib.hid (HNvu.out.symm)
        replace Hv := Lib.hid (Hv.out.keep hb2)
        have HNou := Lib.hid (show Bo ≠ Bu by have := Ho.out.lt; omega)
        have HNuo := Lib.hid (HNou.out.symm)
        replace Ho := Lib.hid (Ho.out.keep hb2)
        have HLu := Lib.hid (show w.heap.size ≤ Bu by rw [← hBu]; exact HB.out.size)
        replace HB := Lib.hid (Below.then HB.out hb2)
        have HW2 := Lib.hid hw2
        clear hw2 hb2 HV1
        go_upto_region 20 with fail
        rw [HW2.out]
        clear hBu HW2
        have q8 : (ez != ez) = false := bne_self_eq_false _
        obtain ⟨pa, pn, pc, pq, pa', pn', pc', pl, hAp, hVp⟩ := Hz.out.is
        obtain ⟨p0, p1, p2, p3⟩ := hAp.cells
        obtain ⟨ra, rn, rc, rq, ra', rn', rc', rl, hAr, hVr⟩ := Hu.out.is
        obtain ⟨r0, r1, r2, r3⟩ := hAr.cells
        have C := Lib.hid (like_v _ rz _ rz w15 aD aS aZ hVp (HE.out.keep HB.out) hVr rfl)
        clear hAp hVp hAr hVr
        go_wp2_with fail
        refine C.out.mono ?_
        rintro e w16 ⟨rfl, hb1⟩
        replace HB := Lib.hid (Below.then HB.out hb1)
        replace Hb := Lib.hid (Hb.out.keep hb1)
        replace Hy := Lib.hid (Hy.out.keep hb1)
        replace Hz := Lib.hid (Hz.out.keep hb1)
        replace Hv := Lib.hid (Hv.out.keep hb1)
        replace Ho := Lib.hid (Ho.out.keep hb1)
        replace Hu := Lib.hid (Hu.out.keep hb1)
        clear C hb1 p0 p1 p2 p3 r0 r1 r2 r3
        clear Hz HQE q8
        have AL := Lib.hid (alive_b w16 aD aS aZ (HE.out.keep HB.out))
        go_wp2_with fail
        refine AL.out.mono ?_
        rintro e w17 ⟨rfl, hb1⟩
        replace HB := Lib.hid (Below.then HB.out hb1)
        replace Hb := Lib.hid (Hb.out.keep hb1)
        replace Hy := Lib.hid (Hy.out.keep hb1)
        replace Hv := Lib.hid (Hv.out.keep hb1)
        replace Ho := Lib.hid (Ho.out.keep hb1)
        replace Hu := Lib.hid (Hu.out.keep hb1)
        clear hb1 AL
        obtain ⟨xa, xn, xc, xq, xa', xn', xc', xl, hA, hV⟩ := Hb.out.is
        have C0 := rup_v _ bl id w17 aD aS aZ hV (HE.out.keep HB.out) HUP.out
        have C := Lib.hid C0
        clear C0
        obtain ⟨a0, a1, a2, a3⟩ := hA.cells
        clear hA hV
        go_wp2_with fail
        refine C.out.mono ?_
        rintro e w18 ⟨rfl, hb1⟩
        replace HB := Lib.hid (Below.then HB.out hb1)
        replace Hb := Lib.hid (Hb.out.keep hb1)
        replace Hy := Lib.hid (Hy.out.keep hb1)
        replace Hv := Lib.hid (Hv.out.keep hb1)
        replace Ho := Lib.hid (Ho.out.keep hb1)
        replace Hu := Lib.hid (Hu.out.keep hb1)
        clear C hb1 a0 a1 a2 a3
        rcases HUC.out with hup | ⟨j, hj, hup⟩
        · obtain rfl : up1 = -1 := HUP.out.symm.trans hup
          have e1 := HQy.out.symm.trans (push_none HRR.out hup)
          simp only [Prod.mk.injEq] at e1
          obtain ⟨rfl, rfl⟩ := e1
          have e1 := HQv.out.symm.trans (drop_none HRR.out hup)
          simp only [Prod.mk.injEq] at e1
          obtain ⟨rfl, rfl⟩ := e1
          clear hup
          obtain ⟨pa, pn, pc, pq, pa', pn', pc', pl, hAp, hVp⟩ := Hy.out.is
          obtain ⟨p0, p1, p2, p3⟩ := hAp.cells
          obtain ⟨ra, rn, rc, rq, ra', rn', rc', rl, hAr, hVr⟩ := Ho.out.is
          obtain ⟨r0, r1, r2, r3⟩ := hAr.cells
          have C := Lib.hid (like_v _ nilBlb _ nilBlb w18 aD aS aZ hVp (HE.out.keep HB.out) hVr rfl)
          clear hAp hVp hAr hVr
          go_wp2_with fail
          refine C.out.mono ?_
          rintro e w19 ⟨rfl, hb1⟩
          replace HB := Lib.hid (Below.then HB.out hb1)
          replace Hb := Lib.hid (Hb.out.keep hb1)
          replace Hy := Lib.hid (Hy.out.keep hb1)
          replace Hv := Lib.hid (Hv.out.keep hb1)
          replace Ho := Lib.hid (Ho.out.keep hb1)
          replace Hu := Lib.hid (Hu.out.keep hb1)
          clear C hb1 p0 p1 p2 p3 r0 r1 r2 r3
          obtain ⟨pa, pn, pc, pq, pa', pn', pc', pl, hAp, hVp⟩ := Hv.out.is
          obtain ⟨p0, p1, p2, p3⟩ := hAp.cells
          obtain ⟨ra, rn, rc, rq, ra', rn', rc', rl, hAr, hVr⟩ := Ho.out.is
          obtain ⟨r0, r1, r2, r3⟩ := hAr.cells
          have C := Lib.hid (like_v _ nilBlb _ nilBlb w19 aD aS aZ hVp (HE.out.keep HB.out) hVr rfl)
          clear hAp hVp hAr hVr
          go_wp2_with fail
          refine C.out.mono ?_
          rintro e w20 ⟨rfl, hb1⟩
          replace HB := Lib.hid (Below.then HB.out hb1)
          replace Hb := Lib.hid (Hb.out.keep hb1)
          replace Hy := Lib.hid (Hy.out.keep hb1)
          replace Hv := Lib.hid (Hv.out.keep hb1)
          replace Ho := Lib.hid (Ho.out.keep hb1)
          replace Hu := Lib.hid (Hu.out.keep hb1)
          clear C hb1 p0 p1 p2 p3 r0 r1 r2 r3
          go_wp2_with fail
          go_ret
          exact ⟨rfl, HB.out⟩
        · obtain rfl : up1 = (j : Int) := HUP.out.symm.trans hup
          have e1 := HQv.out.symm.trans (drop_some HRR.out hup)
          simp only [Prod.mk.injEq] at e1
          obtain ⟨rfl, rfl⟩ := e1
          obtain ⟨pa, pn, pc, pq, pa', pn', pc', pl, hAp, hVp⟩ := Hv.out.is
          obtain ⟨p0, p1, p2, p3⟩ := hAp.cells
          obtain ⟨ra, rn, rc, rq, ra', rn', rc', rl, hAr, hVr⟩ := Hb.out.is
          obtain ⟨r0, r1, r2, r3⟩ := hAr.cells
          have WO := Lib.hid (fun w' (hb : Below w18.heap.size w18 w') => rwithout_v _ bl j w' (hVr.keep hb) hj HRP.out)
          have LK := Lib.hid (fun w' (hb : Below w18.heap.size w18 w') va' (h' : BlbAt w' va' (withoutB bl j)) => like_v _ (withoutB bl j) va' (withoutB bl j) w' aD aS aZ (hVp.keep hb) (HE.out.keep (Below.then HB.out hb)) h' rfl)
          have HAp := Lib.hid hAp
          have HAr := Lib.hid hAr
          have hbA := Below.refl w18.heap.size w18
          clear hAp hVp hAr hVr
          go_upto_region 25 with fail
          refine wp_region_held_drew (S := fun w' => w'.cell? ⟨Bv, 0, none⟩ = some (.slice pa pn pc) ∧ w'.cell? ⟨Bv, 1, none⟩ = some (.int .i64 pq) ∧ w'.cell? ⟨Bv, 2, none⟩ = some (.slice pa' pn' pc') ∧ w'.cell? ⟨Bv, 3, none⟩ = some (.int .i64 pl) ∧ w'.cell? ⟨Bb, 0, none⟩ = some (.slice ra rn rc) ∧ w'.cell? ⟨Bb, 1, none⟩ = some (.int .i64 rq) ∧ w'.cell? ⟨Bb, 2, none⟩ = some (.slice ra' rn' rc') ∧ w'.cell? ⟨Bb, 3, none⟩ = some (.int .i64 rl)) (by kernel_rfl) ?hSs2x (fun hHeld => ?hRs2x)
          case hSs2x => exact ⟨p0, p1, p2, p3, r0, r1, r2, r3⟩
          refine wpAnyH_take (i := 0) (oi := { dst := some 201, op := Op.move (Operand.tmp 19), type := 27, pos := "law.go:103", after := #[], guard := none }) (v := ?gvs2x0) rfl (by kernel_rfl) (by kernel_rfl) (by kernel_rfl) (fun _ _ _ h => h) (Or.inl ⟨by rfl, ?gys2x0⟩) (by assumption) ?grs2x0
          case gys2x0 => (intro w hSw; (try dsimp only at hSw); go_simp; try with_reducible rfl)
          try simp only [Act.put, List.setIfInBounds_toArray, List.set_cons_zero, List.set_cons_succ]
          refine wpAnyH_take (i := 1) (oi := { dst := some 202, op := Op.binOp BinOp.neq 27 (Operand.tmp 201) (Operand.const (Value.int IntKind.i64 0)) 27, type := 4, pos := "law.go:103", after := #[{ on := 0, ground := Ground.data }], guard := none }) (v := ?gvs2x1) rfl (by kernel_rfl) (by kernel_rfl) (by kernel_rfl) (fun _ _ _ h => h) (Or.inl ⟨by rfl, ?gys2x1⟩) (by assumption) ?grs2x1
          case gys2x1 => (intro w hSw; (try dsimp only at hSw); go_simp; try with_reducible rfl)
          try simp only [Act.put, List.setIfInBounds_toArray, List.set_cons_zero, List.set_cons_succ]
          refine wpAnyH_take (i := 2) (oi := { dst := some 203, op := Op.move (Operand.tmp 202), type := 4, pos := "law.go:103", after := #[{ on := 1, ground := Ground.data }], guard := none }) (v := ?gvs2x2) rfl (by kernel_rfl) (by kernel_rfl) (by kernel_rfl) (fun _ _ _ h => h) (Or.inl ⟨by rfl, ?gys2x2⟩) (by assumption) ?grs2x2
          case gys2x2 => (intro w hSw; (try dsimp only at hSw); go_simp; try with_reducible rfl)
          try simp only [Act.put, List.setIfInBounds_toArray, List.set_cons_zero, List.set_cons_succ]
          refine wpAnyH_take (i := 3) (oi := { dst := some 204, op := Op.load 25 (Operand.tmp 18), type := 25, pos := "law.go:103", after := #[{ on := 2, ground := Ground.guard }], guard := some (2, false) }) (v := ?gvs2x3) rfl (by kernel_rfl) (by kernel_rfl) (by kernel_rfl) (fun _ _ _ h => h) (Or.inl ⟨by rfl, ?gys2x3⟩) (by assumption) ?grs2x3
          case gys2x3 => (intro w hSw; (try dsimp only at hSw); go_simp; try with_reducible rfl)
          try simp only [Act.put, List.setIfInBounds_toArray, List.set_cons_zero, List.set_cons_succ]
          refine wpAnyH_take (i := 4) (oi := { dst := some 205, op := Op.load 25 (Operand.tmp 5), type := 25, pos := "law.go:103", after := #[{ on := 2, ground := Ground.guard }], guard := some (2, false) }) (v := ?gvs2x4) rfl (by kernel_rfl) (by kernel_rfl) (by kernel_rfl) (fun _ _ _ h => h) (Or.inl ⟨by rfl, ?gys2x4⟩) (by assumption) ?grs2x4
          case gys2x4 => (intro w hSw; (try dsimp only at hSw); go_simp; try with_reducible rfl)
          try simp only [Act.put, List.setIfInBounds_toArray, List.set_cons_zero, List.set_cons_succ]
          refine wpAnyH_take (i := 5) (oi := { dst := some 206, op := Op.move (Operand.tmp 25), type := 3, pos := "law.go:103", after := #[{ on := 2, ground := Ground.guard }], guard := some (2, false) }) (v := ?gvs2x5) rfl (by kernel_rfl) (by kernel_rfl) (by kernel_rfl) (fun _ _ _ h => h) (Or.inl ⟨by rfl, ?gys2x5⟩) (by assumption) ?grs2x5
          case gys2x5 => (intro w hSw; (try dsimp only at hSw); go_simp; try with_reducible rfl)
          try simp only [Act.put, List.setIfInBounds_toArray, List.set_cons_zero, List.set_cons_succ]
          refine wpAnyH_ready (rs := [6]) (by kernel_rfl) (by simp) ?_
          refine AllReadyH.cons (o := { dst := some 207, op := Op.call { callee := Callee.value (Operand.func 22), args := #[Operand.tmp 205, Operand.tmp 206], argTypes := #[25, 3] }, type := 25, pos := "law.go:103", after := #[{ on := 4, ground := Ground.data }, { on := 5, ground := Ground.data }, { on := 2, ground := Ground.chain }, { on := 2, ground := Ground.guard }], guard := some (2, false) }) rfl (fun K hK => ?_) AllReadyH.nil
          rw [if_pos (by kernel_rfl)]
          go_simp
          go_wp2_with (go_at_call 22; refine (WO.out w18.drew hbA.drew).mono ?_; rintro e wr1 ⟨v1, rfl, hv1, hbn⟩)
          have hb1 := Below.then hbA.drew hbn
          obtain ⟨p0, p1, p2, p3⟩ := (HAp.out.keep hb1).cells
          obtain ⟨r0, r1, r2, r3⟩ := (HAr.out.keep hb1).cells
          clear hbn
          refine hK.out _ _ ?hSs2x6 (fun hHeld6 => ?hRs2x6)
          case hSs2x6 => exact ⟨p0, p1, p2, p3, r0, r1, r2, r3⟩
          clear hK K
          try simp only [Act.put, List.setIfInBounds_toArray, List.set_cons_zero, List.set_cons_succ]
          refine wpAnyH_ready (rs := [7]) (by kernel_rfl) (by simp) ?_
          refine AllReadyH.cons (o := { dst := some 208, op := Op.call { callee := Callee.value (Operand.func 11), args := #[Operand.tmp 204, Operand.tmp 207], argTypes := #[25, 25] }, type := 4, pos := "law.go:103", after := #[{ on := 3, ground := Ground.data }, { on := 6, ground := Ground.data }, { on := 6, ground := Ground.chain }, { on := 2, ground := Ground.guard }], guard := some (2, false) }) rfl (fun K hK => ?_) AllReadyH.nil
          rw [if_pos (by kernel_rfl)]
          go_simp
          go_wp2_with (go_at_call 11; refine (LK.out wr1 hb1 _ hv1).mono ?_; rintro e wr2 ⟨rfl, hbn⟩)
          have hb2 := Below.then hb1 hbn
          obtain ⟨p0, p1, p2, p3⟩ := (HAp.out.keep hb2).cells
          obtain ⟨r0, r1, r2, r3⟩ := (HAr.out.keep hb2).cells
          clear hbn
          refine hK.out _ _ ?hSs2x7 (fun hHeld7 => ?hRs2x7)
          case hSs2x7 => exact ⟨p0, p1, p2, p3, r0, r1, r2, r3⟩
          clear hK K
          try simp only [Act.put, List.setIfInBounds_toArray, List.set_cons_zero, List.set_cons_succ]
          refine wpAnyH_take (i := 8) (oi := { dst := some 209, op := Op.unOp UnOp.not 4 (Operand.tmp 208), type := 4, pos := "law.go:103", after := #[{ on := 7, ground := Ground.data }, { on := 2, ground := Ground.guard }], guard := some (2, false) }) (v := ?gvs2x8) rfl (by kernel_rfl) (by kernel_rfl) (by kernel_rfl) (fun _ _ _ h => h) (Or.inl ⟨by rfl, ?gys2x8⟩) (by assumption) ?grs2x8
          case gys2x8 => (intro w hSw; (try dsimp only at hSw); go_simp; try with_reducible rfl)
          try simp only [Act.put, List.setIfInBounds_toArray, List.set_cons_zero, List.set_cons_succ]
          refine wpAnyH_take (i := 9) (oi := { dst := some 210, op := Op.pick (Operand.tmp 203) (Operand.const (Value.bool true)) (Operand.tmp 209), type := 4, pos := "law.go:103", after := #[{ on := 2, ground := Ground.data }, { on := 8, ground := Ground.data }], guard := none }) (v := ?gvs2x9) rfl (by kernel_rfl) (by kernel_rfl) (by kernel_rfl) (fun _ _ _ h => h) (Or.inl ⟨by rfl, ?gys2x9⟩) (by assumption) ?grs2x9
          case gys2x9 => (intro w hSw; (try dsimp only at hSw); go_simp; try with_reducible rfl)
          try simp only [Act.put, List.setIfInBounds_toArray, List.set_cons_zero, List.set_cons_succ]
          refine wpAnyH_done (by kernel_rfl) ?_ _
          replace HB := Lib.hid (Below.then HB.out hb2)
          replace Hb := Lib.hid (Hb.out.keep hb2)
          replace Hy := Lib.hid (Hy.out.keep hb2)
          replace Hv := Lib.hid (Hv.out.keep hb2)
          replace Ho := Lib.hid (Ho.out.keep hb2)
          replace Hu := Lib.hid (Hu.out.keep hb2)
          clear hb1 hb2 hbA p0 p1 p2 p3 r0 r1 r2 r3 WO LK HAp HAr hv1 hHeld hHeld6 hHeld7
          clear Hv
          obtain ⟨ka, kc, ka', kc', hAk, hVk⟩ := Hb.out.open
          obtain ⟨ub, uo, ux, us, rfl, hue, hus, g0, g1, hpo, hpl, hpd⟩ := up_facts HRR.out hup hj hVk.parts.2.1
          have HPO := Lib.hid hpo
          have HPL := Lib.hid hpl
          have HPD := Lib.hid hpd
          have HUE := Lib.hid hue
          have HJ := Lib.hid hj
          obtain ⟨m9, hm9⟩ : ∃ n, bl.ups.length = n := ⟨_, rfl⟩
          have HM9 := Lib.hid hm9
          rw [hm9] at hAk hj
          obtain ⟨k0, k1, k2, k3⟩ := hAk.cells
          clear hAk hVk hm9 hup hpo hpl hpd hue
          have q13 : IntKind.i64.wrap ((us.size : Int) + (s.size : Int)) = (us.size : Int) + (s.size : Int) := by rw [IntKind.wrap_i64]; omega
          by_cases ho : offset = (us.size : Nat)
          · subst ho
            have q11 : ((us.size : Int) != (us.size : Int)) = false := bne_self_eq_false _
            by_cases hl : 4096 < us.size + s.size
            · have e1 := HQy.out.symm.trans (HPL.out _ hl)
              simp only [Prod.mk.injEq] at e1
              obtain ⟨rfl, rfl⟩ := e1
              have q12 : 4096 < (us.size : Int) + (s.size : Int) := by omega
              clear HPO HPL HPD
              obtain ⟨pa, pn, pc, pq, pa', pn', pc', pl, hAp, hVp⟩ := Hy.out.is
              obtain ⟨p0, p1, p2, p3⟩ := hAp.cells
              obtain ⟨ra, rn, rc, rq, ra', rn', rc', rl, hAr, hVr⟩ := Ho.out.is
              obtain ⟨r0, r1, r2, r3⟩ := hAr.cells
              have C := Lib.hid (like_v _ nilBlb _ nilBlb wr2 aD aS aZ hVp (HE.out.keep HB.out) hVr rfl)
              clear hAp hVp hAr hVr
              go_wp2_with fail
              refine C.out.mono ?_
              rintro e w301 ⟨rfl, hb1⟩
              replace HB := Lib.hid (Below.then HB.out hb1)
              replace Hb := Lib.hid (Hb.out.keep hb1)
              replace Hy := Lib.hid (Hy.out.keep hb1)
              replace Ho := Lib.hid (Ho.out.keep hb1)
              replace Hu := Lib.hid (Hu.out.keep hb1)
              clear C hb1 p0 p1 p2 p3 r0 r1 r2 r3
              go_wp2_with fail
              go_ret
              exact ⟨rfl, HB.out⟩
            · have e1 := HQy.out.symm.trans (HPD.out _ hl)
              simp only [Prod.mk.injEq] at e1
              obtain ⟨rfl, rfl⟩ := e1
              have q12 : ¬ 4096 < (us.size : Int) + (s.size : Int) := by omega
              clear HPO HPL HPD
              clear Ho
              have hzs : us.size + s.size ≤ 4096 := by omega
              go_upto_region 32 with fail
              clear k0 k1 k2 k3 g0 g1 hl
              obtain ⟨ya, yn, yc, yq, ya', yn', yc', yl, hA1, hV1⟩ := Hb.out.is
              have HV1 := Lib.hid hV1
              obtain ⟨b0, b1, b2, b3⟩ := hA1.cells
              clear hA1 hV1
              obtain ⟨za, zn, zc, zq, za', zn', zc', zl, hA, hV⟩ := Hu.out.is
              obtain ⟨a0, a1, a2, a3⟩ := hA.cells
              obtain ⟨f0, f1, f2, f3⟩ := hA.free
              clear hA hV
              go_upto_region 33 with fail
              obtain ⟨w401, hw2⟩ : ∃ x, (((wr2.setCell ⟨Bu, 0, none⟩ (.slice ya yn yc)).setCell ⟨Bu, 1, none⟩ (.int .i64 yq)).setCell ⟨Bu, 2, none⟩ (.slice ya' yn' yc')).setCell ⟨Bu, 3, none⟩ (.int .i64 yl) = x := ⟨_, rfl⟩
              rw [hw2]
              replace Hb := Lib.hid (show VarB w401 Bb bl by rw [← hw2]; exact Hb.out.other Hu.out HNbu.out)
              replace Hy := Lib.hid (show VarB w401 By (setUp bl j (us ++ s)) by rw [← hw2]; exact Hy.out.other Hu.out HNyu.out)
              replace Hu := Lib.hid (show VarB w401 Bu bl by rw [← hw2]; exact Hu.out.set HV1.out)
              replace HB := Lib.hid (show Below w.heap.size w w401 by rw [← hw2]; exact set4_below HB.out HLu.out (.slice ya yn yc) (.int .i64 yq) (.slice ya' yn' yc') (.int .i64 yl))
              clear hw2 a0 a1 a2 a3 f0 f1 f2 f3 HV1
              clear b0 b1 b2 b3
              obtain ⟨pa, pn, pc, pq, pa', pn', pc', pl, hAp, hVp⟩ := Hb.out.is
              obtain ⟨p0, p1, p2, p3⟩ := hAp.cells
              obtain ⟨ra, rn, rc, rq, ra', rn', rc', rl, hAr, hVr⟩ := Hu.out.is
              obtain ⟨r0, r1, r2, r3⟩ := hAr.cells
              obtain ⟨i1, hi1, hy0, hy1, hy2⟩ := info_parts infoUp
              have hpn : pn' = bl.ups.length := by
                obtain ⟨x1, x2, e, -, -⟩ := hVp.parts.2.1.shape3
                simp only [Value.slice.injEq] at e
                rw [e.2.1, List.length_map]
              have hp16 : pn' ≤ 16 := by rw [hpn]; exact HRP.out.ups
              have hjp : j < pn' := by rw [hpn]; exact HJ.out
              have HSRC := Lib.hid (show SrcOf 2 (w401.alloc (.cells #[] 40)) (.slice pa' pn' pc') pn' (cellsL (bl.ups.map upCell)) by
                have := (hVp.parts.2.1.keep (below_new w401 (.cells #[] 40))).src
                rwa [List.length_map, ← hpn] at this)
              have HOWN1 := Lib.hid (show (w401.alloc (.cells #[] 40)).ownsRow w401.heap.size 40 2 (.slice (some ⟨w401.heap.size, 0, none⟩) 0 0) 0 [] from World.ownsRow_lit w401 #[] 0 (Nat.le_refl _) (Nat.zero_le _) rfl)
              have HLE1 := Lib.hid (show w401.heap.size ≤ (w401.alloc (.cells #[] 40)).heap.size by rw [World.size_alloc]; exact Nat.le_succ _)
              have p2a : (w401.alloc (.cells #[] 40)).cell? ⟨Bb, 2, none⟩ = some (.slice pa' pn' pc') := Below.keepc (below_new _ _) p2
              have HAr := Lib.hid hAr
              have HVr := Lib.hid hVr
              have HPN := Lib.hid hpn
              clear hAp hVp hAr hVr p0 p1 p2 p3 r0 r1 r2 r3 hpn
              go_wp2_with (at_builtin; refine wpList_append_src _ rfl _ _ 23 rfl w401.heap.size 40 i1 (.agg #[.int .i64 0, .string ⟨#[]⟩]) 2 24 Tryz.underlying23 hi1 hy0 hy1 hy2 rfl (by decide) _ 0 [] rfl HOWN1.out _ pn' _ rfl HSRC.out (one_ups _) (by unfold maxLen; omega) (by omega) HLE1.out ?_)
              intro v2 wa hown2 hgrow2
              obtain ⟨su, ku, rfl⟩ := own_shape hown2
              obtain ⟨g, rfl, hgb, hmk, cur, hcur⟩ := own_some hown2 (by omega)
              have hB2 : Below w401.heap.size w401 wa := ((Below.refl _ w401).alloc (Nat.le_refl _) _).grown hgrow2 HLE1.out (fun k hk => (HOWN1.out.lt k hk).1)
              have HR2 := Lib.hid (HAr.out.keep hB2)
              have HB2 := Lib.hid hB2
              have HO2 := Lib.hid hown2
              have HCU := Lib.hid hcur
              have HGB := Lib.hid hgb
              clear hown2 hgrow2 hB2 hcur hgb p2a HSRC HOWN1 HLE1
              obtain ⟨r0, r1, r2, r3⟩ := HR2.out.cells
              obtain ⟨f0, f1, f2, f3⟩ := HR2.out.free
              go_upto_region 34 with fail
              clear r0 r1 r2 r3 f0 f1 f2 f3
              obtain ⟨wb, hwb⟩ : ∃ x, wa.setCell ⟨Bu, 2, none⟩ (.slice (some ⟨g, 0, none⟩) pn' ku) = x := ⟨_, rfl⟩
              have HWB := Lib.hid hwb
              rw [hwb]
              have hne : g ≠ Bu := by have := HGB.out; have := HAr.out.lt; omega
              have HR3 := Lib.hid (show At4 25 wb Bu (.slice ra rn rc) (.int .i64 rq) (.slice (some ⟨g, 0, none⟩) pn' ku) (.int .i64 rl) by rw [← hwb]; exact HR2.out.at2 _)
              have hbul := HAr.out.lt
              have hO3 : wb.ownsRow w401.heap.size 40 2 (.slice (some ⟨g, 0, none⟩) pn' ku) pn' (cellsL (bl.ups.map upCell)) := by rw [← hwb]; exact own_same HO2.out fun k hk => Below.heap_setCell _ _ _ _ (show k ≠ Bu by omega)
              have hcur2 : wb.heap[g]? = some (.cells cur 40 (0, 0)) := by rw [← hwb, Below.heap_setCell _ _ _ _ hne]; exact HCU.out
              have hfz : wb.frozen? ⟨g, j * 2 + 1, none⟩ = false := by simp only [World.frozen?, hcur2]; rfl
              have hce : wb.cell? ⟨g, j * 2 + 1, none⟩ = some (.string us) := by
                have h1 := (cellsL_at (bl.ups.map upCell) j (by rw [List.length_map]; exact HJ.out)).2
                rw [up_getElem bl.ups j HJ.out, List.getElem_of_getElem? HUE.out |>.2] at h1
                have h2 := hO3.cells (g := g) rfl (j * 2 + 1) _ h1
                rwa [add_plain, Nat.zero_add] at h2
              clear hwb hcur2 hO3
              obtain ⟨r0, r1, r2, r3⟩ := HR3.out.cells
              go_upto_region 35 with fail
              obtain ⟨wc, hwc⟩ : ∃ x, wb.setCell ⟨g, j * 2 + 1, none⟩ (.string (us ++ s)) = x := ⟨_, rfl⟩
              rw [hwc]
              have PU := put_up (x := us ++ s) HAr.out HVr.out HB2.out HO2.out HPN.out.symm HJ.out (by rw [ByteArray.size_append]; unfold maxLen; omega)
              rw [HWB.out, hwc] at PU
              replace Hy := Lib.hid (Hy.out.past Hu.out HNyu.out PU.2)
              replace Hu := Lib.hid PU.1
              replace HB := Lib.hid (show Below w.heap.size w wc by rw [← hwc, ← HWB.out]; exact ((Below.then HB.out HB2.out).setCell (p := ⟨Bu, 2, none⟩) HLu.out _).setCell (p := ⟨g, j * 2 + 1, none⟩) (Nat.le_trans HB.out.size HGB.out) _)
              clear PU hwc r0 r1 r2 r3 hce hfz HR2 HR3 HAr HVr HWB
              obtain ⟨pa, pn, pc, pq, pa', pn', pc', pl, hAp, hVp⟩ := Hy.out.is
              obtain ⟨p0, p1, p2, p3⟩ := hAp.cells
              obtain ⟨ra, rn, rc, rq, ra', rn', rc', rl, hAr, hVr⟩ := Hu.out.is
              obtain ⟨r0, r1, r2, r3⟩ := hAr.cells
              have C := Lib.hid (like_v _ (setUp bl j (us ++ s)) _ (setUp bl j (us ++ s)) wc aD aS aZ hVp (HE.out.keep HB.out) hVr rfl)
              clear hAp hVp hAr hVr
              go_wp2_with fail
              refine C.out.mono ?_
              rintro e w402 ⟨rfl, hb1⟩
              replace HB := Lib.hid (Below.then HB.out hb1)
              replace Hy := Lib.hid (Hy.out.keep hb1)
              replace Hu := Lib.hid (Hu.out.keep hb1)
              clear C hb1 p0 p1 p2 p3 r0 r1 r2 r3
              go_wp2_with fail
              go_ret
              exact ⟨rfl, HB.out⟩
          · have e1 := HQy.out.symm.trans (HPO.out _ _ ho)
            simp only [Prod.mk.injEq] at e1
            obtain ⟨rfl, rfl⟩ := e1
            have q11 : (offset != (us.size : Int)) = true := bne_iff_ne.2 ho
            clear HPO HPL HPD
            obtain ⟨pa, pn, pc, pq, pa', pn', pc', pl, hAp, hVp⟩ := Hy.out.is
            obtain ⟨p0, p1, p2, p3⟩ := hAp.cells
            obtain ⟨ra, rn, rc, rq, ra', rn', rc', rl, hAr, hVr⟩ := Ho.out.is
            obtain ⟨r0, r1, r2, r3⟩ := hAr.cells
            have C := Lib.hid (like_v _ nilBlb _ nilBlb wr2 aD aS aZ hVp (HE.out.keep HB.out) hVr rfl)
            clear hAp hVp hAr hVr
            go_wp2_with fail
            refine C.out.mono ?_
            rintro e w301 ⟨rfl, hb1⟩
            replace HB := Lib.hid (Below.then HB.out hb1)
            replace Hb := Lib.hid (Hb.out.keep hb1)
            replace Hy := Lib.hid (Hy.out.keep hb1)
            replace Ho := Lib.hid (Ho.out.keep hb1)
            replace Hu := Lib.hid (Hu.out.keep hb1)
            clear C hb1 p0 p1 p2 p3 r0 r1 r2 r3
            go_wp2_with fail
            go_ret
            exact ⟨rfl, HB.out⟩
      · have hf : ¬ (bl.ups.length = 16 ∨ bl.last = 1099511627776) := fun h => h.elim hc hd2
        have e1 := HQx.out.symm.trans (begin_room HRR.out hf)
        simp only [Prod.mk.injEq] at e1
        obtain ⟨rfl, rfl, rfl⟩ := e1
        obtain ⟨ya, yn, yc, yq, ya', yn', yc', yl, hA1, hV1⟩ := Hb.out.is
        have hyn : yn' = bl.ups.length := by
          obtain ⟨x1, x2, e, -, -⟩ := hV1.parts.2.1.shape3
          simp only [Value.slice.injEq] at e
          rw [e.2.1, List.length_map]
        have hyq : yq = bl.quota := by simpa using hV1.parts.2.2.1
        have hyl : yl = bl.last := by simpa using hV1.parts.2.2.2
        have hl40 := HRP.out.last
        have h16 := HRP.out.ups
        have q9 : ((yn' : Int) == 16) = false := beq_eq_false_iff_ne.2 (by omega)
        have q10 : (yl == 1099511627776) = false := beq_eq_false_iff_ne.2 (by omega)
        have q14 : IntKind.i64.wrap (yl + 1) = yl + 1 := by rw [IntKind.wrap_i64]; omega
        have HYN := Lib.hid (And.intro hyn (And.intro hyq hyl))
        have HPO1 := Lib.hid hV1.parts.1
        have HPU1 := Lib.hid hV1.parts.2.1
        have HOS := Lib.hid hV1.objs
        have HAb := Lib.hid hA1
        obtain ⟨b0, b1, b2, b3⟩ := hA1.cells
        clear hA1 hV1 hyn hyq hyl
        obtain ⟨wm, hwm⟩ : ∃ x, w12.alloc (.cells #[.slice ya yn yc, .int .i64 yq, .slice ya' yn' yc', .int .i64 yl] 25) = x := ⟨_, rfl⟩
        obtain ⟨Bn, hBn⟩ : ∃ x, w12.heap.size = x := ⟨_, rfl⟩
        have hbm : Below w12.heap.size w12 wm := by rw [← hwm]; exact below_new _ _
        have HAm := Lib.hid (show At4 25 wm Bn (.slice ya yn yc) (.int .i64 yq) (.slice ya' yn' yc') (.int .i64 yl) by rw [← hwm, ← hBn]; exact At4.new _ _ _ _ _ _)
        have HLn := Lib.hid (show w.heap.size ≤ Bn by rw [← hBn]; exact HB.out.size)
        have HNbn := Lib.hid (show Bb ≠ Bn by have := Hb.out.lt; omega)
        have HNxn := Lib.hid (show Bx ≠ Bn by have := Hx.out.lt; omega)
        have HNyn := Lib.hid (show By ≠ Bn by have := Hy.out.lt; omega)
        have HNzn := Lib.hid (show Bz ≠ Bn by have := Hz.out.lt; omega)
        have HNvn := Lib.hid (show Bv ≠ Bn by have := Hv.out.lt; omega)
        have HNon := Lib.hid (show Bo ≠ Bn by have := Ho.out.lt; omega)
        replace Hb := Lib.hid (Hb.out.keep hbm)
        replace Hx := Lib.hid (Hx.out.keep hbm)
        replace Hy := Lib.hid (Hy.out.keep hbm)
        replace Hz := Lib.hid (Hz.out.keep hbm)
        replace Hv := Lib.hid (Hv.out.keep hbm)
        replace Ho := Lib.hid (Ho.out.keep hbm)
        replace HB := Lib.hid (Below.then HB.out hbm)
        replace HAb := Lib.hid (HAb.out.keep hbm)
        replace HPO1 := Lib.hid (HPO1.out.keep hbm)
        replace HPU1 := Lib.hid (HPU1.out.keep hbm)
        have HWM := Lib.hid hwm
        clear hwm hbm
        go_upto_region 15 with fail
        rw [HWM.out]
        clear hBn HWM b0 b1 b2 b3 q9 q10
        obtain ⟨n0, n1, n2, n3⟩ := HAm.out.cells
        obtain ⟨f0, f1, f2, f3⟩ := HAm.out.free
        go_upto_region 16 with fail
        clear n0 n1 n2 n3 f0 f1 f2 f3 q14
        obtain ⟨wn, hwn⟩ : ∃ x, wm.setCell ⟨Bn, 3, none⟩ (.int .i64 (yl + 1)) = x := ⟨_, rfl⟩
        rw [hwn]
        have hks : ∀ k, k ≠ Bn → wn.heap[k]? = wm.heap[k]? := fun k hk => by rw [← hwn]; exact Below.heap_setCell _ _ _ _ hk
        have hno : NoStr 25 wm Bn := ⟨_, _, _, _, _, _, _, _, HAm.out⟩
        have HAn := Lib.hid (show At4 25 wn Bn (.slice ya yn yc) (.int .i64 yq) (.slice ya' yn' yc') (.int .i64 (yl + 1)) by rw [← hwn]; exact HAm.out.at3 _)
        replace HAb := Lib.hid (show At4 25 wn Bb (.slice ya yn yc) (.int .i64 yq) (.slice ya' yn' yc') (.int .i64 yl) from (hks Bb HNbn.out).trans HAb.out)
        replace HPO1 := Lib.hid (HPO1.out.away4 (fun p hp => by obtain ⟨y, -, rfl⟩ := List.mem_map.1 hp; exact ⟨_, rfl⟩) hno hks)
        replace HPU1 := Lib.hid (HPU1.out.away4 (fun p hp => by obtain ⟨y, -, rfl⟩ := List.mem_map.1 hp; exact ⟨_, rfl⟩) hno hks)
        replace HB := Lib.hid (show Below w.heap.size w wn by rw [← hwn]; exact HB.out.setCell (p := ⟨Bn, 3, none⟩) HLn.out _)
        replace Hb := Lib.hid (show VarB wn Bb bl from Hb.out.beside4 hno HNbn.out hks)
        replace Hx := Lib.hid (show VarB wn Bx ⟨bl.objs, bl.quota, bl.ups ++ [(bl.last + 1, ⟨#[]⟩)], bl.last + 1⟩ from Hx.out.beside4 hno HNxn.out hks)
        replace Hy := Lib.hid (show VarB wn By ry from Hy.out.beside4 hno HNyn.out hks)
        replace Hz := Lib.hid (show VarB wn Bz rz from Hz.out.beside4 hno HNzn.out hks)
        replace Hv := Lib.hid (show VarB wn Bv rv from Hv.out.beside4 hno HNvn.out hks)
        replace Ho := Lib.hid (show VarB wn Bo nilBlb from Ho.out.beside4 hno HNon.out hks)
        clear hks hno hwn HAm
        obtain ⟨hyn, rfl, rfl⟩ := HYN.out
        have HYN2 := Lib.hid hyn
        have hyn16 : yn' ≤ 16 := by omega
        obtain ⟨i1, hi1, hy0, hy1, hy2⟩ := info_parts infoUp
        have hbA := Below.refl wn.heap.size wn
        have HSRC := Lib.hid (fun w' (hb : Below wn.heap.size wn w') => show SrcOf 2 w' (.slice ya' yn' yc') yn' (cellsL (bl.ups.map upCell)) by
          have := (HPU1.out.keep hb).src
          rwa [List.length_map, ← HYN2.out] at this)
        clear hyn HYN
        have b2 := HAb.out.cells.2.2.1
        have n3 := HAn.out.cells.2.2.2
        have b2c := b2
        have n3c := n3
        refine wp_region_held_drew (S := fun w' => w'.cell? ⟨Bb, 2, none⟩ = some (.slice ya' yn' yc') ∧ w'.cell? ⟨Bn, 3, none⟩ = some (.int .i64 (bl.last + 1))) (by kernel_rfl) ?hSu (fun hHeld => ?hRu)
        case hSu => exact ⟨b2, n3⟩
        refine wpAnyH_take (i := 1) (oi := { dst := some 137, op := Op.fieldAddr 25 (Operand.tmp 5) 2, type := 0, pos := "law.go:90", after := #[], guard := none }) (v := ?gvu1) rfl (by kernel_rfl) (by kernel_rfl) (by kernel_rfl) (fun _ _ _ h => h) (Or.inl ⟨by rfl, ?gyu1⟩) (by assumption) ?gru1
        case gyu1 => (intro w hSw; (try dsimp only at hSw); go_simp; try with_reducible rfl)
        try simp only [Act.put, List.setIfInBounds_toArray, List.set_cons_zero, List.set_cons_succ]
        refine wpAnyH_take (i := 2) (oi := { dst := some 138, op := Op.load 23 (Operand.tmp 137), type := 23, pos := "law.go:90", after := #[{ on := 1, ground := Ground.data }], guard := none }) (v := ?gvu2) rfl (by kernel_rfl) (by kernel_rfl) (by kernel_rfl) (fun _ _ _ h => h) (Or.inl ⟨by rfl, ?gyu2⟩) (by assumption) ?gru2
        case gyu2 => (intro w hSw; (try dsimp only at hSw); go_simp; try with_reducible rfl)
        try simp only [Act.put, List.setIfInBounds_toArray, List.set_cons_zero, List.set_cons_succ]
        refine wpAnyH_take (i := 4) (oi := { dst := some 140, op := Op.fieldAddr 25 (Operand.tmp 22) 3, type := 0, pos := "law.go:90", after := #[], guard := none }) (v := ?gvu4) rfl (by kernel_rfl) (by kernel_rfl) (by kernel_rfl) (fun _ _ _ h => h) (Or.inl ⟨by rfl, ?gyu4⟩) (by assumption) ?gru4
        case gyu4 => (intro w hSw; (try dsimp only at hSw); go_simp; try with_reducible rfl)
        try simp only [Act.put, List.setIfInBounds_toArray, List.set_cons_zero, List.set_cons_succ]
        refine wpAnyH_take (i := 5) (oi := { dst := some 141, op := Op.load 3 (Operand.tmp 140), type := 3, pos := "law.go:90", after := #[{ on := 4, ground := Ground.data }], guard := none }) (v := ?gvu5) rfl (by kernel_rfl) (by kernel_rfl) (by kernel_rfl) (fun _ _ _ h => h) (Or.inl ⟨by rfl, ?gyu5⟩) (by assumption) ?gru5
        case gyu5 => (intro w hSw; (try dsimp only at hSw); go_simp; try with_reducible rfl)
        try simp only [Act.put, List.setIfInBounds_toArray, List.set_cons_zero, List.set_cons_succ]
        refine wpAnyH_take (i := 6) (oi := { dst := some 142, op := Op.build 40 #[(0, Operand.tmp 141)], type := 40, pos := "law.go:90", after := #[{ on := 5, ground := Ground.data }], guard := none }) (v := ?gvu6) rfl (by kernel_rfl) (by kernel_rfl) (by kernel_rfl) (fun _ _ _ h => h) (Or.inl ⟨by rfl, ?gyu6⟩) (by assumption) ?gru6
        case gyu6 => (intro w hSw; (try dsimp only at hSw); go_simp; try with_reducible rfl)
        try simp only [Act.put, List.setIfInBounds_toArray, List.set_cons_zero, List.set_cons_succ]
        refine wpAnyH_ready (rs := [0, 7]) (by kernel_rfl) (by simp) ?_
        refine AllReadyH.cons (o := { dst := some 136, op := Op.buildSlice 23 0 #[], type := 23, pos := "law.go:90", after := #[], guard := none }) rfl (fun K hK => ?ua) (AllReadyH.cons (o := { dst := some 143, op := Op.buildSlice 23 1 #[(0, Operand.tmp 142)], type := 23, pos := "law.go:90", after := #[{ on := 6, ground := Ground.data }], guard := none }) rfl (fun K hK => ?ub) AllReadyH.nil)
        case ua =>
          rw [if_pos (by kernel_rfl)]
          go_simp
          refine hK.out _ _ ?hSua0 (fun hHeldua0 => ?hRua0)
          case hSua0 => exact ⟨Below.keepc (hbA.drew.alloc (Nat.le_refl _) (.cells #[] 40)) b2, Below.keepc (hbA.drew.alloc (Nat.le_refl _) (.cells #[] 40)) n3⟩
          clear hK K
          try simp only [Act.put, List.setIfInBounds_toArray, List.set_cons_zero, List.set_cons_succ]
          refine wpAnyH_ready (rs := [3, 7]) (by kernel_rfl) (by simp) ?_
          refine AllReadyH.cons (o := { dst := some 139, op := Op.call { callee := Callee.builtin Builtin.append, args := #[Operand.tmp 136, Operand.tmp 138], argTypes := #[23, 23] }, type := 23, pos := "law.go:90", after := #[{ on := 0, ground := Ground.data }, { on := 2, ground := Ground.data }], guard := none }) rfl (fun K hK => ?uaa) (AllReadyH.cons (o := { dst := some 143, op := Op.buildSlice 23 1 #[(0, Operand.tmp 142)], type := 23, pos := "law.go:90", after := #[{ on := 6, ground := Ground.data }], guard := none }) rfl (fun K hK => ?uab) AllReadyH.nil)
          case uaa =>
            have hO0 : (wn.drew.alloc (.cells #[] 40)).ownsRow wn.heap.size 40 2 _ 0 [] := (World.ownsRow_lit (wn.drew) #[] 0 (Nat.le_refl _) (Nat.zero_le _) rfl)
            have hbc : Below wn.heap.size wn (wn.drew.alloc (.cells #[] 40)) := (hbA.drew.alloc (Nat.le_refl _) (.cells #[] 40))
            refine step_append_src (wn.drew.alloc (.cells #[] 40)) (by rfl) (.tmp 136) (.tmp 138) 23 (by rfl) wn.heap.size 40 i1 (.agg #[.int .i64 0, .string ⟨#[]⟩]) 2 24 Tryz.underlying23 hi1 hy0 hy1 hy2 rfl (by decide) _ 0 [] (by rfl) hO0 _ yn' _ (by rfl) (HSRC.out _ hbc) (one_ups _) (by unfold maxLen; omega) (by omega) hbc.size ?_
            intro v1 w4 hown4 hgrow4
            rw [Nat.zero_add, List.nil_append] at hown4
            have hb4 : Below wn.heap.size wn w4 := hbc.grown hgrow4 hbc.size (fun k hk => (hO0.lt k hk).1)
            clear hgrow4 hO0 hbc
            refine hK.out _ _ ?hSuaa3 (fun hHelduaa3 => ?hRuaa3)
            case hSuaa3 => exact ⟨Below.keepc hb4 b2, Below.keepc hb4 n3⟩
            clear hK K
            try simp only [Act.put, List.setIfInBounds_toArray, List.set_cons_zero, List.set_cons_succ]
            refine wpAnyH_ready (rs := [7]) (by kernel_rfl) (by simp) ?_
            refine AllReadyH.cons (o := { dst := some 143, op := Op.buildSlice 23 1 #[(0, Operand.tmp 142)], type := 23, pos := "law.go:90", after := #[{ on := 6, ground := Ground.data }], guard := none }) rfl (fun K hK => ?_) AllReadyH.nil
            rw [if_pos (by kernel_rfl)]
            go_simp
            refine hK.out _ _ ?hSuaa7 (fun hHelduaa7 => ?hRuaa7)
            case hSuaa7 => exact ⟨Below.keepc (hb4.alloc hb4.size (.cells #[.int .i64 (bl.last + 1), .string ⟨#[]⟩] 40)) b2, Below.keepc (hb4.alloc hb4.size (.cells #[.int .i64 (bl.last + 1), .string ⟨#[]⟩] 40)) n3⟩
            clear hK K
            try simp only [Act.put, List.setIfInBounds_toArray, List.set_cons_zero, List.set_cons_succ]
            refine wpAnyH_ready (rs := [8]) (by kernel_rfl) (by simp) ?_
            refine AllReadyH.cons (o := { dst := some 144, op := Op.call { callee := Callee.builtin Builtin.append, args := #[Operand.tmp 139, Operand.tmp 143], argTypes := #[23, 23] }, type := 23, pos := "law.go:90", after := #[{ on := 3, ground := Ground.data }, { on := 7, ground := Ground.data }, { on := 3, ground := Ground.chain }], guard := none }) rfl (fun K hK => ?_) AllReadyH.nil
            have hO5 : (w4.alloc (.cells #[.int .i64 (bl.last + 1), .string ⟨#[]⟩] 40)).ownsRow wn.heap.size 40 2 v1 yn' (cellsL (bl.ups.map upCell)) := hown4.alloc (.cells #[.int .i64 (bl.last + 1), .string ⟨#[]⟩] 40)
            have hb5 : Below wn.heap.size wn (w4.alloc (.cells #[.int .i64 (bl.last + 1), .string ⟨#[]⟩] 40)) := hb4.alloc hb4.size (.cells #[.int .i64 (bl.last + 1), .string ⟨#[]⟩] 40)
            have hnw : ∀ j u, [Value.int .i64 (bl.last + 1), Value.string ⟨#[]⟩][j]? = some u → (w4.alloc (.cells #[.int .i64 (bl.last + 1), .string ⟨#[]⟩] 40)).cell? ((⟨w4.heap.size, 0, none⟩ : Addr).add j) = some u := World.news_of_block (heap_alloc_new w4 _)
            refine step_append_lies (w4.alloc (.cells #[.int .i64 (bl.last + 1), .string ⟨#[]⟩] 40)) (by rfl) (.tmp 139) (.tmp 143) 23 (by rfl) wn.heap.size 40 i1 (.agg #[.int .i64 0, .string ⟨#[]⟩]) 2 24 Tryz.underlying23 hi1 hy0 hy1 hy2 rfl (by decide) _ yn' _ (by rfl) hO5 ⟨w4.heap.size, 0, none⟩ 1 1 [.int .i64 (bl.last + 1), .string ⟨#[]⟩] (by rfl) (by rfl) hnw (few_ucell (bl.last + 1, ⟨#[]⟩)) (by decide) (by unfold maxLen; omega) (by omega) hb5.size _ rfl ?_
            intro g6 c6 w6 hown6 hgrow6 hat6 hlt6
            have hb6 : Below wn.heap.size wn w6 := hb5.grown hgrow6 hb5.size (fun k hk => (hO5.lt k hk).1)
            clear hgrow6 hat6 hlt6 hO5 hb5 hnw
            refine hK.out _ _ ?hSuaa8 (fun hHelduaa8 => ?hRuaa8)
            case hSuaa8 => exact ⟨Below.keepc hb6 b2, Below.keepc hb6 n3⟩
            clear hK K
            try simp only [Act.put, List.setIfInBounds_toArray, List.set_cons_zero, List.set_cons_succ]
            refine wpAnyH_take (i := 9) (oi := { dst := some 145, op := Op.fieldAddr 25 (Operand.tmp 22) 2, type := 0, pos := "law.go:90", after := #[{ on := 0, ground := Ground.phase }, { on := 1, ground := Ground.phase }, { on := 2, ground := Ground.phase }, { on := 3, ground := Ground.phase }, { on := 4, ground := Ground.phase }, { on := 5, ground := Ground.phase }, { on := 6, ground := Ground.phase }, { on := 7, ground := Ground.phase }, { on := 8, ground := Ground.phase }], guard := none }) (v := ?gvuaa9) rfl (by kernel_rfl) (by kernel_rfl) (by kernel_rfl) (fun _ _ _ h => h) (Or.inl ⟨by rfl, ?gyuaa9⟩) (by assumption) ?gruaa9
            case gyuaa9 => (intro w hSw; (try dsimp only at hSw); go_simp; try with_reducible rfl)
            try simp only [Act.put, List.setIfInBounds_toArray, List.set_cons_zero, List.set_cons_succ]
            have n2 := (HAn.out.keep hb6).cells.2.2.1
            have f2 := (HAn.out.keep hb6).free.2.2.1
            refine wpAnyH_ready (rs := [10]) (by kernel_rfl) (by simp) ?_
            refine AllReadyH.cons (o := { dst := none, op := Op.store 23 (Operand.tmp 145) (Operand.tmp 144), type := 0, pos := "law.go:90", after := #[{ on := 9, ground := Ground.data }, { on := 8, ground := Ground.data }, { on := 8, ground := Ground.chain }, { on := 0, ground := Ground.phase }, { on := 1, ground := Ground.phase }, { on := 2, ground := Ground.phase }, { on := 3, ground := Ground.phase }, { on := 4, ground := Ground.phase }, { on := 5, ground := Ground.phase }, { on := 6, ground := Ground.phase }, { on := 7, ground := Ground.phase }, { on := 8, ground := Ground.phase }], guard := none }) rfl (fun K hK => ?_) AllReadyH.nil
            rw [if_pos (by kernel_rfl)]
            go_simp
            refine hK.out _ _ ?hSuaas (fun hHelduaas => ?hRuaas)
            case hSuaas => exact ⟨few_far (Below.keepc hb6 b2) (fun e => HNbn.out e.symm), (World.cell?_setCell_other _ _ _ _ (by simp)).trans (Below.keepc hb6 n3)⟩
            clear hK K
            try simp only [Act.put, List.setIfInBounds_toArray, List.set_cons_zero, List.set_cons_succ]
            refine wpAnyH_done (by kernel_rfl) ?_ _
            clear n2 f2 b2 n3 hHelduaas
            have WE := want_end HAn.out HPO1.out HRP.out HOS.out hb6 hown6 HYN2.out.symm
            obtain ⟨w7, hw7⟩ : ∃ x, w6.setCell ⟨Bn, 2, none⟩ (.slice (some ⟨g6, 0, none⟩) (yn' + 1) c6) = x := ⟨_, rfl⟩
            rw [hw7] at WE ⊢
            have hno : NoStr 25 wn Bn := ⟨_, _, _, _, _, _, _, _, HAn.out⟩
            have Hn := Lib.hid WE.1
            replace HB := Lib.hid (show Below w.heap.size w w7 by rw [← hw7]; exact (Below.then HB.out hb6).setCell (p := ⟨Bn, 2, none⟩) HLn.out _)
            replace Hb := Lib.hid (Hb.out.past4 hno HNbn.out WE.2)
            replace Hx := Lib.hid (Hx.out.past4 hno HNxn.out WE.2)
            replace Hy := Lib.hid (Hy.out.past4 hno HNyn.out WE.2)
            replace Hz := Lib.hid (Hz.out.past4 hno HNzn.out WE.2)
            replace Hv := Lib.hid (Hv.out.past4 hno HNvn.out WE.2)
            replace Ho := Lib.hid (Ho.out.past4 hno HNon.out WE.2)
            clear WE hw7 hno hb6 hown6 hbA b2c n3c hb4 hown4 HAb HPO1 HPU1 HSRC HAn HOS
            obtain ⟨pa, pn, pc, pq, pa', pn', pc', pl, hAp, hVp⟩ := Hx.out.is
            obtain ⟨p0, p1, p2, p3⟩ := hAp.cells
            obtain ⟨ra, rn, rc, rq, ra', rn', rc', rl, hAr, hVr, hrl⟩ := Hn.out.opens
            obtain ⟨r0, r1, r2, r3⟩ := hAr.cells
            have q15 : ((bl.last + 1) != rl) = false := by rw [hrl]; exact bne_self_eq_false _
            have C := Lib.hid (like_v _ ⟨bl.objs, bl.quota, bl.ups ++ [(bl.last + 1, ⟨#[]⟩)], bl.last + 1⟩ _ ⟨bl.objs, bl.quota, bl.ups ++ [(bl.last + 1, ⟨#[]⟩)], bl.last + 1⟩ w7 aD aS aZ hVp (HE.out.keep HB.out) hVr rfl)
            clear hAp hVp hAr hVr hrl
            go_wp2_with fail
            refine C.out.mono ?_
            rintro e w8 ⟨rfl, hb1⟩
            replace HB := Lib.hid (Below.then HB.out hb1)
            replace Hb := Lib.hid (Hb.out.keep hb1)
            replace Hx := Lib.hid (Hx.out.keep hb1)
            replace Hy := Lib.hid (Hy.out.keep hb1)
            replace Hz := Lib.hid (Hz.out.keep hb1)
            replace Hv := Lib.hid (Hv.out.keep hb1)
            replace Ho := Lib.hid (Ho.out.keep hb1)
            clear C hb1 p0 p1 p2 p3 r0 r1 r2 r3 q15 Hn Hx
            obtain ⟨xa, xn, xc, xq, xa', xn', xc', xl, hA, hV⟩ := Hb.out.is
            have C0 := rend_v _ bl id d w8 aD aS aZ hV (HE.out.keep HB.out) HRP.out HQE.out
            have C := Lib.hid C0
            clear C0
            obtain ⟨a0, a1, a2, a3⟩ := hA.cells
            clear hA hV
            go_wp2_with fail
            refine C.out.mono ?_
            rintro e w501 ⟨v1, rfl, hv1, hb1⟩
            obtain ⟨ya, yn, yc, yq, ya', yn', yc', yl, rfl⟩ := hv1.four
            have HV1 := Lib.hid hv1
            replace HB := Lib.hid (Below.then HB.out hb1)
            replace Hb := Lib.hid (Hb.out.keep hb1)
            replace Hy := Lib.hid (Hy.out.keep hb1)
            replace Hz := Lib.hid (Hz.out.keep hb1)
            replace Hv := Lib.hid (Hv.out.keep hb1)
            replace Ho := Lib.hid (Ho.out.keep hb1)
            clear C hb1 a0 a1 a2 a3 hv1
            obtain ⟨w502, hw2⟩ : ∃ x, w501.alloc (.cells #[.slice ya yn yc, .int .i64 yq, .slice ya' yn' yc', .int .i64 yl] 25) = x := ⟨_, rfl⟩
            obtain ⟨Bu, hBu⟩ : ∃ x, w501.heap.size = x := ⟨_, rfl⟩
            have Hu := Lib.hid (show VarB w502 Bu rz by rw [← hw2, ← hBu]; exact VarB.new HV1.out)
            have hb2 : Below w501.heap.size w501 w502 := by rw [← hw2]; exact below_new _ _
            have HNbu := Lib.hid (show Bb ≠ Bu by have := Hb.out.lt; omega)
            have HNub := Lib.hid (HNbu.out.symm)
            replace Hb := Lib.hid (Hb.out.keep hb2)
            have HNyu := Lib.hid (show By ≠ Bu by have := Hy.out.lt; omega)
            have HNuy := Lib.hid (HNyu.out.symm)
            replace Hy := Lib.hid (Hy.out.keep hb2)
            have HNzu := Lib.hid (show Bz ≠ Bu by have := Hz.out.lt; omega)
            have HNuz := Lib.hid (HNzu.out.symm)
            replace Hz := Lib.hid (Hz.out.keep hb2)
            have HNvu := Lib.hid (show Bv ≠ Bu by have := Hv.out.lt; omega)
            have HNuv := Lib.hid (HNvu.out.symm)
            replace Hv := Lib.hid (Hv.out.keep hb2)
            have HNou := Lib.hid (show Bo ≠ Bu by have := Ho.out.lt; omega)
            have HNuo := Lib.hid (HNou.out.symm)
            replace Ho := Lib.hid (Ho.out.keep hb2)
            have HLu := Lib.hid (show w.heap.size ≤ Bu by rw [← hBu]; exact HB.out.size)
            replace HB := Lib.hid (Below.then HB.out hb2)
            have HW2 := Lib.hid hw2
            clear hw2 hb2 HV1
            go_upto_region 20 with fail
            rw [HW2.out]
            clear hBu HW2
            have q8 : (ez != ez) = false := bne_self_eq_false _
            obtain ⟨pa, pn, pc, pq, pa', pn', pc', pl, hAp, hVp⟩ := Hz.out.is
            obtain ⟨p0, p1, p2, p3⟩ := hAp.cells
            obtain ⟨ra, rn, rc, rq, ra', rn', rc', rl, hAr, hVr⟩ := Hu.out.is
            obtain ⟨r0, r1, r2, r3⟩ := hAr.cells
            have C := Lib.hid (like_v _ rz _ rz w502 aD aS aZ hVp (HE.out.keep HB.out) hVr rfl)
            clear hAp hVp hAr hVr
            go_wp2_with fail
            refine C.out.mono ?_
            rintro e w503 ⟨rfl, hb1⟩
            replace HB := Lib.hid (Below.then HB.out hb1)
            replace Hb := Lib.hid (Hb.out.keep hb1)
            replace Hy := Lib.hid (Hy.out.keep hb1)
            replace Hz := Lib.hid (Hz.out.keep hb1)
            replace Hv := Lib.hid (Hv.out.keep hb1)
            replace Ho := Lib.hid (Ho.out.keep hb1)
            replace Hu := Lib.hid (Hu.out.keep hb1)
            clear C hb1 p0 p1 p2 p3 r0 r1 r2 r3
            clear Hz HQE q8
            have AL := Lib.hid (alive_b w503 aD aS aZ (HE.out.keep HB.out))
            go_wp2_with fail
            refine AL.out.mono ?_
            rintro e w504 ⟨rfl, hb1⟩
            replace HB := Lib.hid (Below.then HB.out hb1)
            replace Hb := Lib.hid (Hb.out.keep hb1)
            replace Hy := Lib.hid (Hy.out.keep hb1)
            replace Hv := Lib.hid (Hv.out.keep hb1)
            replace Ho := Lib.hid (Ho.out.keep hb1)
            replace Hu := Lib.hid (Hu.out.keep hb1)
            clear hb1 AL
            obtain ⟨xa, xn, xc, xq, xa', xn', xc', xl, hA, hV⟩ := Hb.out.is
            have C0 := rup_v _ bl id w504 aD aS aZ hV (HE.out.keep HB.out) HUP.out
            have C := Lib.hid C0
            clear C0
            obtain ⟨a0, a1, a2, a3⟩ := hA.cells
            clear hA hV
            go_wp2_with fail
            refine C.out.mono ?_
            rintro e w505 ⟨rfl, hb1⟩
            replace HB := Lib.hid (Below.then HB.out hb1)
            replace Hb := Lib.hid (Hb.out.keep hb1)
            replace Hy := Lib.hid (Hy.out.keep hb1)
            replace Hv := Lib.hid (Hv.out.keep hb1)
            replace Ho := Lib.hid (Ho.out.keep hb1)
            replace Hu := Lib.hid (Hu.out.keep hb1)
            clear C hb1 a0 a1 a2 a3
            rcases HUC.out with hup | ⟨j, hj, hup⟩
            · obtain rfl : up1 = -1 := HUP.out.symm.trans hup
              have e1 := HQy.out.symm.trans (push_none HRR.out hup)
              simp only [Prod.mk.injEq] at e1
              obtain ⟨rfl, rfl⟩ := e1
              have e1 := HQv.out.symm.trans (drop_none HRR.out hup)
              simp only [Prod.mk.injEq] at e1
              obtain ⟨rfl, rfl⟩ := e1
              clear hup
              obtain ⟨pa, pn, pc, pq, pa', pn', pc', pl, hAp, hVp⟩ := Hy.out.is
              obtain ⟨p0, p1, p2, p3⟩ := hAp.cells
              obtain ⟨ra, rn, rc, rq, ra', rn', rc', rl, hAr, hVr⟩ := Ho.out.is
              obtain ⟨r0, r1, r2, r3⟩ := hAr.cells
              have C := Lib.hid (like_v _ nilBlb _ nilBlb w505 aD aS aZ hVp (HE.out.keep HB.out) hVr rfl)
              clear hAp hVp hAr hVr
              go_wp2_with fail
              refine C.out.mono ?_
              rintro e w506 ⟨rfl, hb1⟩
              replace HB := Lib.hid (Below.then HB.out hb1)
              replace Hb := Lib.hid (Hb.out.keep hb1)
              replace Hy := Lib.hid (Hy.out.keep hb1)
              replace Hv := Lib.hid (Hv.out.keep hb1)
              replace Ho := Lib.hid (Ho.out.keep hb1)
              replace Hu := Lib.hid (Hu.out.keep hb1)
              clear C hb1 p0 p1 p2 p3 r0 r1 r2 r3
              obtain ⟨pa, pn, pc, pq, pa', pn', pc', pl, hAp, hVp⟩ := Hv.out.is
              obtain ⟨p0, p1, p2, p3⟩ := hAp.cells
              obtain ⟨ra, rn, rc, rq, ra', rn', rc', rl, hAr, hVr⟩ := Ho.out.is
              obtain ⟨r0, r1, r2, r3⟩ := hAr.cells
              have C := Lib.hid (like_v _ nilBlb _ nilBlb w506 aD aS aZ hVp (HE.out.keep HB.out) hVr rfl)
              clear hAp hVp hAr hVr
              go_wp2_with fail
              refine C.out.mono ?_
              rintro e w507 ⟨rfl, hb1⟩
              replace HB := Lib.hid (Below.then HB.out hb1)
              replace Hb := Lib.hid (Hb.out.keep hb1)
              replace Hy := Lib.hid (Hy.out.keep hb1)
              replace Hv := Lib.hid (Hv.out.keep hb1)
              replace Ho := Lib.hid (Ho.out.keep hb1)
              replace Hu := Lib.hid (Hu.out.keep hb1)
              clear C hb1 p0 p1 p2 p3 r0 r1 r2 r3
              go_wp2_with fail
              go_ret
              exact ⟨rfl, HB.out⟩
            · obtain rfl : up1 = (j : Int) := HUP.out.symm.trans hup
              have e1 := HQv.out.symm.trans (drop_some HRR.out hup)
              simp only [Prod.mk.injEq] at e1
              obtain ⟨rfl, rfl⟩ := e1
              obtain ⟨pa, pn, pc, pq, pa', pn', pc', pl, hAp, hVp⟩ := Hv.out.is
              obtain ⟨p0, p1, p2, p3⟩ := hAp.cells
              obtain ⟨ra, rn, rc, rq, ra', rn', rc', rl, hAr, hVr⟩ := Hb.out.is
              obtain ⟨r0, r1, r2, r3⟩ := hAr.cells
              have WO := Lib.hid (fun w' (hb : Below w505.heap.size w505 w') => rwithout_v _ bl j w' (hVr.keep hb) hj HRP.out)
              have LK := Lib.hid (fun w' (hb : Below w505.heap.size w505 w') va' (h' : BlbAt w' va' (withoutB bl j)) => like_v _ (withoutB bl j) va' (withoutB bl j) w' aD aS aZ (hVp.keep hb) (HE.out.keep (Below.then HB.out hb)) h' rfl)
              have HAp := Lib.hid hAp
              have HAr := Lib.hid hAr
              have hbA := Below.refl w505.heap.size w505
              clear hAp hVp hAr hVr
              go_upto_region 25 with fail
              refine wp_region_held_drew (S := fun w' => w'.cell? ⟨Bv, 0, none⟩ = some (.slice pa pn pc) ∧ w'.cell? ⟨Bv, 1, none⟩ = some (.int .i64 pq) ∧ w'.cell? ⟨Bv, 2, none⟩ = some (.slice pa' pn' pc') ∧ w'.cell? ⟨Bv, 3, none⟩ = some (.int .i64 pl) ∧ w'.cell? ⟨Bb, 0, none⟩ = some (.slice ra rn rc) ∧ w'.cell? ⟨Bb, 1, none⟩ = some (.int .i64 rq) ∧ w'.cell? ⟨Bb, 2, none⟩ = some (.slice ra' rn' rc') ∧ w'.cell? ⟨Bb, 3, none⟩ = some (.int .i64 rl)) (by kernel_rfl) ?hSs4x (fun hHeld => ?hRs4x)
              case hSs4x => exact ⟨p0, p1, p2, p3, r0, r1, r2, r3⟩
              refine wpAnyH_take (i := 0) (oi := { dst := some 201, op := Op.move (Operand.tmp 19), type := 27, pos := "law.go:103", after := #[], guard := none }) (v := ?gvs4x0) rfl (by kernel_rfl) (by kernel_rfl) (by kernel_rfl) (fun _ _ _ h => h) (Or.inl ⟨by rfl, ?gys4x0⟩) (by assumption) ?grs4x0
              case gys4x0 => (intro w hSw; (try dsimp only at hSw); go_simp; try with_reducible rfl)
              try simp only [Act.put, List.setIfInBounds_toArray, List.set_cons_zero, List.set_cons_succ]
              refine wpAnyH_take (i := 1) (oi := { dst := some 202, op := Op.binOp BinOp.neq 27 (Operand.tmp 201) (Operand.const (Value.int IntKind.i64 0)) 27, type := 4, pos := "law.go:103", after := #[{ on := 0, ground := Ground.data }], guard := none }) (v := ?gvs4x1) rfl (by kernel_rfl) (by kernel_rfl) (by kernel_rfl) (fun _ _ _ h => h) (Or.inl ⟨by rfl, ?gys4x1⟩) (by assumption) ?grs4x1
              case gys4x1 => (intro w hSw; (try dsimp only at hSw); go_simp; try with_reducible rfl)
              try simp only [Act.put, List.setIfInBounds_toArray, List.set_cons_zero, List.set_cons_succ]
              refine wpAnyH_take (i := 2) (oi := { dst := some 203, op := Op.move (Operand.tmp 202), type := 4, pos := "law.go:103", after := #[{ on := 1, ground := Ground.data }], guard := none }) (v := ?gvs4x2) rfl (by kernel_rfl) (by kernel_rfl) (by kernel_rfl) (fun _ _ _ h => h) (Or.inl ⟨by rfl, ?gys4x2⟩) (by assumption) ?grs4x2
              case gys4x2 => (intro w hSw; (try dsimp only at hSw); go_simp; try with_reducible rfl)
              try simp only [Act.put, List.setIfInBounds_toArray, List.set_cons_zero, List.set_cons_succ]
              refine wpAnyH_take (i := 3) (oi := { dst := some 204, op := Op.load 25 (Operand.tmp 18), type := 25, pos := "law.go:103", after := #[{ on := 2, ground := Ground.guard }], guard := some (2, false) }) (v := ?gvs4x3) rfl (by kernel_rfl) (by kernel_rfl) (by kernel_rfl) (fun _ _ _ h => h) (Or.inl ⟨by rfl, ?gys4x3⟩) (by assumption) ?grs4x3
              case gys4x3 => (intro w hSw; (try dsimp only at hSw); go_simp; try with_reducible rfl)
              try simp only [Act.put, List.setIfInBounds_toArray, List.set_cons_zero, List.set_cons_succ]
              refine wpAnyH_take (i := 4) (oi := { dst := some 205, op := Op.load 25 (Operand.tmp 5), type := 25, pos := "law.go:103", after := #[{ on := 2, ground := Ground.guard }], guard := some (2, false) }) (v := ?gvs4x4) rfl (by kernel_rfl) (by kernel_rfl) (by kernel_rfl) (fun _ _ _ h => h) (Or.inl ⟨by rfl, ?gys4x4⟩) (by assumption) ?grs4x4
              case gys4x4 => (intro w hSw; (try dsimp only at hSw); go_simp; try with_reducible rfl)
              try simp only [Act.put, List.setIfInBounds_toArray, List.set_cons_zero, List.set_cons_succ]
              refine wpAnyH_take (i := 5) (oi := { dst := some 206, op := Op.move (Operand.tmp 25), type := 3, pos := "law.go:103", after := #[{ on := 2, ground := Ground.guard }], guard := some (2, false) }) (v := ?gvs4x5) rfl (by kernel_rfl) (by kernel_rfl) (by kernel_rfl) (fun _ _ _ h => h) (Or.inl ⟨by rfl, ?gys4x5⟩) (by assumption) ?grs4x5
              case gys4x5 => (intro w hSw; (try dsimp only at hSw); go_simp; try with_reducible rfl)
              try simp only [Act.put, List.setIfInBounds_toArray, List.set_cons_zero, List.set_cons_succ]
              refine wpAnyH_ready (rs := [6]) (by kernel_rfl) (by simp) ?_
              refine AllReadyH.cons (o := { dst := some 207, op := Op.call { callee := Callee.value (Operand.func 22), args := #[Operand.tmp 205, Operand.tmp 206], argTypes := #[25, 3] }, type := 25, pos := "law.go:103", after := #[{ on := 4, ground := Ground.data }, { on := 5, ground := Ground.data }, { on := 2, ground := Ground.chain }, { on := 2, ground := Ground.guard }], guard := some (2, false) }) rfl (fun K hK => ?_) AllReadyH.nil
              rw [if_pos (by kernel_rfl)]
              go_simp
              go_wp2_with (go_at_call 22; refine (WO.out w505.drew hbA.drew).mono ?_; rintro e wr1 ⟨v1, rfl, hv1, hbn⟩)
              have hb1 := Below.then hbA.drew hbn
              obtain ⟨p0, p1, p2, p3⟩ := (HAp.out.keep hb1).cells
              obtain ⟨r0, r1, r2, r3⟩ := (HAr.out.keep hb1).cells
              clear hbn
              refine hK.out _ _ ?hSs4x6 (fun hHeld6 => ?hRs4x6)
              case hSs4x6 => exact ⟨p0, p1, p2, p3, r0, r1, r2, r3⟩
              clear hK K
              try simp only [Act.put, List.setIfInBounds_toArray, List.set_cons_zero, List.set_cons_succ]
              refine wpAnyH_ready (rs := [7]) (by kernel_rfl) (by simp) ?_
              refine AllReadyH.cons (o := { dst := some 208, op := Op.call { callee := Callee.value (Operand.func 11), args := #[Operand.tmp 204, Operand.tmp 207], argTypes := #[25, 25] }, type := 4, pos := "law.go:103", after := #[{ on := 3, ground := Ground.data }, { on := 6, ground := Ground.data }, { on := 6, ground := Ground.chain }, { on := 2, ground := Ground.guard }], guard := some (2, false) }) rfl (fun K hK => ?_) AllReadyH.nil
              rw [if_pos (by kernel_rfl)]
              go_simp
              go_wp2_with (go_at_call 11; refine (LK.out wr1 hb1 _ hv1).mono ?_; rintro e wr2 ⟨rfl, hbn⟩)
              have hb2 := Below.then hb1 hbn
              obtain ⟨p0, p1, p2, p3⟩ := (HAp.out.keep hb2).cells
              obtain ⟨r0, r1, r2, r3⟩ := (HAr.out.keep hb2).cells
              clear hbn
              refine hK.out _ _ ?hSs4x7 (fun hHeld7 => ?hRs4x7)
              case hSs4x7 => exact ⟨p0, p1, p2, p3, r0, r1, r2, r3⟩
              clear hK K
              try simp only [Act.put, List.setIfInBounds_toArray, List.set_cons_zero, List.set_cons_succ]
              refine wpAnyH_take (i := 8) (oi := { dst := some 209, op := Op.unOp UnOp.not 4 (Operand.tmp 208), type := 4, pos := "law.go:103", after := #[{ on := 7, ground := Ground.data }, { on := 2, ground := Ground.guard }], guard := some (2, false) }) (v := ?gvs4x8) rfl (by kernel_rfl) (by kernel_rfl) (by kernel_rfl) (fun _ _ _ h => h) (Or.inl ⟨by rfl, ?gys4x8⟩) (by assumption) ?grs4x8
              case gys4x8 => (intro w hSw; (try dsimp only at hSw); go_simp; try with_reducible rfl)
              try simp only [Act.put, List.setIfInBounds_toArray, List.set_cons_zero, List.set_cons_succ]
              refine wpAnyH_take (i := 9) (oi := { dst := some 210, op := Op.pick (Operand.tmp 203) (Operand.const (Value.bool true)) (Operand.tmp 209), type := 4, pos := "law.go:103", after := #[{ on := 2, ground := Ground.data }, { on := 8, ground := Ground.data }], guard := none }) (v := ?gvs4x9) rfl (by kernel_rfl) (by kernel_rfl) (by kernel_rfl) (fun _ _ _ h => h) (Or.inl ⟨by rfl, ?gys4x9⟩) (by assumption) ?grs4x9
              case gys4x9 => (intro w hSw; (try dsimp only at hSw); go_simp; try with_reducible rfl)
              try simp only [Act.put, List.setIfInBounds_toArray, List.set_cons_zero, List.set_cons_succ]
              refine wpAnyH_done (by kernel_rfl) ?_ _
              replace HB := Lib.hid (Below.then HB.out hb2)
              replace Hb := Lib.hid (Hb.out.keep hb2)
              replace Hy := Lib.hid (Hy.out.keep hb2)
              replace Hv := Lib.hid (Hv.out.keep hb2)
              replace Ho := Lib.hid (Ho.out.keep hb2)
              replace Hu := Lib.hid (Hu.out.keep hb2)
              clear hb1 hb2 hbA p0 p1 p2 p3 r0 r1 r2 r3 WO LK HAp HAr hv1 hHeld hHeld6 hHeld7
              clear Hv
              obtain ⟨ka, kc, ka', kc', hAk, hVk⟩ := Hb.out.open
              obtain ⟨ub, uo, ux, us, rfl, hue, hus, g0, g1, hpo, hpl, hpd⟩ := up_facts HRR.out hup hj hVk.parts.2.1
              have HPO := Lib.hid hpo
              have HPL := Lib.hid hpl
              have HPD := Lib.hid hpd
              have HUE := Lib.hid hue
              have HJ := Lib.hid hj
              obtain ⟨m9, hm9⟩ : ∃ n, bl.ups.length = n := ⟨_, rfl⟩
              have HM9 := Lib.hid hm9
              rw [hm9] at hAk hj
              obtain ⟨k0, k1, k2, k3⟩ := hAk.cells
              clear hAk hVk hm9 hup hpo hpl hpd hue
              have q13 : IntKind.i64.wrap ((us.size : Int) + (s.size : Int)) = (us.size : Int) + (s.size : Int) := by rw [IntKind.wrap_i64]; omega
              by_cases ho : offset = (us.size : Nat)
              · subst ho
                have q11 : ((us.size : Int) != (us.size : Int)) = false := bne_self_eq_false _
                by_cases hl : 4096 < us.size + s.size
                · have e1 := HQy.out.symm.trans (HPL.out _ hl)
                  simp only [Prod.mk.injEq] at e1
                  obtain ⟨rfl, rfl⟩ := e1
                  have q12 : 4096 < (us.size : Int) + (s.size : Int) := by omega
                  clear HPO HPL HPD
                  obtain ⟨pa, pn, pc, pq, pa', pn', pc', pl, hAp, hVp⟩ := Hy.out.is
                  obtain ⟨p0, p1, p2, p3⟩ := hAp.cells
                  obtain ⟨ra, rn, rc, rq, ra', rn', rc', rl, hAr, hVr⟩ := Ho.out.is
                  obtain ⟨r0, r1, r2, r3⟩ := hAr.cells
                  have C := Lib.hid (like_v _ nilBlb _ nilBlb wr2 aD aS aZ hVp (HE.out.keep HB.out) hVr rfl)
                  clear hAp hVp hAr hVr
                  go_wp2_with fail
                  refine C.out.mono ?_
                  rintro e w301 ⟨rfl, hb1⟩
                  replace HB := Lib.hid (Below.then HB.out hb1)
                  replace Hb := Lib.hid (Hb.out.keep hb1)
                  replace Hy := Lib.hid (Hy.out.keep hb1)
                  replace Ho := Lib.hid (Ho.out.keep hb1)
                  replace Hu := Lib.hid (Hu.out.keep hb1)
                  clear C hb1 p0 p1 p2 p3 r0 r1 r2 r3
                  go_wp2_with fail
                  go_ret
                  exact ⟨rfl, HB.out⟩
                · have e1 := HQy.out.symm.trans (HPD.out _ hl)
                  simp only [Prod.mk.injEq] at e1
                  obtain ⟨rfl, rfl⟩ := e1
                  have q12 : ¬ 4096 < (us.size : Int) + (s.size : Int) := by omega
                  clear HPO HPL HPD
                  clear Ho
                  have hzs : us.size + s.size ≤ 4096 := by omega
                  go_upto_region 32 with fail
                  clear k0 k1 k2 k3 g0 g1 hl
                  obtain ⟨ya, yn, yc, yq, ya', yn', yc', yl, hA1, hV1⟩ := Hb.out.is
                  have HV1 := Lib.hid hV1
                  obtain ⟨b0, b1, b2, b3⟩ := hA1.cells
                  clear hA1 hV1
                  obtain ⟨za, zn, zc, zq, za', zn', zc', zl, hA, hV⟩ := Hu.out.is
                  obtain ⟨a0, a1, a2, a3⟩ := hA.cells
                  obtain ⟨f0, f1, f2, f3⟩ := hA.free
                  clear hA hV
                  go_upto_region 33 with fail
                  obtain ⟨w401, hw2⟩ : ∃ x, (((wr2.setCell ⟨Bu, 0, none⟩ (.slice ya yn yc)).setCell ⟨Bu, 1, none⟩ (.int .i64 yq)).setCell ⟨Bu, 2, none⟩ (.slice ya' yn' yc')).setCell ⟨Bu, 3, none⟩ (.int .i64 yl) = x := ⟨_, rfl⟩
                  rw [hw2]
                  replace Hb := Lib.hid (show VarB w401 Bb bl by rw [← hw2]; exact Hb.out.other Hu.out HNbu.out)
                  replace Hy := Lib.hid (show VarB w401 By (setUp bl j (us ++ s)) by rw [← hw2]; exact Hy.out.other Hu.out HNyu.out)
                  replace Hu := Lib.hid (show VarB w401 Bu bl by rw [← hw2]; exact Hu.out.set HV1.out)
                  replace HB := Lib.hid (show Below w.heap.size w w401 by rw [← hw2]; exact set4_below HB.out HLu.out (.slice ya yn yc) (.int .i64 yq) (.slice ya' yn' yc') (.int .i64 yl))
                  clear hw2 a0 a1 a2 a3 f0 f1 f2 f3 HV1
                  clear b0 b1 b2 b3
                  obtain ⟨pa, pn, pc, pq, pa', pn', pc', pl, hAp, hVp⟩ := Hb.out.is
                  obtain ⟨p0, p1, p2, p3⟩ := hAp.cells
                  obtain ⟨ra, rn, rc, rq, ra', rn', rc', rl, hAr, hVr⟩ := Hu.out.is
                  obtain ⟨r0, r1, r2, r3⟩ := hAr.cells
                  obtain ⟨i1, hi1, hy0, hy1, hy2⟩ := info_parts infoUp
                  have hpn : pn' = bl.ups.length := by
                    obtain ⟨x1, x2, e, -, -⟩ := hVp.parts.2.1.shape3
                    simp only [Value.slice.injEq] at e
                    rw [e.2.1, List.length_map]
                  have hp16 : pn' ≤ 16 := by rw [hpn]; exact HRP.out.ups
                  have hjp : j < pn' := by rw [hpn]; exact HJ.out
                  have HSRC := Lib.hid (show SrcOf 2 (w401.alloc (.cells #[] 40)) (.slice pa' pn' pc') pn' (cellsL (bl.ups.map upCell)) by
                    have := (hVp.parts.2.1.keep (below_new w401 (.cells #[] 40))).src
                    rwa [List.length_map, ← hpn] at this)
                  have HOWN1 := Lib.hid (show (w401.alloc (.cells #[] 40)).ownsRow w401.heap.size 40 2 (.slice (some ⟨w401.heap.size, 0, none⟩) 0 0) 0 [] from World.ownsRow_lit w401 #[] 0 (Nat.le_refl _) (Nat.zero_le _) rfl)
                  have HLE1 := Lib.hid (show w401.heap.size ≤ (w401.alloc (.cells #[] 40)).heap.size by rw [World.size_alloc]; exact Nat.le_succ _)
                  have p2a : (w401.alloc (.cells #[] 40)).cell? ⟨Bb, 2, none⟩ = some (.slice pa' pn' pc') := Below.keepc (below_new _ _) p2
                  have HAr := Lib.hid hAr
                  have HVr := Lib.hid hVr
                  have HPN := Lib.hid hpn
                  clear hAp hVp hAr hVr p0 p1 p2 p3 r0 r1 r2 r3 hpn
                  go_wp2_with (at_builtin; refine wpList_append_src _ rfl _ _ 23 rfl w401.heap.size 40 i1 (.agg #[.int .i64 0, .string ⟨#[]⟩]) 2 24 Tryz.underlying23 hi1 hy0 hy1 hy2 rfl (by decide) _ 0 [] rfl HOWN1.out _ pn' _ rfl HSRC.out (one_ups _) (by unfold maxLen; omega) (by omega) HLE1.out ?_)
                  intro v2 wa hown2 hgrow2
                  obtain ⟨su, ku, rfl⟩ := own_shape hown2
                  obtain ⟨g, rfl, hgb, hmk, cur, hcur⟩ := own_some hown2 (by omega)
                  have hB2 : Below w401.heap.size w401 wa := ((Below.refl _ w401).alloc (Nat.le_refl _) _).grown hgrow2 HLE1.out (fun k hk => (HOWN1.out.lt k hk).1)
                  have HR2 := Lib.hid (HAr.out.keep hB2)
                  have HB2 := Lib.hid hB2
                  have HO2 := Lib.hid hown2
                  have HCU := Lib.hid hcur
                  have HGB := Lib.hid hgb
                  clear hown2 hgrow2 hB2 hcur hgb p2a HSRC HOWN1 HLE1
                  obtain ⟨r0, r1, r2, r3⟩ := HR2.out.cells
                  obtain ⟨f0, f1, f2, f3⟩ := HR2.out.free
                  go_upto_region 34 with fail
                  clear r0 r1 r2 r3 f0 f1 f2 f3
                  obtain ⟨wb, hwb⟩ : ∃ x, wa.setCell ⟨Bu, 2, none⟩ (.slice (some ⟨g, 0, none⟩) pn' ku) = x := ⟨_, rfl⟩
                  have HWB := Lib.hid hwb
                  rw [hwb]
                  have hne : g ≠ Bu := by have := HGB.out; have := HAr.out.lt; omega
                  have HR3 := Lib.hid (show At4 25 wb Bu (.slice ra rn rc) (.int .i64 rq) (.slice (some ⟨g, 0, none⟩) pn' ku) (.int .i64 rl) by rw [← hwb]; exact HR2.out.at2 _)
                  have hbul := HAr.out.lt
                  have hO3 : wb.ownsRow w401.heap.size 40 2 (.slice (some ⟨g, 0, none⟩) pn' ku) pn' (cellsL (bl.ups.map upCell)) := by rw [← hwb]; exact own_same HO2.out fun k hk => Below.heap_setCell _ _ _ _ (show k ≠ Bu by omega)
                  have hcur2 : wb.heap[g]? = some (.cells cur 40 (0, 0)) := by rw [← hwb, Below.heap_setCell _ _ _ _ hne]; exact HCU.out
                  have hfz : wb.frozen? ⟨g, j * 2 + 1, none⟩ = false := by simp only [World.frozen?, hcur2]; rfl
                  have hce : wb.cell? ⟨g, j * 2 + 1, none⟩ = some (.string us) := by
                    have h1 := (cellsL_at (bl.ups.map upCell) j (by rw [List.length_map]; exact HJ.out)).2
                    rw [up_getElem bl.ups j HJ.out, List.getElem_of_getElem? HUE.out |>.2] at h1
                    have h2 := hO3.cells (g := g) rfl (j * 2 + 1) _ h1
                    rwa [add_plain, Nat.zero_add] at h2
                  clear hwb hcur2 hO3
                  obtain ⟨r0, r1, r2, r3⟩ := HR3.out.cells
                  go_upto_region 35 with fail
                  obtain ⟨wc, hwc⟩ : ∃ x, wb.setCell ⟨g, j * 2 + 1, none⟩ (.string (us ++ s)) = x := ⟨_, rfl⟩
                  rw [hwc]
                  have PU := put_up (x := us ++ s) HAr.out HVr.out HB2.out HO2.out HPN.out.symm HJ.out (by rw [ByteArray.size_append]; unfold maxLen; omega)
                  rw [HWB.out, hwc] at PU
                  replace Hy := Lib.hid (Hy.out.past Hu.out HNyu.out PU.2)
                  replace Hu := Lib.hid PU.1
                  replace HB := Lib.hid (show Below w.heap.size w wc by rw [← hwc, ← HWB.out]; exact ((Below.then HB.out HB2.out).setCell (p := ⟨Bu, 2, none⟩) HLu.out _).setCell (p := ⟨g, j * 2 + 1, none⟩) (Nat.le_trans HB.out.size HGB.out) _)
                  clear PU hwc r0 r1 r2 r3 hce hfz HR2 HR3 HAr HVr HWB
                  obtain ⟨pa, pn, pc, pq, pa', pn', pc', pl, hAp, hVp⟩ := Hy.out.is
                  obtain ⟨p0, p1, p2, p3⟩ := hAp.cells
                  obtain ⟨ra, rn, rc, rq, ra', rn', rc', rl, hAr, hVr⟩ := Hu.out.is
                  obtain ⟨r0, r1, r2, r3⟩ := hAr.cells
                  have C := Lib.hid (like_v _ (setUp bl j (us ++ s)) _ (setUp bl j (us ++ s)) wc aD aS aZ hVp (HE.out.keep HB.out) hVr rfl)
                  clear hAp hVp hAr hVr
                  go_wp2_with fail
                  refine C.out.mono ?_
                  rintro e w402 ⟨rfl, hb1⟩
                  replace HB := Lib.hid (Below.then HB.out hb1)
                  replace Hy := Lib.hid (Hy.out.keep hb1)
                  replace Hu := Lib.hid (Hu.out.keep hb1)
                  clear C hb1 p0 p1 p2 p3 r0 r1 r2 r3
                  go_wp2_with fail
                  go_ret
                  exact ⟨rfl, HB.out⟩
              · have e1 := HQy.out.symm.trans (HPO.out _ _ ho)
                simp only [Prod.mk.injEq] at e1
                obtain ⟨rfl, rfl⟩ := e1
                have q11 : (offset != (us.size : Int)) = true := bne_iff_ne.2 ho
                clear HPO HPL HPD
                obtain ⟨pa, pn, pc, pq, pa', pn', pc', pl, hAp, hVp⟩ := Hy.out.is
                obtain ⟨p0, p1, p2, p3⟩ := hAp.cells
                obtain ⟨ra, rn, rc, rq, ra', rn', rc', rl, hAr, hVr⟩ := Ho.out.is
                obtain ⟨r0, r1, r2, r3⟩ := hAr.cells
                have C := Lib.hid (like_v _ nilBlb _ nilBlb wr2 aD aS aZ hVp (HE.out.keep HB.out) hVr rfl)
                clear hAp hVp hAr hVr
                go_wp2_with fail
                refine C.out.mono ?_
                rintro e w301 ⟨rfl, hb1⟩
                replace HB := Lib.hid (Below.then HB.out hb1)
                replace Hb := Lib.hid (Hb.out.keep hb1)
                replace Hy := Lib.hid (Hy.out.keep hb1)
                replace Ho := Lib.hid (Ho.out.keep hb1)
                replace Hu := Lib.hid (Hu.out.keep hb1)
                clear C hb1 p0 p1 p2 p3 r0 r1 r2 r3
                go_wp2_with fail
                go_ret
                exact ⟨rfl, HB.out⟩
          case uab =>
            rw [if_pos (by kernel_rfl)]
            go_simp
            refine hK.out _ _ ?hSuab7 (fun hHelduab7 => ?hRuab7)
            case hSuab7 => exact ⟨Below.keepc ((hbA.drew.alloc (Nat.le_refl _) (.cells #[] 40)).alloc (hbA.drew.alloc (Nat.le_refl _) (.cells #[] 40)).size (.cells #[.int .i64 (bl.last + 1), .string ⟨#[]⟩] 40)) b2, Below.keepc ((hbA.drew.alloc (Nat.le_refl _) (.cells #[] 40)).alloc (hbA.drew.alloc (Nat.le_refl _) (.cells #[] 40)).size (.cells #[.int .i64 (bl.last + 1), .string ⟨#[]⟩] 40)) n3⟩
            clear hK K
            try simp only [Act.put, List.setIfInBounds_toArray, List.set_cons_zero, List.set_cons_succ]
            refine wpAnyH_ready (rs := [3]) (by kernel_rfl) (by simp) ?_
            refine AllReadyH.cons (o := { dst := some 139, op := Op.call { callee := Callee.builtin Builtin.append, args := #[Operand.tmp 136, Operand.tmp 138], argTypes := #[23, 23] }, type := 23, pos := "law.go:90", after := #[{ on := 0, ground := Ground.data }, { on := 2, ground := Ground.data }], guard := none }) rfl (fun K hK => ?_) AllReadyH.nil
            have hO0 : ((wn.drew.alloc (.cells #[] 40)).alloc (.cells #[.int .i64 (bl.last + 1), .string ⟨#[]⟩] 40)).ownsRow wn.heap.size 40 2 _ 0 [] := ((World.ownsRow_lit (wn.drew) #[] 0 (Nat.le_refl _) (Nat.zero_le _) rfl) : (wn.drew.alloc (.cells #[] 40)).ownsRow wn.heap.size 40 2 _ 0 []).alloc (.cells #[.int .i64 (bl.last + 1), .string ⟨#[]⟩] 40)
            have hbc : Below wn.heap.size wn ((wn.drew.alloc (.cells #[] 40)).alloc (.cells #[.int .i64 (bl.last + 1), .string ⟨#[]⟩] 40)) := ((hbA.drew.alloc (Nat.le_refl _) (.cells #[] 40)).alloc (hbA.drew.alloc (Nat.le_refl _) (.cells #[] 40)).size (.cells #[.int .i64 (bl.last + 1), .string ⟨#[]⟩] 40))
            refine step_append_src ((wn.drew.alloc (.cells #[] 40)).alloc (.cells #[.int .i64 (bl.last + 1), .string ⟨#[]⟩] 40)) (by rfl) (.tmp 136) (.tmp 138) 23 (by rfl) wn.heap.size 40 i1 (.agg #[.int .i64 0, .string ⟨#[]⟩]) 2 24 Tryz.underlying23 hi1 hy0 hy1 hy2 rfl (by decide) _ 0 [] (by rfl) hO0 _ yn' _ (by rfl) (HSRC.out _ hbc) (one_ups _) (by unfold maxLen; omega) (by omega) hbc.size ?_
            intro v1 w4 hown4 hgrow4
            rw [Nat.zero_add, List.nil_append] at hown4
            have hb4 : Below wn.heap.size wn w4 := hbc.grown hgrow4 hbc.size (fun k hk => (hO0.lt k hk).1)
            have hne : w4.heap[wn.heap.size + 1]? = some (.cells #[.int .i64 (bl.last + 1), .string ⟨#[]⟩] 40 (0, 0)) := row_next hgrow4
            clear hgrow4 hO0 hbc
            refine hK.out _ _ ?hSuab3 (fun hHelduab3 => ?hRuab3)
            case hSuab3 => exact ⟨Below.keepc hb4 b2, Below.keepc hb4 n3⟩
            clear hK K
            try simp only [Act.put, List.setIfInBounds_toArray, List.set_cons_zero, List.set_cons_succ]
            refine wpAnyH_ready (rs := [8]) (by kernel_rfl) (by simp) ?_
            refine AllReadyH.cons (o := { dst := some 144, op := Op.call { callee := Callee.builtin Builtin.append, args := #[Operand.tmp 139, Operand.tmp 143], argTypes := #[23, 23] }, type := 23, pos := "law.go:90", after := #[{ on := 3, ground := Ground.data }, { on := 7, ground := Ground.data }, { on := 3, ground := Ground.chain }], guard := none }) rfl (fun K hK => ?_) AllReadyH.nil
            have hO5 : (w4).ownsRow wn.heap.size 40 2 v1 yn' (cellsL (bl.ups.map upCell)) := hown4
            have hb5 : Below wn.heap.size wn (w4) := hb4
            have hnw : ∀ j u, [Value.int .i64 (bl.last + 1), Value.string ⟨#[]⟩][j]? = some u → (w4).cell? ((⟨wn.heap.size + 1, 0, none⟩ : Addr).add j) = some u := World.news_of_block hne
            refine step_append_lies (w4) (by rfl) (.tmp 139) (.tmp 143) 23 (by rfl) wn.heap.size 40 i1 (.agg #[.int .i64 0, .string ⟨#[]⟩]) 2 24 Tryz.underlying23 hi1 hy0 hy1 hy2 rfl (by decide) _ yn' _ (by rfl) hO5 ⟨wn.heap.size + 1, 0, none⟩ 1 1 [.int .i64 (bl.last + 1), .string ⟨#[]⟩] (by rfl) (by rfl) hnw (few_ucell (bl.last + 1, ⟨#[]⟩)) (by decide) (by unfold maxLen; omega) (by omega) hb5.size _ rfl ?_
            intro g6 c6 w6 hown6 hgrow6 hat6 hlt6
            have hb6 : Below wn.heap.size wn w6 := hb5.grown hgrow6 hb5.size (fun k hk => (hO5.lt k hk).1)
            clear hgrow6 hat6 hlt6 hO5 hb5 hnw
            refine hK.out _ _ ?hSuab8 (fun hHelduab8 => ?hRuab8)
            case hSuab8 => exact ⟨Below.keepc hb6 b2, Below.keepc hb6 n3⟩
            clear hK K
            try simp only [Act.put, List.setIfInBounds_toArray, List.set_cons_zero, List.set_cons_succ]
            refine wpAnyH_take (i := 9) (oi := { dst := some 145, op := Op.fieldAddr 25 (Operand.tmp 22) 2, type := 0, pos := "law.go:90", after := #[{ on := 0, ground := Ground.phase }, { on := 1, ground := Ground.phase }, { on := 2, ground := Ground.phase }, { on := 3, ground := Ground.phase }, { on := 4, ground := Ground.phase }, { on := 5, ground := Ground.phase }, { on := 6, ground := Ground.phase }, { on := 7, ground := Ground.phase }, { on := 8, ground := Ground.phase }], guard := none }) (v := ?gvuab9) rfl (by kernel_rfl) (by kernel_rfl) (by kernel_rfl) (fun _ _ _ h => h) (Or.inl ⟨by rfl, ?gyuab9⟩) (by assumption) ?gruab9
            case gyuab9 => (intro w hSw; (try dsimp only at hSw); go_simp; try with_reducible rfl)
            try simp only [Act.put, List.setIfInBounds_toArray, List.set_cons_zero, List.set_cons_succ]
            have n2 := (HAn.out.keep hb6).cells.2.2.1
            have f2 := (HAn.out.keep hb6).free.2.2.1
            refine wpAnyH_ready (rs := [10]) (by kernel_rfl) (by simp) ?_
            refine AllReadyH.cons (o := { dst := none, op := Op.store 23 (Operand.tmp 145) (Operand.tmp 144), type := 0, pos := "law.go:90", after := #[{ on := 9, ground := Ground.data }, { on := 8, ground := Ground.data }, { on := 8, ground := Ground.chain }, { on := 0, ground := Ground.phase }, { on := 1, ground := Ground.phase }, { on := 2, ground := Ground.phase }, { on := 3, ground := Ground.phase }, { on := 4, ground := Ground.phase }, { on := 5, ground := Ground.phase }, { on := 6, ground := Ground.phase }, { on := 7, ground := Ground.phase }, { on := 8, ground := Ground.phase }], guard := none }) rfl (fun K hK => ?_) AllReadyH.nil
            rw [if_pos (by kernel_rfl)]
            go_simp
            refine hK.out _ _ ?hSuabs (fun hHelduabs => ?hRuabs)
            case hSuabs => exact ⟨few_far (Below.keepc hb6 b2) (fun e => HNbn.out e.symm), (World.cell?_setCell_other _ _ _ _ (by simp)).trans (Below.keepc hb6 n3)⟩
            clear hK K
            try simp only [Act.put, List.setIfInBounds_toArray, List.set_cons_zero, List.set_cons_succ]
            refine wpAnyH_done (by kernel_rfl) ?_ _
            clear n2 f2 b2 n3 hHelduabs
            have WE := want_end HAn.out HPO1.out HRP.out HOS.out hb6 hown6 HYN2.out.symm
            obtain ⟨w7, hw7⟩ : ∃ x, w6.setCell ⟨Bn, 2, none⟩ (.slice (some ⟨g6, 0, none⟩) (yn' + 1) c6) = x := ⟨_, rfl⟩
            rw [hw7] at WE ⊢
            have hno : NoStr 25 wn Bn := ⟨_, _, _, _, _, _, _, _, HAn.out⟩
            have Hn := Lib.hid WE.1
            replace HB := Lib.hid (show Below w.heap.size w w7 by rw [← hw7]; exact (Below.then HB.out hb6).setCell (p := ⟨Bn, 2, none⟩) HLn.out _)
            replace Hb := Lib.hid (Hb.out.past4 hno HNbn.out WE.2)
            replace Hx := Lib.hid (Hx.out.past4 hno HNxn.out WE.2)
            replace Hy := Lib.hid (Hy.out.past4 hno HNyn.out WE.2)
            replace Hz := Lib.hid (Hz.out.past4 hno HNzn.out WE.2)
            replace Hv := Lib.hid (Hv.out.past4 hno HNvn.out WE.2)
            replace Ho := Lib.hid (Ho.out.past4 hno HNon.out WE.2)
            clear WE hw7 hno hb6 hown6 hbA b2c n3c hb4 hown4 HAb HPO1 HPU1 HSRC HAn HOS
            obtain ⟨pa, pn, pc, pq, pa', pn', pc', pl, hAp, hVp⟩ := Hx.out.is
            obtain ⟨p0, p1, p2, p3⟩ := hAp.cells
            obtain ⟨ra, rn, rc, rq, ra', rn', rc', rl, hAr, hVr, hrl⟩ := Hn.out.opens
            obtain ⟨r0, r1, r2, r3⟩ := hAr.cells
            have q15 : ((bl.last + 1) != rl) = false := by rw [hrl]; exact bne_self_eq_false _
            have C := Lib.hid (like_v _ ⟨bl.objs, bl.quota, bl.ups ++ [(bl.last + 1, ⟨#[]⟩)], bl.last + 1⟩ _ ⟨bl.objs, bl.quota, bl.ups ++ [(bl.last + 1, ⟨#[]⟩)], bl.last + 1⟩ w7 aD aS aZ hVp (HE.out.keep HB.out) hVr rfl)
            clear hAp hVp hAr hVr hrl
            go_wp2_with fail
            refine C.out.mono ?_
            rintro e w8 ⟨rfl, hb1⟩
            replace HB := Lib.hid (Below.then HB.out hb1)
            replace Hb := Lib.hid (Hb.out.keep hb1)
            replace Hx := Lib.hid (Hx.out.keep hb1)
            replace Hy := Lib.hid (Hy.out.keep hb1)
            replace Hz := Lib.hid (Hz.out.keep hb1)
            replace Hv := Lib.hid (Hv.out.keep hb1)
            replace Ho := Lib.hid (Ho.out.keep hb1)
            clear C hb1 p0 p1 p2 p3 r0 r1 r2 r3 q15 Hn Hx
            obtain ⟨xa, xn, xc, xq, xa', xn', xc', xl, hA, hV⟩ := Hb.out.is
            have C0 := rend_v _ bl id d w8 aD aS aZ hV (HE.out.keep HB.out) HRP.out HQE.out
            have C := Lib.hid C0
            clear C0
            obtain ⟨a0, a1, a2, a3⟩ := hA.cells
            clear hA hV
            go_wp2_with fail
            refine C.out.mono ?_
            rintro e w501 ⟨v1, rfl, hv1, hb1⟩
            obtain ⟨ya, yn, yc, yq, ya', yn', yc', yl, rfl⟩ := hv1.four
            have HV1 := Lib.hid hv1
            replace HB := Lib.hid (Below.then HB.out hb1)
            replace Hb := Lib.hid (Hb.out.keep hb1)
            replace Hy := Lib.hid (Hy.out.keep hb1)
            replace Hz := Lib.hid (Hz.out.keep hb1)
            replace Hv := Lib.hid (Hv.out.keep hb1)
            replace Ho := Lib.hid (Ho.out.keep hb1)
            clear C hb1 a0 a1 a2 a3 hv1
            obtain ⟨w502, hw2⟩ : ∃ x, w501.alloc (.cells #[.slice ya yn yc, .int .i64 yq, .slice ya' yn' yc', .int .i64 yl] 25) = x := ⟨_, rfl⟩
            obtain ⟨Bu, hBu⟩ : ∃ x, w501.heap.size = x := ⟨_, rfl⟩
            have Hu := Lib.hid (show VarB w502 Bu rz by rw [← hw2, ← hBu]; exact VarB.new HV1.out)
            have hb2 : Below w501.heap.size w501 w502 := by rw [← hw2]; exact below_new _ _
            have HNbu := Lib.hid (show Bb ≠ Bu by have := Hb.out.lt; omega)
            have HNub := Lib.hid (HNbu.out.symm)
            replace Hb := Lib.hid (Hb.out.keep hb2)
            have HNyu := Lib.hid (show By ≠ Bu by have := Hy.out.lt; omega)
            have HNuy := Lib.hid (HNyu.out.symm)
            replace Hy := Lib.hid (Hy.out.keep hb2)
            have HNzu := Lib.hid (show Bz ≠ Bu by have := Hz.out.lt; omega)
            have HNuz := Lib.hid (HNzu.out.symm)
            replace Hz := Lib.hid (Hz.out.keep hb2)
            have HNvu := Lib.hid (show Bv ≠ Bu by have := Hv.out.lt; omega)
            have HNuv := Lib.hid (HNvu.out.symm)
            replace Hv := Lib.hid (Hv.out.keep hb2)
            have HNou := Lib.hid (show Bo ≠ Bu by have := Ho.out.lt; omega)
            have HNuo := Lib.hid (HNou.out.symm)
            replace Ho := Lib.hid (Ho.out.keep hb2)
            have HLu := Lib.hid (show w.heap.size ≤ Bu by rw [← hBu]; exact HB.out.size)
            replace HB := Lib.hid (Below.then HB.out hb2)
            have HW2 := Lib.hid hw2
            clear hw2 hb2 HV1
            go_upto_region 20 with fail
            rw [HW2.out]
            clear hBu HW2
            have q8 : (ez != ez) = false := bne_self_eq_false _
            obtain ⟨pa, pn, pc, pq, pa', pn', pc', pl, hAp, hVp⟩ := Hz.out.is
            obtain ⟨p0, p1, p2, p3⟩ := hAp.cells
            obtain ⟨ra, rn, rc, rq, ra', rn', rc', rl, hAr, hVr⟩ := Hu.out.is
            obtain ⟨r0, r1, r2, r3⟩ := hAr.cells
            have C := Lib.hid (like_v _ rz _ rz w502 aD aS aZ hVp (HE.out.keep HB.out) hVr rfl)
            clear hAp hVp hAr hVr
            go_wp2_with fail
            refine C.out.mono ?_
            rintro e w503 ⟨rfl, hb1⟩
            replace HB := Lib.hid (Below.then HB.out hb1)
            replace Hb := Lib.hid (Hb.out.keep hb1)
            replace Hy := Lib.hid (Hy.out.keep hb1)
            replace Hz := Lib.hid (Hz.out.keep hb1)
            replace Hv := Lib.hid (Hv.out.keep hb1)
            replace Ho := Lib.hid (Ho.out.keep hb1)
            replace Hu := Lib.hid (Hu.out.keep hb1)
            clear C hb1 p0 p1 p2 p3 r0 r1 r2 r3
            clear Hz HQE q8
            have AL := Lib.hid (alive_b w503 aD aS aZ (HE.out.keep HB.out))
            go_wp2_with fail
            refine AL.out.mono ?_
            rintro e w504 ⟨rfl, hb1⟩
            replace HB := Lib.hid (Below.then HB.out hb1)
            replace Hb := Lib.hid (Hb.out.keep hb1)
            replace Hy := Lib.hid (Hy.out.keep hb1)
            replace Hv := Lib.hid (Hv.out.keep hb1)
            replace Ho := Lib.hid (Ho.out.keep hb1)
            replace Hu := Lib.hid (Hu.out.keep hb1)
            clear hb1 AL
            obtain ⟨xa, xn, xc, xq, xa', xn', xc', xl, hA, hV⟩ := Hb.out.is
            have C0 := rup_v _ bl id w504 aD aS aZ hV (HE.out.keep HB.out) HUP.out
            have C := Lib.hid C0
            clear C0
            obtain ⟨a0, a1, a2, a3⟩ := hA.cells
            clear hA hV
            go_wp2_with fail
            refine C.out.mono ?_
            rintro e w505 ⟨rfl, hb1⟩
            replace HB := Lib.hid (Below.then HB.out hb1)
            replace Hb := Lib.hid (Hb.out.keep hb1)
            replace Hy := Lib.hid (Hy.out.keep hb1)
            replace Hv := Lib.hid (Hv.out.keep hb1)
            replace Ho := Lib.hid (Ho.out.keep hb1)
            replace Hu := Lib.hid (Hu.out.keep hb1)
            clear C hb1 a0 a1 a2 a3
            rcases HUC.out with hup | ⟨j, hj, hup⟩
            · obtain rfl : up1 = -1 := HUP.out.symm.trans hup
              have e1 := HQy.out.symm.trans (push_none HRR.out hup)
              simp only [Prod.mk.injEq] at e1
              obtain ⟨rfl, rfl⟩ := e1
              have e1 := HQv.out.symm.trans (drop_none HRR.out hup)
              simp only [Prod.mk.injEq] at e1
              obtain ⟨rfl, rfl⟩ := e1
              clear hup
              obtain ⟨pa, pn, pc, pq, pa', pn', pc', pl, hAp, hVp⟩ := Hy.out.is
              obtain ⟨p0, p1, p2, p3⟩ := hAp.cells
              obtain ⟨ra, rn, rc, rq, ra', rn', rc', rl, hAr, hVr⟩ := Ho.out.is
              obtain ⟨r0, r1, r2, r3⟩ := hAr.cells
              have C := Lib.hid (like_v _ nilBlb _ nilBlb w505 aD aS aZ hVp (HE.out.keep HB.out) hVr rfl)
              clear hAp hVp hAr hVr
              go_wp2_with fail
              refine C.out.mono ?_
              rintro e w506 ⟨rfl, hb1⟩
              replace HB := Lib.hid (Below.then HB.out hb1)
              replace Hb := Lib.hid (Hb.out.keep hb1)
              replace Hy := Lib.hid (Hy.out.keep hb1)
              replace Hv := Lib.hid (Hv.out.keep hb1)
              replace Ho := Lib.hid (Ho.out.keep hb1)
              replace Hu := Lib.hid (Hu.out.keep hb1)
              clear C hb1 p0 p1 p2 p3 r0 r1 r2 r3
              obtain ⟨pa, pn, pc, pq, pa', pn', pc', pl, hAp, hVp⟩ := Hv.out.is
              obtain ⟨p0, p1, p2, p3⟩ := hAp.cells
              obtain ⟨ra, rn, rc, rq, ra', rn', rc', rl, hAr, hVr⟩ := Ho.out.is
              obtain ⟨r0, r1, r2, r3⟩ := hAr.cells
              have C := Lib.hid (like_v _ nilBlb _ nilBlb w506 aD aS aZ hVp (HE.out.keep HB.out) hVr rfl)
              clear hAp hVp hAr hVr
              go_wp2_with fail
              refine C.out.mono ?_
              rintro e w507 ⟨rfl, hb1⟩
              replace HB := Lib.hid (Below.then HB.out hb1)
              replace Hb := Lib.hid (Hb.out.keep hb1)
              replace Hy := Lib.hid (Hy.out.keep hb1)
              replace Hv := Lib.hid (Hv.out.keep hb1)
              replace Ho := Lib.hid (Ho.out.keep hb1)
              replace Hu := Lib.hid (Hu.out.keep hb1)
              clear C hb1 p0 p1 p2 p3 r0 r1 r2 r3
              go_wp2_with fail
              go_ret
              exact ⟨rfl, HB.out⟩
            · obtain rfl : up1 = (j : Int) := HUP.out.symm.trans hup
              have e1 := HQv.out.symm.trans (drop_some HRR.out hup)
              simp only [Prod.mk.injEq] at e1
              obtain ⟨rfl, rfl⟩ := e1
              obtain ⟨pa, pn, pc, pq, pa', pn', pc', pl, hAp, hVp⟩ := Hv.out.is
              obtain ⟨p0, p1, p2, p3⟩ := hAp.cells
              obtain ⟨ra, rn, rc, rq, ra', rn', rc', rl, hAr, hVr⟩ := Hb.out.is
              obtain ⟨r0, r1, r2, r3⟩ := hAr.cells
              have WO := Lib.hid (fun w' (hb : Below w505.heap.size w505 w') => rwithout_v _ bl j w' (hVr.keep hb) hj HRP.out)
              have LK := Lib.hid (fun w' (hb : Below w505.heap.size w505 w') va' (h' : BlbAt w' va' (withoutB bl j)) => like_v _ (withoutB bl j) va' (withoutB bl j) w' aD aS aZ (hVp.keep hb) (HE.out.keep (Below.then HB.out hb)) h' rfl)
              have HAp := Lib.hid hAp
              have HAr := Lib.hid hAr
              have hbA := Below.refl w505.heap.size w505
              clear hAp hVp hAr hVr
              go_upto_region 25 with fail
              refine wp_region_held_drew (S := fun w' => w'.cell? ⟨Bv, 0, none⟩ = some (.slice pa pn pc) ∧ w'.cell? ⟨Bv, 1, none⟩ = some (.int .i64 pq) ∧ w'.cell? ⟨Bv, 2, none⟩ = some (.slice pa' pn' pc') ∧ w'.cell? ⟨Bv, 3, none⟩ = some (.int .i64 pl) ∧ w'.cell? ⟨Bb, 0, none⟩ = some (.slice ra rn rc) ∧ w'.cell? ⟨Bb, 1, none⟩ = some (.int .i64 rq) ∧ w'.cell? ⟨Bb, 2, none⟩ = some (.slice ra' rn' rc') ∧ w'.cell? ⟨Bb, 3, none⟩ = some (.int .i64 rl)) (by kernel_rfl) ?hSs5x (fun hHeld => ?hRs5x)
              case hSs5x => exact ⟨p0, p1, p2, p3, r0, r1, r2, r3⟩
              refine wpAnyH_take (i := 0) (oi := { dst := some 201, op := Op.move (Operand.tmp 19), type := 27, pos := "law.go:103", after := #[], guard := none }) (v := ?gvs5x0) rfl (by kernel_rfl) (by kernel_rfl) (by kernel_rfl) (fun _ _ _ h => h) (Or.inl ⟨by rfl, ?gys5x0⟩) (by assumption) ?grs5x0
              case gys5x0 => (intro w hSw; (try dsimp only at hSw); go_simp; try with_reducible rfl)
              try simp only [Act.put, List.setIfInBounds_toArray, List.set_cons_zero, List.set_cons_succ]
              refine wpAnyH_take (i := 1) (oi := { dst := some 202, op := Op.binOp BinOp.neq 27 (Operand.tmp 201) (Operand.const (Value.int IntKind.i64 0)) 27, type := 4, pos := "law.go:103", after := #[{ on := 0, ground := Ground.data }], guard := none }) (v := ?gvs5x1) rfl (by kernel_rfl) (by kernel_rfl) (by kernel_rfl) (fun _ _ _ h => h) (Or.inl ⟨by rfl, ?gys5x1⟩) (by assumption) ?grs5x1
              case gys5x1 => (intro w hSw; (try dsimp only at hSw); go_simp; try with_reducible rfl)
              try simp only [Act.put, List.setIfInBounds_toArray, List.set_cons_zero, List.set_cons_succ]
              refine wpAnyH_take (i := 2) (oi := { dst := some 203, op := Op.move (Operand.tmp 202), type := 4, pos := "law.go:103", after := #[{ on := 1, ground := Ground.data }], guard := none }) (v := ?gvs5x2) rfl (by kernel_rfl) (by kernel_rfl) (by kernel_rfl) (fun _ _ _ h => h) (Or.inl ⟨by rfl, ?gys5x2⟩) (by assumption) ?grs5x2
              case gys5x2 => (intro w hSw; (try dsimp only at hSw); go_simp; try with_reducible rfl)
              try simp only [Act.put, List.setIfInBounds_toArray, List.set_cons_zero, List.set_cons_succ]
              refine wpAnyH_take (i := 3) (oi := { dst := some 204, op := Op.load 25 (Operand.tmp 18), type := 25, pos := "law.go:103", after := #[{ on := 2, ground := Ground.guard }], guard := some (2, false) }) (v := ?gvs5x3) rfl (by kernel_rfl) (by kernel_rfl) (by kernel_rfl) (fun _ _ _ h => h) (Or.inl ⟨by rfl, ?gys5x3⟩) (by assumption) ?grs5x3
              case gys5x3 => (intro w hSw; (try dsimp only at hSw); go_simp; try with_reducible rfl)
              try simp only [Act.put, List.setIfInBounds_toArray, List.set_cons_zero, List.set_cons_succ]
              refine wpAnyH_take (i := 4) (oi := { dst := some 205, op := Op.load 25 (Operand.tmp 5), type := 25, pos := "law.go:103", after := #[{ on := 2, ground := Ground.guard }], guard := some (2, false) }) (v := ?gvs5x4) rfl (by kernel_rfl) (by kernel_rfl) (by kernel_rfl) (fun _ _ _ h => h) (Or.inl ⟨by rfl, ?gys5x4⟩) (by assumption) ?grs5x4
              case gys5x4 => (intro w hSw; (try dsimp only at hSw); go_simp; try with_reducible rfl)
              try simp only [Act.put, List.setIfInBounds_toArray, List.set_cons_zero, List.set_cons_succ]
              refine wpAnyH_take (i := 5) (oi := { dst := some 206, op := Op.move (Operand.tmp 25), type := 3, pos := "law.go:103", after := #[{ on := 2, ground := Ground.guard }], guard := some (2, false) }) (v := ?gvs5x5) rfl (by kernel_rfl) (by kernel_rfl) (by kernel_rfl) (fun _ _ _ h => h) (Or.inl ⟨by rfl, ?gys5x5⟩) (by assumption) ?grs5x5
              case gys5x5 => (intro w hSw; (try dsimp only at hSw); go_simp; try with_reducible rfl)
              try simp only [Act.put, List.setIfInBounds_toArray, List.set_cons_zero, List.set_cons_succ]
              refine wpAnyH_ready (rs := [6]) (by kernel_rfl) (by simp) ?_
              refine AllReadyH.cons (o := { dst := some 207, op := Op.call { callee := Callee.value (Operand.func 22), args := #[Operand.tmp 205, Operand.tmp 206], argTypes := #[25, 3] }, type := 25, pos := "law.go:103", after := #[{ on := 4, ground := Ground.data }, { on := 5, ground := Ground.data }, { on := 2, ground := Ground.chain }, { on := 2, ground := Ground.guard }], guard := some (2, false) }) rfl (fun K hK => ?_) AllReadyH.nil
              rw [if_pos (by kernel_rfl)]
              go_simp
              go_wp2_with (go_at_call 22; refine (WO.out w505.drew hbA.drew).mono ?_; rintro e wr1 ⟨v1, rfl, hv1, hbn⟩)
              have hb1 := Below.then hbA.drew hbn
              obtain ⟨p0, p1, p2, p3⟩ := (HAp.out.keep hb1).cells
              obtain ⟨r0, r1, r2, r3⟩ := (HAr.out.keep hb1).cells
              clear hbn
              refine hK.out _ _ ?hSs5x6 (fun hHeld6 => ?hRs5x6)
              case hSs5x6 => exact ⟨p0, p1, p2, p3, r0, r1, r2, r3⟩
              clear hK K
              try simp only [Act.put, List.setIfInBounds_toArray, List.set_cons_zero, List.set_cons_succ]
              refine wpAnyH_ready (rs := [7]) (by kernel_rfl) (by simp) ?_
              refine AllReadyH.cons (o := { dst := some 208, op := Op.call { callee := Callee.value (Operand.func 11), args := #[Operand.tmp 204, Operand.tmp 207], argTypes := #[25, 25] }, type := 4, pos := "law.go:103", after := #[{ on := 3, ground := Ground.data }, { on := 6, ground := Ground.data }, { on := 6, ground := Ground.chain }, { on := 2, ground := Ground.guard }], guard := some (2, false) }) rfl (fun K hK => ?_) AllReadyH.nil
              rw [if_pos (by kernel_rfl)]
              go_simp
              go_wp2_with (go_at_call 11; refine (LK.out wr1 hb1 _ hv1).mono ?_; rintro e wr2 ⟨rfl, hbn⟩)
              have hb2 := Below.then hb1 hbn
              obtain ⟨p0, p1, p2, p3⟩ := (HAp.out.keep hb2).cells
              obtain ⟨r0, r1, r2, r3⟩ := (HAr.out.keep hb2).cells
              clear hbn
              refine hK.out _ _ ?hSs5x7 (fun hHeld7 => ?hRs5x7)
              case hSs5x7 => exact ⟨p0, p1, p2, p3, r0, r1, r2, r3⟩
              clear hK K
              try simp only [Act.put, List.setIfInBounds_toArray, List.set_cons_zero, List.set_cons_succ]
              refine wpAnyH_take (i := 8) (oi := { dst := some 209, op := Op.unOp UnOp.not 4 (Operand.tmp 208), type := 4, pos := "law.go:103", after := #[{ on := 7, ground := Ground.data }, { on := 2, ground := Ground.guard }], guard := some (2, false) }) (v := ?gvs5x8) rfl (by kernel_rfl) (by kernel_rfl) (by kernel_rfl) (fun _ _ _ h => h) (Or.inl ⟨by rfl, ?gys5x8⟩) (by assumption) ?grs5x8
              case gys5x8 => (intro w hSw; (try dsimp only at hSw); go_simp; try with_reducible rfl)
              try simp only [Act.put, List.setIfInBounds_toArray, List.set_cons_zero, List.set_cons_succ]
              refine wpAnyH_take (i := 9) (oi := { dst := some 210, op := Op.pick (Operand.tmp 203) (Operand.const (Value.bool true)) (Operand.tmp 209), type := 4, pos := "law.go:103", after := #[{ on := 2, ground := Ground.data }, { on := 8, ground := Ground.data }], guard := none }) (v := ?gvs5x9) rfl (by kernel_rfl) (by kernel_rfl) (by kernel_rfl) (fun _ _ _ h => h) (Or.inl ⟨by rfl, ?gys5x9⟩) (by assumption) ?grs5x9
              case gys5x9 => (intro w hSw; (try dsimp only at hSw); go_simp; try with_reducible rfl)
              try simp only [Act.put, List.setIfInBounds_toArray, List.set_cons_zero, List.set_cons_succ]
              refine wpAnyH_done (by kernel_rfl) ?_ _
              replace HB := Lib.hid (Below.then HB.out hb2)
              replace Hb := Lib.hid (Hb.out.keep hb2)
              replace Hy := Lib.hid (Hy.out.keep hb2)
              replace Hv := Lib.hid (Hv.out.keep hb2)
              replace Ho := Lib.hid (Ho.out.keep hb2)
              replace Hu := Lib.hid (Hu.out.keep hb2)
              clear hb1 hb2 hbA p0 p1 p2 p3 r0 r1 r2 r3 WO LK HAp HAr hv1 hHeld hHeld6 hHeld7
              clear Hv
              obtain ⟨ka, kc, ka', kc', hAk, hVk⟩ := Hb.out.open
              obtain ⟨ub, uo, ux, us, rfl, hue, hus, g0, g1, hpo, hpl, hpd⟩ := up_facts HRR.out hup hj hVk.parts.2.1
              have HPO := Lib.hid hpo
              have HPL := Lib.hid hpl
              have HPD := Lib.hid hpd
              have HUE := Lib.hid hue
              have HJ := Lib.hid hj
              obtain ⟨m9, hm9⟩ : ∃ n, bl.ups.length = n := ⟨_, rfl⟩
              have HM9 := Lib.hid hm9
              rw [hm9] at hAk hj
              obtain ⟨k0, k1, k2, k3⟩ := hAk.cells
              clear hAk hVk hm9 hup hpo hpl hpd hue
              have q13 : IntKind.i64.wrap ((us.size : Int) + (s.size : Int)) = (us.size : Int) + (s.size : Int) := by rw [IntKind.wrap_i64]; omega
              by_cases ho : offset = (us.size : Nat)
              · subst ho
                have q11 : ((us.size : Int) != (us.size : Int)) = false := bne_self_eq_false _
                by_cases hl : 4096 < us.size + s.size
                · have e1 := HQy.out.symm.trans (HPL.out _ hl)
                  simp only [Prod.mk.injEq] at e1
                  obtain ⟨rfl, rfl⟩ := e1
                  have q12 : 4096 < (us.size : Int) + (s.size : Int) := by omega
                  clear HPO HPL HPD
                  obtain ⟨pa, pn, pc, pq, pa', pn', pc', pl, hAp, hVp⟩ := Hy.out.is
                  obtain ⟨p0, p1, p2, p3⟩ := hAp.cells
                  obtain ⟨ra, rn, rc, rq, ra', rn', rc', rl, hAr, hVr⟩ := Ho.out.is
                  obtain ⟨r0, r1, r2, r3⟩ := hAr.cells
                  have C := Lib.hid (like_v _ nilBlb _ nilBlb wr2 aD aS aZ hVp (HE.out.keep HB.out) hVr rfl)
                  clear hAp hVp hAr hVr
                  go_wp2_with fail
                  refine C.out.mono ?_
                  rintro e w301 ⟨rfl, hb1⟩
                  replace HB := Lib.hid (Below.then HB.out hb1)
                  replace Hb := Lib.hid (Hb.out.keep hb1)
                  replace Hy := Lib.hid (Hy.out.keep hb1)
                  replace Ho := Lib.hid (Ho.out.keep hb1)
                  replace Hu := Lib.hid (Hu.out.keep hb1)
                  clear C hb1 p0 p1 p2 p3 r0 r1 r2 r3
                  go_wp2_with fail
                  go_ret
                  exact ⟨rfl, HB.out⟩
                · have e1 := HQy.out.symm.trans (HPD.out _ hl)
                  simp only [Prod.mk.injEq] at e1
                  obtain ⟨rfl, rfl⟩ := e1
                  have q12 : ¬ 4096 < (us.size : Int) + (s.size : Int) := by omega
                  clear HPO HPL HPD
                  clear Ho
                  have hzs : us.size + s.size ≤ 4096 := by omega
                  go_upto_region 32 with fail
                  clear k0 k1 k2 k3 g0 g1 hl
                  obtain ⟨ya, yn, yc, yq, ya', yn', yc', yl, hA1, hV1⟩ := Hb.out.is
                  have HV1 := Lib.hid hV1
                  obtain ⟨b0, b1, b2, b3⟩ := hA1.cells
                  clear hA1 hV1
                  obtain ⟨za, zn, zc, zq, za', zn', zc', zl, hA, hV⟩ := Hu.out.is
                  obtain ⟨a0, a1, a2, a3⟩ := hA.cells
                  obtain ⟨f0, f1, f2, f3⟩ := hA.free
                  clear hA hV
                  go_upto_region 33 with fail
                  obtain ⟨w401, hw2⟩ : ∃ x, (((wr2.setCell ⟨Bu, 0, none⟩ (.slice ya yn yc)).setCell ⟨Bu, 1, none⟩ (.int .i64 yq)).setCell ⟨Bu, 2, none⟩ (.slice ya' yn' yc')).setCell ⟨Bu, 3, none⟩ (.int .i64 yl) = x := ⟨_, rfl⟩
                  rw [hw2]
                  replace Hb := Lib.hid (show VarB w401 Bb bl by rw [← hw2]; exact Hb.out.other Hu.out HNbu.out)
                  replace Hy := Lib.hid (show VarB w401 By (setUp bl j (us ++ s)) by rw [← hw2]; exact Hy.out.other Hu.out HNyu.out)
                  replace Hu := Lib.hid (show VarB w401 Bu bl by rw [← hw2]; exact Hu.out.set HV1.out)
                  replace HB := Lib.hid (show Below w.heap.size w w401 by rw [← hw2]; exact set4_below HB.out HLu.out (.slice ya yn yc) (.int .i64 yq) (.slice ya' yn' yc') (.int .i64 yl))
                  clear hw2 a0 a1 a2 a3 f0 f1 f2 f3 HV1
                  clear b0 b1 b2 b3
                  obtain ⟨pa, pn, pc, pq, pa', pn', pc', pl, hAp, hVp⟩ := Hb.out.is
                  obtain ⟨p0, p1, p2, p3⟩ := hAp.cells
                  obtain ⟨ra, rn, rc, rq, ra', rn', rc', rl, hAr, hVr⟩ := Hu.out.is
                  obtain ⟨r0, r1, r2, r3⟩ := hAr.cells
                  obtain ⟨i1, hi1, hy0, hy1, hy2⟩ := info_parts infoUp
                  have hpn : pn' = bl.ups.length := by
                    obtain ⟨x1, x2, e, -, -⟩ := hVp.parts.2.1.shape3
                    simp only [Value.slice.injEq] at e
                    rw [e.2.1, List.length_map]
                  have hp16 : pn' ≤ 16 := by rw [hpn]; exact HRP.out.ups
                  have hjp : j < pn' := by rw [hpn]; exact HJ.out
                  have HSRC := Lib.hid (show SrcOf 2 (w401.alloc (.cells #[] 40)) (.slice pa' pn' pc') pn' (cellsL (bl.ups.map upCell)) by
                    have := (hVp.parts.2.1.keep (below_new w401 (.cells #[] 40))).src
                    rwa [List.length_map, ← hpn] at this)
                  have HOWN1 := Lib.hid (show (w401.alloc (.cells #[] 40)).ownsRow w401.heap.size 40 2 (.slice (some ⟨w401.heap.size, 0, none⟩) 0 0) 0 [] from World.ownsRow_lit w401 #[] 0 (Nat.le_refl _) (Nat.zero_le _) rfl)
                  have HLE1 := Lib.hid (show w401.heap.size ≤ (w401.alloc (.cells #[] 40)).heap.size by rw [World.size_alloc]; exact Nat.le_succ _)
                  have p2a : (w401.alloc (.cells #[] 40)).cell? ⟨Bb, 2, none⟩ = some (.slice pa' pn' pc') := Below.keepc (below_new _ _) p2
                  have HAr := Lib.hid hAr
                  have HVr := Lib.hid hVr
                  have HPN := Lib.hid hpn
                  clear hAp hVp hAr hVr p0 p1 p2 p3 r0 r1 r2 r3 hpn
                  go_wp2_with (at_builtin; refine wpList_append_src _ rfl _ _ 23 rfl w401.heap.size 40 i1 (.agg #[.int .i64 0, .string ⟨#[]⟩]) 2 24 Tryz.underlying23 hi1 hy0 hy1 hy2 rfl (by decide) _ 0 [] rfl HOWN1.out _ pn' _ rfl HSRC.out (one_ups _) (by unfold maxLen; omega) (by omega) HLE1.out ?_)
                  intro v2 wa hown2 hgrow2
                  obtain ⟨su, ku, rfl⟩ := own_shape hown2
                  obtain ⟨g, rfl, hgb, hmk, cur, hcur⟩ := own_some hown2 (by omega)
                  have hB2 : Below w401.heap.size w401 wa := ((Below.refl _ w401).alloc (Nat.le_refl _) _).grown hgrow2 HLE1.out (fun k hk => (HOWN1.out.lt k hk).1)
                  have HR2 := Lib.hid (HAr.out.keep hB2)
                  have HB2 := Lib.hid hB2
                  have HO2 := Lib.hid hown2
                  have HCU := Lib.hid hcur
                  have HGB := Lib.hid hgb
                  clear hown2 hgrow2 hB2 hcur hgb p2a HSRC HOWN1 HLE1
                  obtain ⟨r0, r1, r2, r3⟩ := HR2.out.cells
                  obtain ⟨f0, f1, f2, f3⟩ := HR2.out.free
                  go_upto_region 34 with fail
                  clear r0 r1 r2 r3 f0 f1 f2 f3
                  obtain ⟨wb, hwb⟩ : ∃ x, wa.setCell ⟨Bu, 2, none⟩ (.slice (some ⟨g, 0, none⟩) pn' ku) = x := ⟨_, rfl⟩
                  have HWB := Lib.hid hwb
                  rw [hwb]
                  have hne : g ≠ Bu := by have := HGB.out; have := HAr.out.lt; omega
                  have HR3 := Lib.hid (show At4 25 wb Bu (.slice ra rn rc) (.int .i64 rq) (.slice (some ⟨g, 0, none⟩) pn' ku) (.int .i64 rl) by rw [← hwb]; exact HR2.out.at2 _)
                  have hbul := HAr.out.lt
                  have hO3 : wb.ownsRow w401.heap.size 40 2 (.slice (some ⟨g, 0, none⟩) pn' ku) pn' (cellsL (bl.ups.map upCell)) := by rw [← hwb]; exact own_same HO2.out fun k hk => Below.heap_setCell _ _ _ _ (show k ≠ Bu by omega)
                  have hcur2 : wb.heap[g]? = some (.cells cur 40 (0, 0)) := by rw [← hwb, Below.heap_setCell _ _ _ _ hne]; exact HCU.out
                  have hfz : wb.frozen? ⟨g, j * 2 + 1, none⟩ = false := by simp only [World.frozen?, hcur2]; rfl
                  have hce : wb.cell? ⟨g, j * 2 + 1, none⟩ = some (.string us) := by
                    have h1 := (cellsL_at (bl.ups.map upCell) j (by rw [List.length_map]; exact HJ.out)).2
                    rw [up_getElem bl.ups j HJ.out, List.getElem_of_getElem? HUE.out |>.2] at h1
                    have h2 := hO3.cells (g := g) rfl (j * 2 + 1) _ h1
                    rwa [add_plain, Nat.zero_add] at h2
                  clear hwb hcur2 hO3
                  obtain ⟨r0, r1, r2, r3⟩ := HR3.out.cells
                  go_upto_region 35 with fail
                  obtain ⟨wc, hwc⟩ : ∃ x, wb.setCell ⟨g, j * 2 + 1, none⟩ (.string (us ++ s)) = x := ⟨_, rfl⟩
                  rw [hwc]
                  have PU := put_up (x := us ++ s) HAr.out HVr.out HB2.out HO2.out HPN.out.symm HJ.out (by rw [ByteArray.size_append]; unfold maxLen; omega)
                  rw [HWB.out, hwc] at PU
                  replace Hy := Lib.hid (Hy.out.past Hu.out HNyu.out PU.2)
                  replace Hu := Lib.hid PU.1
                  replace HB := Lib.hid (show Below w.heap.size w wc by rw [← hwc, ← HWB.out]; exact ((Below.then HB.out HB2.out).setCell (p := ⟨Bu, 2, none⟩) HLu.out _).setCell (p := ⟨g, j * 2 + 1, none⟩) (Nat.le_trans HB.out.size HGB.out) _)
                  clear PU hwc r0 r1 r2 r3 hce hfz HR2 HR3 HAr HVr HWB
                  obtain ⟨pa, pn, pc, pq, pa', pn', pc', pl, hAp, hVp⟩ := Hy.out.is
                  obtain ⟨p0, p1, p2, p3⟩ := hAp.cells
                  obtain ⟨ra, rn, rc, rq, ra', rn', rc', rl, hAr, hVr⟩ := Hu.out.is
                  obtain ⟨r0, r1, r2, r3⟩ := hAr.cells
                  have C := Lib.hid (like_v _ (setUp bl j (us ++ s)) _ (setUp bl j (us ++ s)) wc aD aS aZ hVp (HE.out.keep HB.out) hVr rfl)
                  clear hAp hVp hAr hVr
                  go_wp2_with fail
                  refine C.out.mono ?_
                  rintro e w402 ⟨rfl, hb1⟩
                  replace HB := Lib.hid (Below.then HB.out hb1)
                  replace Hy := Lib.hid (Hy.out.keep hb1)
                  replace Hu := Lib.hid (Hu.out.keep hb1)
                  clear C hb1 p0 p1 p2 p3 r0 r1 r2 r3
                  go_wp2_with fail
                  go_ret
                  exact ⟨rfl, HB.out⟩
              · have e1 := HQy.out.symm.trans (HPO.out _ _ ho)
                simp only [Prod.mk.injEq] at e1
                obtain ⟨rfl, rfl⟩ := e1
                have q11 : (offset != (us.size : Int)) = true := bne_iff_ne.2 ho
                clear HPO HPL HPD
                obtain ⟨pa, pn, pc, pq, pa', pn', pc', pl, hAp, hVp⟩ := Hy.out.is
                obtain ⟨p0, p1, p2, p3⟩ := hAp.cells
                obtain ⟨ra, rn, rc, rq, ra', rn', rc', rl, hAr, hVr⟩ := Ho.out.is
                obtain ⟨r0, r1, r2, r3⟩ := hAr.cells
                have C := Lib.hid (like_v _ nilBlb _ nilBlb wr2 aD aS aZ hVp (HE.out.keep HB.out) hVr rfl)
                clear hAp hVp hAr hVr
                go_wp2_with fail
                refine C.out.mono ?_
                rintro e w301 ⟨rfl, hb1⟩
                replace HB := Lib.hid (Below.then HB.out hb1)
                replace Hb := Lib.hid (Hb.out.keep hb1)
                replace Hy := Lib.hid (Hy.out.keep hb1)
                replace Ho := Lib.hid (Ho.out.keep hb1)
                replace Hu := Lib.hid (Hu.out.keep hb1)
                clear C hb1 p0 p1 p2 p3 r0 r1 r2 r3
                go_wp2_with fail
                go_ret
                exact ⟨rfl, HB.out⟩
        case ub =>
          rw [if_pos (by kernel_rfl)]
          go_simp
          refine hK.out _ _ ?hSub7 (fun hHeldub7 => ?hRub7)
          case hSub7 => exact ⟨Below.keepc (hbA.drew.alloc (Nat.le_refl _) (.cells #[.int .i64 (bl.last + 1), .string ⟨#[]⟩] 40)) b2, Below.keepc (hbA.drew.alloc (Nat.le_refl _) (.cells #[.int .i64 (bl.last + 1), .string ⟨#[]⟩] 40)) n3⟩
          clear hK K
          try simp only [Act.put, List.setIfInBounds_toArray, List.set_cons_zero, List.set_cons_succ]
          refine wpAnyH_ready (rs := [0]) (by kernel_rfl) (by simp) ?_
          refine AllReadyH.cons (o := { dst := some 136, op := Op.buildSlice 23 0 #[], type := 23, pos := "law.go:90", after := #[], guard := none }) rfl (fun K hK => ?_) AllReadyH.nil
          rw [if_pos (by kernel_rfl)]
          go_simp
          refine hK.out _ _ ?hSub0 (fun hHeldub0 => ?hRub0)
          case hSub0 => exact ⟨Below.keepc ((hbA.drew.alloc (Nat.le_refl _) (.cells #[.int .i64 (bl.last + 1), .string ⟨#[]⟩] 40)).alloc (hbA.drew.alloc (Nat.le_refl _) (.cells #[.int .i64 (bl.last + 1), .string ⟨#[]⟩] 40)).size (.cells #[] 40)) b2, Below.keepc ((hbA.drew.alloc (Nat.le_refl _) (.cells #[.int .i64 (bl.last + 1), .string ⟨#[]⟩] 40)).alloc (hbA.drew.alloc (Nat.le_refl _) (.cells #[.int .i64 (bl.last + 1), .string ⟨#[]⟩] 40)).size (.cells #[] 40)) n3⟩
          clear hK K
          try simp only [Act.put, List.setIfInBounds_toArray, List.set_cons_zero, List.set_cons_succ]
          refine wpAnyH_ready (rs := [3]) (by kernel_rfl) (by simp) ?_
          refine AllReadyH.cons (o := { dst := some 139, op := Op.call { callee := Callee.builtin Builtin.append, args := #[Operand.tmp 136, Operand.tmp 138], argTypes := #[23, 23] }, type := 23, pos := "law.go:90", after := #[{ on := 0, ground := Ground.data }, { on := 2, ground := Ground.data }], guard := none }) rfl (fun K hK => ?_) AllReadyH.nil
          have hO00 : ((wn.drew.alloc (.cells #[.int .i64 (bl.last + 1), .string ⟨#[]⟩] 40)).alloc (.cells #[] 40)).ownsRow wn.heap.size 40 2 (.slice (some ⟨(wn.drew.alloc (.cells #[.int .i64 (bl.last + 1), .string ⟨#[]⟩] 40)).heap.size, 0, none⟩) 0 0) 0 [] := (World.ownsRow_lit (wn.drew.alloc (.cells #[.int .i64 (bl.last + 1), .string ⟨#[]⟩] 40)) #[] 0 (hbA.drew.alloc (Nat.le_refl _) (.cells #[.int .i64 (bl.last + 1), .string ⟨#[]⟩] 40)).size (Nat.zero_le _) rfl)
          rw [size_one wn (.cells #[.int .i64 (bl.last + 1), .string ⟨#[]⟩] 40)] at hO00
          have hO0 : ((wn.drew.alloc (.cells #[.int .i64 (bl.last + 1), .string ⟨#[]⟩] 40)).alloc (.cells #[] 40)).ownsRow wn.heap.size 40 2 _ 0 [] := hO00
          have hbc : Below wn.heap.size wn ((wn.drew.alloc (.cells #[.int .i64 (bl.last + 1), .string ⟨#[]⟩] 40)).alloc (.cells #[] 40)) := ((hbA.drew.alloc (Nat.le_refl _) (.cells #[.int .i64 (bl.last + 1), .string ⟨#[]⟩] 40)).alloc (hbA.drew.alloc (Nat.le_refl _) (.cells #[.int .i64 (bl.last + 1), .string ⟨#[]⟩] 40)).size (.cells #[] 40))
          refine step_append_src ((wn.drew.alloc (.cells #[.int .i64 (bl.last + 1), .string ⟨#[]⟩] 40)).alloc (.cells #[] 40)) (by rfl) (.tmp 136) (.tmp 138) 23 (by rfl) wn.heap.size 40 i1 (.agg #[.int .i64 0, .string ⟨#[]⟩]) 2 24 Tryz.underlying23 hi1 hy0 hy1 hy2 rfl (by decide) _ 0 [] (by rfl) hO0 _ yn' _ (by rfl) (HSRC.out _ hbc) (one_ups _) (by unfold maxLen; omega) (by omega) hbc.size ?_
          intro v1 w4 hown4 hgrow4
          rw [Nat.zero_add, List.nil_append] at hown4
          have hb4 : Below wn.heap.size wn w4 := hbc.grown hgrow4 hbc.size (fun k hk => (hO0.lt k hk).1)
          have hne : w4.heap[wn.heap.size]? = some (.cells #[.int .i64 (bl.last + 1), .string ⟨#[]⟩] 40 (0, 0)) := row_first hgrow4
          clear hgrow4 hO0 hbc hO00
          refine hK.out _ _ ?hSub3 (fun hHeldub3 => ?hRub3)
          case hSub3 => exact ⟨Below.keepc hb4 b2, Below.keepc hb4 n3⟩
          clear hK K
          try simp only [Act.put, List.setIfInBounds_toArray, List.set_cons_zero, List.set_cons_succ]
          refine wpAnyH_ready (rs := [8]) (by kernel_rfl) (by simp) ?_
          refine AllReadyH.cons (o := { dst := some 144, op := Op.call { callee := Callee.builtin Builtin.append, args := #[Operand.tmp 139, Operand.tmp 143], argTypes := #[23, 23] }, type := 23, pos := "law.go:90", after := #[{ on := 3, ground := Ground.data }, { on := 7, ground := Ground.data }, { on := 3, ground := Ground.chain }], guard := none }) rfl (fun K hK => ?_) AllReadyH.nil
          have hO5 : (w4).ownsRow wn.heap.size 40 2 v1 yn' (cellsL (bl.ups.map upCell)) := hown4
          have hb5 : Below wn.heap.size wn (w4) := hb4
          have hnw : ∀ j u, [Value.int .i64 (bl.last + 1), Value.string ⟨#[]⟩][j]? = some u → (w4).cell? ((⟨wn.drew.heap.size, 0, none⟩ : Addr).add j) = some u := World.news_of_block hne
          refine step_append_lies (w4) (by rfl) (.tmp 139) (.tmp 143) 23 (by rfl) wn.heap.size 40 i1 (.agg #[.int .i64 0, .string ⟨#[]⟩]) 2 24 Tryz.underlying23 hi1 hy0 hy1 hy2 rfl (by decide) _ yn' _ (by rfl) hO5 ⟨wn.drew.heap.size, 0, none⟩ 1 1 [.int .i64 (bl.last + 1), .string ⟨#[]⟩] (by rfl) (by rfl) hnw (few_ucell (bl.last + 1, ⟨#[]⟩)) (by decide) (by unfold maxLen; omega) (by omega) hb5.size _ rfl ?_
          intro g6 c6 w6 hown6 hgrow6 hat6 hlt6
          have hb6 : Below wn.heap.size wn w6 := hb5.grown hgrow6 hb5.size (fun k hk => (hO5.lt k hk).1)
          clear hgrow6 hat6 hlt6 hO5 hb5 hnw
          refine hK.out _ _ ?hSub8 (fun hHeldub8 => ?hRub8)
          case hSub8 => exact ⟨Below.keepc hb6 b2, Below.keepc hb6 n3⟩
          clear hK K
          try simp only [Act.put, List.setIfInBounds_toArray, List.set_cons_zero, List.set_cons_succ]
          refine wpAnyH_take (i := 9) (oi := { dst := some 145, op := Op.fieldAddr 25 (Operand.tmp 22) 2, type := 0, pos := "law.go:90", after := #[{ on := 0, ground := Ground.phase }, { on := 1, ground := Ground.phase }, { on := 2, ground := Ground.phase }, { on := 3, ground := Ground.phase }, { on := 4, ground := Ground.phase }, { on := 5, ground := Ground.phase }, { on := 6, ground := Ground.phase }, { on := 7, ground := Ground.phase }, { on := 8, ground := Ground.phase }], guard := none }) (v := ?gvub9) rfl (by kernel_rfl) (by kernel_rfl) (by kernel_rfl) (fun _ _ _ h => h) (Or.inl ⟨by rfl, ?gyub9⟩) (by assumption) ?grub9
          case gyub9 => (intro w hSw; (try dsimp only at hSw); go_simp; try with_reducible rfl)
          try simp only [Act.put, List.setIfInBounds_toArray, List.set_cons_zero, List.set_cons_succ]
          have n2 := (HAn.out.keep hb6).cells.2.2.1
          have f2 := (HAn.out.keep hb6).free.2.2.1
          refine wpAnyH_ready (rs := [10]) (by kernel_rfl) (by simp) ?_
          refine AllReadyH.cons (o := { dst := none, op := Op.store 23 (Operand.tmp 145) (Operand.tmp 144), type := 0, pos := "law.go:90", after := #[{ on := 9, ground := Ground.data }, { on := 8, ground := Ground.data }, { on := 8, ground := Ground.chain }, { on := 0, ground := Ground.phase }, { on := 1, ground := Ground.phase }, { on := 2, ground := Ground.phase }, { on := 3, ground := Ground.phase }, { on := 4, ground := Ground.phase }, { on := 5, ground := Ground.phase }, { on := 6, ground := Ground.phase }, { on := 7, ground := Ground.phase }, { on := 8, ground := Ground.phase }], guard := none }) rfl (fun K hK => ?_) AllReadyH.nil
          rw [if_pos (by kernel_rfl)]
          go_simp
          refine hK.out _ _ ?hSubs (fun hHeldubs => ?hRubs)
          case hSubs => exact ⟨few_far (Below.keepc hb6 b2) (fun e => HNbn.out e.symm), (World.cell?_setCell_other _ _ _ _ (by simp)).trans (Below.keepc hb6 n3)⟩
          clear hK K
          try simp only [Act.put, List.setIfInBounds_toArray, List.set_cons_zero, List.set_cons_succ]
          refine wpAnyH_done (by kernel_rfl) ?_ _
          clear n2 f2 b2 n3 hHeldubs
          have WE := want_end HAn.out HPO1.out HRP.out HOS.out hb6 hown6 HYN2.out.symm
          obtain ⟨w7, hw7⟩ : ∃ x, w6.setCell ⟨Bn, 2, none⟩ (.slice (some ⟨g6, 0, none⟩) (yn' + 1) c6) = x := ⟨_, rfl⟩
          rw [hw7] at WE ⊢
          have hno : NoStr 25 wn Bn := ⟨_, _, _, _, _, _, _, _, HAn.out⟩
          have Hn := Lib.hid WE.1
          replace HB := Lib.hid (show Below w.heap.size w w7 by rw [← hw7]; exact (Below.then HB.out hb6).setCell (p := ⟨Bn, 2, none⟩) HLn.out _)
          replace Hb := Lib.hid (Hb.out.past4 hno HNbn.out WE.2)
          replace Hx := Lib.hid (Hx.out.past4 hno HNxn.out WE.2)
          replace Hy := Lib.hid (Hy.out.past4 hno HNyn.out WE.2)
          replace Hz := Lib.hid (Hz.out.past4 hno HNzn.out WE.2)
          replace Hv := Lib.hid (Hv.out.past4 hno HNvn.out WE.2)
          replace Ho := Lib.hid (Ho.out.past4 hno HNon.out WE.2)
          clear WE hw7 hno hb6 hown6 hbA b2c n3c hb4 hown4 HAb HPO1 HPU1 HSRC HAn HOS
          obtain ⟨pa, pn, pc, pq, pa', pn', pc', pl, hAp, hVp⟩ := Hx.out.is
          obtain ⟨p0, p1, p2, p3⟩ := hAp.cells
          obtain ⟨ra, rn, rc, rq, ra', rn', rc', rl, hAr, hVr, hrl⟩ := Hn.out.opens
          obtain ⟨r0, r1, r2, r3⟩ := hAr.cells
          have q15 : ((bl.last + 1) != rl) = false := by rw [hrl]; exact bne_self_eq_false _
          have C := Lib.hid (like_v _ ⟨bl.objs, bl.quota, bl.ups ++ [(bl.last + 1, ⟨#[]⟩)], bl.last + 1⟩ _ ⟨bl.objs, bl.quota, bl.ups ++ [(bl.last + 1, ⟨#[]⟩)], bl.last + 1⟩ w7 aD aS aZ hVp (HE.out.keep HB.out) hVr rfl)
          clear hAp hVp hAr hVr hrl
          go_wp2_with fail
          refine C.out.mono ?_
          rintro e w8 ⟨rfl, hb1⟩
          replace HB := Lib.hid (Below.then HB.out hb1)
          replace Hb := Lib.hid (Hb.out.keep hb1)
          replace Hx := Lib.hid (Hx.out.keep hb1)
          replace Hy := Lib.hid (Hy.out.keep hb1)
          replace Hz := Lib.hid (Hz.out.keep hb1)
          replace Hv := Lib.hid (Hv.out.keep hb1)
          replace Ho := Lib.hid (Ho.out.keep hb1)
          clear C hb1 p0 p1 p2 p3 r0 r1 r2 r3 q15 Hn Hx
          obtain ⟨xa, xn, xc, xq, xa', xn', xc', xl, hA, hV⟩ := Hb.out.is
          have C0 := rend_v _ bl id d w8 aD aS aZ hV (HE.out.keep HB.out) HRP.out HQE.out
          have C := Lib.hid C0
          clear C0
          obtain ⟨a0, a1, a2, a3⟩ := hA.cells
          clear hA hV
          go_wp2_with fail
          refine C.out.mono ?_
          rintro e w501 ⟨v1, rfl, hv1, hb1⟩
          obtain ⟨ya, yn, yc, yq, ya', yn', yc', yl, rfl⟩ := hv1.four
          have HV1 := Lib.hid hv1
          replace HB := Lib.hid (Below.then HB.out hb1)
          replace Hb := Lib.hid (Hb.out.keep hb1)
          replace Hy := Lib.hid (Hy.out.keep hb1)
          replace Hz := Lib.hid (Hz.out.keep hb1)
          replace Hv := Lib.hid (Hv.out.keep hb1)
          replace Ho := Lib.hid (Ho.out.keep hb1)
          clear C hb1 a0 a1 a2 a3 hv1
          obtain ⟨w502, hw2⟩ : ∃ x, w501.alloc (.cells #[.slice ya yn yc, .int .i64 yq, .slice ya' yn' yc', .int .i64 yl] 25) = x := ⟨_, rfl⟩
          obtain ⟨Bu, hBu⟩ : ∃ x, w501.heap.size = x := ⟨_, rfl⟩
          have Hu := Lib.hid (show VarB w502 Bu rz by rw [← hw2, ← hBu]; exact VarB.new HV1.out)
          have hb2 : Below w501.heap.size w501 w502 := by rw [← hw2]; exact below_new _ _
          have HNbu := Lib.hid (show Bb ≠ Bu by have := Hb.out.lt; omega)
          have HNub := Lib.hid (HNbu.out.symm)
          replace Hb := Lib.hid (Hb.out.keep hb2)
          have HNyu := Lib.hid (show By ≠ Bu by have := Hy.out.lt; omega)
          have HNuy := Lib.hid (HNyu.out.symm)
          replace Hy := Lib.hid (Hy.out.keep hb2)
          have HNzu := Lib.hid (show Bz ≠ Bu by have := Hz.out.lt; omega)
          have HNuz := Lib.hid (HNzu.out.symm)
          replace Hz := Lib.hid (Hz.out.keep hb2)
          have HNvu := Lib.hid (show Bv ≠ Bu by have := Hv.out.lt; omega)
          have HNuv := Lib.hid (HNvu.out.symm)
          replace Hv := Lib.hid (Hv.out.keep hb2)
          have HNou := Lib.hid (show Bo ≠ Bu by have := Ho.out.lt; omega)
          have HNuo := Lib.hid (HNou.out.symm)
          replace Ho := Lib.hid (Ho.out.keep hb2)
          have HLu := Lib.hid (show w.heap.size ≤ Bu by rw [← hBu]; exact HB.out.size)
          replace HB := Lib.hid (Below.then HB.out hb2)
          have HW2 := Lib.hid hw2
          clear hw2 hb2 HV1
          go_upto_region 20 with fail
          rw [HW2.out]
          clear hBu HW2
          have q8 : (ez != ez) = false := bne_self_eq_false _
          obtain ⟨pa, pn, pc, pq, pa', pn', pc', pl, hAp, hVp⟩ := Hz.out.is
          obtain ⟨p0, p1, p2, p3⟩ := hAp.cells
          obtain ⟨ra, rn, rc, rq, ra', rn', rc', rl, hAr, hVr⟩ := Hu.out.is
          obtain ⟨r0, r1, r2, r3⟩ := hAr.cells
          have C := Lib.hid (like_v _ rz _ rz w502 aD aS aZ hVp (HE.out.keep HB.out) hVr rfl)
          clear hAp hVp hAr hVr
          go_wp2_with fail
          refine C.out.mono ?_
          rintro e w503 ⟨rfl, hb1⟩
          replace HB := Lib.hid (Below.then HB.out hb1)
          replace Hb := Lib.hid (Hb.out.keep hb1)
          replace Hy := Lib.hid (Hy.out.keep hb1)
          replace Hz := Lib.hid (Hz.out.keep hb1)
          replace Hv := Lib.hid (Hv.out.keep hb1)
          replace Ho := Lib.hid (Ho.out.keep hb1)
          replace Hu := Lib.hid (Hu.out.keep hb1)
          clear C hb1 p0 p1 p2 p3 r0 r1 r2 r3
          clear Hz HQE q8
          have AL := Lib.hid (alive_b w503 aD aS aZ (HE.out.keep HB.out))
          go_wp2_with fail
          refine AL.out.mono ?_
          rintro e w504 ⟨rfl, hb1⟩
          replace HB := Lib.hid (Below.then HB.out hb1)
          replace Hb := Lib.hid (Hb.out.keep hb1)
          replace Hy := Lib.hid (Hy.out.keep hb1)
          replace Hv := Lib.hid (Hv.out.keep hb1)
          replace Ho := Lib.hid (Ho.out.keep hb1)
          replace Hu := Lib.hid (Hu.out.keep hb1)
          clear hb1 AL
          obtain ⟨xa, xn, xc, xq, xa', xn', xc', xl, hA, hV⟩ := Hb.out.is
          have C0 := rup_v _ bl id w504 aD aS aZ hV (HE.out.keep HB.out) HUP.out
          have C := Lib.hid C0
          clear C0
          obtain ⟨a0, a1, a2, a3⟩ := hA.cells
          clear hA hV
          go_wp2_with fail
          refine C.out.mono ?_
          rintro e w505 ⟨rfl, hb1⟩
          replace HB := Lib.hid (Below.then HB.out hb1)
          replace Hb := Lib.hid (Hb.out.keep hb1)
          replace Hy := Lib.hid (Hy.out.keep hb1)
          replace Hv := Lib.hid (Hv.out.keep hb1)
          replace Ho := Lib.hid (Ho.out.keep hb1)
          replace Hu := Lib.hid (Hu.out.keep hb1)
          clear C hb1 a0 a1 a2 a3
          rcases HUC.out with hup | ⟨j, hj, hup⟩
          · obtain rfl : up1 = -1 := HUP.out.symm.trans hup
            have e1 := HQy.out.symm.trans (push_none HRR.out hup)
            simp only [Prod.mk.injEq] at e1
            obtain ⟨rfl, rfl⟩ := e1
            have e1 := HQv.out.symm.trans (drop_none HRR.out hup)
            simp only [Prod.mk.injEq] at e1
            obtain ⟨rfl, rfl⟩ := e1
            clear hup
            obtain ⟨pa, pn, pc, pq, pa', pn', pc', pl, hAp, hVp⟩ := Hy.out.is
            obtain ⟨p0, p1, p2, p3⟩ := hAp.cells
            obtain ⟨ra, rn, rc, rq, ra', rn', rc', rl, hAr, hVr⟩ := Ho.out.is
            obtain ⟨r0, r1, r2, r3⟩ := hAr.cells
            have C := Lib.hid (like_v _ nilBlb _ nilBlb w505 aD aS aZ hVp (HE.out.keep HB.out) hVr rfl)
            clear hAp hVp hAr hVr
            go_wp2_with fail
            refine C.out.mono ?_
            rintro e w506 ⟨rfl, hb1⟩
            replace HB := Lib.hid (Below.then HB.out hb1)
            replace Hb := Lib.hid (Hb.out.keep hb1)
            replace Hy := Lib.hid (Hy.out.keep hb1)
            replace Hv := Lib.hid (Hv.out.keep hb1)
            replace Ho := Lib.hid (Ho.out.keep hb1)
            replace Hu := Lib.hid (Hu.out.keep hb1)
            clear C hb1 p0 p1 p2 p3 r0 r1 r2 r3
            obtain ⟨pa, pn, pc, pq, pa', pn', pc', pl, hAp, hVp⟩ := Hv.out.is
            obtain ⟨p0, p1, p2, p3⟩ := hAp.cells
            obtain ⟨ra, rn, rc, rq, ra', rn', rc', rl, hAr, hVr⟩ := Ho.out.is
            obtain ⟨r0, r1, r2, r3⟩ := hAr.cells
            have C := Lib.hid (like_v _ nilBlb _ nilBlb w506 aD aS aZ hVp (HE.out.keep HB.out) hVr rfl)
            clear hAp hVp hAr hVr
            go_wp2_with fail
            refine C.out.mono ?_
            rintro e w507 ⟨rfl, hb1⟩
            replace HB := Lib.hid (Below.then HB.out hb1)
            replace Hb := Lib.hid (Hb.out.keep hb1)
            replace Hy := Lib.hid (Hy.out.keep hb1)
            replace Hv := Lib.hid (Hv.out.keep hb1)
            replace Ho := Lib.hid (Ho.out.keep hb1)
            replace Hu := Lib.hid (Hu.out.keep hb1)
            clear C hb1 p0 p1 p2 p3 r0 r1 r2 r3
            go_wp2_with fail
            go_ret
            exact ⟨rfl, HB.out⟩
          · obtain rfl : up1 = (j : Int) := HUP.out.symm.trans hup
            have e1 := HQv.out.symm.trans (drop_some HRR.out hup)
            simp only [Prod.mk.injEq] at e1
            obtain ⟨rfl, rfl⟩ := e1
            obtain ⟨pa, pn, pc, pq, pa', pn', pc', pl, hAp, hVp⟩ := Hv.out.is
            obtain ⟨p0, p1, p2, p3⟩ := hAp.cells
            obtain ⟨ra, rn, rc, rq, ra', rn', rc', rl, hAr, hVr⟩ := Hb.out.is
            obtain ⟨r0, r1, r2, r3⟩ := hAr.cells
            have WO := Lib.hid (fun w' (hb : Below w505.heap.size w505 w') => rwithout_v _ bl j w' (hVr.keep hb) hj HRP.out)
            have LK := Lib.hid (fun w' (hb : Below w505.heap.size w505 w') va' (h' : BlbAt w' va' (withoutB bl j)) => like_v _ (withoutB bl j) va' (withoutB bl j) w' aD aS aZ (hVp.keep hb) (HE.out.keep (Below.then HB.out hb)) h' rfl)
            have HAp := Lib.hid hAp
            have HAr := Lib.hid hAr
            have hbA := Below.refl w505.heap.size w505
            clear hAp hVp hAr hVr
            go_upto_region 25 with fail
            refine wp_region_held_drew (S := fun w' => w'.cell? ⟨Bv, 0, none⟩ = some (.slice pa pn pc) ∧ w'.cell? ⟨Bv, 1, none⟩ = some (.int .i64 pq) ∧ w'.cell? ⟨Bv, 2, none⟩ = some (.slice pa' pn' pc') ∧ w'.cell? ⟨Bv, 3, none⟩ = some (.int .i64 pl) ∧ w'.cell? ⟨Bb, 0, none⟩ = some (.slice ra rn rc) ∧ w'.cell? ⟨Bb, 1, none⟩ = some (.int .i64 rq) ∧ w'.cell? ⟨Bb, 2, none⟩ = some (.slice ra' rn' rc') ∧ w'.cell? ⟨Bb, 3, none⟩ = some (.int .i64 rl)) (by kernel_rfl) ?hSs6x (fun hHeld => ?hRs6x)
            case hSs6x => exact ⟨p0, p1, p2, p3, r0, r1, r2, r3⟩
            refine wpAnyH_take (i := 0) (oi := { dst := some 201, op := Op.move (Operand.tmp 19), type := 27, pos := "law.go:103", after := #[], guard := none }) (v := ?gvs6x0) rfl (by kernel_rfl) (by kernel_rfl) (by kernel_rfl) (fun _ _ _ h => h) (Or.inl ⟨by rfl, ?gys6x0⟩) (by assumption) ?grs6x0
            case gys6x0 => (intro w hSw; (try dsimp only at hSw); go_simp; try with_reducible rfl)
            try simp only [Act.put, List.setIfInBounds_toArray, List.set_cons_zero, List.set_cons_succ]
            refine wpAnyH_take (i := 1) (oi := { dst := some 202, op := Op.binOp BinOp.neq 27 (Operand.tmp 201) (Operand.const (Value.int IntKind.i64 0)) 27, type := 4, pos := "law.go:103", after := #[{ on := 0, ground := Ground.data }], guard := none }) (v := ?gvs6x1) rfl (by kernel_rfl) (by kernel_rfl) (by kernel_rfl) (fun _ _ _ h => h) (Or.inl ⟨by rfl, ?gys6x1⟩) (by assumption) ?grs6x1
            case gys6x1 => (intro w hSw; (try dsimp only at hSw); go_simp; try with_reducible rfl)
            try simp only [Act.put, List.setIfInBounds_toArray, List.set_cons_zero, List.set_cons_succ]
            refine wpAnyH_take (i := 2) (oi := { dst := some 203, op := Op.move (Operand.tmp 202), type := 4, pos := "law.go:103", after := #[{ on := 1, ground := Ground.data }], guard := none }) (v := ?gvs6x2) rfl (by kernel_rfl) (by kernel_rfl) (by kernel_rfl) (fun _ _ _ h => h) (Or.inl ⟨by rfl, ?gys6x2⟩) (by assumption) ?grs6x2
            case gys6x2 => (intro w hSw; (try dsimp only at hSw); go_simp; try with_reducible rfl)
            try simp only [Act.put, List.setIfInBounds_toArray, List.set_cons_zero, List.set_cons_succ]
            refine wpAnyH_take (i := 3) (oi := { dst := some 204, op := Op.load 25 (Operand.tmp 18), type := 25, pos := "law.go:103", after := #[{ on := 2, ground := Ground.guard }], guard := some (2, false) }) (v := ?gvs6x3) rfl (by kernel_rfl) (by kernel_rfl) (by kernel_rfl) (fun _ _ _ h => h) (Or.inl ⟨by rfl, ?gys6x3⟩) (by assumption) ?grs6x3
            case gys6x3 => (intro w hSw; (try dsimp only at hSw); go_simp; try with_reducible rfl)
            try simp only [Act.put, List.setIfInBounds_toArray, List.set_cons_zero, List.set_cons_succ]
            refine wpAnyH_take (i := 4) (oi := { dst := some 205, op := Op.load 25 (Operand.tmp 5), type := 25, pos := "law.go:103", after := #[{ on := 2, ground := Ground.guard }], guard := some (2, false) }) (v := ?gvs6x4) rfl (by kernel_rfl) (by kernel_rfl) (by kernel_rfl) (fun _ _ _ h => h) (Or.inl ⟨by rfl, ?gys6x4⟩) (by assumption) ?grs6x4
            case gys6x4 => (intro w hSw; (try dsimp only at hSw); go_simp; try with_reducible rfl)
            try simp only [Act.put, List.setIfInBounds_toArray, List.set_cons_zero, List.set_cons_succ]
            refine wpAnyH_take (i := 5) (oi := { dst := some 206, op := Op.move (Operand.tmp 25), type := 3, pos := "law.go:103", after := #[{ on := 2, ground := Ground.guard }], guard := some (2, false) }) (v := ?gvs6x5) rfl (by kernel_rfl) (by kernel_rfl) (by kernel_rfl) (fun _ _ _ h => h) (Or.inl ⟨by rfl, ?gys6x5⟩) (by assumption) ?grs6x5
            case gys6x5 => (intro w hSw; (try dsimp only at hSw); go_simp; try with_reducible rfl)
            try simp only [Act.put, List.setIfInBounds_toArray, List.set_cons_zero, List.set_cons_succ]
            refine wpAnyH_ready (rs := [6]) (by kernel_rfl) (by simp) ?_
            refine AllReadyH.cons (o := { dst := some 207, op := Op.call { callee := Callee.value (Operand.func 22), args := #[Operand.tmp 205, Operand.tmp 206], argTypes := #[25, 3] }, type := 25, pos := "law.go:103", after := #[{ on := 4, ground := Ground.data }, { on := 5, ground := Ground.data }, { on := 2, ground := Ground.chain }, { on := 2, ground := Ground.guard }], guard := some (2, false) }) rfl (fun K hK => ?_) AllReadyH.nil
            rw [if_pos (by kernel_rfl)]
            go_simp
            go_wp2_with (go_at_call 22; refine (WO.out w505.drew hbA.drew).mono ?_; rintro e wr1 ⟨v1, rfl, hv1, hbn⟩)
            have hb1 := Below.then hbA.drew hbn
            obtain ⟨p0, p1, p2, p3⟩ := (HAp.out.keep hb1).cells
            obtain ⟨r0, r1, r2, r3⟩ := (HAr.out.keep hb1).cells
            clear hbn
            refine hK.out _ _ ?hSs6x6 (fun hHeld6 => ?hRs6x6)
            case hSs6x6 => exact ⟨p0, p1, p2, p3, r0, r1, r2, r3⟩
            clear hK K
            try simp only [Act.put, List.setIfInBounds_toArray, List.set_cons_zero, List.set_cons_succ]
            refine wpAnyH_ready (rs := [7]) (by kernel_rfl) (by simp) ?_
            refine AllReadyH.cons (o := { dst := some 208, op := Op.call { callee := Callee.value (Operand.func 11), args := #[Operand.tmp 204, Operand.tmp 207], argTypes := #[25, 25] }, type := 4, pos := "law.go:103", after := #[{ on := 3, ground := Ground.data }, { on := 6, ground := Ground.data }, { on := 6, ground := Ground.chain }, { on := 2, ground := Ground.guard }], guard := some (2, false) }) rfl (fun K hK => ?_) AllReadyH.nil
            rw [if_pos (by kernel_rfl)]
            go_simp
            go_wp2_with (go_at_call 11; refine (LK.out wr1 hb1 _ hv1).mono ?_; rintro e wr2 ⟨rfl, hbn⟩)
            have hb2 := Below.then hb1 hbn
            obtain ⟨p0, p1, p2, p3⟩ := (HAp.out.keep hb2).cells
            obtain ⟨r0, r1, r2, r3⟩ := (HAr.out.keep hb2).cells
            clear hbn
            refine hK.out _ _ ?hSs6x7 (fun hHeld7 => ?hRs6x7)
            case hSs6x7 => exact ⟨p0, p1, p2, p3, r0, r1, r2, r3⟩
            clear hK K
            try simp only [Act.put, List.setIfInBounds_toArray, List.set_cons_zero, List.set_cons_succ]
            refine wpAnyH_take (i := 8) (oi := { dst := some 209, op := Op.unOp UnOp.not 4 (Operand.tmp 208), type := 4, pos := "law.go:103", after := #[{ on := 7, ground := Ground.data }, { on := 2, ground := Ground.guard }], guard := some (2, false) }) (v := ?gvs6x8) rfl (by kernel_rfl) (by kernel_rfl) (by kernel_rfl) (fun _ _ _ h => h) (Or.inl ⟨by rfl, ?gys6x8⟩) (by assumption) ?grs6x8
            case gys6x8 => (intro w hSw; (try dsimp only at hSw); go_simp; try with_reducible rfl)
            try simp only [Act.put, List.setIfInBounds_toArray, List.set_cons_zero, List.set_cons_succ]
            refine wpAnyH_take (i := 9) (oi := { dst := some 210, op := Op.pick (Operand.tmp 203) (Operand.const (Value.bool true)) (Operand.tmp 209), type := 4, pos := "law.go:103", after := #[{ on := 2, ground := Ground.data }, { on := 8, ground := Ground.data }], guard := none }) (v := ?gvs6x9) rfl (by kernel_rfl) (by kernel_rfl) (by kernel_rfl) (fun _ _ _ h => h) (Or.inl ⟨by rfl, ?gys6x9⟩) (by assumption) ?grs6x9
            case gys6x9 => (intro w hSw; (try dsimp only at hSw); go_simp; try with_reducible rfl)
            try simp only [Act.put, List.setIfInBounds_toArray, List.set_cons_zero, List.set_cons_succ]
            refine wpAnyH_done (by kernel_rfl) ?_ _
            replace HB := Lib.hid (Below.then HB.out hb2)
            replace Hb := Lib.hid (Hb.out.keep hb2)
            replace Hy := Lib.hid (Hy.out.keep hb2)
            replace Hv := Lib.hid (Hv.out.keep hb2)
            replace Ho := Lib.hid (Ho.out.keep hb2)
            replace Hu := Lib.hid (Hu.out.keep hb2)
            clear hb1 hb2 hbA p0 p1 p2 p3 r0 r1 r2 r3 WO LK HAp HAr hv1 hHeld hHeld6 hHeld7
            clear Hv
            obtain ⟨ka, kc, ka', kc', hAk, hVk⟩ := Hb.out.open
            obtain ⟨ub, uo, ux, us, rfl, hue, hus, g0, g1, hpo, hpl, hpd⟩ := up_facts HRR.out hup hj hVk.parts.2.1
            have HPO := Lib.hid hpo
            have HPL := Lib.hid hpl
            have HPD := Lib.hid hpd
            have HUE := Lib.hid hue
            have HJ := Lib.hid hj
            obtain ⟨m9, hm9⟩ : ∃ n, bl.ups.length = n := ⟨_, rfl⟩
            have HM9 := Lib.hid hm9
            rw [hm9] at hAk hj
            obtain ⟨k0, k1, k2, k3⟩ := hAk.cells
            clear hAk hVk hm9 hup hpo hpl hpd hue
            have q13 : IntKind.i64.wrap ((us.size : Int) + (s.size : Int)) = (us.size : Int) + (s.size : Int) := by rw [IntKind.wrap_i64]; omega
            by_cases ho : offset = (us.size : Nat)
            · subst ho
              have q11 : ((us.size : Int) != (us.size : Int)) = false := bne_self_eq_false _
              by_cases hl : 4096 < us.size + s.size
              · have e1 := HQy.out.symm.trans (HPL.out _ hl)
                simp only [Prod.mk.injEq] at e1
                obtain ⟨rfl, rfl⟩ := e1
                have q12 : 4096 < (us.size : Int) + (s.size : Int) := by omega
                clear HPO HPL HPD
                obtain ⟨pa, pn, pc, pq, pa', pn', pc', pl, hAp, hVp⟩ := Hy.out.is
                obtain ⟨p0, p1, p2, p3⟩ := hAp.cells
                obtain ⟨ra, rn, rc, rq, ra', rn', rc', rl, hAr, hVr⟩ := Ho.out.is
                obtain ⟨r0, r1, r2, r3⟩ := hAr.cells
                have C := Lib.hid (like_v _ nilBlb _ nilBlb wr2 aD aS aZ hVp (HE.out.keep HB.out) hVr rfl)
                clear hAp hVp hAr hVr
                go_wp2_with fail
                refine C.out.mono ?_
                rintro e w301 ⟨rfl, hb1⟩
                replace HB := Lib.hid (Below.then HB.out hb1)
                replace Hb := Lib.hid (Hb.out.keep hb1)
                replace Hy := Lib.hid (Hy.out.keep hb1)
                replace Ho := Lib.hid (Ho.out.keep hb1)
                replace Hu := Lib.hid (Hu.out.keep hb1)
                clear C hb1 p0 p1 p2 p3 r0 r1 r2 r3
                go_wp2_with fail
                go_ret
                exact ⟨rfl, HB.out⟩
              · have e1 := HQy.out.symm.trans (HPD.out _ hl)
                simp only [Prod.mk.injEq] at e1
                obtain ⟨rfl, rfl⟩ := e1
                have q12 : ¬ 4096 < (us.size : Int) + (s.size : Int) := by omega
                clear HPO HPL HPD
                clear Ho
                have hzs : us.size + s.size ≤ 4096 := by omega
                go_upto_region 32 with fail
                clear k0 k1 k2 k3 g0 g1 hl
                obtain ⟨ya, yn, yc, yq, ya', yn', yc', yl, hA1, hV1⟩ := Hb.out.is
                have HV1 := Lib.hid hV1
                obtain ⟨b0, b1, b2, b3⟩ := hA1.cells
                clear hA1 hV1
                obtain ⟨za, zn, zc, zq, za', zn', zc', zl, hA, hV⟩ := Hu.out.is
                obtain ⟨a0, a1, a2, a3⟩ := hA.cells
                obtain ⟨f0, f1, f2, f3⟩ := hA.free
                clear hA hV
                go_upto_region 33 with fail
                obtain ⟨w401, hw2⟩ : ∃ x, (((wr2.setCell ⟨Bu, 0, none⟩ (.slice ya yn yc)).setCell ⟨Bu, 1, none⟩ (.int .i64 yq)).setCell ⟨Bu, 2, none⟩ (.slice ya' yn' yc')).setCell ⟨Bu, 3, none⟩ (.int .i64 yl) = x := ⟨_, rfl⟩
                rw [hw2]
                replace Hb := Lib.hid (show VarB w401 Bb bl by rw [← hw2]; exact Hb.out.other Hu.out HNbu.out)
                replace Hy := Lib.hid (show VarB w401 By (setUp bl j (us ++ s)) by rw [← hw2]; exact Hy.out.other Hu.out HNyu.out)
                replace Hu := Lib.hid (show VarB w401 Bu bl by rw [← hw2]; exact Hu.out.set HV1.out)
                replace HB := Lib.hid (show Below w.heap.size w w401 by rw [← hw2]; exact set4_below HB.out HLu.out (.slice ya yn yc) (.int .i64 yq) (.slice ya' yn' yc') (.int .i64 yl))
                clear hw2 a0 a1 a2 a3 f0 f1 f2 f3 HV1
                clear b0 b1 b2 b3
                obtain ⟨pa, pn, pc, pq, pa', pn', pc', pl, hAp, hVp⟩ := Hb.out.is
                obtain ⟨p0, p1, p2, p3⟩ := hAp.cells
                obtain ⟨ra, rn, rc, rq, ra', rn', rc', rl, hAr, hVr⟩ := Hu.out.is
                obtain ⟨r0, r1, r2, r3⟩ := hAr.cells
                obtain ⟨i1, hi1, hy0, hy1, hy2⟩ := info_parts infoUp
                have hpn : pn' = bl.ups.length := by
                  obtain ⟨x1, x2, e, -, -⟩ := hVp.parts.2.1.shape3
                  simp only [Value.slice.injEq] at e
                  rw [e.2.1, List.length_map]
                have hp16 : pn' ≤ 16 := by rw [hpn]; exact HRP.out.ups
                have hjp : j < pn' := by rw [hpn]; exact HJ.out
                have HSRC := Lib.hid (show SrcOf 2 (w401.alloc (.cells #[] 40)) (.slice pa' pn' pc') pn' (cellsL (bl.ups.map upCell)) by
                  have := (hVp.parts.2.1.keep (below_new w401 (.cells #[] 40))).src
                  rwa [List.length_map, ← hpn] at this)
                have HOWN1 := Lib.hid (show (w401.alloc (.cells #[] 40)).ownsRow w401.heap.size 40 2 (.slice (some ⟨w401.heap.size, 0, none⟩) 0 0) 0 [] from World.ownsRow_lit w401 #[] 0 (Nat.le_refl _) (Nat.zero_le _) rfl)
                have HLE1 := Lib.hid (show w401.heap.size ≤ (w401.alloc (.cells #[] 40)).heap.size by rw [World.size_alloc]; exact Nat.le_succ _)
                have p2a : (w401.alloc (.cells #[] 40)).cell? ⟨Bb, 2, none⟩ = some (.slice pa' pn' pc') := Below.keepc (below_new _ _) p2
                have HAr := Lib.hid hAr
                have HVr := Lib.hid hVr
                have HPN := Lib.hid hpn
                clear hAp hVp hAr hVr p0 p1 p2 p3 r0 r1 r2 r3 hpn
                go_wp2_with (at_builtin; refine wpList_append_src _ rfl _ _ 23 rfl w401.heap.size 40 i1 (.agg #[.int .i64 0, .string ⟨#[]⟩]) 2 24 Tryz.underlying23 hi1 hy0 hy1 hy2 rfl (by decide) _ 0 [] rfl HOWN1.out _ pn' _ rfl HSRC.out (one_ups _) (by unfold maxLen; omega) (by omega) HLE1.out ?_)
                intro v2 wa hown2 hgrow2
                obtain ⟨su, ku, rfl⟩ := own_shape hown2
                obtain ⟨g, rfl, hgb, hmk, cur, hcur⟩ := own_some hown2 (by omega)
                have hB2 : Below w401.heap.size w401 wa := ((Below.refl _ w401).alloc (Nat.le_refl _) _).grown hgrow2 HLE1.out (fun k hk => (HOWN1.out.lt k hk).1)
                have HR2 := Lib.hid (HAr.out.keep hB2)
                have HB2 := Lib.hid hB2
                have HO2 := Lib.hid hown2
                have HCU := Lib.hid hcur
                have HGB := Lib.hid hgb
                clear hown2 hgrow2 hB2 hcur hgb p2a HSRC HOWN1 HLE1
                obtain ⟨r0, r1, r2, r3⟩ := HR2.out.cells
                obtain ⟨f0, f1, f2, f3⟩ := HR2.out.free
                go_upto_region 34 with fail
                clear r0 r1 r2 r3 f0 f1 f2 f3
                obtain ⟨wb, hwb⟩ : ∃ x, wa.setCell ⟨Bu, 2, none⟩ (.slice (some ⟨g, 0, none⟩) pn' ku) = x := ⟨_, rfl⟩
                have HWB := Lib.hid hwb
                rw [hwb]
                have hne : g ≠ Bu := by have := HGB.out; have := HAr.out.lt; omega
                have HR3 := Lib.hid (show At4 25 wb Bu (.slice ra rn rc) (.int .i64 rq) (.slice (some ⟨g, 0, none⟩) pn' ku) (.int .i64 rl) by rw [← hwb]; exact HR2.out.at2 _)
                have hbul := HAr.out.lt
                have hO3 : wb.ownsRow w401.heap.size 40 2 (.slice (some ⟨g, 0, none⟩) pn' ku) pn' (cellsL (bl.ups.map upCell)) := by rw [← hwb]; exact own_same HO2.out fun k hk => Below.heap_setCell _ _ _ _ (show k ≠ Bu by omega)
                have hcur2 : wb.heap[g]? = some (.cells cur 40 (0, 0)) := by rw [← hwb, Below.heap_setCell _ _ _ _ hne]; exact HCU.out
                have hfz : wb.frozen? ⟨g, j * 2 + 1, none⟩ = false := by simp only [World.frozen?, hcur2]; rfl
                have hce : wb.cell? ⟨g, j * 2 + 1, none⟩ = some (.string us) := by
                  have h1 := (cellsL_at (bl.ups.map upCell) j (by rw [List.length_map]; exact HJ.out)).2
                  rw [up_getElem bl.ups j HJ.out, List.getElem_of_getElem? HUE.out |>.2] at h1
                  have h2 := hO3.cells (g := g) rfl (j * 2 + 1) _ h1
                  rwa [add_plain, Nat.zero_add] at h2
                clear hwb hcur2 hO3
                obtain ⟨r0, r1, r2, r3⟩ := HR3.out.cells
                go_upto_region 35 with fail
                obtain ⟨wc, hwc⟩ : ∃ x, wb.setCell ⟨g, j * 2 + 1, none⟩ (.string (us ++ s)) = x := ⟨_, rfl⟩
                rw [hwc]
                have PU := put_up (x := us ++ s) HAr.out HVr.out HB2.out HO2.out HPN.out.symm HJ.out (by rw [ByteArray.size_append]; unfold maxLen; omega)
                rw [HWB.out, hwc] at PU
                replace Hy := Lib.hid (Hy.out.past Hu.out HNyu.out PU.2)
                replace Hu := Lib.hid PU.1
                replace HB := Lib.hid (show Below w.heap.size w wc by rw [← hwc, ← HWB.out]; exact ((Below.then HB.out HB2.out).setCell (p := ⟨Bu, 2, none⟩) HLu.out _).setCell (p := ⟨g, j * 2 + 1, none⟩) (Nat.le_trans HB.out.size HGB.out) _)
                clear PU hwc r0 r1 r2 r3 hce hfz HR2 HR3 HAr HVr HWB
                obtain ⟨pa, pn, pc, pq, pa', pn', pc', pl, hAp, hVp⟩ := Hy.out.is
                obtain ⟨p0, p1, p2, p3⟩ := hAp.cells
                obtain ⟨ra, rn, rc, rq, ra', rn', rc', rl, hAr, hVr⟩ := Hu.out.is
                obtain ⟨r0, r1, r2, r3⟩ := hAr.cells
                have C := Lib.hid (like_v _ (setUp bl j (us ++ s)) _ (setUp bl j (us ++ s)) wc aD aS aZ hVp (HE.out.keep HB.out) hVr rfl)
                clear hAp hVp hAr hVr
                go_wp2_with fail
                refine C.out.mono ?_
                rintro e w402 ⟨rfl, hb1⟩
                replace HB := Lib.hid (Below.then HB.out hb1)
                replace Hy := Lib.hid (Hy.out.keep hb1)
                replace Hu := Lib.hid (Hu.out.keep hb1)
                clear C hb1 p0 p1 p2 p3 r0 r1 r2 r3
                go_wp2_with fail
                go_ret
                exact ⟨rfl, HB.out⟩
            · have e1 := HQy.out.symm.trans (HPO.out _ _ ho)
              simp only [Prod.mk.injEq] at e1
              obtain ⟨rfl, rfl⟩ := e1
              have q11 : (offset != (us.size : Int)) = true := bne_iff_ne.2 ho
              clear HPO HPL HPD
              obtain ⟨pa, pn, pc, pq, pa', pn', pc', pl, hAp, hVp⟩ := Hy.out.is
              obtain ⟨p0, p1, p2, p3⟩ := hAp.cells
              obtain ⟨ra, rn, rc, rq, ra', rn', rc', rl, hAr, hVr⟩ := Ho.out.is
              obtain ⟨r0, r1, r2, r3⟩ := hAr.cells
              have C := Lib.hid (like_v _ nilBlb _ nilBlb wr2 aD aS aZ hVp (HE.out.keep HB.out) hVr rfl)
              clear hAp hVp hAr hVr
              go_wp2_with fail
              refine C.out.mono ?_
              rintro e w301 ⟨rfl, hb1⟩
              replace HB := Lib.hid (Below.then HB.out hb1)
              replace Hb := Lib.hid (Hb.out.keep hb1)
              replace Hy := Lib.hid (Hy.out.keep hb1)
              replace Ho := Lib.hid (Ho.out.keep hb1)
              replace Hu := Lib.hid (Hu.out.keep hb1)
              clear C hb1 p0 p1 p2 p3 r0 r1 r2 r3
              go_wp2_with fail
              go_ret
              exact ⟨rfl, HB.out⟩
end Go.Proofs.YtodjhmphneoifaaGreatDoor
