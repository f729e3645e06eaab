/-
  BlobStays of the laws, by a contract: it answers true. Conditions: the digest's tables and octet's errors lie where they were laid.
-/
import Derived.Test.YtodjhmphneoifaaGreatDoorZLaw2
import Derived.Lib.MinMax
import Derived.Deep.RegionHeld3
namespace Go.Proofs.YtodjhmphneoifaaGreatDoor
open Go.RowKit Go.WideShapes

/-- What may be, and has the objects that were there ahead of all others. -/
def StaysB (bl tb : Blb) : Prop := RightP tb ∧ ∃ l, tb.objs = bl.objs ++ l
theorem RightP.few {b : Blb} (h : RightP b) : FewIs b := ⟨by have := h.objs; omega, fun o ho => by have := (h.data o ho).1; omega⟩
/-- The row of four blobs at R, and what their errnos say. -/
def StayRow (w : World) (R : Nat) (ef : Nat → Int) (bl : Blb) : Prop :=
  ∀ k, k < 4 → ∃ a n c q a' n' c' l tb, (w.cell? ⟨R, k * 4, none⟩ = some (.slice a n c) ∧ w.cell? ⟨R, k * 4 + 1, none⟩ = some (.int .i64 q) ∧ w.cell? ⟨R, k * 4 + 2, none⟩ = some (.slice a' n' c') ∧ w.cell? ⟨R, k * 4 + 3, none⟩ = some (.int .i64 l)) ∧
    BlbAt w (.agg #[.slice a n c, .int .i64 q, .slice a' n' c', .int .i64 l]) tb ∧ (ef k = 0 → StaysB bl tb)
theorem StayRow.keep {w w' : World} {R : Nat} {ef : Nat → Int} {bl : Blb} (h : StayRow w R ef bl) (hb : Below w.heap.size w w') : StayRow w' R ef bl := fun k hk => by
  obtain ⟨a, n, c, q, a', n', c', l, tb, ⟨h0, h1, h2, h3⟩, hv, he⟩ := h k hk
  exact ⟨a, n, c, q, a', n', c', l, tb, ⟨Below.keepc hb h0, Below.keepc hb h1, Below.keepc hb h2, Below.keepc hb h3⟩, hv.keep hb, he⟩
def ef4 (e0 e1 e2 e3 : Int) (k : Nat) : Int := match k with | 0 => e0 | 1 => e1 | 2 => e2 | _ => e3
theorem errs4 (w : World) (t : TypeId) (e0 e1 e2 e3 : Int) (k : Nat) (hk : k < 4) : (w.alloc (.cells #[.int .i64 e0, .int .i64 e1, .int .i64 e2, .int .i64 e3] t)).cell? ⟨w.heap.size, k, none⟩ = some (.int .i64 (ef4 e0 e1 e2 e3 k)) := by
  rw [cell_of_row _ _ _ _ _ _ (heap_alloc_new w _)]
  match k, hk with
  | 0, _ => rfl
  | 1, _ => rfl
  | 2, _ => rfl
  | 3, _ => rfl
theorem stay_row (w : World) (t : TypeId) {bl b0 b1 b2 b3 : Blb} {e0 e1 e2 e3 : Int} {a0 a1 a2 a3 d0 d1 d2 d3 : Option Addr} {n0 n1 n2 n3 c0 c1 c2 c3 m0 m1 m2 m3 f0 f1 f2 f3 : Nat} {q0 q1 q2 q3 l0 l1 l2 l3 : Int}
    (h0 : BlbAt w (.agg #[.slice a0 n0 c0, .int .i64 q0, .slice d0 m0 f0, .int .i64 l0]) b0) (h1 : BlbAt w (.agg #[.slice a1 n1 c1, .int .i64 q1, .slice d1 m1 f1, .int .i64 l1]) b1)
    (h2 : BlbAt w (.agg #[.slice a2 n2 c2, .int .i64 q2, .slice d2 m2 f2, .int .i64 l2]) b2) (h3 : BlbAt w (.agg #[.slice a3 n3 c3, .int .i64 q3, .slice d3 m3 f3, .int .i64 l3]) b3)
    (s0 : e0 = 0 → StaysB bl b0) (s1 : e1 = 0 → StaysB bl b1) (s2 : e2 = 0 → StaysB bl b2) (s3 : e3 = 0 → StaysB bl b3) :
    StayRow (w.alloc (.cells #[.slice a0 n0 c0, .int .i64 q0, .slice d0 m0 f0, .int .i64 l0, .slice a1 n1 c1, .int .i64 q1, .slice d1 m1 f1, .int .i64 l1, .slice a2 n2 c2, .int .i64 q2, .slice d2 m2 f2, .int .i64 l2, .slice a3 n3 c3, .int .i64 q3, .slice d3 m3 f3, .int .i64 l3] t)) w.heap.size (ef4 e0 e1 e2 e3) bl := fun k hk => by
  have hc := fun i => cell_of_row _ _ i _ _ _ (heap_alloc_new w (.cells #[.slice a0 n0 c0, .int .i64 q0, .slice d0 m0 f0, .int .i64 l0, .slice a1 n1 c1, .int .i64 q1, .slice d1 m1 f1, .int .i64 l1, .slice a2 n2 c2, .int .i64 q2, .slice d2 m2 f2, .int .i64 l2, .slice a3 n3 c3, .int .i64 q3, .slice d3 m3 f3, .int .i64 l3] t))
  match k, hk with
  | 0, _ => exact ⟨_, _, _, _, _, _, _, _, b0, ⟨hc 0, hc 1, hc 2, hc 3⟩, h0.keep (below_new _ _), s0⟩
  | 1, _ => exact ⟨_, _, _, _, _, _, _, _, b1, ⟨hc 4, hc 5, hc 6, hc 7⟩, h1.keep (below_new _ _), s1⟩
  | 2, _ => exact ⟨_, _, _, _, _, _, _, _, b2, ⟨hc 8, hc 9, hc 10, hc 11⟩, h2.keep (below_new _ _), s2⟩
  | 3, _ => exact ⟨_, _, _, _, _, _, _, _, b3, ⟨hc 12, hc 13, hc 14, hc 15⟩, h3.keep (below_new _ _), s3⟩

set_option maxRecDepth 100000 in
set_option maxHeartbeats 8000000 in
theorem stays_any (aD aS aZ : Addr) (v : Value) (b0 : Blb) (id offset : Int) (s0 d : ByteArray) (w : World) (he : DEnv w aD aS aZ) (h : BlbAt w v b0) (hs0 : s0.size ≤ maxLen) (hd : d.size ≤ maxLen) :
    Calls Tryz.prog 5 #[v, .int .i64 id, .int .i64 offset, .string s0, .string d] w fun e w' => e = .returned (.bool true) ∧ Below w.heap.size w w' := by
  unfold maxLen at hs0 hd
  have HE := Lib.hid he
  obtain ⟨m, hm⟩ : ∃ m, min s0.size 200 = m := ⟨_, rfl⟩
  have q3 : min (s0.size : Int) 200 = (m : Int) := by omega
  have hms : m ≤ s0.size ∧ m ≤ 200 := by omega
  obtain ⟨s, hss⟩ : ∃ s, s0.extract 0 m = s := ⟨_, rfl⟩
  have hsm : s.size ≤ 200 := by rw [← hss, ByteArray.size_extract]; omega
  obtain ⟨ya, yn, yc, yq, ya', yn', yc', yl, rfl⟩ := h.four
  have HV1 := Lib.hid h
  obtain ⟨w0, hw0⟩ : ∃ x, w.alloc (.cells #[.slice ya yn yc, .int .i64 yq, .slice ya' yn' yc', .int .i64 yl] 25) = x := ⟨_, rfl⟩
  obtain ⟨Bb, hBb⟩ : ∃ x, w.heap.size = x := ⟨_, rfl⟩
  have Hb := Lib.hid (show VarB w0 Bb b0 by rw [← hw0, ← hBb]; exact VarB.new HV1.out)
  have HB := Lib.hid (show Below w.heap.size w w0 by rw [← hw0]; exact below_new _ _)
  have HLb := Lib.hid (show w.heap.size ≤ Bb by rw [← hBb]; exact Nat.le_refl _)
  have HW0 := Lib.hid hw0
  clear he h hw0 HV1 hm
  go_enter Tryz.func5, Tryz.ntmps5
  go_upto_region 1 with fail
  rw [HW0.out]
  clear hBb HW0
  obtain ⟨xa, xn, xc, xq, xa', xn', xc', xl, hA, hV⟩ := Hb.out.is
  have C0 := few_v _ b0  w0 aD aS aZ hV (HE.out.keep HB.out)
  have C := Lib.hid C0
  clear C0
  obtain ⟨a0, a1, a2, a3⟩ := hA.cells
  clear hA hV
  go_wp2_with fail
  refine C.out.mono ?_
  rintro e w1 ⟨v1, rfl, hv1, hb1⟩
  obtain ⟨ya, yn, yc, yq, ya', yn', yc', yl, rfl⟩ := hv1.four
  have HV1 := Lib.hid hv1
  replace HB := Lib.hid (Below.then HB.out hb1)
  replace Hb := Lib.hid (Hb.out.keep hb1)
  clear C hb1 a0 a1 a2 a3 hv1
  obtain ⟨za, zn, zc, zq, za', zn', zc', zl, hA, hV⟩ := Hb.out.is
  obtain ⟨a0, a1, a2, a3⟩ := hA.cells
  obtain ⟨f0, f1, f2, f3⟩ := hA.free
  clear hA hV
  go_upto_region 2 with fail
  obtain ⟨w2, hw2⟩ : ∃ x, (((w1.setCell ⟨Bb, 0, none⟩ (.slice ya yn yc)).setCell ⟨Bb, 1, none⟩ (.int .i64 yq)).setCell ⟨Bb, 2, none⟩ (.slice ya' yn' yc')).setCell ⟨Bb, 3, none⟩ (.int .i64 yl) = x := ⟨_, rfl⟩
  rw [hw2]
  replace Hb := Lib.hid (show VarB w2 Bb (fewB b0) by rw [← hw2]; exact Hb.out.set HV1.out)
  replace HB := Lib.hid (show Below w.heap.size w w2 by rw [← hw2]; exact set4_below HB.out HLb.out (.slice ya yn yc) (.int .i64 yq) (.slice ya' yn' yc') (.int .i64 yl))
  clear hw2 a0 a1 a2 a3 f0 f1 f2 f3 HV1
  obtain ⟨bl, hbl⟩ : ∃ x, fewB b0 = x := ⟨_, rfl⟩
  rw [hbl] at Hb
  clear hbl
  obtain ⟨rx, ix, ex, hx⟩ : ∃ r i e, beginB bl = (r, i, e) := ⟨_, _, _, rfl⟩
  have HSx := Lib.hid (show ex = 0 → StaysB bl rx from fun h => by have := @begin_stays bl; rw [hx] at this; exact this h)
  have HQx := Lib.hid hx
  clear hx
  obtain ⟨xa, xn, xc, xq, xa', xn', xc', xl, hA, hV⟩ := Hb.out.is
  have C0 := Begin_t _ bl  w2 aD aS aZ hV (HE.out.keep HB.out)
  rw [HQx.out] at C0
  have C := Lib.hid C0
  clear C0
  obtain ⟨a0, a1, a2, a3⟩ := hA.cells
  clear hA hV
  go_wp2_with fail
  refine C.out.mono ?_
  rintro e w3 ⟨v1, rfl, hv1, hb1⟩
  obtain ⟨ya, yn, yc, yq, ya', yn', yc', yl, rfl⟩ := hv1.four
  have HV1 := Lib.hid hv1
  replace HB := Lib.hid (Below.then HB.out hb1)
  replace Hb := Lib.hid (Hb.out.keep hb1)
  clear C hb1 a0 a1 a2 a3 hv1
  obtain ⟨w4, hw2⟩ : ∃ x, w3.alloc (.cells #[.slice ya yn yc, .int .i64 yq, .slice ya' yn' yc', .int .i64 yl] 25) = x := ⟨_, rfl⟩
  obtain ⟨Bx, hBx⟩ : ∃ x, w3.heap.size = x := ⟨_, rfl⟩
  have Hx := Lib.hid (show VarB w4 Bx rx by rw [← hw2, ← hBx]; exact VarB.new HV1.out)
  have hb2 : Below w3.heap.size w3 w4 := by rw [← hw2]; exact below_new _ _
  have HNbx := Lib.hid (show Bb ≠ Bx by have := Hb.out.lt; omega)
  have HNxb := Lib.hid (HNbx.out.symm)
  replace Hb := Lib.hid (Hb.out.keep hb2)
  have HLx := Lib.hid (show w.heap.size ≤ Bx by rw [← hBx]; exact HB.out.size)
  replace HB := Lib.hid (Below.then HB.out hb2)
  have HW2 := Lib.hid hw2
  clear hw2 hb2 HV1
  go_upto_region 4 with fail
  rw [HW2.out]
  clear hBx HW2
  obtain ⟨ry, ey, hy⟩ : ∃ r e, pushB bl id offset s = (r, e) := ⟨_, _, rfl⟩
  have HSy := Lib.hid (show ey = 0 → StaysB bl ry from fun h => by have := @push_stays bl id offset s; rw [hy] at this; exact this h)
  have HQy := Lib.hid hy
  clear hy
  obtain ⟨xa, xn, xc, xq, xa', xn', xc', xl, hA, hV⟩ := Hb.out.is
  have C0 := Push_t _ bl id offset s w4 aD aS aZ hV (HE.out.keep HB.out) (by omega)
  rw [HQy.out] at C0
  have C := Lib.hid C0
  clear C0
  obtain ⟨a0, a1, a2, a3⟩ := hA.cells
  clear hA hV
  go_wp2_with fail
  refine C.out.mono ?_
  rintro e w5 ⟨v1, rfl, hv1, hb1⟩
  obtain ⟨ya, yn, yc, yq, ya', yn', yc', yl, rfl⟩ := hv1.four
  have HV1 := Lib.hid hv1
  replace HB := Lib.hid (Below.then HB.out hb1)
  replace Hb := Lib.hid (Hb.out.keep hb1)
  replace Hx := Lib.hid (Hx.out.keep hb1)
  clear C hb1 a0 a1 a2 a3 hv1
  obtain ⟨w6, hw2⟩ : ∃ x, w5.alloc (.cells #[.slice ya yn yc, .int .i64 yq, .slice ya' yn' yc', .int .i64 yl] 25) = x := ⟨_, rfl⟩
  obtain ⟨By, hBy⟩ : ∃ x, w5.heap.size = x := ⟨_, rfl⟩
  have Hy := Lib.hid (show VarB w6 By ry by rw [← hw2, ← hBy]; exact VarB.new HV1.out)
  have hb2 : Below w5.heap.size w5 w6 := by rw [← hw2]; exact below_new _ _
  have HNby := Lib.hid (show Bb ≠ By by have := Hb.out.lt; omega)
  have HNyb := Lib.hid (HNby.out.symm)
  replace Hb := Lib.hid (Hb.out.keep hb2)
  have HNxy := Lib.hid (show Bx ≠ By by have := Hx.out.lt; omega)
  have HNyx := Lib.hid (HNxy.out.symm)
  replace Hx := Lib.hid (Hx.out.keep hb2)
  have HLy := Lib.hid (show w.heap.size ≤ By by rw [← hBy]; exact HB.out.size)
  replace HB := Lib.hid (Below.then HB.out hb2)
  have HW2 := Lib.hid hw2
  clear hw2 hb2 HV1
  go_upto_region 5 with fail
  rw [HW2.out]
  clear hBy HW2
  obtain ⟨rz, ez, hz⟩ : ∃ r e, endB bl id d = (r, e) := ⟨_, _, rfl⟩
  have HSz := Lib.hid (show ez = 0 → StaysB bl rz from fun h => by have := @end_stays bl id d; rw [hz] at this; exact this h)
  have HQz := Lib.hid hz
  clear hz
  obtain ⟨xa, xn, xc, xq, xa', xn', xc', xl, hA, hV⟩ := Hb.out.is
  have C0 := End_t _ bl id d w6 aD aS aZ hV (HE.out.keep HB.out) (by omega)
  rw [HQz.out] at C0
  have C := Lib.hid C0
  clear C0
  obtain ⟨a0, a1, a2, a3⟩ := hA.cells
  clear hA hV
  go_wp2_with fail
  refine C.out.mono ?_
  rintro e w7 ⟨v1, rfl, hv1, hb1⟩
  obtain ⟨ya, yn, yc, yq, ya', yn', yc', yl, rfl⟩ := hv1.four
  have HV1 := Lib.hid hv1
  replace HB := Lib.hid (Below.then HB.out hb1)
  replace Hb := Lib.hid (Hb.out.keep hb1)
  replace Hx := Lib.hid (Hx.out.keep hb1)
  replace Hy := Lib.hid (Hy.out.keep hb1)
  clear C hb1 a0 a1 a2 a3 hv1
  obtain ⟨w8, hw2⟩ : ∃ x, w7.alloc (.cells #[.slice ya yn yc, .int .i64 yq, .slice ya' yn' yc', .int .i64 yl] 25) = x := ⟨_, rfl⟩
  obtain ⟨Bz, hBz⟩ : ∃ x, w7.heap.size = x := ⟨_, rfl⟩
  have Hz := Lib.hid (show VarB w8 Bz rz by rw [← hw2, ← hBz]; exact VarB.new HV1.out)
  have hb2 : Below w7.heap.size w7 w8 := by rw [← hw2]; exact below_new _ _
  have HNbz := Lib.hid (show Bb ≠ Bz by have := Hb.out.lt; omega)
  have HNzb := Lib.hid (HNbz.out.symm)
  replace Hb := Lib.hid (Hb.out.keep hb2)
  have HNxz := Lib.hid (show Bx ≠ Bz by have := Hx.out.lt; omega)
  have HNzx := Lib.hid (HNxz.out.symm)
  replace Hx := Lib.hid (Hx.out.keep hb2)
  have HNyz := Lib.hid (show By ≠ Bz by have := Hy.out.lt; omega)
  have HNzy := Lib.hid (HNyz.out.symm)
  replace Hy := Lib.hid (Hy.out.keep hb2)
  have HLz := Lib.hid (show w.heap.size ≤ Bz by rw [← hBz]; exact HB.out.size)
  replace HB := Lib.hid (Below.then HB.out hb2)
  have HW2 := Lib.hid hw2
  clear hw2 hb2 HV1
  go_upto_region 6 with fail
  rw [HW2.out]
  clear hBz HW2
  obtain ⟨rv, ev, hv⟩ : ∃ r e, dropB bl id = (r, e) := ⟨_, _, rfl⟩
  have HSv := Lib.hid (show ev = 0 → StaysB bl rv from fun h => by have := @drop_stays bl id; rw [hv] at this; exact this h)
  have HQv := Lib.hid hv
  clear hv
  obtain ⟨xa, xn, xc, xq, xa', xn', xc', xl, hA, hV⟩ := Hb.out.is
  have C0 := Drop_t _ bl id w8 aD aS aZ hV (HE.out.keep HB.out)
  rw [HQv.out] at C0
  have C := Lib.hid C0
  clear C0
  obtain ⟨a0, a1, a2, a3⟩ := hA.cells
  clear hA hV
  go_wp2_with fail
  refine C.out.mono ?_
  rintro e w9 ⟨v1, rfl, hv1, hb1⟩
  obtain ⟨ya, yn, yc, yq, ya', yn', yc', yl, rfl⟩ := hv1.four
  have HV1 := Lib.hid hv1
  replace HB := Lib.hid (Below.then HB.out hb1)
  replace Hb := Lib.hid (Hb.out.keep hb1)
  replace Hx := Lib.hid (Hx.out.keep hb1)
  replace Hy := Lib.hid (Hy.out.keep hb1)
  replace Hz := Lib.hid (Hz.out.keep hb1)
  clear C hb1 a0 a1 a2 a3 hv1
  obtain ⟨w10, hw2⟩ : ∃ x, w9.alloc (.cells #[.slice ya yn yc, .int .i64 yq, .slice ya' yn' yc', .int .i64 yl] 25) = x := ⟨_, rfl⟩
  obtain ⟨Bv, hBv⟩ : ∃ x, w9.heap.size = x := ⟨_, rfl⟩
  have Hv := Lib.hid (show VarB w10 Bv rv by rw [← hw2, ← hBv]; exact VarB.new HV1.out)
  have hb2 : Below w9.heap.size w9 w10 := by rw [← hw2]; exact below_new _ _
  have HNbv := Lib.hid (show Bb ≠ Bv by have := Hb.out.lt; omega)
  have HNvb := Lib.hid (HNbv.out.symm)
  replace Hb := Lib.hid (Hb.out.keep hb2)
  have HNxv := Lib.hid (show Bx ≠ Bv by have := Hx.out.lt; omega)
  have HNvx := Lib.hid (HNxv.out.symm)
  replace Hx := Lib.hid (Hx.out.keep hb2)
  have HNyv := Lib.hid (show By ≠ Bv by have := Hy.out.lt; omega)
  have HNvy := Lib.hid (HNyv.out.symm)
  replace Hy := Lib.hid (Hy.out.keep hb2)
  have HNzv := Lib.hid (show Bz ≠ Bv by have := Hz.out.lt; omega)
  have HNvz := Lib.hid (HNzv.out.symm)
  replace Hz := Lib.hid (Hz.out.keep hb2)
  have HLv := Lib.hid (show w.heap.size ≤ Bv by rw [← hBv]; exact HB.out.size)
  replace HB := Lib.hid (Below.then HB.out hb2)
  have HW2 := Lib.hid hw2
  clear hw2 hb2 HV1
  go_upto_region 7 with fail
  rw [HW2.out]
  clear hBv HW2
  obtain ⟨xa, xn, xc, xq, xa', xn', xc', xl, hAx, hVx⟩ := Hx.out.is
  obtain ⟨x0, x1, x2, x3⟩ := hAx.cells
  obtain ⟨ya, yn, yc, yq, ya', yn', yc', yl, hAy, hVy⟩ := Hy.out.is
  obtain ⟨y0, y1, y2, y3⟩ := hAy.cells
  obtain ⟨za, zn, zc, zq, za', zn', zc', zl, hAz, hVz⟩ := Hz.out.is
  obtain ⟨z0, z1, z2, z3⟩ := hAz.cells
  obtain ⟨va, vn, vc, vq, va', vn', vc', vl, hAv, hVv⟩ := Hv.out.is
  obtain ⟨v0, v1, v2, v3⟩ := hAv.cells
  obtain ⟨wr0, hwr0⟩ : ∃ x, w10.alloc (.cells #[.slice xa xn xc, .int .i64 xq, .slice xa' xn' xc', .int .i64 xl, .slice ya yn yc, .int .i64 yq, .slice ya' yn' yc', .int .i64 yl, .slice za zn zc, .int .i64 zq, .slice za' zn' zc', .int .i64 zl, .slice va vn vc, .int .i64 vq, .slice va' vn' vc', .int .i64 vl] 25) = x := ⟨_, rfl⟩
  obtain ⟨R, hR⟩ : ∃ x, w10.heap.size = x := ⟨_, rfl⟩
  have HSR := Lib.hid (show StayRow wr0 R (ef4 ex ey ez ev) bl by rw [← hwr0, ← hR]; exact stay_row _ _ hVx hVy hVz hVv HSx.out HSy.out HSz.out HSv.out)
  have hbr0 : Below w10.heap.size w10 wr0 := by rw [← hwr0]; exact below_new _ _
  replace Hb := Lib.hid (Hb.out.keep hbr0)
  replace HB := Lib.hid (Below.then HB.out hbr0)
  have HWR := Lib.hid hwr0
  clear hwr0 hbr0 hAx hAy hAz hAv hVx hVy hVz hVv Hx Hy Hz Hv HSx HSy HSz HSv
  go_upto_region 8 with fail
  rw [HWR.out]
  clear hR HWR x0 x1 x2 x3 y0 y1 y2 y3 z0 z1 z2 z3 v0 v1 v2 v3
  have HBO := Lib.hid HB.out
  have HE := Lib.hid (HE.out.keep HB.out)
  go_loopw [64] (fun iv wr => ∃ k : Nat, k ≤ 4 ∧ iv = .int .i64 k ∧ Below wr0.heap.size wr0 wr) (fun i _ => 4 - (intOf i).toNat)
  case atStart => exact ⟨0, Nat.zero_le _, rfl, Below.refl _ _⟩
  case round =>
    obtain ⟨k, hk, rfl, hbr⟩ := hrel
    have HB := Lib.hid hbr
    have Hb := Lib.hid (Hb.out.keep hbr)
    clear hbr
    by_cases hlt : k < 4
    · obtain ⟨a, n, c, q, a', n', c', l, tb, ⟨h0, h1, h2, h3⟩, hv, hes⟩ := (HSR.out.keep HB.out) k hlt
      have HV := Lib.hid hv
      have HES := Lib.hid hes
      obtain ⟨wt, hwt⟩ : ∃ x, wr.alloc (.cells #[.slice a n c, .int .i64 q, .slice a' n' c', .int .i64 l] 25) = x := ⟨_, rfl⟩
      obtain ⟨Bt, hBt⟩ : ∃ x, wr.heap.size = x := ⟨_, rfl⟩
      have Ht := Lib.hid (show VarB wt Bt tb by rw [← hwt, ← hBt]; exact VarB.new HV.out)
      have hbt : Below wr.heap.size wr wt := by rw [← hwt]; exact below_new _ _
      replace Hb := Lib.hid (Hb.out.keep hbt)
      replace HB := Lib.hid (Below.then HB.out hbt)
      have HWT := Lib.hid hwt
      clear hwt hbt hv hes HV
      go_upto_region 10 with fail
      rw [HWT.out]
      clear hBt h0 h1 h2 h3 HWT
      obtain ⟨wE, hwE⟩ : ∃ x, wt.alloc (.cells #[.int .i64 ex, .int .i64 ey, .int .i64 ez, .int .i64 ev] 27) = x := ⟨_, rfl⟩
      obtain ⟨BE, hBE⟩ : ∃ x, wt.heap.size = x := ⟨_, rfl⟩
      obtain ⟨ek, hek⟩ : ∃ x, ef4 ex ey ez ev k = x := ⟨_, rfl⟩
      have hce : wE.cell? ⟨BE, k, none⟩ = some (.int .i64 ek) := by rw [← hwE, ← hBE, ← hek]; exact errs4 _ _ _ _ _ _ k hlt
      have hbE : Below wt.heap.size wt wE := by rw [← hwE]; exact below_new _ _
      replace Hb := Lib.hid (Hb.out.keep hbE)
      replace Ht := Lib.hid (Ht.out.keep hbE)
      replace HB := Lib.hid (Below.then HB.out hbE)
      rw [hek] at HES
      clear hbE hek
      by_cases hz : ek = 0
      · have HST := Lib.hid (HES.out hz)
        subst hz
        clear HES
        obtain ⟨xa, xn, xc, xq, xa', xn', xc', xl, hA, hV⟩ := Ht.out.is
        have C0 := pright_v _ tb  wE aD aS aZ hV (HE.out.keep HB.out) ((right_iff _).2 HST.out.1)
        have C := Lib.hid C0
        clear C0
        obtain ⟨a0, a1, a2, a3⟩ := hA.cells
        clear hA hV
        go_wp2_with fail
        refine C.out.mono ?_
        rintro e w41 ⟨rfl, hb1⟩
        replace HB := Lib.hid (Below.then HB.out hb1)
        replace Ht := Lib.hid (Ht.out.keep hb1)
        replace Hb := Lib.hid (Hb.out.keep hb1)
        clear C hb1 a0 a1 a2 a3
        obtain ⟨xa, xn, xc, xq, xa', xn', xc', xl, hA, hV⟩ := Ht.out.is
        have C0 := rright_v _ tb  w41 aD aS aZ hV (HE.out.keep HB.out) ((right_iff _).2 HST.out.1) HST.out.1.few
        have C := Lib.hid C0
        clear C0
        obtain ⟨a0, a1, a2, a3⟩ := hA.cells
        clear hA hV
        go_wp2_with fail
        refine C.out.mono ?_
        rintro e w42 ⟨rfl, hb1⟩
        replace HB := Lib.hid (Below.then HB.out hb1)
        replace Ht := Lib.hid (Ht.out.keep hb1)
        replace Hb := Lib.hid (Hb.out.keep hb1)
        clear C hb1 a0 a1 a2 a3
        obtain ⟨ta, tc, ta', tc', hAt, hVt⟩ := Ht.out.open
        obtain ⟨ba, bc, ba', bc', hAb, hVb⟩ := Hb.out.open
        obtain ⟨ll, hobj⟩ := HST.out.2
        have HOB := Lib.hid (show ∀ i (h : i < bl.objs.length), ∃ h2 : i < tb.objs.length, tb.objs[i] = bl.objs[i] from fun i h => by
          have h2 : i < tb.objs.length := by rw [hobj, List.length_append]; omega
          exact ⟨h2, by simp only [hobj]; rw [List.getElem_append_left h]⟩)
        have hlen : bl.objs.length ≤ tb.objs.length := by rw [hobj, List.length_append]; omega
        have HAT := Lib.hid hAt
        have HPT := Lib.hid hVt.parts.1
        have HPB := Lib.hid hVb.parts.1
        obtain ⟨n, hn⟩ : ∃ n, bl.objs.length = n := ⟨_, rfl⟩
        obtain ⟨tn, htn⟩ : ∃ n, tb.objs.length = n := ⟨_, rfl⟩
        have HN := Lib.hid hn
        rw [htn] at hAt HPT HAT hlen
        rw [hn] at hAb HPB hlen
        have q6 : ¬ (tn : Int) < (n : Int) := by omega
        have hn63 : n ≤ 9223372036854775807 := by have := hVb.shape; obtain ⟨_, _, _, _, -, h63, -⟩ := this; rw [hn] at h63; exact h63
        obtain ⟨t0, t1, t2, t3⟩ := hAt.cells
        obtain ⟨b0, b1, b2, b3⟩ := hAb.cells
        clear hAt hAb hVt hVb hobj hn htn
        go_wp2_with fail
        clear t0 t1 t2 t3 b0 b1 b2 b3
        have HB9 := Lib.hid HB.out
        go_loopw [98] (fun iv wr => ∃ i : Nat, i ≤ n ∧ iv = .int .i64 i ∧ Below w42.heap.size w42 wr) (fun i _ => n - (intOf i).toNat)
        case atStart => exact ⟨0, Nat.zero_le _, rfl, Below.refl _ _⟩
        case round =>
          obtain ⟨i, hi, rfl, hbi⟩ := hrel
          have HBI := Lib.hid hbi
          clear hbi
          by_cases hli : i < n
          · have hib : i < bl.objs.length := by rw [HN.out]; exact hli
            obtain ⟨hit, hio⟩ := HOB.out i hib
            obtain ⟨lb, lo, rfl, e0, e1⟩ := (HPB.out.keep HBI.out).at i (by rw [List.length_map]; exact hib)
            obtain ⟨gb, go, rfl, g0, g1⟩ := (HPT.out.keep HBI.out).at i (by rw [List.length_map]; exact hit)
            rw [obj_getElem bl.objs i hib] at e0 e1
            rw [obj_getElem tb.objs i hit, hio] at g0 g1
            obtain ⟨⟨x, y⟩, hx⟩ : ∃ x, bl.objs[i] = x := ⟨_, rfl⟩
            rw [hx] at e0 e1 g0 g1
            simp only at e0 e1 g0 g1
            clear hx hio
            obtain ⟨W1, hW1⟩ : ∃ W1, wr.alloc (.cells #[.string x, .string y] 43) = W1 := ⟨_, rfl⟩
            obtain ⟨B1, hB1⟩ : ∃ B, wr.heap.size = B := ⟨_, rfl⟩
            have HX := Lib.hid (show At2 43 W1 B1 (.string x) (.string y) by rw [← hW1, ← hB1]; exact At2.new _ _ _ _)
            have hb1 : Below wr.heap.size wr W1 := by rw [← hW1]; exact below_new _ _
            have HB1 := Lib.hid (Below.then HBI.out hb1)
            have hg : W1.cell? ⟨gb, go + i * 2, none⟩ = some (.string x) ∧ W1.cell? ⟨gb, go + i * 2 + 1, none⟩ = some (.string y) := ⟨Below.keepc hb1 g0, Below.keepc hb1 g1⟩
            clear g0 g1 hb1
            have HW1 := Lib.hid hW1
            clear hW1
            have s1 : (x.toList == x.toList) = true := by simp
            have s2 : (y.toList == y.toList) = true := by simp
            rcases Nat.eq_zero_or_pos i with rfl | hi0
            · have e0z : wr.cell? ⟨lb, lo, none⟩ = some (.string x) := by simpa using e0
              have e1z : wr.cell? ⟨lb, lo + 1, none⟩ = some (.string y) := by simpa using e1
              clear e0 e1
              go_upto_region 16 with fail
              rw [HW1.out]
              clear hB1 e0z e1z
              obtain ⟨x0, x1⟩ := HX.out.cells
              obtain ⟨t0, t1, t2, t3⟩ := (HAT.out.keep HB1.out).cells
              have g0z : W1.cell? ⟨gb, go, none⟩ = some (.string x) := by simpa using hg.1
              have g1z : W1.cell? ⟨gb, go + 1, none⟩ = some (.string y) := by simpa using hg.2
              clear hg
              go_quiet (fail)
              go_wp2_with fail
              go_roundw
              case rel => exact ⟨0 + 1, by omega, by go_num, below_drewN HB1.out _⟩
              case measure => simp [intOf]; omega
            · go_upto_region 16 with fail
              rw [HW1.out]
              clear hB1 e0 e1
              obtain ⟨x0, x1⟩ := HX.out.cells
              obtain ⟨t0, t1, t2, t3⟩ := (HAT.out.keep HB1.out).cells
              obtain ⟨g0, g1⟩ := hg
              go_quiet (fail)
              go_wp2_with fail
              go_roundw
              case rel => exact ⟨i + 1, by omega, by go_num, below_drewN HB1.out _⟩
              case measure => simp [intOf]; omega
          · have HBJ := Lib.hid (Below.then HB9.out HBI.out)
            go_wp2_with fail
            go_roundw
            case rel => exact ⟨k + 1, by omega, by go_num, HBJ.out⟩
            case measure => simp [intOf]; omega
      · have q7 : (ek != 0) = true := bne_iff_ne.2 hz
        clear HES hz
        go_wp2_with fail
        go_roundw
        case rel => exact ⟨k + 1, by omega, by go_num, HB.out⟩
        case measure => simp [intOf]; omega
    · have AL := Lib.hid (alive_b wr aD aS aZ (HE.out.keep HB.out))
      go_wp2_with fail
      refine AL.out.mono ?_
      rintro e wz ⟨rfl, hbt⟩
      have HBT := Lib.hid hbt
      clear hbt AL
      go_wp2_with fail
      go_ret
      exact ⟨rfl, Below.then (Below.then HBO.out HB.out) HBT.out⟩
end Go.Proofs.YtodjhmphneoifaaGreatDoor
