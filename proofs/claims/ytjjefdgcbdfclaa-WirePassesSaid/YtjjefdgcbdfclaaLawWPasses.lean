/-
  The law WirePasses, walked: it returns true at every net and numbers. Conditions: the numbers are ints.
-/
import Derived.Test.YtjjefdgcbdfclaaNetLaws
import Derived.Test.YtjjefdgcbdfclaaNetLike
import Derived.Test.YtjjefdgcbdfclaaNetRight13
import Derived.Test.YtjjefdgcbdfclaaNetFew
import Derived.Test.YtjjefdgcbdfclaaNetVar
import Derived.Test.YtjjefdgcbdfclaaNetInts
import Derived.Test.YtjjefdgcbdfclaaPrgWire
import Derived.Test.YtjjefdgcbdfclaaLawWAlive
import Derived.Deep.RegionHeld3
import Derived.Deep.CutRange
namespace Go.Proofs.Ytjjefdgcbdfclaa
open Go.RowKit Go.WideShapes

theorem rem_of (c m : Int) (h0 : 0 < m) : ∃ x, (c.tmod m + m).tmod m = x ∧ 0 ≤ x ∧ x < m ∧ -m < c.tmod m ∧ c.tmod m < m := by
  have h1 : -m < c.tmod m ∧ c.tmod m < m := by
    have h := Int.natAbs_tmod c m
    have h2 : (c.tmod m).natAbs < m.natAbs := by rw [h]; exact Nat.mod_lt _ (by omega)
    omega
  have h2 := Int.tmod_nonneg m (show 0 ≤ c.tmod m + m by omega)
  have h3 := Int.tmod_lt_of_pos (c.tmod m + m) h0
  exact ⟨_, rfl, h2, h3, h1.1, h1.2⟩

set_option maxRecDepth 100000 in
set_option maxHeartbeats 8000000 in
theorem passes_any (v : Value) (n0 : Nt) (a b : Int) (w : World) (h : NtAt w v n0) (_ha : i64 a) (_hb : i64 b) :
    Calls Try.prog 5 #[v, .int .i64 a, .int .i64 b] w fun e w' => e = .returned (.bool true) ∧ Below w.heap.size w w' := by
  have AL := Lib.hid alive13_t
  have RT := Lib.hid right13_t
  have LK := Lib.hid (fun a b va vb w ha hb => (like13_t a b va vb w ha hb).mono fun e w' (h : NtLike a b w e w') => h)
  obtain ⟨va, vk, vc, vl, vt, rfl⟩ := h.three
  obtain ⟨a1, ea, ha0, ha1, ha2, ha3⟩ := rem_of a 1000000 (by decide)
  obtain ⟨b1, eb, hb0, hb1, hb2, hb3⟩ := rem_of b 1000000 (by decide)
  have p1 : IntKind.i64.wrap (a.tmod 1000000 + 1000000) = a.tmod 1000000 + 1000000 := by rw [IntKind.wrap_i64]; omega
  have p2 : IntKind.i64.wrap (b.tmod 1000000 + 1000000) = b.tmod 1000000 + 1000000 := by rw [IntKind.wrap_i64]; omega
  obtain ⟨ab, hab⟩ : ∃ x, a1 + b1 = x := ⟨_, rfl⟩
  have p3 : IntKind.i64.wrap (a1 + b1) = ab := by rw [IntKind.wrap_i64]; omega
  obtain ⟨ac, hac⟩ : ∃ x, a1 + 1 = x := ⟨_, rfl⟩
  have p4 : IntKind.i64.wrap (a1 + 1) = ac := by rw [IntKind.wrap_i64]; omega
  have HAB := Lib.hid (show a1 + b1 = ab ∧ a1 + 1 = ac ∧ 0 ≤ a1 ∧ a1 < 1000000 ∧ 0 ≤ b1 ∧ b1 < 1000000 from ⟨hab, hac, ha0, ha1, hb0, hb1⟩)
  have ia : i64 a1 := ⟨by omega, by omega⟩
  have ib : i64 b1 := ⟨by omega, by omega⟩
  have iab : i64 ab := ⟨by omega, by omega⟩
  have iac : i64 ac := ⟨by omega, by omega⟩
  have HI := Lib.hid (And.intro ia (And.intro ib (And.intro iab iac)))
  obtain ⟨W, hW⟩ : ∃ W, w.alloc (.cells #[.slice va vk vc, .int .i64 vl, .int .i64 vt] 24) = W := ⟨_, rfl⟩
  obtain ⟨Bn, hBn⟩ : ∃ x, w.heap.size = x := ⟨_, rfl⟩
  have HB := Lib.hid (show Below w.heap.size w W by rw [← hW]; exact below_new _ _)
  have Hn := Lib.hid (show VarN W Bn n0 by rw [← hW, ← hBn]; exact VarN.new h)
  have HLn := Lib.hid (show w.heap.size ≤ Bn by omega)
  have HW := Lib.hid hW
  clear hW h hab hac ia ib iab iac _ha _hb
  go_enter Try.func5, Try.ntmps5
  go_upto_region 1 with fail
  rw [HW.out]
  clear hBn HW
  obtain ⟨n1, hn1⟩ : ∃ x, fewN n0 = x := ⟨_, rfl⟩
  obtain ⟨xa, xk, xc, xl, xt, hA, hV⟩ := Hn.out.is
  have C0 := few13_t _ n0 W hV
  rw [hn1] at C0
  have C := Lib.hid C0
  clear C0
  obtain ⟨a0, a1, a2⟩ := hA.cells
  clear hA hV
  go_wp2_with fail
  refine C.out.mono ?_
  rintro e w1 ⟨v1, rfl, hv1, hb1⟩
  obtain ⟨ya, yk, yc, yl, yt, rfl⟩ := hv1.three
  have HV1 := Lib.hid hv1
  clear hv1
  replace HB := Lib.hid (Below.then HB.out hb1)
  replace Hn := Lib.hid (Hn.out.keep hb1)
  clear C hb1 a0 a1 a2
  obtain ⟨za, zk, zc, zl, zt, hA, hV⟩ := Hn.out.is
  obtain ⟨a0, a1, a2⟩ := hA.cells
  obtain ⟨f0, f1, f2⟩ := hA.free
  clear hA hV
  go_upto_region 2 with fail
  obtain ⟨w2, hw2⟩ : ∃ x, ((w1.setCell ⟨Bn, 0, none⟩ (.slice ya yk yc)).setCell ⟨Bn, 1, none⟩ (.int .i64 yl)).setCell ⟨Bn, 2, none⟩ (.int .i64 yt) = x := ⟨_, rfl⟩
  rw [hw2]
  replace Hn := Lib.hid (show VarN w2 Bn n1 by rw [← hw2]; exact Hn.out.set HV1.out)
  replace HB := Lib.hid (show Below w.heap.size w w2 by rw [← hw2]; exact set3_below HB.out HLn.out (.slice ya yk yc) (.int .i64 yl) (.int .i64 yt))
  clear hw2 a0 a1 a2 f0 f1 f2 HV1
  clear hn1
  obtain ⟨xa, xk, xc, xl, xt, hA, hV⟩ := Hn.out.is
  have hq := hV.parts
  clear hq
  clear hA hV
  go_upto_region 3 with fail
  clear p1 p2 ea eb ha2 ha3 hb2 hb3
  obtain ⟨r, hr⟩ : ∃ x, n1.right = x := ⟨_, rfl⟩
  obtain ⟨xa, xk, xc, xl, xt, hA, hV⟩ := Hn.out.is
  have C0 := RT.out _ n1 w2 hV
  rw [hr] at C0
  have C := Lib.hid C0
  clear C0
  obtain ⟨a0, a1, a2⟩ := hA.cells
  clear hA hV
  go_wp2_with fail
  refine C.out.mono ?_
  rintro e w3 ⟨rfl, hb1⟩
  replace HB := Lib.hid (Below.then HB.out hb1)
  replace Hn := Lib.hid (Hn.out.keep hb1)
  clear C hb1 a0 a1 a2
  cases r with
  | false =>
    have C0 := AL.out w3
    have C := Lib.hid C0
    clear C0
    go_wp2_with fail
    refine C.out.mono ?_
    rintro e w4 ⟨rfl, hb1⟩
    replace HB := Lib.hid (Below.then HB.out hb1)
    replace Hn := Lib.hid (Hn.out.keep hb1)
    clear C hb1
    go_wp2_with fail
    go_ret
    exact ⟨rfl, HB.out⟩
  | true =>
  have HR := Lib.hid hr
  obtain ⟨x, hx⟩ : ∃ x : Nt, (⟨n1.fl, n1.last, pt n1.now a1⟩ : Nt) = x := ⟨_, rfl⟩
  have hxr : x.right = true := by rw [← hx]; exact pass_right hr ha0
  obtain ⟨y, hy⟩ : ∃ y : Nt, (⟨n1.fl, n1.last, pt n1.now ab⟩ : Nt) = y := ⟨_, rfl⟩
  have E1 := Lib.hid (show passA n1 a1 = (x, 0) by rw [← hx]; exact pass_ok hr ha0)
  have E2 := Lib.hid (show passA x b1 = (y, 0) by rw [pass_ok hxr hb0, ← hx, ← hy]; show ((⟨n1.fl, n1.last, pt (pt n1.now a1) b1⟩ : Nt), (0 : Int)) = _; rw [pt_add hb0, HAB.out.1])
  have E3 := Lib.hid (show passA n1 ab = (y, 0) by rw [pass_ok hr (by have := HAB.out; omega), ← hy])
  have E4 := Lib.hid (show (lateA n1 b1).length ≤ (lateA x b1).length by rw [late_ok hr hb0, late_ok hxr hb0, ← hx]; exact lateL_le (by have := pt_ge ((Nt.right_iff _).1 hr).now ha0; show n1.now - b1 ≤ pt n1.now a1 - b1; omega) _ _)
  have E6 := Lib.hid (show y.fl = n1.fl ∧ x.fl = n1.fl by rw [← hx, ← hy]; exact ⟨rfl, rfl⟩)
  have hmay := (Nt.right_iff _).1 hr
  have HM := Lib.hid hmay
  clear hr hx hxr hy hmay
  obtain ⟨xa, xk, xc, xl, xt, hA, hV⟩ := Hn.out.is
  have C0 := Pass_t _ n1 a1 w3 hV HI.out.1
  rw [E1.out] at C0
  have C := Lib.hid C0
  clear C0
  obtain ⟨a0, a1, a2⟩ := hA.cells
  clear hA hV
  go_wp2_with fail
  refine C.out.mono ?_
  rintro e w4 ⟨v1, rfl, hv1, hb1⟩
  obtain ⟨ya, yk, yc, yl, yt, rfl⟩ := hv1.three
  have HV1 := Lib.hid hv1
  clear hv1
  replace HB := Lib.hid (Below.then HB.out hb1)
  replace Hn := Lib.hid (Hn.out.keep hb1)
  clear C hb1 a0 a1 a2
  obtain ⟨w5, hw2⟩ : ∃ x, w4.alloc (.cells #[.slice ya yk yc, .int .i64 yl, .int .i64 yt] 24) = x := ⟨_, rfl⟩
  obtain ⟨Bx, hBx⟩ : ∃ x, w4.heap.size = x := ⟨_, rfl⟩
  have Hx := Lib.hid (show VarN w5 Bx x by rw [← hw2, ← hBx]; exact VarN.new HV1.out)
  have hb2 : Below w4.heap.size w4 w5 := by rw [← hw2]; exact below_new _ _
  have HNnx := Lib.hid (show Bn ≠ Bx by have := Hn.out.lt; omega)
  have HNxn := Lib.hid (HNnx.out.symm)
  replace Hn := Lib.hid (Hn.out.keep hb2)
  have HLx := Lib.hid (show w.heap.size ≤ Bx by rw [← hBx]; exact HB.out.size)
  replace HB := Lib.hid (Below.then HB.out hb2)
  have HW2 := Lib.hid hw2
  clear hw2 hb2 HV1
  go_upto_region 6 with fail
  rw [HW2.out]
  clear hBx HW2
  obtain ⟨xa, xk, xc, xl, xt, hA, hV⟩ := Hx.out.is
  have C0 := Pass_t _ x b1 w5 hV HI.out.2.1
  rw [E2.out] at C0
  have C := Lib.hid C0
  clear C0
  obtain ⟨a0, a1, a2⟩ := hA.cells
  clear hA hV
  go_wp2_with fail
  refine C.out.mono ?_
  rintro e w6 ⟨v1, rfl, hv1, hb1⟩
  obtain ⟨ya, yk, yc, yl, yt, rfl⟩ := hv1.three
  have HV1 := Lib.hid hv1
  clear hv1
  replace HB := Lib.hid (Below.then HB.out hb1)
  replace Hn := Lib.hid (Hn.out.keep hb1)
  replace Hx := Lib.hid (Hx.out.keep hb1)
  clear C hb1 a0 a1 a2
  obtain ⟨w7, hw2⟩ : ∃ x, w6.alloc (.cells #[.slice ya yk yc, .int .i64 yl, .int .i64 yt] 24) = x := ⟨_, rfl⟩
  obtain ⟨By, hBy⟩ : ∃ x, w6.heap.size = x := ⟨_, rfl⟩
  have Hy := Lib.hid (show VarN w7 By y by rw [← hw2, ← hBy]; exact VarN.new HV1.out)
  have hb2 : Below w6.heap.size w6 w7 := by rw [← hw2]; exact below_new _ _
  have HNny := Lib.hid (show Bn ≠ By by have := Hn.out.lt; omega)
  have HNyn := Lib.hid (HNny.out.symm)
  replace Hn := Lib.hid (Hn.out.keep hb2)
  have HNxy := Lib.hid (show Bx ≠ By by have := Hx.out.lt; omega)
  have HNyx := Lib.hid (HNxy.out.symm)
  replace Hx := Lib.hid (Hx.out.keep hb2)
  have HLy := Lib.hid (show w.heap.size ≤ By by rw [← hBy]; exact HB.out.size)
  replace HB := Lib.hid (Below.then HB.out hb2)
  have HW2 := Lib.hid hw2
  clear hw2 hb2 HV1
  go_upto_region 7 with fail
  rw [HW2.out]
  clear hBy HW2
  obtain ⟨xa, xk, xc, xl, xt, hA, hV⟩ := Hn.out.is
  have C0 := Pass_t _ n1 ab w7 hV HI.out.2.2.1
  rw [E3.out] at C0
  have C := Lib.hid C0
  clear C0
  obtain ⟨a0, a1, a2⟩ := hA.cells
  clear hA hV
  go_wp2_with fail
  refine C.out.mono ?_
  rintro e w8 ⟨v1, rfl, hv1, hb1⟩
  obtain ⟨ya, yk, yc, yl, yt, rfl⟩ := hv1.three
  have HV1 := Lib.hid hv1
  clear hv1
  replace HB := Lib.hid (Below.then HB.out hb1)
  replace Hn := Lib.hid (Hn.out.keep hb1)
  replace Hx := Lib.hid (Hx.out.keep hb1)
  replace Hy := Lib.hid (Hy.out.keep hb1)
  clear C hb1 a0 a1 a2
  obtain ⟨w9, hw2⟩ : ∃ x, w8.alloc (.cells #[.slice ya yk yc, .int .i64 yl, .int .i64 yt] 24) = x := ⟨_, rfl⟩
  obtain ⟨Bz, hBz⟩ : ∃ x, w8.heap.size = x := ⟨_, rfl⟩
  have Hz := Lib.hid (show VarN w9 Bz y by rw [← hw2, ← hBz]; exact VarN.new HV1.out)
  have hb2 : Below w8.heap.size w8 w9 := by rw [← hw2]; exact below_new _ _
  have HNnz := Lib.hid (show Bn ≠ Bz by have := Hn.out.lt; omega)
  have HNzn := Lib.hid (HNnz.out.symm)
  replace Hn := Lib.hid (Hn.out.keep hb2)
  have HNxz := Lib.hid (show Bx ≠ Bz by have := Hx.out.lt; omega)
  have HNzx := Lib.hid (HNxz.out.symm)
  replace Hx := Lib.hid (Hx.out.keep hb2)
  have HNyz := Lib.hid (show By ≠ Bz by have := Hy.out.lt; omega)
  have HNzy := Lib.hid (HNyz.out.symm)
  replace Hy := Lib.hid (Hy.out.keep hb2)
  have HLz := Lib.hid (show w.heap.size ≤ Bz by rw [← hBz]; exact HB.out.size)
  replace HB := Lib.hid (Below.then HB.out hb2)
  have HW2 := Lib.hid hw2
  clear hw2 hb2 HV1
  go_upto_region 8 with fail
  rw [HW2.out]
  clear hBz HW2
  have LYY := Lib.hid ((likeN_iff y y).2 rfl)
  obtain ⟨ua, uk, uc, ul, ut, hA, hV⟩ := Hy.out.is
  obtain ⟨wa, wk, wc, wl, wt, hA2, hV2⟩ := Hz.out.is
  have C0 := LK.out y y _ _ w9 hV hV2
  rw [show NtLike y y = fun w e w' => e = .returned (.bool true) ∧ Below w.heap.size w w' from by funext w e w'; unfold NtLike; rw [LYY.out]] at C0
  have C := Lib.hid (show Calls _ _ _ _ fun e w' => e = .returned (.bool true) ∧ Below w9.heap.size w9 w' from C0)
  clear C0
  obtain ⟨a0, a1', a2⟩ := hA.cells
  obtain ⟨b0, b1', b2⟩ := hA2.cells
  clear hA hV hA2 hV2
  go_wp2_with fail
  refine C.out.mono ?_
  rintro e w10 ⟨rfl, hb1⟩
  replace HB := Lib.hid (Below.then HB.out hb1)
  replace Hn := Lib.hid (Hn.out.keep hb1)
  replace Hx := Lib.hid (Hx.out.keep hb1)
  replace Hy := Lib.hid (Hy.out.keep hb1)
  replace Hz := Lib.hid (Hz.out.keep hb1)
  clear C hb1 a0 a1' a2 b0 b1' b2
  have C0 := AL.out w10
  have C := Lib.hid C0
  clear C0
  go_wp2_with fail
  refine C.out.mono ?_
  rintro e w11 ⟨rfl, hb1⟩
  replace HB := Lib.hid (Below.then HB.out hb1)
  replace Hn := Lib.hid (Hn.out.keep hb1)
  replace Hx := Lib.hid (Hx.out.keep hb1)
  replace Hy := Lib.hid (Hy.out.keep hb1)
  replace Hz := Lib.hid (Hz.out.keep hb1)
  clear C hb1
  obtain ⟨xa, xk, xc, xl, xt, hA, hV⟩ := Hx.out.is
  have HAx := Lib.hid hA
  have HVx := Lib.hid hV
  clear hA hV
  obtain ⟨na, nk, nc, nl, nt, hA, hV⟩ := Hn.out.is
  have HAn := Lib.hid hA
  have HVn := Lib.hid hV
  clear hA hV
  obtain ⟨lx, hlx⟩ : ∃ k, (lateA x b1).length = k := ⟨_, rfl⟩
  obtain ⟨ln, hln⟩ : ∃ k, (lateA n1 b1).length = k := ⟨_, rfl⟩
  have qlt : decide (lx < ln) = false := decide_eq_false (by have := E4.out; omega)
  have CX := Lib.hid (show ∀ v l, (v = .agg #[.slice xa xk xc, .int .i64 xl, .int .i64 xt] ∧ l = lx) ∨ (v = .agg #[.slice na nk nc, .int .i64 nl, .int .i64 nt] ∧ l = ln) → ∀ w', Below w11.heap.size w11 w' → Calls Try.prog 12 #[v, .int .i64 b1] w' fun e w'' => ∃ s c, e = .returned (.slice s l c) ∧ Below w'.heap.size w' w'' from fun v l hv w' hb => by
    rcases hv with ⟨rfl, rfl⟩ | ⟨rfl, rfl⟩
    · exact (Late_t _ x b1 w' (HVx.out.keep hb) HI.out.2.1).mono fun e w'' ⟨s, c, he, _, hb2⟩ => ⟨s, c, by rw [he, hlx], hb2⟩
    · exact (Late_t _ n1 b1 w' (HVn.out.keep hb) HI.out.2.1).mono fun e w'' ⟨s, c, he, _, hb2⟩ => ⟨s, c, by rw [he, hln], hb2⟩)
  have hbA := Below.refl w11.heap.size w11
  clear hlx hln
  obtain ⟨a0, a1', a2⟩ := HAx.out.cells
  obtain ⟨b0, b1', b2⟩ := HAn.out.cells
  go_upto_region 10 with fail
  go_cut [89] from 81 to 89 (fun v wx => v = .bool false ∧ Below w11.heap.size w11 wx)
  case first =>
    go_region_held3 (fun w' => w'.cell? ⟨Bx, 0, none⟩ = some (.slice xa xk xc) ∧ w'.cell? ⟨Bx, 1, none⟩ = some (.int .i64 xl) ∧ w'.cell? ⟨Bx, 2, none⟩ = some (.int .i64 xt) ∧ w'.cell? ⟨Bn, 0, none⟩ = some (.slice na nk nc) ∧ w'.cell? ⟨Bn, 1, none⟩ = some (.int .i64 nl) ∧ w'.cell? ⟨Bn, 2, none⟩ = some (.int .i64 nt)) (exact ⟨a0, a1', a2, b0, b1', b2⟩)
        ((go_simp; go_at_call 12
          refine (CX.out _ _ (by first | exact Or.inl ⟨rfl, rfl⟩ | exact Or.inr ⟨rfl, rfl⟩) _ (by first | exact hbA | exact hbA.drew)).mono ?_
          rintro e wS ⟨sx, cx, rfl, hbS⟩
          have hbA : Below w11.heap.size w11 wS := by first | exact Below.then hbA hbS | exact Below.then hbA.drew hbS
          obtain ⟨a0, a1', a2⟩ := (HAx.out.keep hbA).cells
          obtain ⟨b0, b1', b2⟩ := (HAn.out.keep hbA).cells))
    all_goals
      go_wp2_with fail
      go_meet
      exact ⟨rfl, by first | exact hbA | exact hbA.drew⟩
  case rest =>
  obtain ⟨rfl, hb1⟩ := hcut
  obtain ⟨w12, rfl⟩ : ∃ x : World, x = wc := ⟨_, rfl⟩
  clear a0 a1' a2 b0 b1' b2 hbA CX HAx HVx HAn HVn qlt
  replace HB := Lib.hid (Below.then HB.out hb1)
  replace Hn := Lib.hid (Hn.out.keep hb1)
  replace Hx := Lib.hid (Hx.out.keep hb1)
  replace Hy := Lib.hid (Hy.out.keep hb1)
  replace Hz := Lib.hid (Hz.out.keep hb1)
  clear hb1
  skip
  obtain ⟨LN, hLN⟩ : ∃ k, n1.fl.length = k := ⟨_, rfl⟩
  have HLN := Lib.hid hLN
  by_cases hf : LN = 32 ∨ n1.last = 1099511627776
  · have E5 := Lib.hid (show sendA n1 0 ⟨#[]⟩ = (noN, 0, 13) from send_full HR.out ⟨by decide, by decide⟩ (by decide) (by rw [hLN]; exact hf))
    clear hf hLN
    obtain ⟨xa, xk, xc, xl, xt, hA, hV⟩ := Hn.out.is
    have C0 := Send_t _ n1 0 ⟨#[]⟩ w12 hV ⟨by decide, by decide⟩ (by decide)
    rw [E5.out] at C0
    have C := Lib.hid C0
    clear C0
    obtain ⟨a0, a1, a2⟩ := hA.cells
    clear hA hV
    go_wp2_with fail
    refine C.out.mono ?_
    rintro e w13 ⟨v1, rfl, hv1, hb1⟩
    obtain ⟨ya, yk, yc, yl, yt, rfl⟩ := hv1.three
    have HV1 := Lib.hid hv1
    clear hv1
    replace HB := Lib.hid (Below.then HB.out hb1)
    replace Hn := Lib.hid (Hn.out.keep hb1)
    replace Hx := Lib.hid (Hx.out.keep hb1)
    replace Hy := Lib.hid (Hy.out.keep hb1)
    replace Hz := Lib.hid (Hz.out.keep hb1)
    clear C hb1 a0 a1 a2
    obtain ⟨w14, hw2⟩ : ∃ x, w13.alloc (.cells #[.slice ya yk yc, .int .i64 yl, .int .i64 yt] 24) = x := ⟨_, rfl⟩
    obtain ⟨Bs, hBs⟩ : ∃ x, w13.heap.size = x := ⟨_, rfl⟩
    have Hs := Lib.hid (show VarN w14 Bs noN by rw [← hw2, ← hBs]; exact VarN.new HV1.out)
    have hb2 : Below w13.heap.size w13 w14 := by rw [← hw2]; exact below_new _ _
    have HNns := Lib.hid (show Bn ≠ Bs by have := Hn.out.lt; omega)
    have HNsn := Lib.hid (HNns.out.symm)
    replace Hn := Lib.hid (Hn.out.keep hb2)
    have HNxs := Lib.hid (show Bx ≠ Bs by have := Hx.out.lt; omega)
    have HNsx := Lib.hid (HNxs.out.symm)
    replace Hx := Lib.hid (Hx.out.keep hb2)
    have HNys := Lib.hid (show By ≠ Bs by have := Hy.out.lt; omega)
    have HNsy := Lib.hid (HNys.out.symm)
    replace Hy := Lib.hid (Hy.out.keep hb2)
    have HNzs := Lib.hid (show Bz ≠ Bs by have := Hz.out.lt; omega)
    have HNsz := Lib.hid (HNzs.out.symm)
    replace Hz := Lib.hid (Hz.out.keep hb2)
    have HLs := Lib.hid (show w.heap.size ≤ Bs by rw [← hBs]; exact HB.out.size)
    replace HB := Lib.hid (Below.then HB.out hb2)
    have HW2 := Lib.hid hw2
    clear hw2 hb2 HV1
    go_upto_region 13 with fail
    rw [HW2.out]
    clear hBs HW2
    go_wp2_with fail
    go_ret
    exact ⟨rfl, HB.out⟩
  · obtain ⟨s, hs⟩ : ∃ x : Nt, (⟨n1.fl ++ [⟨n1.last + 1, 0, ⟨#[]⟩, n1.now⟩], n1.last + 1, n1.now⟩ : Nt) = x := ⟨_, rfl⟩
    have hf1 : n1.fl.length ≠ 32 := fun e => hf (Or.inl (by rw [← hLN]; exact e))
    have hf2 : n1.last ≠ 1099511627776 := fun e => hf (Or.inr e)
    have E5 := Lib.hid (show sendA n1 0 ⟨#[]⟩ = (s, n1.last + 1, 0) by rw [← hs]; exact send_ok HR.out ⟨by decide, by decide⟩ (by decide) hf1 hf2)
    have hsr : s.right = true := by rw [← hs]; exact send_right HR.out ⟨by decide, by decide⟩ (by decide) hf1 hf2
    have HSR := Lib.hid hsr
    have HSE := Lib.hid hs
    obtain ⟨sid, hsid⟩ : ∃ x, n1.last + 1 = x := ⟨_, rfl⟩
    rw [hsid] at E5
    obtain ⟨t, ht⟩ : ∃ x : Nt, (⟨s.fl, s.last, pt s.now a1⟩ : Nt) = x := ⟨_, rfl⟩
    have E7 := Lib.hid (show passA s a1 = (t, 0) by rw [pass_ok hsr ha0, ht])
    have htr : t.right = true := by rw [← ht]; exact pass_right hsr ha0
    have E8 := Lib.hid (show n1.now ≤ 549755813888 → (lateA t a1).any (· == LN) = true ∧ (lateA t ac).any (· == LN) = false from fun hn => by
      have hac := HAB.out
      have hp : pt s.now a1 = n1.now + a1 := by rw [← hs]; show pt n1.now a1 = _; unfold pt; rw [if_pos (by have := HM.out.now; omega)]
      rw [late_ok htr ha0, late_ok htr (by omega), ← ht, ← hLN]
      show (lateL (pt s.now a1 - a1) 0 s.fl).any _ = true ∧ (lateL (pt s.now a1 - ac) 0 s.fl).any _ = false
      rw [hp, ← hs]
      show (lateL (n1.now + a1 - a1) 0 (n1.fl ++ [_])).any _ = true ∧ (lateL (n1.now + a1 - ac) 0 (n1.fl ++ [_])).any _ = false
      rw [lateL_last, lateL_last]
      exact ⟨decide_eq_true (by show n1.now ≤ _; omega), decide_eq_false (by show ¬ n1.now ≤ _; omega)⟩)
    have HLS := Lib.hid (show s.fl.length = LN + 1 by rw [← hs, ← hLN]; simp)
    have hLN32 := HM.out.few
    rw [hLN] at hLN32
    clear hs hf hf1 hf2 hsr ht htr hLN hsid
    obtain ⟨xa, xk, xc, xl, xt, hA, hV⟩ := Hn.out.is
    have C0 := Send_t _ n1 0 ⟨#[]⟩ w12 hV ⟨by decide, by decide⟩ (by decide)
    rw [E5.out] at C0
    have C := Lib.hid C0
    clear C0
    obtain ⟨a0, a1, a2⟩ := hA.cells
    clear hA hV
    go_wp2_with fail
    refine C.out.mono ?_
    rintro e w13 ⟨v1, rfl, hv1, hb1⟩
    obtain ⟨ya, yk, yc, yl, yt, rfl⟩ := hv1.three
    have HV1 := Lib.hid hv1
    clear hv1
    replace HB := Lib.hid (Below.then HB.out hb1)
    replace Hn := Lib.hid (Hn.out.keep hb1)
    replace Hx := Lib.hid (Hx.out.keep hb1)
    replace Hy := Lib.hid (Hy.out.keep hb1)
    replace Hz := Lib.hid (Hz.out.keep hb1)
    clear C hb1 a0 a1 a2
    obtain ⟨w14, hw2⟩ : ∃ x, w13.alloc (.cells #[.slice ya yk yc, .int .i64 yl, .int .i64 yt] 24) = x := ⟨_, rfl⟩
    obtain ⟨Bs, hBs⟩ : ∃ x, w13.heap.size = x := ⟨_, rfl⟩
    have Hs := Lib.hid (show VarN w14 Bs s by rw [← hw2, ← hBs]; exact VarN.new HV1.out)
    have hb2 : Below w13.heap.size w13 w14 := by rw [← hw2]; exact below_new _ _
    have HNns := Lib.hid (show Bn ≠ Bs by have := Hn.out.lt; omega)
    have HNsn := Lib.hid (HNns.out.symm)
    replace Hn := Lib.hid (Hn.out.keep hb2)
    have HNxs := Lib.hid (show Bx ≠ Bs by have := Hx.out.lt; omega)
    have HNsx := Lib.hid (HNxs.out.symm)
    replace Hx := Lib.hid (Hx.out.keep hb2)
    have HNys := Lib.hid (show By ≠ Bs by have := Hy.out.lt; omega)
    have HNsy := Lib.hid (HNys.out.symm)
    replace Hy := Lib.hid (Hy.out.keep hb2)
    have HNzs := Lib.hid (show Bz ≠ Bs by have := Hz.out.lt; omega)
    have HNsz := Lib.hid (HNzs.out.symm)
    replace Hz := Lib.hid (Hz.out.keep hb2)
    have HLs := Lib.hid (show w.heap.size ≤ Bs by rw [← hBs]; exact HB.out.size)
    replace HB := Lib.hid (Below.then HB.out hb2)
    have HW2 := Lib.hid hw2
    clear hw2 hb2 HV1
    go_upto_region 13 with fail
    rw [HW2.out]
    clear hBs HW2
    obtain ⟨qa, qk, qc, ql, qt, hA, hV⟩ := Hn.out.is
    obtain ⟨a0, a1', a2⟩ := hA.cells
    have hqt := hV.parts.2.2.1
    subst hqt
    clear hA hV
    by_cases hN : n1.now > 549755813888
    · go_wp2_with fail
      go_ret
      exact ⟨rfl, HB.out⟩
    have E9 := Lib.hid (E8.out (by omega))
    clear E8
    obtain ⟨pa, pk, pc, pl, pt, hA, hV⟩ := Hs.out.is
    obtain ⟨b0, b1', b2⟩ := hA.cells
    have hqs := hV.parts.1
    rw [HLS.out] at hqs
    subst hqs
    clear hA hV
    have p5 : IntKind.i64.wrap (((LN + 1 : Nat) : Int) - 1) = (LN : Int) := by rw [IntKind.wrap_i64]; omega
    go_upto_region 16 with fail
    clear a0 a1' a2 b0 b1' b2
    obtain ⟨xa, xk, xc, xl, xt, hA, hV⟩ := Hs.out.is
    have C0 := Pass_t _ s a1 w14 hV HI.out.1
    rw [E7.out] at C0
    have C := Lib.hid C0
    clear C0
    obtain ⟨a0, a1, a2⟩ := hA.cells
    clear hA hV
    go_wp2_with fail
    refine C.out.mono ?_
    rintro e w15 ⟨v1, rfl, hv1, hb1⟩
    obtain ⟨ya, yk, yc, yl, yt, rfl⟩ := hv1.three
    have HV1 := Lib.hid hv1
    clear hv1
    replace HB := Lib.hid (Below.then HB.out hb1)
    replace Hn := Lib.hid (Hn.out.keep hb1)
    replace Hx := Lib.hid (Hx.out.keep hb1)
    replace Hy := Lib.hid (Hy.out.keep hb1)
    replace Hz := Lib.hid (Hz.out.keep hb1)
    replace Hs := Lib.hid (Hs.out.keep hb1)
    clear C hb1 a0 a1 a2
    obtain ⟨w16, hw2⟩ : ∃ x, w15.alloc (.cells #[.slice ya yk yc, .int .i64 yl, .int .i64 yt] 24) = x := ⟨_, rfl⟩
    obtain ⟨Bt, hBt⟩ : ∃ x, w15.heap.size = x := ⟨_, rfl⟩
    have Ht := Lib.hid (show VarN w16 Bt t by rw [← hw2, ← hBt]; exact VarN.new HV1.out)
    have hb2 : Below w15.heap.size w15 w16 := by rw [← hw2]; exact below_new _ _
    have HNnt := Lib.hid (show Bn ≠ Bt by have := Hn.out.lt; omega)
    have HNtn := Lib.hid (HNnt.out.symm)
    replace Hn := Lib.hid (Hn.out.keep hb2)
    have HNxt := Lib.hid (show Bx ≠ Bt by have := Hx.out.lt; omega)
    have HNtx := Lib.hid (HNxt.out.symm)
    replace Hx := Lib.hid (Hx.out.keep hb2)
    have HNyt := Lib.hid (show By ≠ Bt by have := Hy.out.lt; omega)
    have HNty := Lib.hid (HNyt.out.symm)
    replace Hy := Lib.hid (Hy.out.keep hb2)
    have HNzt := Lib.hid (show Bz ≠ Bt by have := Hz.out.lt; omega)
    have HNtz := Lib.hid (HNzt.out.symm)
    replace Hz := Lib.hid (Hz.out.keep hb2)
    have HNst := Lib.hid (show Bs ≠ Bt by have := Hs.out.lt; omega)
    have HNts := Lib.hid (HNst.out.symm)
    replace Hs := Lib.hid (Hs.out.keep hb2)
    have HLt := Lib.hid (show w.heap.size ≤ Bt by rw [← hBt]; exact HB.out.size)
    replace HB := Lib.hid (Below.then HB.out hb2)
    have HW2 := Lib.hid hw2
    clear hw2 hb2 HV1
    go_upto_region 17 with fail
    rw [HW2.out]
    clear hBt HW2
    obtain ⟨L1, hL1⟩ : ∃ l, lateA t a1 = l := ⟨_, rfl⟩
    obtain ⟨L2, hL2⟩ : ∃ l, lateA t ac = l := ⟨_, rfl⟩
    rw [hL1, hL2] at E9
    obtain ⟨m1, hm1⟩ : ∃ k, L1.length = k := ⟨_, rfl⟩
    obtain ⟨m2, hm2⟩ : ∃ k, L2.length = k := ⟨_, rfl⟩
    have HM1 := Lib.hid hm1
    have HM2 := Lib.hid hm2
    obtain ⟨xa, xk, xc, xl, xt, hA, hV⟩ := Ht.out.is
    have C0 := Late_t _ t a1 w16 hV HI.out.1
    rw [hL1] at C0
    rw [hm1] at C0
    have C := Lib.hid C0
    clear C0
    obtain ⟨a0, a1, a2⟩ := hA.cells
    clear hA hV
    go_wp2_with fail
    refine C.out.mono ?_
    rintro e w17 ⟨ru1, ru2, rfl, hru, hb1⟩
    have Hru := Lib.hid hru
    clear hru
    replace HB := Lib.hid (Below.then HB.out hb1)
    replace Hn := Lib.hid (Hn.out.keep hb1)
    replace Hx := Lib.hid (Hx.out.keep hb1)
    replace Hy := Lib.hid (Hy.out.keep hb1)
    replace Hz := Lib.hid (Hz.out.keep hb1)
    replace Hs := Lib.hid (Hs.out.keep hb1)
    replace Ht := Lib.hid (Ht.out.keep hb1)
    clear C hb1 a0 a1 a2
    go_upto_region 18 with fail
    obtain ⟨xa, xk, xc, xl, xt, hA, hV⟩ := Ht.out.is
    have C0 := Late_t _ t ac w17 hV HI.out.2.2.2
    rw [hL2] at C0
    rw [hm2] at C0
    have C := Lib.hid C0
    clear C0
    obtain ⟨a0, a1, a2⟩ := hA.cells
    clear hA hV
    go_wp2_with fail
    refine C.out.mono ?_
    rintro e w18 ⟨rs1, rs2, rfl, hrs, hb1⟩
    have Hrs := Lib.hid hrs
    clear hrs
    replace HB := Lib.hid (Below.then HB.out hb1)
    replace Hn := Lib.hid (Hn.out.keep hb1)
    replace Hx := Lib.hid (Hx.out.keep hb1)
    replace Hy := Lib.hid (Hy.out.keep hb1)
    replace Hz := Lib.hid (Hz.out.keep hb1)
    replace Hs := Lib.hid (Hs.out.keep hb1)
    replace Ht := Lib.hid (Ht.out.keep hb1)
    replace Hru := Lib.hid (Hru.out.keep hb1)
    clear C hb1 a0 a1 a2
    clear hL1 hL2 hm1 hm2
    have hcap := RwAt.shape Hru.out
    have hm32 : m1 ≤ 9223372036854775807 := by obtain ⟨_, _, _, h1, h2⟩ := hcap; unfold maxLen at h2; rw [List.length_map, HM1.out] at h1; omega
    clear hcap
    go_wp2_with fail
    go_loopw [21, 122] (fun sv iv wr => ∃ j : Nat, j ≤ m1 ∧ iv = .int .i64 j ∧ sv = .bool ((L1.take j).any (· == LN)) ∧ SameW wr w18) (fun _ i _ => m1 - (intOf i).toNat)
    case atStart => exact ⟨0, Nat.zero_le _, rfl, rfl, SameW.rfl'⟩
    case round =>
      obtain ⟨j, hj, rfl, rfl, hsw⟩ := hrel
      obtain rfl := hsw.out
      by_cases hlt : j < m1
      · have j1 : j < L1.length := by rw [HM1.out]; exact hlt
        obtain ⟨lb, lo, rfl, e0⟩ := Hru.out.at j j1
        have e0z : j = 0 → wr.cell? ⟨lb, lo, none⟩ = some (.int .i64 ((L1[j] : Nat) : Int)) := fun hz => by have := e0; simpa [hz] using this
        have HT := Lib.hid (any_take_succ L1 LN j j1)
        obtain ⟨x1, hx1⟩ : ∃ x, L1[j] = x := ⟨_, rfl⟩
        rw [hx1] at e0 e0z HT
        obtain ⟨sb, hsb⟩ : ∃ x, (L1.take j).any (· == LN) = x := ⟨_, rfl⟩
        rw [hsb] at HT ⊢
        have qx : ((x1 : Int) == (LN : Int)) = (x1 == LN) := by
          by_cases e : x1 = LN
          · subst e; simp
          · rw [beq_eq_false_iff_ne.2 e]; exact beq_eq_false_iff_ne.2 (by omega)
        clear hx1 hsb
        have HZ := Lib.hid e0z
        clear e0z
        cases sb with
        | true =>
          rcases Nat.eq_zero_or_pos j with rfl | hj0
          · have e0z := HZ.out rfl
            go_wp2_with fail
            go_roundw
            case rel => exact ⟨0 + 1, by omega, by go_num, by rw [HT.out]; rfl, SameW.rfl'⟩
            case measure => simp [intOf]; omega
          · go_wp2_with fail
            go_roundw
            case rel => exact ⟨j + 1, by omega, by go_num, by rw [HT.out]; rfl, SameW.rfl'⟩
            case measure => simp [intOf]; omega
        | false =>
          rcases Nat.eq_zero_or_pos j with rfl | hj0
          · have e0z := HZ.out rfl
            go_wp2_with fail
            go_roundw
            case rel => exact ⟨0 + 1, by omega, by go_num, by rw [HT.out, ← qx]; rfl, SameW.rfl'⟩
            case measure => simp [intOf]; omega
          · go_wp2_with fail
            go_roundw
            case rel => exact ⟨j + 1, by omega, by go_num, by rw [HT.out, ← qx]; rfl, SameW.rfl'⟩
            case measure => simp [intOf]; omega
      · obtain rfl : j = m1 := by omega
        have hall : (L1.take j).any (· == LN) = true := by rw [List.take_of_length_le (by rw [HM1.out]; exact Nat.le_refl _)]; exact E9.out.1
        rw [hall]
        clear hall
        obtain ⟨wo, rfl⟩ : ∃ x : World, x = wr := ⟨_, rfl⟩
        have hcap := RwAt.shape Hrs.out
        have hm32 : m2 ≤ 9223372036854775807 := by obtain ⟨_, _, _, h1, h2⟩ := hcap; unfold maxLen at h2; rw [List.length_map, HM2.out] at h1; omega
        clear hcap
        go_wp2_with fail
        go_loopw [22, 135] (fun sv iv wr => ∃ j : Nat, j ≤ m2 ∧ iv = .int .i64 j ∧ sv = .bool ((L2.take j).any (· == LN)) ∧ SameW wr wo) (fun _ i _ => m2 - (intOf i).toNat)
        case atStart => exact ⟨0, Nat.zero_le _, rfl, rfl, SameW.rfl'⟩
        case round =>
          obtain ⟨j, hj, rfl, rfl, hsw⟩ := hrel
          obtain rfl := hsw.out
          by_cases hlt : j < m2
          · have j1 : j < L2.length := by rw [HM2.out]; exact hlt
            obtain ⟨lb, lo, rfl, e0⟩ := Hrs.out.at j j1
            have e0z : j = 0 → wr.cell? ⟨lb, lo, none⟩ = some (.int .i64 ((L2[j] : Nat) : Int)) := fun hz => by have := e0; simpa [hz] using this
            have HT := Lib.hid (any_take_succ L2 LN j j1)
            obtain ⟨x1, hx1⟩ : ∃ x, L2[j] = x := ⟨_, rfl⟩
            rw [hx1] at e0 e0z HT
            obtain ⟨sb, hsb⟩ : ∃ x, (L2.take j).any (· == LN) = x := ⟨_, rfl⟩
            rw [hsb] at HT ⊢
            have qx : ((x1 : Int) == (LN : Int)) = (x1 == LN) := by
              by_cases e : x1 = LN
              · subst e; simp
              · rw [beq_eq_false_iff_ne.2 e]; exact beq_eq_false_iff_ne.2 (by omega)
            clear hx1 hsb
            have HZ := Lib.hid e0z
            clear e0z
            cases sb with
            | true =>
              rcases Nat.eq_zero_or_pos j with rfl | hj0
              · have e0z := HZ.out rfl
                go_wp2_with fail
                go_roundw
                case rel => exact ⟨0 + 1, by omega, by go_num, by rw [HT.out]; rfl, SameW.rfl'⟩
                case measure => simp [intOf]; omega
              · go_wp2_with fail
                go_roundw
                case rel => exact ⟨j + 1, by omega, by go_num, by rw [HT.out]; rfl, SameW.rfl'⟩
                case measure => simp [intOf]; omega
            | false =>
              rcases Nat.eq_zero_or_pos j with rfl | hj0
              · have e0z := HZ.out rfl
                go_wp2_with fail
                go_roundw
                case rel => exact ⟨0 + 1, by omega, by go_num, by rw [HT.out, ← qx]; rfl, SameW.rfl'⟩
                case measure => simp [intOf]; omega
              · go_wp2_with fail
                go_roundw
                case rel => exact ⟨j + 1, by omega, by go_num, by rw [HT.out, ← qx]; rfl, SameW.rfl'⟩
                case measure => simp [intOf]; omega
          · obtain rfl : j = m2 := by omega
            have hall : (L2.take j).any (· == LN) = false := by rw [List.take_of_length_le (by rw [HM2.out]; exact Nat.le_refl _)]; exact E9.out.2
            rw [hall]
            clear hall
            go_wp2_with fail
            go_ret
            exact ⟨rfl, HB.out⟩
end Go.Proofs.Ytjjefdgcbdfclaa
