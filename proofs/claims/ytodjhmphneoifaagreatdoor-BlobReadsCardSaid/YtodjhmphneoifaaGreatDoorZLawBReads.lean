/-
  BlobReads of the laws, by a contract: it answers true. Conditions: the digest's tables and octet's errors lie where they were laid.
-/
import Derived.Test.YtodjhmphneoifaaGreatDoorZLaw2
import Derived.Lib.MinMax
import Derived.Deep.RegionHeld3
namespace Go.Proofs.YtodjhmphneoifaaGreatDoor
open Go.RowKit Go.WideShapes

set_option maxRecDepth 100000 in
set_option maxHeartbeats 8000000 in
theorem reads_any (aD aS aZ : Addr) (v : Value) (b0 : Blb) (quota frm many id : Int) (d : ByteArray) (w : World) (he : DEnv w aD aS aZ) (h : BlbAt w v b0)
    (hq63 : -9223372036854775808 ≤ quota ∧ quota ≤ 9223372036854775807) (_ : d.size ≤ maxLen) (hf63 : -9223372036854775808 ≤ frm ∧ frm ≤ 9223372036854775807) (hm63 : -9223372036854775808 ≤ many ∧ many ≤ 9223372036854775807) :
    Calls Tryz.prog 3 #[v, .int .i64 quota, .string d, .int .i64 frm, .int .i64 many, .int .i64 id] w fun e w' => e = .returned (.bool true) ∧ Below w.heap.size w w' := by

  have HE := Lib.hid he
  obtain ⟨ya, yn, yc, yq, ya', yn', yc', yl, rfl⟩ := h.four
  have HV1 := Lib.hid h
  obtain ⟨w0, hw0⟩ : ∃ x, w.alloc (.cells #[.slice ya yn yc, .int .i64 yq, .slice ya' yn' yc', .int .i64 yl] 25) = x := ⟨_, rfl⟩
  obtain ⟨Bb, hBb⟩ : ∃ x, w.heap.size = x := ⟨_, rfl⟩
  have Hb := Lib.hid (show VarB w0 Bb b0 by rw [← hw0, ← hBb]; exact VarB.new HV1.out)
  have HB := Lib.hid (show Below w.heap.size w w0 by rw [← hw0]; exact below_new _ _)
  have HLb := Lib.hid (show w.heap.size ≤ Bb by rw [← hBb]; exact Nat.le_refl _)
  have HW0 := Lib.hid hw0
  clear he h hw0 HV1
  go_enter Tryz.func3, Tryz.ntmps3
  go_upto_region 1 with fail
  rw [HW0.out]
  clear hBb HW0
  by_cases hq : 0 ≤ quota ∧ quota ≤ 1048576
  · obtain ⟨xa, xn, xc, xq, xa', xn', xc', xl, hA, hV⟩ := Hb.out.is
    have C0 := few_v _ b0  w0 aD aS aZ hV (HE.out.keep HB.out)
    have C := Lib.hid C0
    clear C0
    obtain ⟨a0, a1, a2, a3⟩ := hA.cells
    clear hA hV
    go_wp2_with fail
    refine C.out.mono ?_
    rintro e w201 ⟨v1, rfl, hv1, hb1⟩
    obtain ⟨ya, yn, yc, yq, ya', yn', yc', yl, rfl⟩ := hv1.four
    have HV1 := Lib.hid hv1
    replace HB := Lib.hid (Below.then HB.out hb1)
    replace Hb := Lib.hid (Hb.out.keep hb1)
    clear C hb1 a0 a1 a2 a3 hv1
    obtain ⟨za, zn, zc, zq, za', zn', zc', zl, hA, hV⟩ := Hb.out.is
    obtain ⟨a0, a1, a2, a3⟩ := hA.cells
    obtain ⟨f0, f1, f2, f3⟩ := hA.free
    clear hA hV
    go_upto_region 2 with fail
    obtain ⟨w202, hw2⟩ : ∃ x, (((w201.setCell ⟨Bb, 0, none⟩ (.slice ya yn yc)).setCell ⟨Bb, 1, none⟩ (.int .i64 yq)).setCell ⟨Bb, 2, none⟩ (.slice ya' yn' yc')).setCell ⟨Bb, 3, none⟩ (.int .i64 yl) = x := ⟨_, rfl⟩
    rw [hw2]
    replace Hb := Lib.hid (show VarB w202 Bb (fewB b0) by rw [← hw2]; exact Hb.out.set HV1.out)
    replace HB := Lib.hid (show Below w.heap.size w w202 by rw [← hw2]; exact set4_below HB.out HLb.out (.slice ya yn yc) (.int .i64 yq) (.slice ya' yn' yc') (.int .i64 yl))
    clear hw2 a0 a1 a2 a3 f0 f1 f2 f3 HV1
    obtain ⟨bl, hbl⟩ : ∃ x, fewB b0 = x := ⟨_, rfl⟩
    have HF := Lib.hid (show FewIs bl by rw [← hbl]; exact fewB_few b0)
    rw [hbl] at Hb
    clear hbl
    obtain ⟨r, hr⟩ : ∃ r, rightBlb bl = r := ⟨_, rfl⟩
    have HRR := Lib.hid hr
    clear hr
    obtain ⟨k, f, hkf⟩ : ∃ k f, sizeB bl d = (k, f) := ⟨_, _, rfl⟩
    have HKF := Lib.hid hkf
    obtain ⟨s, g, hsg⟩ : ∃ s g, readB bl d frm many = (s, g) := ⟨_, _, rfl⟩
    have HSG := Lib.hid hsg
    obtain ⟨o, hh, hoh⟩ : ∃ o h, offB bl id = (o, h) := ⟨_, _, rfl⟩
    have HOH := Lib.hid hoh
    obtain ⟨at1, hat1⟩ : ∃ x, atL bl.objs d = x := ⟨_, rfl⟩
    have HAT := Lib.hid hat1
    have HAC := Lib.hid (find_two (fun o => decide (o.1 = d)) bl.objs)
    obtain ⟨up1, hup1⟩ : ∃ x, upL bl.ups id = x := ⟨_, rfl⟩
    have HUP := Lib.hid hup1
    have HUC := Lib.hid (find_two (fun u => u.1 == id) bl.ups)
    clear hkf hsg hoh hat1 hup1
    have HNW := Lib.hid (new_ok hq)
    have C0 := New_t quota w202
    rw [HNW.out] at C0
    have C := Lib.hid C0
    clear C0
    go_wp2_with fail
    refine C.out.mono ?_
    rintro e w203 ⟨v1, rfl, hv1, hb1⟩
    obtain ⟨ya, yn, yc, yq, ya', yn', yc', yl, rfl⟩ := hv1.four
    have HV1 := Lib.hid hv1
    replace HB := Lib.hid (Below.then HB.out hb1)
    replace Hb := Lib.hid (Hb.out.keep hb1)
    clear C hb1 hv1
    obtain ⟨w204, hw2⟩ : ∃ x, w203.alloc (.cells #[.slice ya yn yc, .int .i64 yq, .slice ya' yn' yc', .int .i64 yl] 25) = x := ⟨_, rfl⟩
    obtain ⟨Bn, hBn⟩ : ∃ x, w203.heap.size = x := ⟨_, rfl⟩
    have Hn := Lib.hid (show VarB w204 Bn ⟨[], quota, [], 0⟩ by rw [← hw2, ← hBn]; exact VarB.new HV1.out)
    have hb2 : Below w203.heap.size w203 w204 := by rw [← hw2]; exact below_new _ _
    have HNbn := Lib.hid (show Bb ≠ Bn by have := Hb.out.lt; omega)
    have HNnb := Lib.hid (HNbn.out.symm)
    replace Hb := Lib.hid (Hb.out.keep hb2)
    have HLn := Lib.hid (show w.heap.size ≤ Bn by rw [← hBn]; exact HB.out.size)
    replace HB := Lib.hid (Below.then HB.out hb2)
    have HW2 := Lib.hid hw2
    clear hw2 hb2 HV1
    go_upto_region 3 with fail
    rw [HW2.out]
    clear hBn HW2
    obtain ⟨xa, xn, xc, xq, xa', xn', xc', xl, hA, hV⟩ := Hb.out.is
    have C0 := Size_t _ bl d w204 aD aS aZ hV (HE.out.keep HB.out)
    rw [HKF.out] at C0
    have C := Lib.hid C0
    clear C0
    obtain ⟨a0, a1, a2, a3⟩ := hA.cells
    clear hA hV
    go_wp2_with fail
    refine C.out.mono ?_
    rintro e w205 ⟨rfl, hb1⟩
    replace HB := Lib.hid (Below.then HB.out hb1)
    replace Hb := Lib.hid (Hb.out.keep hb1)
    replace Hn := Lib.hid (Hn.out.keep hb1)
    clear C hb1 a0 a1 a2 a3
    go_upto_region 4 with fail
    obtain ⟨xa, xn, xc, xq, xa', xn', xc', xl, hA, hV⟩ := Hb.out.is
    have C0 := Read_t _ bl d frm many w205 aD aS aZ hV (HE.out.keep HB.out) (by omega)
    rw [HSG.out] at C0
    have C := Lib.hid C0
    clear C0
    obtain ⟨a0, a1, a2, a3⟩ := hA.cells
    clear hA hV
    go_wp2_with fail
    refine C.out.mono ?_
    rintro e w206 ⟨rfl, hb1⟩
    replace HB := Lib.hid (Below.then HB.out hb1)
    replace Hb := Lib.hid (Hb.out.keep hb1)
    replace Hn := Lib.hid (Hn.out.keep hb1)
    clear C hb1 a0 a1 a2 a3
    go_upto_region 5 with fail
    obtain ⟨xa, xn, xc, xq, xa', xn', xc', xl, hA, hV⟩ := Hb.out.is
    have C0 := Offset_t _ bl id w206 aD aS aZ hV (HE.out.keep HB.out)
    rw [HOH.out] at C0
    have C := Lib.hid C0
    clear C0
    obtain ⟨a0, a1, a2, a3⟩ := hA.cells
    clear hA hV
    go_wp2_with fail
    refine C.out.mono ?_
    rintro e w207 ⟨rfl, hb1⟩
    replace HB := Lib.hid (Below.then HB.out hb1)
    replace Hb := Lib.hid (Hb.out.keep hb1)
    replace Hn := Lib.hid (Hn.out.keep hb1)
    clear C hb1 a0 a1 a2 a3
    go_upto_region 6 with fail
    have q1 : ¬ quota < 0 := by omega
    have q2 : ¬ 1048576 < quota := by omega
    obtain ⟨xa, xn, xc, xq, xa', xn', xc', xl, hA, hV⟩ := Hn.out.is
    have C0 := like_v _ ⟨[], quota, [], 0⟩ (.agg #[nilV, .int .i64 quota, nilV, .int .i64 0]) ⟨[], quota, [], 0⟩ w207 aD aS aZ hV (HE.out.keep HB.out) (at_new _ hq) rfl
    have C := Lib.hid C0
    clear C0
    obtain ⟨a0, a1, a2, a3⟩ := hA.cells
    clear hA hV
    go_wp2_with fail
    refine C.out.mono ?_
    rintro e w208 ⟨rfl, hb1⟩
    replace HB := Lib.hid (Below.then HB.out hb1)
    replace Hb := Lib.hid (Hb.out.keep hb1)
    replace Hn := Lib.hid (Hn.out.keep hb1)
    clear C hb1 a0 a1 a2 a3
    clear Hn
    cases r with
    | false =>
      obtain ⟨xa, xn, xc, xq, xa', xn', xc', xl, hA, hV⟩ := Hb.out.is
      have RP := Lib.hid (fun w' (hb : Below w208.heap.size w208 w') => pright_v _ bl w' aD aS aZ (hV.keep hb) (HE.out.keep (Below.then HB.out hb)) HRR.out)
      have RR := Lib.hid (fun w' (hb : Below w208.heap.size w208 w') => rright_v _ bl w' aD aS aZ (hV.keep hb) (HE.out.keep (Below.then HB.out hb)) HRR.out HF.out)
      have AL := Lib.hid (fun w' (hb : Below w208.heap.size w208 w') => alive_b w' aD aS aZ (HE.out.keep (Below.then HB.out hb)))
      have HA := Lib.hid hA
      obtain ⟨a0, a1, a2, a3⟩ := hA.cells
      have hbA := Below.refl w208.heap.size w208
      clear hA hV
      go_upto_region 11 with fail
      refine wp_region_held_drew (S := fun w' => w'.cell? ⟨Bb, 0, none⟩ = some (.slice xa xn xc) ∧ w'.cell? ⟨Bb, 1, none⟩ = some (.int .i64 xq) ∧ w'.cell? ⟨Bb, 2, none⟩ = some (.slice xa' xn' xc') ∧ w'.cell? ⟨Bb, 3, none⟩ = some (.int .i64 xl)) (by kernel_rfl) ?hSr1x (fun hHeld => ?hRr1x)
      case hSr1x => exact ⟨a0, a1, a2, a3⟩
      refine wpAnyH_take (i := 0) (oi := { dst := some 68, op := Op.load 25 (Operand.tmp 6), type := 25, pos := "law.go:47", after := #[], guard := none }) (v := ?gvr1x0) rfl (by kernel_rfl) (by kernel_rfl) (by kernel_rfl) (fun _ _ _ h => h) (Or.inl ⟨by rfl, ?gyr1x0⟩) (by assumption) ?grr1x0
      case gyr1x0 => (intro w hSw; (try dsimp only at hSw); go_simp; try with_reducible rfl)
      try simp only [Act.put, List.setIfInBounds_toArray, List.set_cons_zero, List.set_cons_succ]
      refine wpAnyH_take (i := 2) (oi := { dst := some 70, op := Op.load 25 (Operand.tmp 6), type := 25, pos := "law.go:47", after := #[], guard := none }) (v := ?gvr1x2) rfl (by kernel_rfl) (by kernel_rfl) (by kernel_rfl) (fun _ _ _ h => h) (Or.inl ⟨by rfl, ?gyr1x2⟩) (by assumption) ?grr1x2
      case gyr1x2 => (intro w hSw; (try dsimp only at hSw); go_simp; try with_reducible rfl)
      try simp only [Act.put, List.setIfInBounds_toArray, List.set_cons_zero, List.set_cons_succ]
      refine wpAnyH_ready (rs := [1]) (by kernel_rfl) (by simp) ?_
      refine AllReadyH.cons (o := { dst := some 69, op := Op.call { callee := Callee.value (Operand.func 12), args := #[Operand.tmp 68], argTypes := #[25] }, type := 4, pos := "law.go:47", after := #[{ on := 0, ground := Ground.data }], guard := none }) rfl (fun K hK => ?_) AllReadyH.nil
      rw [if_pos (by kernel_rfl)]
      go_simp
      go_wp2_with (go_at_call 12; refine (RP.out w208.drew hbA.drew).mono ?_; rintro e wr1 ⟨rfl, hbn⟩)
      have hb1 := Below.then hbA.drew hbn
      obtain ⟨a0, a1, a2, a3⟩ := (HA.out.keep hb1).cells
      clear hbn
      refine hK.out _ _ ?hSr1x1 (fun hHeld1 => ?hRr1x1)
      case hSr1x1 => exact ⟨a0, a1, a2, a3⟩
      clear hK K
      try simp only [Act.put, List.setIfInBounds_toArray, List.set_cons_zero, List.set_cons_succ]
      refine wpAnyH_ready (rs := [3]) (by kernel_rfl) (by simp) ?_
      refine AllReadyH.cons (o := { dst := some 71, op := Op.call { callee := Callee.value (Operand.func 13), args := #[Operand.tmp 70], argTypes := #[25] }, type := 4, pos := "law.go:47", after := #[{ on := 2, ground := Ground.data }, { on := 1, ground := Ground.chain }], guard := none }) rfl (fun K hK => ?_) AllReadyH.nil
      rw [if_pos (by kernel_rfl)]
      go_simp
      go_wp2_with (go_at_call 13; refine (RR.out wr1 hb1).mono ?_; rintro e wr2 ⟨rfl, hbn⟩)
      have hb2 := Below.then hb1 hbn
      obtain ⟨a0, a1, a2, a3⟩ := (HA.out.keep hb2).cells
      clear hbn
      refine hK.out _ _ ?hSr1x3 (fun hHeld3 => ?hRr1x3)
      case hSr1x3 => exact ⟨a0, a1, a2, a3⟩
      clear hK K
      try simp only [Act.put, List.setIfInBounds_toArray, List.set_cons_zero, List.set_cons_succ]
      refine wpAnyH_take (i := 4) (oi := { dst := some 72, op := Op.binOp BinOp.neq 4 (Operand.tmp 69) (Operand.tmp 71) 4, type := 4, pos := "law.go:47", after := #[{ on := 1, ground := Ground.data }, { on := 3, ground := Ground.data }], guard := none }) (v := ?gvr1x4) rfl (by kernel_rfl) (by kernel_rfl) (by kernel_rfl) (fun _ _ _ h => h) (Or.inl ⟨by rfl, ?gyr1x4⟩) (by assumption) ?grr1x4
      case gyr1x4 => (intro w hSw; (try dsimp only at hSw); go_simp; try with_reducible rfl)
      try simp only [Act.put, List.setIfInBounds_toArray, List.set_cons_zero, List.set_cons_succ]
      refine wpAnyH_take (i := 5) (oi := { dst := some 73, op := Op.move (Operand.tmp 72), type := 4, pos := "law.go:47", after := #[{ on := 4, ground := Ground.data }, { on := 3, ground := Ground.chain }], guard := none }) (v := ?gvr1x5) rfl (by kernel_rfl) (by kernel_rfl) (by kernel_rfl) (fun _ _ _ h => h) (Or.inl ⟨by rfl, ?gyr1x5⟩) (by assumption) ?grr1x5
      case gyr1x5 => (intro w hSw; (try dsimp only at hSw); go_simp; try with_reducible rfl)
      try simp only [Act.put, List.setIfInBounds_toArray, List.set_cons_zero, List.set_cons_succ]
      refine wpAnyH_ready (rs := [6]) (by kernel_rfl) (by simp) ?_
      refine AllReadyH.cons (o := { dst := some 74, op := Op.call { callee := Callee.value (Operand.func 14), args := #[], argTypes := #[] }, type := 4, pos := "law.go:47", after := #[{ on := 5, ground := Ground.chain }, { on := 5, ground := Ground.guard }], guard := some (5, false) }) rfl (fun K hK => ?_) AllReadyH.nil
      rw [if_pos (by kernel_rfl)]
      go_simp
      go_wp2_with (go_at_call 14; refine (AL.out wr2 hb2).mono ?_; rintro e wr3 ⟨rfl, hbn⟩)
      have hb3 := Below.then hb2 hbn
      obtain ⟨a0, a1, a2, a3⟩ := (HA.out.keep hb3).cells
      clear hbn
      refine hK.out _ _ ?hSr1x6 (fun hHeld6 => ?hRr1x6)
      case hSr1x6 => exact ⟨a0, a1, a2, a3⟩
      clear hK K
      try simp only [Act.put, List.setIfInBounds_toArray, List.set_cons_zero, List.set_cons_succ]
      refine wpAnyH_take (i := 7) (oi := { dst := some 75, op := Op.unOp UnOp.not 4 (Operand.tmp 74), type := 4, pos := "law.go:47", after := #[{ on := 6, ground := Ground.data }, { on := 5, ground := Ground.guard }], guard := some (5, false) }) (v := ?gvr1x7) rfl (by kernel_rfl) (by kernel_rfl) (by kernel_rfl) (fun _ _ _ h => h) (Or.inl ⟨by rfl, ?gyr1x7⟩) (by assumption) ?grr1x7
      case gyr1x7 => (intro w hSw; (try dsimp only at hSw); go_simp; try with_reducible rfl)
      try simp only [Act.put, List.setIfInBounds_toArray, List.set_cons_zero, List.set_cons_succ]
      refine wpAnyH_take (i := 8) (oi := { dst := some 76, op := Op.pick (Operand.tmp 73) (Operand.const (Value.bool true)) (Operand.tmp 75), type := 4, pos := "law.go:47", after := #[{ on := 5, ground := Ground.data }, { on := 7, ground := Ground.data }], guard := none }) (v := ?gvr1x8) rfl (by kernel_rfl) (by kernel_rfl) (by kernel_rfl) (fun _ _ _ h => h) (Or.inl ⟨by rfl, ?gyr1x8⟩) (by assumption) ?grr1x8
      case gyr1x8 => (intro w hSw; (try dsimp only at hSw); go_simp; try with_reducible rfl)
      try simp only [Act.put, List.setIfInBounds_toArray, List.set_cons_zero, List.set_cons_succ]
      refine wpAnyH_done (by kernel_rfl) ?_ _
      replace HB := Lib.hid (Below.then HB.out hb3)
      replace Hb := Lib.hid (Hb.out.keep hb3)
      clear hb1 hb2 hb3 hbA a0 a1 a2 a3 RP RR AL HA hHeld hHeld1 hHeld3 hHeld6
      obtain ⟨xa, xn, xc, xq, xa', xn', xc', xl, hA, hV⟩ := Hb.out.is
      have C0 := rright_v _ bl  wr3 aD aS aZ hV (HE.out.keep HB.out) HRR.out HF.out
      have C := Lib.hid C0
      clear C0
      obtain ⟨a0, a1, a2, a3⟩ := hA.cells
      clear hA hV
      go_wp2_with fail
      refine C.out.mono ?_
      rintro e w209 ⟨rfl, hb1⟩
      replace HB := Lib.hid (Below.then HB.out hb1)
      replace Hb := Lib.hid (Hb.out.keep hb1)
      clear C hb1 a0 a1 a2 a3
      have e1 := HKF.out.symm.trans (size_no HRR.out)
      have e2 := HSG.out.symm.trans (read_no HRR.out)
      have e3 := HOH.out.symm.trans (off_no HRR.out)
      simp only [Prod.mk.injEq] at e1 e2 e3
      obtain ⟨rfl, rfl⟩ := e1
      obtain ⟨rfl, rfl⟩ := e2
      obtain ⟨rfl, rfl⟩ := e3
      go_wp2_with fail
      go_ret
      exact ⟨rfl, HB.out⟩
    | true =>
      obtain ⟨xa, xn, xc, xq, xa', xn', xc', xl, hA, hV⟩ := Hb.out.is
      have RP := Lib.hid (fun w' (hb : Below w208.heap.size w208 w') => pright_v _ bl w' aD aS aZ (hV.keep hb) (HE.out.keep (Below.then HB.out hb)) HRR.out)
      have RR := Lib.hid (fun w' (hb : Below w208.heap.size w208 w') => rright_v _ bl w' aD aS aZ (hV.keep hb) (HE.out.keep (Below.then HB.out hb)) HRR.out HF.out)
      have AL := Lib.hid (fun w' (hb : Below w208.heap.size w208 w') => alive_b w' aD aS aZ (HE.out.keep (Below.then HB.out hb)))
      have HA := Lib.hid hA
      obtain ⟨a0, a1, a2, a3⟩ := hA.cells
      have hbA := Below.refl w208.heap.size w208
      clear hA hV
      go_upto_region 11 with fail
      refine wp_region_held_drew (S := fun w' => w'.cell? ⟨Bb, 0, none⟩ = some (.slice xa xn xc) ∧ w'.cell? ⟨Bb, 1, none⟩ = some (.int .i64 xq) ∧ w'.cell? ⟨Bb, 2, none⟩ = some (.slice xa' xn' xc') ∧ w'.cell? ⟨Bb, 3, none⟩ = some (.int .i64 xl)) (by kernel_rfl) ?hSr2x (fun hHeld => ?hRr2x)
      case hSr2x => exact ⟨a0, a1, a2, a3⟩
      refine wpAnyH_take (i := 0) (oi := { dst := some 68, op := Op.load 25 (Operand.tmp 6), type := 25, pos := "law.go:47", after := #[], guard := none }) (v := ?gvr2x0) rfl (by kernel_rfl) (by kernel_rfl) (by kernel_rfl) (fun _ _ _ h => h) (Or.inl ⟨by rfl, ?gyr2x0⟩) (by assumption) ?grr2x0
      case gyr2x0 => (intro w hSw; (try dsimp only at hSw); go_simp; try with_reducible rfl)
      try simp only [Act.put, List.setIfInBounds_toArray, List.set_cons_zero, List.set_cons_succ]
      refine wpAnyH_take (i := 2) (oi := { dst := some 70, op := Op.load 25 (Operand.tmp 6), type := 25, pos := "law.go:47", after := #[], guard := none }) (v := ?gvr2x2) rfl (by kernel_rfl) (by kernel_rfl) (by kernel_rfl) (fun _ _ _ h => h) (Or.inl ⟨by rfl, ?gyr2x2⟩) (by assumption) ?grr2x2
      case gyr2x2 => (intro w hSw; (try dsimp only at hSw); go_simp; try with_reducible rfl)
      try simp only [Act.put, List.setIfInBounds_toArray, List.set_cons_zero, List.set_cons_succ]
      refine wpAnyH_ready (rs := [1]) (by kernel_rfl) (by simp) ?_
      refine AllReadyH.cons (o := { dst := some 69, op := Op.call { callee := Callee.value (Operand.func 12), args := #[Operand.tmp 68], argTypes := #[25] }, type := 4, pos := "law.go:47", after := #[{ on := 0, ground := Ground.data }], guard := none }) rfl (fun K hK => ?_) AllReadyH.nil
      rw [if_pos (by kernel_rfl)]
      go_simp
      go_wp2_with (go_at_call 12; refine (RP.out w208.drew hbA.drew).mono ?_; rintro e wr1 ⟨rfl, hbn⟩)
      have hb1 := Below.then hbA.drew hbn
      obtain ⟨a0, a1, a2, a3⟩ := (HA.out.keep hb1).cells
      clear hbn
      refine hK.out _ _ ?hSr2x1 (fun hHeld1 => ?hRr2x1)
      case hSr2x1 => exact ⟨a0, a1, a2, a3⟩
      clear hK K
      try simp only [Act.put, List.setIfInBounds_toArray, List.set_cons_zero, List.set_cons_succ]
      refine wpAnyH_ready (rs := [3]) (by kernel_rfl) (by simp) ?_
      refine AllReadyH.cons (o := { dst := some 71, op := Op.call { callee := Callee.value (Operand.func 13), args := #[Operand.tmp 70], argTypes := #[25] }, type := 4, pos := "law.go:47", after := #[{ on := 2, ground := Ground.data }, { on := 1, ground := Ground.chain }], guard := none }) rfl (fun K hK => ?_) AllReadyH.nil
      rw [if_pos (by kernel_rfl)]
      go_simp
      go_wp2_with (go_at_call 13; refine (RR.out wr1 hb1).mono ?_; rintro e wr2 ⟨rfl, hbn⟩)
      have hb2 := Below.then hb1 hbn
      obtain ⟨a0, a1, a2, a3⟩ := (HA.out.keep hb2).cells
      clear hbn
      refine hK.out _ _ ?hSr2x3 (fun hHeld3 => ?hRr2x3)
      case hSr2x3 => exact ⟨a0, a1, a2, a3⟩
      clear hK K
      try simp only [Act.put, List.setIfInBounds_toArray, List.set_cons_zero, List.set_cons_succ]
      refine wpAnyH_take (i := 4) (oi := { dst := some 72, op := Op.binOp BinOp.neq 4 (Operand.tmp 69) (Operand.tmp 71) 4, type := 4, pos := "law.go:47", after := #[{ on := 1, ground := Ground.data }, { on := 3, ground := Ground.data }], guard := none }) (v := ?gvr2x4) rfl (by kernel_rfl) (by kernel_rfl) (by kernel_rfl) (fun _ _ _ h => h) (Or.inl ⟨by rfl, ?gyr2x4⟩) (by assumption) ?grr2x4
      case gyr2x4 => (intro w hSw; (try dsimp only at hSw); go_simp; try with_reducible rfl)
      try simp only [Act.put, List.setIfInBounds_toArray, List.set_cons_zero, List.set_cons_succ]
      refine wpAnyH_take (i := 5) (oi := { dst := some 73, op := Op.move (Operand.tmp 72), type := 4, pos := "law.go:47", after := #[{ on := 4, ground := Ground.data }, { on := 3, ground := Ground.chain }], guard := none }) (v := ?gvr2x5) rfl (by kernel_rfl) (by kernel_rfl) (by kernel_rfl) (fun _ _ _ h => h) (Or.inl ⟨by rfl, ?gyr2x5⟩) (by assumption) ?grr2x5
      case gyr2x5 => (intro w hSw; (try dsimp only at hSw); go_simp; try with_reducible rfl)
      try simp only [Act.put, List.setIfInBounds_toArray, List.set_cons_zero, List.set_cons_succ]
      refine wpAnyH_ready (rs := [6]) (by kernel_rfl) (by simp) ?_
      refine AllReadyH.cons (o := { dst := some 74, op := Op.call { callee := Callee.value (Operand.func 14), args := #[], argTypes := #[] }, type := 4, pos := "law.go:47", after := #[{ on := 5, ground := Ground.chain }, { on := 5, ground := Ground.guard }], guard := some (5, false) }) rfl (fun K hK => ?_) AllReadyH.nil
      rw [if_pos (by kernel_rfl)]
      go_simp
      go_wp2_with (go_at_call 14; refine (AL.out wr2 hb2).mono ?_; rintro e wr3 ⟨rfl, hbn⟩)
      have hb3 := Below.then hb2 hbn
      obtain ⟨a0, a1, a2, a3⟩ := (HA.out.keep hb3).cells
      clear hbn
      refine hK.out _ _ ?hSr2x6 (fun hHeld6 => ?hRr2x6)
      case hSr2x6 => exact ⟨a0, a1, a2, a3⟩
      clear hK K
      try simp only [Act.put, List.setIfInBounds_toArray, List.set_cons_zero, List.set_cons_succ]
      refine wpAnyH_take (i := 7) (oi := { dst := some 75, op := Op.unOp UnOp.not 4 (Operand.tmp 74), type := 4, pos := "law.go:47", after := #[{ on := 6, ground := Ground.data }, { on := 5, ground := Ground.guard }], guard := some (5, false) }) (v := ?gvr2x7) rfl (by kernel_rfl) (by kernel_rfl) (by kernel_rfl) (fun _ _ _ h => h) (Or.inl ⟨by rfl, ?gyr2x7⟩) (by assumption) ?grr2x7
      case gyr2x7 => (intro w hSw; (try dsimp only at hSw); go_simp; try with_reducible rfl)
      try simp only [Act.put, List.setIfInBounds_toArray, List.set_cons_zero, List.set_cons_succ]
      refine wpAnyH_take (i := 8) (oi := { dst := some 76, op := Op.pick (Operand.tmp 73) (Operand.const (Value.bool true)) (Operand.tmp 75), type := 4, pos := "law.go:47", after := #[{ on := 5, ground := Ground.data }, { on := 7, ground := Ground.data }], guard := none }) (v := ?gvr2x8) rfl (by kernel_rfl) (by kernel_rfl) (by kernel_rfl) (fun _ _ _ h => h) (Or.inl ⟨by rfl, ?gyr2x8⟩) (by assumption) ?grr2x8
      case gyr2x8 => (intro w hSw; (try dsimp only at hSw); go_simp; try with_reducible rfl)
      try simp only [Act.put, List.setIfInBounds_toArray, List.set_cons_zero, List.set_cons_succ]
      refine wpAnyH_done (by kernel_rfl) ?_ _
      replace HB := Lib.hid (Below.then HB.out hb3)
      replace Hb := Lib.hid (Hb.out.keep hb3)
      clear hb1 hb2 hb3 hbA a0 a1 a2 a3 RP RR AL HA hHeld hHeld1 hHeld3 hHeld6
      obtain ⟨xa, xn, xc, xq, xa', xn', xc', xl, hA, hV⟩ := Hb.out.is
      have C0 := rright_v _ bl  wr3 aD aS aZ hV (HE.out.keep HB.out) HRR.out HF.out
      have C := Lib.hid C0
      clear C0
      obtain ⟨a0, a1, a2, a3⟩ := hA.cells
      clear hA hV
      go_wp2_with fail
      refine C.out.mono ?_
      rintro e w209 ⟨rfl, hb1⟩
      replace HB := Lib.hid (Below.then HB.out hb1)
      replace Hb := Lib.hid (Hb.out.keep hb1)
      clear C hb1 a0 a1 a2 a3
      obtain ⟨xa, xn, xc, xq, xa', xn', xc', xl, hA, hV⟩ := Hb.out.is
      have C0 := rup_v _ bl id w209 aD aS aZ hV (HE.out.keep HB.out) HUP.out
      have C := Lib.hid C0
      clear C0
      obtain ⟨a0, a1, a2, a3⟩ := hA.cells
      clear hA hV
      go_wp2_with fail
      refine C.out.mono ?_
      rintro e w210 ⟨rfl, hb1⟩
      replace HB := Lib.hid (Below.then HB.out hb1)
      replace Hb := Lib.hid (Hb.out.keep hb1)
      clear C hb1 a0 a1 a2 a3
      go_upto_region 16 with fail
      rcases HUC.out with hup | ⟨i, hi, hup⟩
      · obtain rfl : up1 = -1 := HUP.out.symm.trans hup
        have e3 := HOH.out.symm.trans (off_none HRR.out hup)
        simp only [Prod.mk.injEq] at e3
        obtain ⟨rfl, rfl⟩ := e3
        clear hup
        obtain ⟨xa, xn, xc, xq, xa', xn', xc', xl, hA, hV⟩ := Hb.out.is
        have C0 := rat_v _ bl d w210 aD aS aZ hV (HE.out.keep HB.out) HAT.out
        have C := Lib.hid C0
        clear C0
        obtain ⟨a0, a1, a2, a3⟩ := hA.cells
        clear hA hV
        go_wp2_with fail
        refine C.out.mono ?_
        rintro e w211 ⟨rfl, hb1⟩
        replace HB := Lib.hid (Below.then HB.out hb1)
        replace Hb := Lib.hid (Hb.out.keep hb1)
        clear C hb1 a0 a1 a2 a3
        rcases HAC.out with hat | ⟨j, hj, hat⟩
        · obtain rfl : at1 = -1 := HAT.out.symm.trans hat
          have e1 := HKF.out.symm.trans (size_none HRR.out hat)
          have e2 := HSG.out.symm.trans (read_none HRR.out hat)
          simp only [Prod.mk.injEq] at e1 e2
          obtain ⟨rfl, rfl⟩ := e1
          obtain ⟨rfl, rfl⟩ := e2
          go_wp2_with fail
          go_ret
          exact ⟨rfl, HB.out⟩
        · obtain rfl : at1 = (j : Int) := HAT.out.symm.trans hat
          have e1 := HKF.out.symm.trans (size_some HRR.out hat hj)
          simp only [Prod.mk.injEq] at e1
          obtain ⟨rfl, rfl⟩ := e1
          obtain ⟨xa, xc, xa', xc', hA, hV⟩ := Hb.out.open
          obtain ⟨lb, lo, rfl, e0, e1⟩ := hV.parts.1.at j (by rw [List.length_map]; exact hj)
          rw [obj_getElem bl.objs j hj] at e0 e1
          have HRG := Lib.hid (fun h => read_range (f := frm) (m := many) HRR.out hat hj h)
          have HRP := Lib.hid (fun (f m : Nat) h => read_part (f := f) (m := m) HRR.out hat hj h)
          obtain ⟨n, hn⟩ : ∃ n, bl.objs.length = n := ⟨_, rfl⟩
          obtain ⟨⟨xx, all⟩, hx⟩ : ∃ x, bl.objs[j] = x := ⟨_, rfl⟩
          have hsz : all.size ≤ 9223372036854775807 := by have := (hV.objs _ (List.getElem_mem hj)).2; rw [hx] at this; unfold maxLen at this; exact this
          rw [hx] at e0 e1 HRG HRP ⊢
          simp only at e0 e1 HRG HRP ⊢
          rw [hn] at hA hj
          obtain ⟨a0, a1, a2, a3⟩ := hA.cells
          clear hA hV hx hn hat
          by_cases hr : frm < 0 ∨ (all.size : Int) < frm ∨ many < 0
          · have e2 := HSG.out.symm.trans (HRG.out hr)
            simp only [Prod.mk.injEq] at e2
            obtain ⟨rfl, rfl⟩ := e2
            have q20 : ((all.size : Int) != (all.size : Int)) = false := bne_self_eq_false _
            by_cases c1 : frm < 0
            · go_wp2_with fail
              go_ret
              exact ⟨rfl, HB.out⟩
            by_cases c2 : (all.size : Int) < frm
            · go_wp2_with fail
              go_ret
              exact ⟨rfl, HB.out⟩
            have c3 : many < 0 := by omega
            go_wp2_with fail
            go_ret
            exact ⟨rfl, HB.out⟩
          · obtain ⟨fn, rfl⟩ : ∃ n : Nat, frm = n := ⟨frm.toNat, by omega⟩
            obtain ⟨mn, rfl⟩ : ∃ n : Nat, many = n := ⟨many.toNat, by omega⟩
            have e2 := HSG.out.symm.trans (HRP.out fn mn (by omega))
            simp only [Prod.mk.injEq] at e2
            obtain ⟨kk, hkk⟩ : ∃ k, min mn (all.size - fn) = k := ⟨_, rfl⟩
            rw [hkk] at e2
            obtain ⟨rest, hrest⟩ : ∃ r, all.extract fn all.size = r := ⟨_, rfl⟩
            have hrs : rest.size = all.size - fn := by rw [← hrest, ByteArray.size_extract]; omega
            rw [hrest] at e2
            obtain ⟨hs2, rfl⟩ := e2
            have q20 : ((all.size : Int) != (all.size : Int)) = false := bne_self_eq_false _
            have q21 : IntKind.i64.wrap ((all.size : Int) - (fn : Int)) = (all.size : Int) - (fn : Int) := by rw [IntKind.wrap_i64]; omega
            have q22 : min (mn : Int) ((all.size : Int) - (fn : Int)) = (kk : Int) := by omega
            have q23 : ¬ ((all.size : Int) < (fn : Int)) := by omega
            have q24 : ¬ ((fn : Int) < 0) := by omega
            have q25 : ¬ ((mn : Int) < 0) := by omega
            have q26 : fn ≤ all.size := by omega
            have q27 : kk ≤ rest.size := by omega
            clear hr HRG HRP
            go_wp2_with fail
            go_ret
            exact ⟨rfl, HB.out⟩
      · obtain rfl : up1 = (i : Int) := HUP.out.symm.trans hup
        have e3 := HOH.out.symm.trans (off_some HRR.out hup hi)
        simp only [Prod.mk.injEq] at e3
        obtain ⟨rfl, rfl⟩ := e3
        obtain ⟨xa, xc, xa', xc', hA, hV⟩ := Hb.out.open
        obtain ⟨ub, uo, rfl, g0, g1⟩ := hV.parts.2.1.at i (by rw [List.length_map]; exact hi)
        rw [up_getElem bl.ups i hi] at g0 g1
        obtain ⟨m, hm⟩ : ∃ n, bl.ups.length = n := ⟨_, rfl⟩
        obtain ⟨⟨ux, us⟩, hx⟩ : ∃ x, bl.ups[i] = x := ⟨_, rfl⟩
        rw [hx] at g0 g1 ⊢
        simp only at g0 g1 ⊢
        rw [hm] at hA hi
        obtain ⟨a0, a1, a2, a3⟩ := hA.cells
        clear hA hV hx hm hup
        have q30 : ((us.size : Int) != (us.size : Int)) = false := bne_self_eq_false _
        go_upto_region 18 with fail
        clear a0 a1 a2 a3 g0 g1
        obtain ⟨xa, xn, xc, xq, xa', xn', xc', xl, hA, hV⟩ := Hb.out.is
        have C0 := rat_v _ bl d w210 aD aS aZ hV (HE.out.keep HB.out) HAT.out
        have C := Lib.hid C0
        clear C0
        obtain ⟨a0, a1, a2, a3⟩ := hA.cells
        clear hA hV
        go_wp2_with fail
        refine C.out.mono ?_
        rintro e w211 ⟨rfl, hb1⟩
        replace HB := Lib.hid (Below.then HB.out hb1)
        replace Hb := Lib.hid (Hb.out.keep hb1)
        clear C hb1 a0 a1 a2 a3
        rcases HAC.out with hat | ⟨j, hj, hat⟩
        · obtain rfl : at1 = -1 := HAT.out.symm.trans hat
          have e1 := HKF.out.symm.trans (size_none HRR.out hat)
          have e2 := HSG.out.symm.trans (read_none HRR.out hat)
          simp only [Prod.mk.injEq] at e1 e2
          obtain ⟨rfl, rfl⟩ := e1
          obtain ⟨rfl, rfl⟩ := e2
          go_wp2_with fail
          go_ret
          exact ⟨rfl, HB.out⟩
        · obtain rfl : at1 = (j : Int) := HAT.out.symm.trans hat
          have e1 := HKF.out.symm.trans (size_some HRR.out hat hj)
          simp only [Prod.mk.injEq] at e1
          obtain ⟨rfl, rfl⟩ := e1
          obtain ⟨xa, xc, xa', xc', hA, hV⟩ := Hb.out.open
          obtain ⟨lb, lo, rfl, e0, e1⟩ := hV.parts.1.at j (by rw [List.length_map]; exact hj)
          rw [obj_getElem bl.objs j hj] at e0 e1
          have HRG := Lib.hid (fun h => read_range (f := frm) (m := many) HRR.out hat hj h)
          have HRP := Lib.hid (fun (f m : Nat) h => read_part (f := f) (m := m) HRR.out hat hj h)
          obtain ⟨n, hn⟩ : ∃ n, bl.objs.length = n := ⟨_, rfl⟩
          obtain ⟨⟨xx, all⟩, hx⟩ : ∃ x, bl.objs[j] = x := ⟨_, rfl⟩
          have hsz : all.size ≤ 9223372036854775807 := by have := (hV.objs _ (List.getElem_mem hj)).2; rw [hx] at this; unfold maxLen at this; exact this
          rw [hx] at e0 e1 HRG HRP ⊢
          simp only at e0 e1 HRG HRP ⊢
          rw [hn] at hA hj
          obtain ⟨a0, a1, a2, a3⟩ := hA.cells
          clear hA hV hx hn hat
          by_cases hr : frm < 0 ∨ (all.size : Int) < frm ∨ many < 0
          · have e2 := HSG.out.symm.trans (HRG.out hr)
            simp only [Prod.mk.injEq] at e2
            obtain ⟨rfl, rfl⟩ := e2
            have q20 : ((all.size : Int) != (all.size : Int)) = false := bne_self_eq_false _
            by_cases c1 : frm < 0
            · go_wp2_with fail
              go_ret
              exact ⟨rfl, HB.out⟩
            by_cases c2 : (all.size : Int) < frm
            · go_wp2_with fail
              go_ret
              exact ⟨rfl, HB.out⟩
            have c3 : many < 0 := by omega
            go_wp2_with fail
            go_ret
            exact ⟨rfl, HB.out⟩
          · obtain ⟨fn, rfl⟩ : ∃ n : Nat, frm = n := ⟨frm.toNat, by omega⟩
            obtain ⟨mn, rfl⟩ : ∃ n : Nat, many = n := ⟨many.toNat, by omega⟩
            have e2 := HSG.out.symm.trans (HRP.out fn mn (by omega))
            simp only [Prod.mk.injEq] at e2
            obtain ⟨kk, hkk⟩ : ∃ k, min mn (all.size - fn) = k := ⟨_, rfl⟩
            rw [hkk] at e2
            obtain ⟨rest, hrest⟩ : ∃ r, all.extract fn all.size = r := ⟨_, rfl⟩
            have hrs : rest.size = all.size - fn := by rw [← hrest, ByteArray.size_extract]; omega
            rw [hrest] at e2
            obtain ⟨hs2, rfl⟩ := e2
            have q20 : ((all.size : Int) != (all.size : Int)) = false := bne_self_eq_false _
            have q21 : IntKind.i64.wrap ((all.size : Int) - (fn : Int)) = (all.size : Int) - (fn : Int) := by rw [IntKind.wrap_i64]; omega
            have q22 : min (mn : Int) ((all.size : Int) - (fn : Int)) = (kk : Int) := by omega
            have q23 : ¬ ((all.size : Int) < (fn : Int)) := by omega
            have q24 : ¬ ((fn : Int) < 0) := by omega
            have q25 : ¬ ((mn : Int) < 0) := by omega
            have q26 : fn ≤ all.size := by omega
            have q27 : kk ≤ rest.size := by omega
            clear hr HRG HRP
            go_wp2_with fail
            go_ret
            exact ⟨rfl, HB.out⟩
  · obtain ⟨xa, xn, xc, xq, xa', xn', xc', xl, hA, hV⟩ := Hb.out.is
    have C0 := few_v _ b0  w0 aD aS aZ hV (HE.out.keep HB.out)
    have C := Lib.hid C0
    clear C0
    obtain ⟨a0, a1, a2, a3⟩ := hA.cells
    clear hA hV
    go_wp2_with fail
    refine C.out.mono ?_
    rintro e w301 ⟨v1, rfl, hv1, hb1⟩
    obtain ⟨ya, yn, yc, yq, ya', yn', yc', yl, rfl⟩ := hv1.four
    have HV1 := Lib.hid hv1
    replace HB := Lib.hid (Below.then HB.out hb1)
    replace Hb := Lib.hid (Hb.out.keep hb1)
    clear C hb1 a0 a1 a2 a3 hv1
    obtain ⟨za, zn, zc, zq, za', zn', zc', zl, hA, hV⟩ := Hb.out.is
    obtain ⟨a0, a1, a2, a3⟩ := hA.cells
    obtain ⟨f0, f1, f2, f3⟩ := hA.free
    clear hA hV
    go_upto_region 2 with fail
    obtain ⟨w302, hw2⟩ : ∃ x, (((w301.setCell ⟨Bb, 0, none⟩ (.slice ya yn yc)).setCell ⟨Bb, 1, none⟩ (.int .i64 yq)).setCell ⟨Bb, 2, none⟩ (.slice ya' yn' yc')).setCell ⟨Bb, 3, none⟩ (.int .i64 yl) = x := ⟨_, rfl⟩
    rw [hw2]
    replace Hb := Lib.hid (show VarB w302 Bb (fewB b0) by rw [← hw2]; exact Hb.out.set HV1.out)
    replace HB := Lib.hid (show Below w.heap.size w w302 by rw [← hw2]; exact set4_below HB.out HLb.out (.slice ya yn yc) (.int .i64 yq) (.slice ya' yn' yc') (.int .i64 yl))
    clear hw2 a0 a1 a2 a3 f0 f1 f2 f3 HV1
    obtain ⟨bl, hbl⟩ : ∃ x, fewB b0 = x := ⟨_, rfl⟩
    have HF := Lib.hid (show FewIs bl by rw [← hbl]; exact fewB_few b0)
    rw [hbl] at Hb
    clear hbl
    obtain ⟨r, hr⟩ : ∃ r, rightBlb bl = r := ⟨_, rfl⟩
    have HRR := Lib.hid hr
    clear hr
    obtain ⟨k, f, hkf⟩ : ∃ k f, sizeB bl d = (k, f) := ⟨_, _, rfl⟩
    have HKF := Lib.hid hkf
    obtain ⟨s, g, hsg⟩ : ∃ s g, readB bl d frm many = (s, g) := ⟨_, _, rfl⟩
    have HSG := Lib.hid hsg
    obtain ⟨o, hh, hoh⟩ : ∃ o h, offB bl id = (o, h) := ⟨_, _, rfl⟩
    have HOH := Lib.hid hoh
    obtain ⟨at1, hat1⟩ : ∃ x, atL bl.objs d = x := ⟨_, rfl⟩
    have HAT := Lib.hid hat1
    have HAC := Lib.hid (find_two (fun o => decide (o.1 = d)) bl.objs)
    obtain ⟨up1, hup1⟩ : ∃ x, upL bl.ups id = x := ⟨_, rfl⟩
    have HUP := Lib.hid hup1
    have HUC := Lib.hid (find_two (fun u => u.1 == id) bl.ups)
    clear hkf hsg hoh hat1 hup1
    have HNW := Lib.hid (new_bad hq)
    have C0 := New_t quota w302
    rw [HNW.out] at C0
    have C := Lib.hid C0
    clear C0
    go_wp2_with fail
    refine C.out.mono ?_
    rintro e w303 ⟨v1, rfl, hv1, hb1⟩
    obtain ⟨ya, yn, yc, yq, ya', yn', yc', yl, rfl⟩ := hv1.four
    have HV1 := Lib.hid hv1
    replace HB := Lib.hid (Below.then HB.out hb1)
    replace Hb := Lib.hid (Hb.out.keep hb1)
    clear C hb1 hv1
    obtain ⟨w304, hw2⟩ : ∃ x, w303.alloc (.cells #[.slice ya yn yc, .int .i64 yq, .slice ya' yn' yc', .int .i64 yl] 25) = x := ⟨_, rfl⟩
    obtain ⟨Bn, hBn⟩ : ∃ x, w303.heap.size = x := ⟨_, rfl⟩
    have Hn := Lib.hid (show VarB w304 Bn nilBlb by rw [← hw2, ← hBn]; exact VarB.new HV1.out)
    have hb2 : Below w303.heap.size w303 w304 := by rw [← hw2]; exact below_new _ _
    have HNbn := Lib.hid (show Bb ≠ Bn by have := Hb.out.lt; omega)
    have HNnb := Lib.hid (HNbn.out.symm)
    replace Hb := Lib.hid (Hb.out.keep hb2)
    have HLn := Lib.hid (show w.heap.size ≤ Bn by rw [← hBn]; exact HB.out.size)
    replace HB := Lib.hid (Below.then HB.out hb2)
    have HW2 := Lib.hid hw2
    clear hw2 hb2 HV1
    go_upto_region 3 with fail
    rw [HW2.out]
    clear hBn HW2
    obtain ⟨xa, xn, xc, xq, xa', xn', xc', xl, hA, hV⟩ := Hb.out.is
    have C0 := Size_t _ bl d w304 aD aS aZ hV (HE.out.keep HB.out)
    rw [HKF.out] at C0
    have C := Lib.hid C0
    clear C0
    obtain ⟨a0, a1, a2, a3⟩ := hA.cells
    clear hA hV
    go_wp2_with fail
    refine C.out.mono ?_
    rintro e w305 ⟨rfl, hb1⟩
    replace HB := Lib.hid (Below.then HB.out hb1)
    replace Hb := Lib.hid (Hb.out.keep hb1)
    replace Hn := Lib.hid (Hn.out.keep hb1)
    clear C hb1 a0 a1 a2 a3
    go_upto_region 4 with fail
    obtain ⟨xa, xn, xc, xq, xa', xn', xc', xl, hA, hV⟩ := Hb.out.is
    have C0 := Read_t _ bl d frm many w305 aD aS aZ hV (HE.out.keep HB.out) (by omega)
    rw [HSG.out] at C0
    have C := Lib.hid C0
    clear C0
    obtain ⟨a0, a1, a2, a3⟩ := hA.cells
    clear hA hV
    go_wp2_with fail
    refine C.out.mono ?_
    rintro e w306 ⟨rfl, hb1⟩
    replace HB := Lib.hid (Below.then HB.out hb1)
    replace Hb := Lib.hid (Hb.out.keep hb1)
    replace Hn := Lib.hid (Hn.out.keep hb1)
    clear C hb1 a0 a1 a2 a3
    go_upto_region 5 with fail
    obtain ⟨xa, xn, xc, xq, xa', xn', xc', xl, hA, hV⟩ := Hb.out.is
    have C0 := Offset_t _ bl id w306 aD aS aZ hV (HE.out.keep HB.out)
    rw [HOH.out] at C0
    have C := Lib.hid C0
    clear C0
    obtain ⟨a0, a1, a2, a3⟩ := hA.cells
    clear hA hV
    go_wp2_with fail
    refine C.out.mono ?_
    rintro e w307 ⟨rfl, hb1⟩
    replace HB := Lib.hid (Below.then HB.out hb1)
    replace Hb := Lib.hid (Hb.out.keep hb1)
    replace Hn := Lib.hid (Hn.out.keep hb1)
    clear C hb1 a0 a1 a2 a3
    go_upto_region 6 with fail
    have q1 : (quota < 0) ∨ ¬ quota < 0 ∧ 1048576 < quota := by omega
    clear Hn
    rcases q1 with q1 | ⟨q1, q2⟩
    · cases r with
      | false =>
        obtain ⟨xa, xn, xc, xq, xa', xn', xc', xl, hA, hV⟩ := Hb.out.is
        have RP := Lib.hid (fun w' (hb : Below w307.heap.size w307 w') => pright_v _ bl w' aD aS aZ (hV.keep hb) (HE.out.keep (Below.then HB.out hb)) HRR.out)
        have RR := Lib.hid (fun w' (hb : Below w307.heap.size w307 w') => rright_v _ bl w' aD aS aZ (hV.keep hb) (HE.out.keep (Below.then HB.out hb)) HRR.out HF.out)
        have AL := Lib.hid (fun w' (hb : Below w307.heap.size w307 w') => alive_b w' aD aS aZ (HE.out.keep (Below.then HB.out hb)))
        have HA := Lib.hid hA
        obtain ⟨a0, a1, a2, a3⟩ := hA.cells
        have hbA := Below.refl w307.heap.size w307
        clear hA hV
        go_upto_region 11 with fail
        refine wp_region_held_drew (S := fun w' => w'.cell? ⟨Bb, 0, none⟩ = some (.slice xa xn xc) ∧ w'.cell? ⟨Bb, 1, none⟩ = some (.int .i64 xq) ∧ w'.cell? ⟨Bb, 2, none⟩ = some (.slice xa' xn' xc') ∧ w'.cell? ⟨Bb, 3, none⟩ = some (.int .i64 xl)) (by kernel_rfl) ?hSr3x (fun hHeld => ?hRr3x)
        case hSr3x => exact ⟨a0, a1, a2, a3⟩
        refine wpAnyH_take (i := 0) (oi := { dst := some 68, op := Op.load 25 (Operand.tmp 6), type := 25, pos := "law.go:47", after := #[], guard := none }) (v := ?gvr3x0) rfl (by kernel_rfl) (by kernel_rfl) (by kernel_rfl) (fun _ _ _ h => h) (Or.inl ⟨by rfl, ?gyr3x0⟩) (by assumption) ?grr3x0
        case gyr3x0 => (intro w hSw; (try dsimp only at hSw); go_simp; try with_reducible rfl)
        try simp only [Act.put, List.setIfInBounds_toArray, List.set_cons_zero, List.set_cons_succ]
        refine wpAnyH_take (i := 2) (oi := { dst := some 70, op := Op.load 25 (Operand.tmp 6), type := 25, pos := "law.go:47", after := #[], guard := none }) (v := ?gvr3x2) rfl (by kernel_rfl) (by kernel_rfl) (by kernel_rfl) (fun _ _ _ h => h) (Or.inl ⟨by rfl, ?gyr3x2⟩) (by assumption) ?grr3x2
        case gyr3x2 => (intro w hSw; (try dsimp only at hSw); go_simp; try with_reducible rfl)
        try simp only [Act.put, List.setIfInBounds_toArray, List.set_cons_zero, List.set_cons_succ]
        refine wpAnyH_ready (rs := [1]) (by kernel_rfl) (by simp) ?_
        refine AllReadyH.cons (o := { dst := some 69, op := Op.call { callee := Callee.value (Operand.func 12), args := #[Operand.tmp 68], argTypes := #[25] }, type := 4, pos := "law.go:47", after := #[{ on := 0, ground := Ground.data }], guard := none }) rfl (fun K hK => ?_) AllReadyH.nil
        rw [if_pos (by kernel_rfl)]
        go_simp
        go_wp2_with (go_at_call 12; refine (RP.out w307.drew hbA.drew).mono ?_; rintro e wr1 ⟨rfl, hbn⟩)
        have hb1 := Below.then hbA.drew hbn
        obtain ⟨a0, a1, a2, a3⟩ := (HA.out.keep hb1).cells
        clear hbn
        refine hK.out _ _ ?hSr3x1 (fun hHeld1 => ?hRr3x1)
        case hSr3x1 => exact ⟨a0, a1, a2, a3⟩
        clear hK K
        try simp only [Act.put, List.setIfInBounds_toArray, List.set_cons_zero, List.set_cons_succ]
        refine wpAnyH_ready (rs := [3]) (by kernel_rfl) (by simp) ?_
        refine AllReadyH.cons (o := { dst := some 71, op := Op.call { callee := Callee.value (Operand.func 13), args := #[Operand.tmp 70], argTypes := #[25] }, type := 4, pos := "law.go:47", after := #[{ on := 2, ground := Ground.data }, { on := 1, ground := Ground.chain }], guard := none }) rfl (fun K hK => ?_) AllReadyH.nil
        rw [if_pos (by kernel_rfl)]
        go_simp
        go_wp2_with (go_at_call 13; refine (RR.out wr1 hb1).mono ?_; rintro e wr2 ⟨rfl, hbn⟩)
        have hb2 := Below.then hb1 hbn
        obtain ⟨a0, a1, a2, a3⟩ := (HA.out.keep hb2).cells
        clear hbn
        refine hK.out _ _ ?hSr3x3 (fun hHeld3 => ?hRr3x3)
        case hSr3x3 => exact ⟨a0, a1, a2, a3⟩
        clear hK K
        try simp only [Act.put, List.setIfInBounds_toArray, List.set_cons_zero, List.set_cons_succ]
        refine wpAnyH_take (i := 4) (oi := { dst := some 72, op := Op.binOp BinOp.neq 4 (Operand.tmp 69) (Operand.tmp 71) 4, type := 4, pos := "law.go:47", after := #[{ on := 1, ground := Ground.data }, { on := 3, ground := Ground.data }], guard := none }) (v := ?gvr3x4) rfl (by kernel_rfl) (by kernel_rfl) (by kernel_rfl) (fun _ _ _ h => h) (Or.inl ⟨by rfl, ?gyr3x4⟩) (by assumption) ?grr3x4
        case gyr3x4 => (intro w hSw; (try dsimp only at hSw); go_simp; try with_reducible rfl)
        try simp only [Act.put, List.setIfInBounds_toArray, List.set_cons_zero, List.set_cons_succ]
        refine wpAnyH_take (i := 5) (oi := { dst := some 73, op := Op.move (Operand.tmp 72), type := 4, pos := "law.go:47", after := #[{ on := 4, ground := Ground.data }, { on := 3, ground := Ground.chain }], guard := none }) (v := ?gvr3x5) rfl (by kernel_rfl) (by kernel_rfl) (by kernel_rfl) (fun _ _ _ h => h) (Or.inl ⟨by rfl, ?gyr3x5⟩) (by assumption) ?grr3x5
        case gyr3x5 => (intro w hSw; (try dsimp only at hSw); go_simp; try with_reducible rfl)
        try simp only [Act.put, List.setIfInBounds_toArray, List.set_cons_zero, List.set_cons_succ]
        refine wpAnyH_ready (rs := [6]) (by kernel_rfl) (by simp) ?_
        refine AllReadyH.cons (o := { dst := some 74, op := Op.call { callee := Callee.value (Operand.func 14), args := #[], argTypes := #[] }, type := 4, pos := "law.go:47", after := #[{ on := 5, ground := Ground.chain }, { on := 5, ground := Ground.guard }], guard := some (5, false) }) rfl (fun K hK => ?_) AllReadyH.nil
        rw [if_pos (by kernel_rfl)]
        go_simp
        go_wp2_with (go_at_call 14; refine (AL.out wr2 hb2).mono ?_; rintro e wr3 ⟨rfl, hbn⟩)
        have hb3 := Below.then hb2 hbn
        obtain ⟨a0, a1, a2, a3⟩ := (HA.out.keep hb3).cells
        clear hbn
        refine hK.out _ _ ?hSr3x6 (fun hHeld6 => ?hRr3x6)
        case hSr3x6 => exact ⟨a0, a1, a2, a3⟩
        clear hK K
        try simp only [Act.put, List.setIfInBounds_toArray, List.set_cons_zero, List.set_cons_succ]
        refine wpAnyH_take (i := 7) (oi := { dst := some 75, op := Op.unOp UnOp.not 4 (Operand.tmp 74), type := 4, pos := "law.go:47", after := #[{ on := 6, ground := Ground.data }, { on := 5, ground := Ground.guard }], guard := some (5, false) }) (v := ?gvr3x7) rfl (by kernel_rfl) (by kernel_rfl) (by kernel_rfl) (fun _ _ _ h => h) (Or.inl ⟨by rfl, ?gyr3x7⟩) (by assumption) ?grr3x7
        case gyr3x7 => (intro w hSw; (try dsimp only at hSw); go_simp; try with_reducible rfl)
        try simp only [Act.put, List.setIfInBounds_toArray, List.set_cons_zero, List.set_cons_succ]
        refine wpAnyH_take (i := 8) (oi := { dst := some 76, op := Op.pick (Operand.tmp 73) (Operand.const (Value.bool true)) (Operand.tmp 75), type := 4, pos := "law.go:47", after := #[{ on := 5, ground := Ground.data }, { on := 7, ground := Ground.data }], guard := none }) (v := ?gvr3x8) rfl (by kernel_rfl) (by kernel_rfl) (by kernel_rfl) (fun _ _ _ h => h) (Or.inl ⟨by rfl, ?gyr3x8⟩) (by assumption) ?grr3x8
        case gyr3x8 => (intro w hSw; (try dsimp only at hSw); go_simp; try with_reducible rfl)
        try simp only [Act.put, List.setIfInBounds_toArray, List.set_cons_zero, List.set_cons_succ]
        refine wpAnyH_done (by kernel_rfl) ?_ _
        replace HB := Lib.hid (Below.then HB.out hb3)
        replace Hb := Lib.hid (Hb.out.keep hb3)
        clear hb1 hb2 hb3 hbA a0 a1 a2 a3 RP RR AL HA hHeld hHeld1 hHeld3 hHeld6
        obtain ⟨xa, xn, xc, xq, xa', xn', xc', xl, hA, hV⟩ := Hb.out.is
        have C0 := rright_v _ bl  wr3 aD aS aZ hV (HE.out.keep HB.out) HRR.out HF.out
        have C := Lib.hid C0
        clear C0
        obtain ⟨a0, a1, a2, a3⟩ := hA.cells
        clear hA hV
        go_wp2_with fail
        refine C.out.mono ?_
        rintro e w308 ⟨rfl, hb1⟩
        replace HB := Lib.hid (Below.then HB.out hb1)
        replace Hb := Lib.hid (Hb.out.keep hb1)
        clear C hb1 a0 a1 a2 a3
        have e1 := HKF.out.symm.trans (size_no HRR.out)
        have e2 := HSG.out.symm.trans (read_no HRR.out)
        have e3 := HOH.out.symm.trans (off_no HRR.out)
        simp only [Prod.mk.injEq] at e1 e2 e3
        obtain ⟨rfl, rfl⟩ := e1
        obtain ⟨rfl, rfl⟩ := e2
        obtain ⟨rfl, rfl⟩ := e3
        go_wp2_with fail
        go_ret
        exact ⟨rfl, HB.out⟩
      | true =>
        obtain ⟨xa, xn, xc, xq, xa', xn', xc', xl, hA, hV⟩ := Hb.out.is
        have RP := Lib.hid (fun w' (hb : Below w307.heap.size w307 w') => pright_v _ bl w' aD aS aZ (hV.keep hb) (HE.out.keep (Below.then HB.out hb)) HRR.out)
        have RR := Lib.hid (fun w' (hb : Below w307.heap.size w307 w') => rright_v _ bl w' aD aS aZ (hV.keep hb) (HE.out.keep (Below.then HB.out hb)) HRR.out HF.out)
        have AL := Lib.hid (fun w' (hb : Below w307.heap.size w307 w') => alive_b w' aD aS aZ (HE.out.keep (Below.then HB.out hb)))
        have HA := Lib.hid hA
        obtain ⟨a0, a1, a2, a3⟩ := hA.cells
        have hbA := Below.refl w307.heap.size w307
        clear hA hV
        go_upto_region 11 with fail
        refine wp_region_held_drew (S := fun w' => w'.cell? ⟨Bb, 0, none⟩ = some (.slice xa xn xc) ∧ w'.cell? ⟨Bb, 1, none⟩ = some (.int .i64 xq) ∧ w'.cell? ⟨Bb, 2, none⟩ = some (.slice xa' xn' xc') ∧ w'.cell? ⟨Bb, 3, none⟩ = some (.int .i64 xl)) (by kernel_rfl) ?hSr4x (fun hHeld => ?hRr4x)
        case hSr4x => exact ⟨a0, a1, a2, a3⟩
        refine wpAnyH_take (i := 0) (oi := { dst := some 68, op := Op.load 25 (Operand.tmp 6), type := 25, pos := "law.go:47", after := #[], guard := none }) (v := ?gvr4x0) rfl (by kernel_rfl) (by kernel_rfl) (by kernel_rfl) (fun _ _ _ h => h) (Or.inl ⟨by rfl, ?gyr4x0⟩) (by assumption) ?grr4x0
        case gyr4x0 => (intro w hSw; (try dsimp only at hSw); go_simp; try with_reducible rfl)
        try simp only [Act.put, List.setIfInBounds_toArray, List.set_cons_zero, List.set_cons_succ]
        refine wpAnyH_take (i := 2) (oi := { dst := some 70, op := Op.load 25 (Operand.tmp 6), type := 25, pos := "law.go:47", after := #[], guard := none }) (v := ?gvr4x2) rfl (by kernel_rfl) (by kernel_rfl) (by kernel_rfl) (fun _ _ _ h => h) (Or.inl ⟨by rfl, ?gyr4x2⟩) (by assumption) ?grr4x2
        case gyr4x2 => (intro w hSw; (try dsimp only at hSw); go_simp; try with_reducible rfl)
        try simp only [Act.put, List.setIfInBounds_toArray, List.set_cons_zero, List.set_cons_succ]
        refine wpAnyH_ready (rs := [1]) (by kernel_rfl) (by simp) ?_
        refine AllReadyH.cons (o := { dst := some 69, op := Op.call { callee := Callee.value (Operand.func 12), args := #[Operand.tmp 68], argTypes := #[25] }, type := 4, pos := "law.go:47", after := #[{ on := 0, ground := Ground.data }], guard := none }) rfl (fun K hK => ?_) AllReadyH.nil
        rw [if_pos (by kernel_rfl)]
        go_simp
        go_wp2_with (go_at_call 12; refine (RP.out w307.drew hbA.drew).mono ?_; rintro e wr1 ⟨rfl, hbn⟩)
        have hb1 := Below.then hbA.drew hbn
        obtain ⟨a0, a1, a2, a3⟩ := (HA.out.keep hb1).cells
        clear hbn
        refine hK.out _ _ ?hSr4x1 (fun hHeld1 => ?hRr4x1)
        case hSr4x1 => exact ⟨a0, a1, a2, a3⟩
        clear hK K
        try simp only [Act.put, List.setIfInBounds_toArray, List.set_cons_zero, List.set_cons_succ]
        refine wpAnyH_ready (rs := [3]) (by kernel_rfl) (by simp) ?_
        refine AllReadyH.cons (o := { dst := some 71, op := Op.call { callee := Callee.value (Operand.func 13), args := #[Operand.tmp 70], argTypes := #[25] }, type := 4, pos := "law.go:47", after := #[{ on := 2, ground := Ground.data }, { on := 1, ground := Ground.chain }], guard := none }) rfl (fun K hK => ?_) AllReadyH.nil
        rw [if_pos (by kernel_rfl)]
        go_simp
        go_wp2_with (go_at_call 13; refine (RR.out wr1 hb1).mono ?_; rintro e wr2 ⟨rfl, hbn⟩)
        have hb2 := Below.then hb1 hbn
        obtain ⟨a0, a1, a2, a3⟩ := (HA.out.keep hb2).cells
        clear hbn
        refine hK.out _ _ ?hSr4x3 (fun hHeld3 => ?hRr4x3)
        case hSr4x3 => exact ⟨a0, a1, a2, a3⟩
        clear hK K
        try simp only [Act.put, List.setIfInBounds_toArray, List.set_cons_zero, List.set_cons_succ]
        refine wpAnyH_take (i := 4) (oi := { dst := some 72, op := Op.binOp BinOp.neq 4 (Operand.tmp 69) (Operand.tmp 71) 4, type := 4, pos := "law.go:47", after := #[{ on := 1, ground := Ground.data }, { on := 3, ground := Ground.data }], guard := none }) (v := ?gvr4x4) rfl (by kernel_rfl) (by kernel_rfl) (by kernel_rfl) (fun _ _ _ h => h) (Or.inl ⟨by rfl, ?gyr4x4⟩) (by assumption) ?grr4x4
        case gyr4x4 => (intro w hSw; (try dsimp only at hSw); go_simp; try with_reducible rfl)
        try simp only [Act.put, List.setIfInBounds_toArray, List.set_cons_zero, List.set_cons_succ]
        refine wpAnyH_take (i := 5) (oi := { dst := some 73, op := Op.move (Operand.tmp 72), type := 4, pos := "law.go:47", after := #[{ on := 4, ground := Ground.data }, { on := 3, ground := Ground.chain }], guard := none }) (v := ?gvr4x5) rfl (by kernel_rfl) (by kernel_rfl) (by kernel_rfl) (fun _ _ _ h => h) (Or.inl ⟨by rfl, ?gyr4x5⟩) (by assumption) ?grr4x5
        case gyr4x5 => (intro w hSw; (try dsimp only at hSw); go_simp; try with_reducible rfl)
        try simp only [Act.put, List.setIfInBounds_toArray, List.set_cons_zero, List.set_cons_succ]
        refine wpAnyH_ready (rs := [6]) (by kernel_rfl) (by simp) ?_
        refine AllReadyH.cons (o := { dst := some 74, op := Op.call { callee := Callee.value (Operand.func 14), args := #[], argTypes := #[] }, type := 4, pos := "law.go:47", after := #[{ on := 5, ground := Ground.chain }, { on := 5, ground := Ground.guard }], guard := some (5, false) }) rfl (fun K hK => ?_) AllReadyH.nil
        rw [if_pos (by kernel_rfl)]
        go_simp
        go_wp2_with (go_at_call 14; refine (AL.out wr2 hb2).mono ?_; rintro e wr3 ⟨rfl, hbn⟩)
        have hb3 := Below.then hb2 hbn
        obtain ⟨a0, a1, a2, a3⟩ := (HA.out.keep hb3).cells
        clear hbn
        refine hK.out _ _ ?hSr4x6 (fun hHeld6 => ?hRr4x6)
        case hSr4x6 => exact ⟨a0, a1, a2, a3⟩
        clear hK K
        try simp only [Act.put, List.setIfInBounds_toArray, List.set_cons_zero, List.set_cons_succ]
        refine wpAnyH_take (i := 7) (oi := { dst := some 75, op := Op.unOp UnOp.not 4 (Operand.tmp 74), type := 4, pos := "law.go:47", after := #[{ on := 6, ground := Ground.data }, { on := 5, ground := Ground.guard }], guard := some (5, false) }) (v := ?gvr4x7) rfl (by kernel_rfl) (by kernel_rfl) (by kernel_rfl) (fun _ _ _ h => h) (Or.inl ⟨by rfl, ?gyr4x7⟩) (by assumption) ?grr4x7
        case gyr4x7 => (intro w hSw; (try dsimp only at hSw); go_simp; try with_reducible rfl)
        try simp only [Act.put, List.setIfInBounds_toArray, List.set_cons_zero, List.set_cons_succ]
        refine wpAnyH_take (i := 8) (oi := { dst := some 76, op := Op.pick (Operand.tmp 73) (Operand.const (Value.bool true)) (Operand.tmp 75), type := 4, pos := "law.go:47", after := #[{ on := 5, ground := Ground.data }, { on := 7, ground := Ground.data }], guard := none }) (v := ?gvr4x8) rfl (by kernel_rfl) (by kernel_rfl) (by kernel_rfl) (fun _ _ _ h => h) (Or.inl ⟨by rfl, ?gyr4x8⟩) (by assumption) ?grr4x8
        case gyr4x8 => (intro w hSw; (try dsimp only at hSw); go_simp; try with_reducible rfl)
        try simp only [Act.put, List.setIfInBounds_toArray, List.set_cons_zero, List.set_cons_succ]
        refine wpAnyH_done (by kernel_rfl) ?_ _
        replace HB := Lib.hid (Below.then HB.out hb3)
        replace Hb := Lib.hid (Hb.out.keep hb3)
        clear hb1 hb2 hb3 hbA a0 a1 a2 a3 RP RR AL HA hHeld hHeld1 hHeld3 hHeld6
        obtain ⟨xa, xn, xc, xq, xa', xn', xc', xl, hA, hV⟩ := Hb.out.is
        have C0 := rright_v _ bl  wr3 aD aS aZ hV (HE.out.keep HB.out) HRR.out HF.out
        have C := Lib.hid C0
        clear C0
        obtain ⟨a0, a1, a2, a3⟩ := hA.cells
        clear hA hV
        go_wp2_with fail
        refine C.out.mono ?_
        rintro e w308 ⟨rfl, hb1⟩
        replace HB := Lib.hid (Below.then HB.out hb1)
        replace Hb := Lib.hid (Hb.out.keep hb1)
        clear C hb1 a0 a1 a2 a3
        obtain ⟨xa, xn, xc, xq, xa', xn', xc', xl, hA, hV⟩ := Hb.out.is
        have C0 := rup_v _ bl id w308 aD aS aZ hV (HE.out.keep HB.out) HUP.out
        have C := Lib.hid C0
        clear C0
        obtain ⟨a0, a1, a2, a3⟩ := hA.cells
        clear hA hV
        go_wp2_with fail
        refine C.out.mono ?_
        rintro e w309 ⟨rfl, hb1⟩
        replace HB := Lib.hid (Below.then HB.out hb1)
        replace Hb := Lib.hid (Hb.out.keep hb1)
        clear C hb1 a0 a1 a2 a3
        go_upto_region 16 with fail
        rcases HUC.out with hup | ⟨i, hi, hup⟩
        · obtain rfl : up1 = -1 := HUP.out.symm.trans hup
          have e3 := HOH.out.symm.trans (off_none HRR.out hup)
          simp only [Prod.mk.injEq] at e3
          obtain ⟨rfl, rfl⟩ := e3
          clear hup
          obtain ⟨xa, xn, xc, xq, xa', xn', xc', xl, hA, hV⟩ := Hb.out.is
          have C0 := rat_v _ bl d w309 aD aS aZ hV (HE.out.keep HB.out) HAT.out
          have C := Lib.hid C0
          clear C0
          obtain ⟨a0, a1, a2, a3⟩ := hA.cells
          clear hA hV
          go_wp2_with fail
          refine C.out.mono ?_
          rintro e w310 ⟨rfl, hb1⟩
          replace HB := Lib.hid (Below.then HB.out hb1)
          replace Hb := Lib.hid (Hb.out.keep hb1)
          clear C hb1 a0 a1 a2 a3
          rcases HAC.out with hat | ⟨j, hj, hat⟩
          · obtain rfl : at1 = -1 := HAT.out.symm.trans hat
            have e1 := HKF.out.symm.trans (size_none HRR.out hat)
            have e2 := HSG.out.symm.trans (read_none HRR.out hat)
            simp only [Prod.mk.injEq] at e1 e2
            obtain ⟨rfl, rfl⟩ := e1
            obtain ⟨rfl, rfl⟩ := e2
            go_wp2_with fail
            go_ret
            exact ⟨rfl, HB.out⟩
          · obtain rfl : at1 = (j : Int) := HAT.out.symm.trans hat
            have e1 := HKF.out.symm.trans (size_some HRR.out hat hj)
            simp only [Prod.mk.injEq] at e1
            obtain ⟨rfl, rfl⟩ := e1
            obtain ⟨xa, xc, xa', xc', hA, hV⟩ := Hb.out.open
            obtain ⟨lb, lo, rfl, e0, e1⟩ := hV.parts.1.at j (by rw [List.length_map]; exact hj)
            rw [obj_getElem bl.objs j hj] at e0 e1
            have HRG := Lib.hid (fun h => read_range (f := frm) (m := many) HRR.out hat hj h)
            have HRP := Lib.hid (fun (f m : Nat) h => read_part (f := f) (m := m) HRR.out hat hj h)
            obtain ⟨n, hn⟩ : ∃ n, bl.objs.length = n := ⟨_, rfl⟩
            obtain ⟨⟨xx, all⟩, hx⟩ : ∃ x, bl.objs[j] = x := ⟨_, rfl⟩
            have hsz : all.size ≤ 9223372036854775807 := by have := (hV.objs _ (List.getElem_mem hj)).2; rw [hx] at this; unfold maxLen at this; exact this
            rw [hx] at e0 e1 HRG HRP ⊢
            simp only at e0 e1 HRG HRP ⊢
            rw [hn] at hA hj
            obtain ⟨a0, a1, a2, a3⟩ := hA.cells
            clear hA hV hx hn hat
            by_cases hr : frm < 0 ∨ (all.size : Int) < frm ∨ many < 0
            · have e2 := HSG.out.symm.trans (HRG.out hr)
              simp only [Prod.mk.injEq] at e2
              obtain ⟨rfl, rfl⟩ := e2
              have q20 : ((all.size : Int) != (all.size : Int)) = false := bne_self_eq_false _
              by_cases c1 : frm < 0
              · go_wp2_with fail
                go_ret
                exact ⟨rfl, HB.out⟩
              by_cases c2 : (all.size : Int) < frm
              · go_wp2_with fail
                go_ret
                exact ⟨rfl, HB.out⟩
              have c3 : many < 0 := by omega
              go_wp2_with fail
              go_ret
              exact ⟨rfl, HB.out⟩
            · obtain ⟨fn, rfl⟩ : ∃ n : Nat, frm = n := ⟨frm.toNat, by omega⟩
              obtain ⟨mn, rfl⟩ : ∃ n : Nat, many = n := ⟨many.toNat, by omega⟩
              have e2 := HSG.out.symm.trans (HRP.out fn mn (by omega))
              simp only [Prod.mk.injEq] at e2
              obtain ⟨kk, hkk⟩ : ∃ k, min mn (all.size - fn) = k := ⟨_, rfl⟩
              rw [hkk] at e2
              obtain ⟨rest, hrest⟩ : ∃ r, all.extract fn all.size = r := ⟨_, rfl⟩
              have hrs : rest.size = all.size - fn := by rw [← hrest, ByteArray.size_extract]; omega
              rw [hrest] at e2
              obtain ⟨hs2, rfl⟩ := e2
              have q20 : ((all.size : Int) != (all.size : Int)) = false := bne_self_eq_false _
              have q21 : IntKind.i64.wrap ((all.size : Int) - (fn : Int)) = (all.size : Int) - (fn : Int) := by rw [IntKind.wrap_i64]; omega
              have q22 : min (mn : Int) ((all.size : Int) - (fn : Int)) = (kk : Int) := by omega
              have q23 : ¬ ((all.size : Int) < (fn : Int)) := by omega
              have q24 : ¬ ((fn : Int) < 0) := by omega
              have q25 : ¬ ((mn : Int) < 0) := by omega
              have q26 : fn ≤ all.size := by omega
              have q27 : kk ≤ rest.size := by omega
              clear hr HRG HRP
              go_wp2_with fail
              go_ret
              exact ⟨rfl, HB.out⟩
        · obtain rfl : up1 = (i : Int) := HUP.out.symm.trans hup
          have e3 := HOH.out.symm.trans (off_some HRR.out hup hi)
          simp only [Prod.mk.injEq] at e3
          obtain ⟨rfl, rfl⟩ := e3
          obtain ⟨xa, xc, xa', xc', hA, hV⟩ := Hb.out.open
          obtain ⟨ub, uo, rfl, g0, g1⟩ := hV.parts.2.1.at i (by rw [List.length_map]; exact hi)
          rw [up_getElem bl.ups i hi] at g0 g1
          obtain ⟨m, hm⟩ : ∃ n, bl.ups.length = n := ⟨_, rfl⟩
          obtain ⟨⟨ux, us⟩, hx⟩ : ∃ x, bl.ups[i] = x := ⟨_, rfl⟩
          rw [hx] at g0 g1 ⊢
          simp only at g0 g1 ⊢
          rw [hm] at hA hi
          obtain ⟨a0, a1, a2, a3⟩ := hA.cells
          clear hA hV hx hm hup
          have q30 : ((us.size : Int) != (us.size : Int)) = false := bne_self_eq_false _
          go_upto_region 18 with fail
          clear a0 a1 a2 a3 g0 g1
          obtain ⟨xa, xn, xc, xq, xa', xn', xc', xl, hA, hV⟩ := Hb.out.is
          have C0 := rat_v _ bl d w309 aD aS aZ hV (HE.out.keep HB.out) HAT.out
          have C := Lib.hid C0
          clear C0
          obtain ⟨a0, a1, a2, a3⟩ := hA.cells
          clear hA hV
          go_wp2_with fail
          refine C.out.mono ?_
          rintro e w310 ⟨rfl, hb1⟩
          replace HB := Lib.hid (Below.then HB.out hb1)
          replace Hb := Lib.hid (Hb.out.keep hb1)
          clear C hb1 a0 a1 a2 a3
          rcases HAC.out with hat | ⟨j, hj, hat⟩
          · obtain rfl : at1 = -1 := HAT.out.symm.trans hat
            have e1 := HKF.out.symm.trans (size_none HRR.out hat)
            have e2 := HSG.out.symm.trans (read_none HRR.out hat)
            simp only [Prod.mk.injEq] at e1 e2
            obtain ⟨rfl, rfl⟩ := e1
            obtain ⟨rfl, rfl⟩ := e2
            go_wp2_with fail
            go_ret
            exact ⟨rfl, HB.out⟩
          · obtain rfl : at1 = (j : Int) := HAT.out.symm.trans hat
            have e1 := HKF.out.symm.trans (size_some HRR.out hat hj)
            simp only [Prod.mk.injEq] at e1
            obtain ⟨rfl, rfl⟩ := e1
            obtain ⟨xa, xc, xa', xc', hA, hV⟩ := Hb.out.open
            obtain ⟨lb, lo, rfl, e0, e1⟩ := hV.parts.1.at j (by rw [List.length_map]; exact hj)
            rw [obj_getElem bl.objs j hj] at e0 e1
            have HRG := Lib.hid (fun h => read_range (f := frm) (m := many) HRR.out hat hj h)
            have HRP := Lib.hid (fun (f m : Nat) h => read_part (f := f) (m := m) HRR.out hat hj h)
            obtain ⟨n, hn⟩ : ∃ n, bl.objs.length = n := ⟨_, rfl⟩
            obtain ⟨⟨xx, all⟩, hx⟩ : ∃ x, bl.objs[j] = x := ⟨_, rfl⟩
            have hsz : all.size ≤ 9223372036854775807 := by have := (hV.objs _ (List.getElem_mem hj)).2; rw [hx] at this; unfold maxLen at this; exact this
            rw [hx] at e0 e1 HRG HRP ⊢
            simp only at e0 e1 HRG HRP ⊢
            rw [hn] at hA hj
            obtain ⟨a0, a1, a2, a3⟩ := hA.cells
            clear hA hV hx hn hat
            by_cases hr : frm < 0 ∨ (all.size : Int) < frm ∨ many < 0
            · have e2 := HSG.out.symm.trans (HRG.out hr)
              simp only [Prod.mk.injEq] at e2
              obtain ⟨rfl, rfl⟩ := e2
              have q20 : ((all.size : Int) != (all.size : Int)) = false := bne_self_eq_false _
              by_cases c1 : frm < 0
              · go_wp2_with fail
                go_ret
                exact ⟨rfl, HB.out⟩
              by_cases c2 : (all.size : Int) < frm
              · go_wp2_with fail
                go_ret
                exact ⟨rfl, HB.out⟩
              have c3 : many < 0 := by omega
              go_wp2_with fail
              go_ret
              exact ⟨rfl, HB.out⟩
            · obtain ⟨fn, rfl⟩ : ∃ n : Nat, frm = n := ⟨frm.toNat, by omega⟩
              obtain ⟨mn, rfl⟩ : ∃ n : Nat, many = n := ⟨many.toNat, by omega⟩
              have e2 := HSG.out.symm.trans (HRP.out fn mn (by omega))
              simp only [Prod.mk.injEq] at e2
              obtain ⟨kk, hkk⟩ : ∃ k, min mn (all.size - fn) = k := ⟨_, rfl⟩
              rw [hkk] at e2
              obtain ⟨rest, hrest⟩ : ∃ r, all.extract fn all.size = r := ⟨_, rfl⟩
              have hrs : rest.size = all.size - fn := by rw [← hrest, ByteArray.size_extract]; omega
              rw [hrest] at e2
              obtain ⟨hs2, rfl⟩ := e2
              have q20 : ((all.size : Int) != (all.size : Int)) = false := bne_self_eq_false _
              have q21 : IntKind.i64.wrap ((all.size : Int) - (fn : Int)) = (all.size : Int) - (fn : Int) := by rw [IntKind.wrap_i64]; omega
              have q22 : min (mn : Int) ((all.size : Int) - (fn : Int)) = (kk : Int) := by omega
              have q23 : ¬ ((all.size : Int) < (fn : Int)) := by omega
              have q24 : ¬ ((fn : Int) < 0) := by omega
              have q25 : ¬ ((mn : Int) < 0) := by omega
              have q26 : fn ≤ all.size := by omega
              have q27 : kk ≤ rest.size := by omega
              clear hr HRG HRP
              go_wp2_with fail
              go_ret
              exact ⟨rfl, HB.out⟩
    · cases r with
      | false =>
        obtain ⟨xa, xn, xc, xq, xa', xn', xc', xl, hA, hV⟩ := Hb.out.is
        have RP := Lib.hid (fun w' (hb : Below w307.heap.size w307 w') => pright_v _ bl w' aD aS aZ (hV.keep hb) (HE.out.keep (Below.then HB.out hb)) HRR.out)
        have RR := Lib.hid (fun w' (hb : Below w307.heap.size w307 w') => rright_v _ bl w' aD aS aZ (hV.keep hb) (HE.out.keep (Below.then HB.out hb)) HRR.out HF.out)
        have AL := Lib.hid (fun w' (hb : Below w307.heap.size w307 w') => alive_b w' aD aS aZ (HE.out.keep (Below.then HB.out hb)))
        have HA := Lib.hid hA
        obtain ⟨a0, a1, a2, a3⟩ := hA.cells
        have hbA := Below.refl w307.heap.size w307
        clear hA hV
        go_upto_region 11 with fail
        refine wp_region_held_drew (S := fun w' => w'.cell? ⟨Bb, 0, none⟩ = some (.slice xa xn xc) ∧ w'.cell? ⟨Bb, 1, none⟩ = some (.int .i64 xq) ∧ w'.cell? ⟨Bb, 2, none⟩ = some (.slice xa' xn' xc') ∧ w'.cell? ⟨Bb, 3, none⟩ = some (.int .i64 xl)) (by kernel_rfl) ?hSr5x (fun hHeld => ?hRr5x)
        case hSr5x => exact ⟨a0, a1, a2, a3⟩
        refine wpAnyH_take (i := 0) (oi := { dst := some 68, op := Op.load 25 (Operand.tmp 6), type := 25, pos := "law.go:47", after := #[], guard := none }) (v := ?gvr5x0) rfl (by kernel_rfl) (by kernel_rfl) (by kernel_rfl) (fun _ _ _ h => h) (Or.inl ⟨by rfl, ?gyr5x0⟩) (by assumption) ?grr5x0
        case gyr5x0 => (intro w hSw; (try dsimp only at hSw); go_simp; try with_reducible rfl)
        try simp only [Act.put, List.setIfInBounds_toArray, List.set_cons_zero, List.set_cons_succ]
        refine wpAnyH_take (i := 2) (oi := { dst := some 70, op := Op.load 25 (Operand.tmp 6), type := 25, pos := "law.go:47", after := #[], guard := none }) (v := ?gvr5x2) rfl (by kernel_rfl) (by kernel_rfl) (by kernel_rfl) (fun _ _ _ h => h) (Or.inl ⟨by rfl, ?gyr5x2⟩) (by assumption) ?grr5x2
        case gyr5x2 => (intro w hSw; (try dsimp only at hSw); go_simp; try with_reducible rfl)
        try simp only [Act.put, List.setIfInBounds_toArray, List.set_cons_zero, List.set_cons_succ]
        refine wpAnyH_ready (rs := [1]) (by kernel_rfl) (by simp) ?_
        refine AllReadyH.cons (o := { dst := some 69, op := Op.call { callee := Callee.value (Operand.func 12), args := #[Operand.tmp 68], argTypes := #[25] }, type := 4, pos := "law.go:47", after := #[{ on := 0, ground := Ground.data }], guard := none }) rfl (fun K hK => ?_) AllReadyH.nil
        rw [if_pos (by kernel_rfl)]
        go_simp
        go_wp2_with (go_at_call 12; refine (RP.out w307.drew hbA.drew).mono ?_; rintro e wr1 ⟨rfl, hbn⟩)
        have hb1 := Below.then hbA.drew hbn
        obtain ⟨a0, a1, a2, a3⟩ := (HA.out.keep hb1).cells
        clear hbn
        refine hK.out _ _ ?hSr5x1 (fun hHeld1 => ?hRr5x1)
        case hSr5x1 => exact ⟨a0, a1, a2, a3⟩
        clear hK K
        try simp only [Act.put, List.setIfInBounds_toArray, List.set_cons_zero, List.set_cons_succ]
        refine wpAnyH_ready (rs := [3]) (by kernel_rfl) (by simp) ?_
        refine AllReadyH.cons (o := { dst := some 71, op := Op.call { callee := Callee.value (Operand.func 13), args := #[Operand.tmp 70], argTypes := #[25] }, type := 4, pos := "law.go:47", after := #[{ on := 2, ground := Ground.data }, { on := 1, ground := Ground.chain }], guard := none }) rfl (fun K hK => ?_) AllReadyH.nil
        rw [if_pos (by kernel_rfl)]
        go_simp
        go_wp2_with (go_at_call 13; refine (RR.out wr1 hb1).mono ?_; rintro e wr2 ⟨rfl, hbn⟩)
        have hb2 := Below.then hb1 hbn
        obtain ⟨a0, a1, a2, a3⟩ := (HA.out.keep hb2).cells
        clear hbn
        refine hK.out _ _ ?hSr5x3 (fun hHeld3 => ?hRr5x3)
        case hSr5x3 => exact ⟨a0, a1, a2, a3⟩
        clear hK K
        try simp only [Act.put, List.setIfInBounds_toArray, List.set_cons_zero, List.set_cons_succ]
        refine wpAnyH_take (i := 4) (oi := { dst := some 72, op := Op.binOp BinOp.neq 4 (Operand.tmp 69) (Operand.tmp 71) 4, type := 4, pos := "law.go:47", after := #[{ on := 1, ground := Ground.data }, { on := 3, ground := Ground.data }], guard := none }) (v := ?gvr5x4) rfl (by kernel_rfl) (by kernel_rfl) (by kernel_rfl) (fun _ _ _ h => h) (Or.inl ⟨by rfl, ?gyr5x4⟩) (by assumption) ?grr5x4
        case gyr5x4 => (intro w hSw; (try dsimp only at hSw); go_simp; try with_reducible rfl)
        try simp only [Act.put, List.setIfInBounds_toArray, List.set_cons_zero, List.set_cons_succ]
        refine wpAnyH_take (i := 5) (oi := { dst := some 73, op := Op.move (Operand.tmp 72), type := 4, pos := "law.go:47", after := #[{ on := 4, ground := Ground.data }, { on := 3, ground := Ground.chain }], guard := none }) (v := ?gvr5x5) rfl (by kernel_rfl) (by kernel_rfl) (by kernel_rfl) (fun _ _ _ h => h) (Or.inl ⟨by rfl, ?gyr5x5⟩) (by assumption) ?grr5x5
        case gyr5x5 => (intro w hSw; (try dsimp only at hSw); go_simp; try with_reducible rfl)
        try simp only [Act.put, List.setIfInBounds_toArray, List.set_cons_zero, List.set_cons_succ]
        refine wpAnyH_ready (rs := [6]) (by kernel_rfl) (by simp) ?_
        refine AllReadyH.cons (o := { dst := some 74, op := Op.call { callee := Callee.value (Operand.func 14), args := #[], argTypes := #[] }, type := 4, pos := "law.go:47", after := #[{ on := 5, ground := Ground.chain }, { on := 5, ground := Ground.guard }], guard := some (5, false) }) rfl (fun K hK => ?_) AllReadyH.nil
        rw [if_pos (by kernel_rfl)]
        go_simp
        go_wp2_with (go_at_call 14; refine (AL.out wr2 hb2).mono ?_; rintro e wr3 ⟨rfl, hbn⟩)
        have hb3 := Below.then hb2 hbn
        obtain ⟨a0, a1, a2, a3⟩ := (HA.out.keep hb3).cells
        clear hbn
        refine hK.out _ _ ?hSr5x6 (fun hHeld6 => ?hRr5x6)
        case hSr5x6 => exact ⟨a0, a1, a2, a3⟩
        clear hK K
        try simp only [Act.put, List.setIfInBounds_toArray, List.set_cons_zero, List.set_cons_succ]
        refine wpAnyH_take (i := 7) (oi := { dst := some 75, op := Op.unOp UnOp.not 4 (Operand.tmp 74), type := 4, pos := "law.go:47", after := #[{ on := 6, ground := Ground.data }, { on := 5, ground := Ground.guard }], guard := some (5, false) }) (v := ?gvr5x7) rfl (by kernel_rfl) (by kernel_rfl) (by kernel_rfl) (fun _ _ _ h => h) (Or.inl ⟨by rfl, ?gyr5x7⟩) (by assumption) ?grr5x7
        case gyr5x7 => (intro w hSw; (try dsimp only at hSw); go_simp; try with_reducible rfl)
        try simp only [Act.put, List.setIfInBounds_toArray, List.set_cons_zero, List.set_cons_succ]
        refine wpAnyH_take (i := 8) (oi := { dst := some 76, op := Op.pick (Operand.tmp 73) (Operand.const (Value.bool true)) (Operand.tmp 75), type := 4, pos := "law.go:47", after := #[{ on := 5, ground := Ground.data }, { on := 7, ground := Ground.data }], guard := none }) (v := ?gvr5x8) rfl (by kernel_rfl) (by kernel_rfl) (by kernel_rfl) (fun _ _ _ h => h) (Or.inl ⟨by rfl, ?gyr5x8⟩) (by assumption) ?grr5x8
        case gyr5x8 => (intro w hSw; (try dsimp only at hSw); go_simp; try with_reducible rfl)
        try simp only [Act.put, List.setIfInBounds_toArray, List.set_cons_zero, List.set_cons_succ]
        refine wpAnyH_done (by kernel_rfl) ?_ _
        replace HB := Lib.hid (Below.then HB.out hb3)
        replace Hb := Lib.hid (Hb.out.keep hb3)
        clear hb1 hb2 hb3 hbA a0 a1 a2 a3 RP RR AL HA hHeld hHeld1 hHeld3 hHeld6
        obtain ⟨xa, xn, xc, xq, xa', xn', xc', xl, hA, hV⟩ := Hb.out.is
        have C0 := rright_v _ bl  wr3 aD aS aZ hV (HE.out.keep HB.out) HRR.out HF.out
        have C := Lib.hid C0
        clear C0
        obtain ⟨a0, a1, a2, a3⟩ := hA.cells
        clear hA hV
        go_wp2_with fail
        refine C.out.mono ?_
        rintro e w308 ⟨rfl, hb1⟩
        replace HB := Lib.hid (Below.then HB.out hb1)
        replace Hb := Lib.hid (Hb.out.keep hb1)
        clear C hb1 a0 a1 a2 a3
        have e1 := HKF.out.symm.trans (size_no HRR.out)
        have e2 := HSG.out.symm.trans (read_no HRR.out)
        have e3 := HOH.out.symm.trans (off_no HRR.out)
        simp only [Prod.mk.injEq] at e1 e2 e3
        obtain ⟨rfl, rfl⟩ := e1
        obtain ⟨rfl, rfl⟩ := e2
        obtain ⟨rfl, rfl⟩ := e3
        go_wp2_with fail
        go_ret
        exact ⟨rfl, HB.out⟩
      | true =>
        obtain ⟨xa, xn, xc, xq, xa', xn', xc', xl, hA, hV⟩ := Hb.out.is
        have RP := Lib.hid (fun w' (hb : Below w307.heap.size w307 w') => pright_v _ bl w' aD aS aZ (hV.keep hb) (HE.out.keep (Below.then HB.out hb)) HRR.out)
        have RR := Lib.hid (fun w' (hb : Below w307.heap.size w307 w') => rright_v _ bl w' aD aS aZ (hV.keep hb) (HE.out.keep (Below.then HB.out hb)) HRR.out HF.out)
        have AL := Lib.hid (fun w' (hb : Below w307.heap.size w307 w') => alive_b w' aD aS aZ (HE.out.keep (Below.then HB.out hb)))
        have HA := Lib.hid hA
        obtain ⟨a0, a1, a2, a3⟩ := hA.cells
        have hbA := Below.refl w307.heap.size w307
        clear hA hV
        go_upto_region 11 with fail
        refine wp_region_held_drew (S := fun w' => w'.cell? ⟨Bb, 0, none⟩ = some (.slice xa xn xc) ∧ w'.cell? ⟨Bb, 1, none⟩ = some (.int .i64 xq) ∧ w'.cell? ⟨Bb, 2, none⟩ = some (.slice xa' xn' xc') ∧ w'.cell? ⟨Bb, 3, none⟩ = some (.int .i64 xl)) (by kernel_rfl) ?hSr6x (fun hHeld => ?hRr6x)
        case hSr6x => exact ⟨a0, a1, a2, a3⟩
        refine wpAnyH_take (i := 0) (oi := { dst := some 68, op := Op.load 25 (Operand.tmp 6), type := 25, pos := "law.go:47", after := #[], guard := none }) (v := ?gvr6x0) rfl (by kernel_rfl) (by kernel_rfl) (by kernel_rfl) (fun _ _ _ h => h) (Or.inl ⟨by rfl, ?gyr6x0⟩) (by assumption) ?grr6x0
        case gyr6x0 => (intro w hSw; (try dsimp only at hSw); go_simp; try with_reducible rfl)
        try simp only [Act.put, List.setIfInBounds_toArray, List.set_cons_zero, List.set_cons_succ]
        refine wpAnyH_take (i := 2) (oi := { dst := some 70, op := Op.load 25 (Operand.tmp 6), type := 25, pos := "law.go:47", after := #[], guard := none }) (v := ?gvr6x2) rfl (by kernel_rfl) (by kernel_rfl) (by kernel_rfl) (fun _ _ _ h => h) (Or.inl ⟨by rfl, ?gyr6x2⟩) (by assumption) ?grr6x2
        case gyr6x2 => (intro w hSw; (try dsimp only at hSw); go_simp; try with_reducible rfl)
        try simp only [Act.put, List.setIfInBounds_toArray, List.set_cons_zero, List.set_cons_succ]
        refine wpAnyH_ready (rs := [1]) (by kernel_rfl) (by simp) ?_
        refine AllReadyH.cons (o := { dst := some 69, op := Op.call { callee := Callee.value (Operand.func 12), args := #[Operand.tmp 68], argTypes := #[25] }, type := 4, pos := "law.go:47", after := #[{ on := 0, ground := Ground.data }], guard := none }) rfl (fun K hK => ?_) AllReadyH.nil
        rw [if_pos (by kernel_rfl)]
        go_simp
        go_wp2_with (go_at_call 12; refine (RP.out w307.drew hbA.drew).mono ?_; rintro e wr1 ⟨rfl, hbn⟩)
        have hb1 := Below.then hbA.drew hbn
        obtain ⟨a0, a1, a2, a3⟩ := (HA.out.keep hb1).cells
        clear hbn
        refine hK.out _ _ ?hSr6x1 (fun hHeld1 => ?hRr6x1)
        case hSr6x1 => exact ⟨a0, a1, a2, a3⟩
        clear hK K
        try simp only [Act.put, List.setIfInBounds_toArray, List.set_cons_zero, List.set_cons_succ]
        refine wpAnyH_ready (rs := [3]) (by kernel_rfl) (by simp) ?_
        refine AllReadyH.cons (o := { dst := some 71, op := Op.call { callee := Callee.value (Operand.func 13), args := #[Operand.tmp 70], argTypes := #[25] }, type := 4, pos := "law.go:47", after := #[{ on := 2, ground := Ground.data }, { on := 1, ground := Ground.chain }], guard := none }) rfl (fun K hK => ?_) AllReadyH.nil
        rw [if_pos (by kernel_rfl)]
        go_simp
        go_wp2_with (go_at_call 13; refine (RR.out wr1 hb1).mono ?_; rintro e wr2 ⟨rfl, hbn⟩)
        have hb2 := Below.then hb1 hbn
        obtain ⟨a0, a1, a2, a3⟩ := (HA.out.keep hb2).cells
        clear hbn
        refine hK.out _ _ ?hSr6x3 (fun hHeld3 => ?hRr6x3)
        case hSr6x3 => exact ⟨a0, a1, a2, a3⟩
        clear hK K
        try simp only [Act.put, List.setIfInBounds_toArray, List.set_cons_zero, List.set_cons_succ]
        refine wpAnyH_take (i := 4) (oi := { dst := some 72, op := Op.binOp BinOp.neq 4 (Operand.tmp 69) (Operand.tmp 71) 4, type := 4, pos := "law.go:47", after := #[{ on := 1, ground := Ground.data }, { on := 3, ground := Ground.data }], guard := none }) (v := ?gvr6x4) rfl (by kernel_rfl) (by kernel_rfl) (by kernel_rfl) (fun _ _ _ h => h) (Or.inl ⟨by rfl, ?gyr6x4⟩) (by assumption) ?grr6x4
        case gyr6x4 => (intro w hSw; (try dsimp only at hSw); go_simp; try with_reducible rfl)
        try simp only [Act.put, List.setIfInBounds_toArray, List.set_cons_zero, List.set_cons_succ]
        refine wpAnyH_take (i := 5) (oi := { dst := some 73, op := Op.move (Operand.tmp 72), type := 4, pos := "law.go:47", after := #[{ on := 4, ground := Ground.data }, { on := 3, ground := Ground.chain }], guard := none }) (v := ?gvr6x5) rfl (by kernel_rfl) (by kernel_rfl) (by kernel_rfl) (fun _ _ _ h => h) (Or.inl ⟨by rfl, ?gyr6x5⟩) (by assumption) ?grr6x5
        case gyr6x5 => (intro w hSw; (try dsimp only at hSw); go_simp; try with_reducible rfl)
        try simp only [Act.put, List.setIfInBounds_toArray, List.set_cons_zero, List.set_cons_succ]
        refine wpAnyH_ready (rs := [6]) (by kernel_rfl) (by simp) ?_
        refine AllReadyH.cons (o := { dst := some 74, op := Op.call { callee := Callee.value (Operand.func 14), args := #[], argTypes := #[] }, type := 4, pos := "law.go:47", after := #[{ on := 5, ground := Ground.chain }, { on := 5, ground := Ground.guard }], guard := some (5, false) }) rfl (fun K hK => ?_) AllReadyH.nil
        rw [if_pos (by kernel_rfl)]
        go_simp
        go_wp2_with (go_at_call 14; refine (AL.out wr2 hb2).mono ?_; rintro e wr3 ⟨rfl, hbn⟩)
        have hb3 := Below.then hb2 hbn
        obtain ⟨a0, a1, a2, a3⟩ := (HA.out.keep hb3).cells
        clear hbn
        refine hK.out _ _ ?hSr6x6 (fun hHeld6 => ?hRr6x6)
        case hSr6x6 => exact ⟨a0, a1, a2, a3⟩
        clear hK K
        try simp only [Act.put, List.setIfInBounds_toArray, List.set_cons_zero, List.set_cons_succ]
        refine wpAnyH_take (i := 7) (oi := { dst := some 75, op := Op.unOp UnOp.not 4 (Operand.tmp 74), type := 4, pos := "law.go:47", after := #[{ on := 6, ground := Ground.data }, { on := 5, ground := Ground.guard }], guard := some (5, false) }) (v := ?gvr6x7) rfl (by kernel_rfl) (by kernel_rfl) (by kernel_rfl) (fun _ _ _ h => h) (Or.inl ⟨by rfl, ?gyr6x7⟩) (by assumption) ?grr6x7
        case gyr6x7 => (intro w hSw; (try dsimp only at hSw); go_simp; try with_reducible rfl)
        try simp only [Act.put, List.setIfInBounds_toArray, List.set_cons_zero, List.set_cons_succ]
        refine wpAnyH_take (i := 8) (oi := { dst := some 76, op := Op.pick (Operand.tmp 73) (Operand.const (Value.bool true)) (Operand.tmp 75), type := 4, pos := "law.go:47", after := #[{ on := 5, ground := Ground.data }, { on := 7, ground := Ground.data }], guard := none }) (v := ?gvr6x8) rfl (by kernel_rfl) (by kernel_rfl) (by kernel_rfl) (fun _ _ _ h => h) (Or.inl ⟨by rfl, ?gyr6x8⟩) (by assumption) ?grr6x8
        case gyr6x8 => (intro w hSw; (try dsimp only at hSw); go_simp; try with_reducible rfl)
        try simp only [Act.put, List.setIfInBounds_toArray, List.set_cons_zero, List.set_cons_succ]
        refine wpAnyH_done (by kernel_rfl) ?_ _
        replace HB := Lib.hid (Below.then HB.out hb3)
        replace Hb := Lib.hid (Hb.out.keep hb3)
        clear hb1 hb2 hb3 hbA a0 a1 a2 a3 RP RR AL HA hHeld hHeld1 hHeld3 hHeld6
        obtain ⟨xa, xn, xc, xq, xa', xn', xc', xl, hA, hV⟩ := Hb.out.is
        have C0 := rright_v _ bl  wr3 aD aS aZ hV (HE.out.keep HB.out) HRR.out HF.out
        have C := Lib.hid C0
        clear C0
        obtain ⟨a0, a1, a2, a3⟩ := hA.cells
        clear hA hV
        go_wp2_with fail
        refine C.out.mono ?_
        rintro e w308 ⟨rfl, hb1⟩
        replace HB := Lib.hid (Below.then HB.out hb1)
        replace Hb := Lib.hid (Hb.out.keep hb1)
        clear C hb1 a0 a1 a2 a3
        obtain ⟨xa, xn, xc, xq, xa', xn', xc', xl, hA, hV⟩ := Hb.out.is
        have C0 := rup_v _ bl id w308 aD aS aZ hV (HE.out.keep HB.out) HUP.out
        have C := Lib.hid C0
        clear C0
        obtain ⟨a0, a1, a2, a3⟩ := hA.cells
        clear hA hV
        go_wp2_with fail
        refine C.out.mono ?_
        rintro e w309 ⟨rfl, hb1⟩
        replace HB := Lib.hid (Below.then HB.out hb1)
        replace Hb := Lib.hid (Hb.out.keep hb1)
        clear C hb1 a0 a1 a2 a3
        go_upto_region 16 with fail
        rcases HUC.out with hup | ⟨i, hi, hup⟩
        · obtain rfl : up1 = -1 := HUP.out.symm.trans hup
          have e3 := HOH.out.symm.trans (off_none HRR.out hup)
          simp only [Prod.mk.injEq] at e3
          obtain ⟨rfl, rfl⟩ := e3
          clear hup
          obtain ⟨xa, xn, xc, xq, xa', xn', xc', xl, hA, hV⟩ := Hb.out.is
          have C0 := rat_v _ bl d w309 aD aS aZ hV (HE.out.keep HB.out) HAT.out
          have C := Lib.hid C0
          clear C0
          obtain ⟨a0, a1, a2, a3⟩ := hA.cells
          clear hA hV
          go_wp2_with fail
          refine C.out.mono ?_
          rintro e w310 ⟨rfl, hb1⟩
          replace HB := Lib.hid (Below.then HB.out hb1)
          replace Hb := Lib.hid (Hb.out.keep hb1)
          clear C hb1 a0 a1 a2 a3
          rcases HAC.out with hat | ⟨j, hj, hat⟩
          · obtain rfl : at1 = -1 := HAT.out.symm.trans hat
            have e1 := HKF.out.symm.trans (size_none HRR.out hat)
            have e2 := HSG.out.symm.trans (read_none HRR.out hat)
            simp only [Prod.mk.injEq] at e1 e2
            obtain ⟨rfl, rfl⟩ := e1
            obtain ⟨rfl, rfl⟩ := e2
            go_wp2_with fail
            go_ret
            exact ⟨rfl, HB.out⟩
          · obtain rfl : at1 = (j : Int) := HAT.out.symm.trans hat
            have e1 := HKF.out.symm.trans (size_some HRR.out hat hj)
            simp only [Prod.mk.injEq] at e1
            obtain ⟨rfl, rfl⟩ := e1
            obtain ⟨xa, xc, xa', xc', hA, hV⟩ := Hb.out.open
            obtain ⟨lb, lo, rfl, e0, e1⟩ := hV.parts.1.at j (by rw [List.length_map]; exact hj)
            rw [obj_getElem bl.objs j hj] at e0 e1
            have HRG := Lib.hid (fun h => read_range (f := frm) (m := many) HRR.out hat hj h)
            have HRP := Lib.hid (fun (f m : Nat) h => read_part (f := f) (m := m) HRR.out hat hj h)
            obtain ⟨n, hn⟩ : ∃ n, bl.objs.length = n := ⟨_, rfl⟩
            obtain ⟨⟨xx, all⟩, hx⟩ : ∃ x, bl.objs[j] = x := ⟨_, rfl⟩
            have hsz : all.size ≤ 9223372036854775807 := by have := (hV.objs _ (List.getElem_mem hj)).2; rw [hx] at this; unfold maxLen at this; exact this
            rw [hx] at e0 e1 HRG HRP ⊢
            simp only at e0 e1 HRG HRP ⊢
            rw [hn] at hA hj
            obtain ⟨a0, a1, a2, a3⟩ := hA.cells
            clear hA hV hx hn hat
            by_cases hr : frm < 0 ∨ (all.size : Int) < frm ∨ many < 0
            · have e2 := HSG.out.symm.trans (HRG.out hr)
              simp only [Prod.mk.injEq] at e2
              obtain ⟨rfl, rfl⟩ := e2
              have q20 : ((all.size : Int) != (all.size : Int)) = false := bne_self_eq_false _
              by_cases c1 : frm < 0
              · go_wp2_with fail
                go_ret
                exact ⟨rfl, HB.out⟩
              by_cases c2 : (all.size : Int) < frm
              · go_wp2_with fail
                go_ret
                exact ⟨rfl, HB.out⟩
              have c3 : many < 0 := by omega
              go_wp2_with fail
              go_ret
              exact ⟨rfl, HB.out⟩
            · obtain ⟨fn, rfl⟩ : ∃ n : Nat, frm = n := ⟨frm.toNat, by omega⟩
              obtain ⟨mn, rfl⟩ : ∃ n : Nat, many = n := ⟨many.toNat, by omega⟩
              have e2 := HSG.out.symm.trans (HRP.out fn mn (by omega))
              simp only [Prod.mk.injEq] at e2
              obtain ⟨kk, hkk⟩ : ∃ k, min mn (all.size - fn) = k := ⟨_, rfl⟩
              rw [hkk] at e2
              obtain ⟨rest, hrest⟩ : ∃ r, all.extract fn all.size = r := ⟨_, rfl⟩
              have hrs : rest.size = all.size - fn := by rw [← hrest, ByteArray.size_extract]; omega
              rw [hrest] at e2
              obtain ⟨hs2, rfl⟩ := e2
              have q20 : ((all.size : Int) != (all.size : Int)) = false := bne_self_eq_false _
              have q21 : IntKind.i64.wrap ((all.size : Int) - (fn : Int)) = (all.size : Int) - (fn : Int) := by rw [IntKind.wrap_i64]; omega
              have q22 : min (mn : Int) ((all.size : Int) - (fn : Int)) = (kk : Int) := by omega
              have q23 : ¬ ((all.size : Int) < (fn : Int)) := by omega
              have q24 : ¬ ((fn : Int) < 0) := by omega
              have q25 : ¬ ((mn : Int) < 0) := by omega
              have q26 : fn ≤ all.size := by omega
              have q27 : kk ≤ rest.size := by omega
              clear hr HRG HRP
              go_wp2_with fail
              go_ret
              exact ⟨rfl, HB.out⟩
        · obtain rfl : up1 = (i : Int) := HUP.out.symm.trans hup
          have e3 := HOH.out.symm.trans (off_some HRR.out hup hi)
          simp only [Prod.mk.injEq] at e3
          obtain ⟨rfl, rfl⟩ := e3
          obtain ⟨xa, xc, xa', xc', hA, hV⟩ := Hb.out.open
          obtain ⟨ub, uo, rfl, g0, g1⟩ := hV.parts.2.1.at i (by rw [List.length_map]; exact hi)
          rw [up_getElem bl.ups i hi] at g0 g1
          obtain ⟨m, hm⟩ : ∃ n, bl.ups.length = n := ⟨_, rfl⟩
          obtain ⟨⟨ux, us⟩, hx⟩ : ∃ x, bl.ups[i] = x := ⟨_, rfl⟩
          rw [hx] at g0 g1 ⊢
          simp only at g0 g1 ⊢
          rw [hm] at hA hi
          obtain ⟨a0, a1, a2, a3⟩ := hA.cells
          clear hA hV hx hm hup
          have q30 : ((us.size : Int) != (us.size : Int)) = false := bne_self_eq_false _
          go_upto_region 18 with fail
          clear a0 a1 a2 a3 g0 g1
          obtain ⟨xa, xn, xc, xq, xa', xn', xc', xl, hA, hV⟩ := Hb.out.is
          have C0 := rat_v _ bl d w309 aD aS aZ hV (HE.out.keep HB.out) HAT.out
          have C := Lib.hid C0
          clear C0
          obtain ⟨a0, a1, a2, a3⟩ := hA.cells
          clear hA hV
          go_wp2_with fail
          refine C.out.mono ?_
          rintro e w310 ⟨rfl, hb1⟩
          replace HB := Lib.hid (Below.then HB.out hb1)
          replace Hb := Lib.hid (Hb.out.keep hb1)
          clear C hb1 a0 a1 a2 a3
          rcases HAC.out with hat | ⟨j, hj, hat⟩
          · obtain rfl : at1 = -1 := HAT.out.symm.trans hat
            have e1 := HKF.out.symm.trans (size_none HRR.out hat)
            have e2 := HSG.out.symm.trans (read_none HRR.out hat)
            simp only [Prod.mk.injEq] at e1 e2
            obtain ⟨rfl, rfl⟩ := e1
            obtain ⟨rfl, rfl⟩ := e2
            go_wp2_with fail
            go_ret
            exact ⟨rfl, HB.out⟩
          · obtain rfl : at1 = (j : Int) := HAT.out.symm.trans hat
            have e1 := HKF.out.symm.trans (size_some HRR.out hat hj)
            simp only [Prod.mk.injEq] at e1
            obtain ⟨rfl, rfl⟩ := e1
            obtain ⟨xa, xc, xa', xc', hA, hV⟩ := Hb.out.open
            obtain ⟨lb, lo, rfl, e0, e1⟩ := hV.parts.1.at j (by rw [List.length_map]; exact hj)
            rw [obj_getElem bl.objs j hj] at e0 e1
            have HRG := Lib.hid (fun h => read_range (f := frm) (m := many) HRR.out hat hj h)
            have HRP := Lib.hid (fun (f m : Nat) h => read_part (f := f) (m := m) HRR.out hat hj h)
            obtain ⟨n, hn⟩ : ∃ n, bl.objs.length = n := ⟨_, rfl⟩
            obtain ⟨⟨xx, all⟩, hx⟩ : ∃ x, bl.objs[j] = x := ⟨_, rfl⟩
            have hsz : all.size ≤ 9223372036854775807 := by have := (hV.objs _ (List.getElem_mem hj)).2; rw [hx] at this; unfold maxLen at this; exact this
            rw [hx] at e0 e1 HRG HRP ⊢
            simp only at e0 e1 HRG HRP ⊢
            rw [hn] at hA hj
            obtain ⟨a0, a1, a2, a3⟩ := hA.cells
            clear hA hV hx hn hat
            by_cases hr : frm < 0 ∨ (all.size : Int) < frm ∨ many < 0
            · have e2 := HSG.out.symm.trans (HRG.out hr)
              simp only [Prod.mk.injEq] at e2
              obtain ⟨rfl, rfl⟩ := e2
              have q20 : ((all.size : Int) != (all.size : Int)) = false := bne_self_eq_false _
              by_cases c1 : frm < 0
              · go_wp2_with fail
                go_ret
                exact ⟨rfl, HB.out⟩
              by_cases c2 : (all.size : Int) < frm
              · go_wp2_with fail
                go_ret
                exact ⟨rfl, HB.out⟩
              have c3 : many < 0 := by omega
              go_wp2_with fail
              go_ret
              exact ⟨rfl, HB.out⟩
            · obtain ⟨fn, rfl⟩ : ∃ n : Nat, frm = n := ⟨frm.toNat, by omega⟩
              obtain ⟨mn, rfl⟩ : ∃ n : Nat, many = n := ⟨many.toNat, by omega⟩
              have e2 := HSG.out.symm.trans (HRP.out fn mn (by omega))
              simp only [Prod.mk.injEq] at e2
              obtain ⟨kk, hkk⟩ : ∃ k, min mn (all.size - fn) = k := ⟨_, rfl⟩
              rw [hkk] at e2
              obtain ⟨rest, hrest⟩ : ∃ r, all.extract fn all.size = r := ⟨_, rfl⟩
              have hrs : rest.size = all.size - fn := by rw [← hrest, ByteArray.size_extract]; omega
              rw [hrest] at e2
              obtain ⟨hs2, rfl⟩ := e2
              have q20 : ((all.size : Int) != (all.size : Int)) = false := bne_self_eq_false _
              have q21 : IntKind.i64.wrap ((all.size : Int) - (fn : Int)) = (all.size : Int) - (fn : Int) := by rw [IntKind.wrap_i64]; omega
              have q22 : min (mn : Int) ((all.size : Int) - (fn : Int)) = (kk : Int) := by omega
              have q23 : ¬ ((all.size : Int) < (fn : Int)) := by omega
              have q24 : ¬ ((fn : Int) < 0) := by omega
              have q25 : ¬ ((mn : Int) < 0) := by omega
              have q26 : fn ≤ all.size := by omega
              have q27 : kk ≤ rest.size := by omega
              clear hr HRG HRP
              go_wp2_with fail
              go_ret
              exact ⟨rfl, HB.out⟩
end Go.Proofs.YtodjhmphneoifaaGreatDoor
