/-
  BlobQuota of the laws, by a contract: it answers true. Conditions: the digest's tables and octet's errors lie where they were laid.
-/
import Derived.Test.YtodjhmphneoifaaDoorZLaw1
import Derived.Lib.MinMax
namespace Go.Proofs.YtodjhmphneoifaaDoor
open Go.RowKit Go.WideShapes

def qB0 (q : Int) : Blb := ⟨[], q, [], 0⟩
def qB1 (q : Int) (s : ByteArray) : Blb := ⟨[], q, [(1, s)], 1⟩
def qX (q : Int) (s : ByteArray) : Blb := ⟨[(ofB s, s)], q, [], 1⟩
def qY (q : Int) (s t : ByteArray) : Blb := ⟨[(ofB s, s)], q, [(2, t)], 2⟩
def qZ (q : Int) (s : ByteArray) : Blb := ⟨[(ofB s, s)], q, [], 2⟩
theorem empty_app' (s : ByteArray) : (⟨#[]⟩ : ByteArray) ++ s = s := by
  apply ByteArray.ext
  rw [ByteArray.data_append]
  simp
theorem qNew {q : Int} (h : 0 ≤ q ∧ q ≤ 500) : newB q = (qB0 q, 0) := new_ok (by omega)
theorem qR0 {q : Int} (h : 0 ≤ q ∧ q ≤ 500) : RightP (qB0 q) := new_right (by omega)
theorem qBegin {q : Int} (h : 0 ≤ q ∧ q ≤ 500) : beginB (qB0 q) = (qB1 q ⟨#[]⟩, 1, 0) := (one_begin (qR0 h) (by decide)).1
theorem qR1 {q : Int} (h : 0 ≤ q ∧ q ≤ 500) : RightP (qB1 q ⟨#[]⟩) := (one_begin (qR0 h) (by decide)).2
theorem qPush {q : Int} (h : 0 ≤ q ∧ q ≤ 500) {s : ByteArray} (hs : s.size ≤ 500) : pushB (qB1 q ⟨#[]⟩) 1 0 s = (qB1 q s, 0) := by
  have := (one_push (off := 0) (s := s) (qR1 h) rfl (by show 0 + s.size ≤ 4096; omega)).1
  rwa [empty_app'] at this
theorem qR2 {q : Int} (h : 0 ≤ q ∧ q ≤ 500) {s : ByteArray} (hs : s.size ≤ 500) : RightP (qB1 q s) := by
  have := (one_push (off := 0) (s := s) (qR1 h) rfl (by show 0 + s.size ≤ 4096; omega)).2
  rwa [empty_app'] at this
theorem qEndNo {q : Int} (h : 0 ≤ q ∧ q ≤ 500) {s : ByteArray} (hs : s.size ≤ 500) (hq : q < (s.size : Nat)) : endB (qB1 q s) 1 (ofB s) = (nilBlb, 12) := by
  have h1 := one_end (dg := ofB s) (qR2 h hs) (fits_of s)
  refine h1.trans ?_
  show (if (0 : Int) ≤ -1 then ((⟨[], q, [], 1⟩ : Blb), (0 : Int)) else if (0 : Nat) = 64 then (nilBlb, 13) else if q < ((0 : Nat) : Int) + (s.size : Nat) then (nilBlb, 12) else (⟨[(ofB s, s)], q, [], 1⟩, 0)) = _
  rw [if_neg (by decide), if_neg (by decide), if_pos (by omega)]
theorem qEnd {q : Int} (h : 0 ≤ q ∧ q ≤ 500) {s : ByteArray} (hs : s.size ≤ 500) (hq : (s.size : Int) ≤ q) : endB (qB1 q s) 1 (ofB s) = (qX q s, 0) := (one_done (qR2 h hs) hq).1
theorem qRX {q : Int} (h : 0 ≤ q ∧ q ≤ 500) {s : ByteArray} (hs : s.size ≤ 500) (hq : (s.size : Int) ≤ q) : RightP (qX q s) := (one_done (qR2 h hs) hq).2
theorem qOff {q : Int} (h : 0 ≤ q ∧ q ≤ 500) {s : ByteArray} (hs : s.size ≤ 500) : offB (qB1 q s) 1 = (((s.size : Nat) : Int), 0) := one_off (qR2 h hs)
theorem qBegin2 {q : Int} (h : 0 ≤ q ∧ q ≤ 500) {s : ByteArray} (hs : s.size ≤ 500) (hq : (s.size : Int) ≤ q) : beginB (qX q s) = (qY q s ⟨#[]⟩, 2, 0) := (one_begin (qRX h hs hq) (by decide)).1
theorem qRY0 {q : Int} (h : 0 ≤ q ∧ q ≤ 500) {s : ByteArray} (hs : s.size ≤ 500) (hq : (s.size : Int) ≤ q) : RightP (qY q s ⟨#[]⟩) := (one_begin (qRX h hs hq) (by decide)).2
theorem qPush2 {q : Int} (h : 0 ≤ q ∧ q ≤ 500) {s : ByteArray} (hs : s.size ≤ 500) (hq : (s.size : Int) ≤ q) : pushB (qY q s ⟨#[]⟩) 2 0 s = (qY q s s, 0) := by
  have := (one_push (off := 0) (s := s) (qRY0 h hs hq) rfl (by show 0 + s.size ≤ 4096; omega)).1
  rwa [empty_app'] at this
theorem qRY {q : Int} (h : 0 ≤ q ∧ q ≤ 500) {s : ByteArray} (hs : s.size ≤ 500) (hq : (s.size : Int) ≤ q) : RightP (qY q s s) := by
  have := (one_push (off := 0) (s := s) (qRY0 h hs hq) rfl (by show 0 + s.size ≤ 4096; omega)).2
  rwa [empty_app'] at this
theorem qEnd2 {q : Int} (h : 0 ≤ q ∧ q ≤ 500) {s : ByteArray} (hs : s.size ≤ 500) (hq : (s.size : Int) ≤ q) : endB (qY q s s) 2 (ofB s) = (qZ q s, 0) := by
  refine (one_end (dg := ofB s) (qRY h hs hq) (fits_of s)).trans ?_
  have : atL [(ofB s, s)] (ofB s) = 0 := by
    unfold atL findL findF
    rw [if_pos (by simp)]; rfl
  rw [this, if_pos (by decide)]
  rfl

/-- What a round leaves. -/
def RoundOk (w wx : World) : Prop := Below w.heap.size w wx
set_option maxRecDepth 100000 in
set_option maxHeartbeats 8000000 in
theorem quota_any (aD aS aZ : Addr) (s0 : ByteArray) (twice : Bool) (w : World) (he : DEnv w aD aS aZ) (hs0 : s0.size ≤ maxLen) :
    Calls Tryd.prog 4 #[.string s0, .bool twice] w fun e w' => e = .returned (.bool true) ∧ Below w.heap.size w w' := by
  have HE := Lib.hid he
  unfold maxLen at hs0
  obtain ⟨m, hm⟩ : ∃ m, min s0.size 500 = m := ⟨_, rfl⟩
  have q3 : min (s0.size : Int) 500 = (m : Int) := by omega
  have hms : m ≤ s0.size ∧ m ≤ 500 := by omega
  obtain ⟨s, hss⟩ : ∃ s, s0.extract 0 m = s := ⟨_, rfl⟩
  have hsm : s.size ≤ 500 := by rw [← hss, ByteArray.size_extract]; omega
  have OFW := Lib.hid (of_any s w he.tabs (by omega))
  have hofs : (ofB s).size = 71 := ofB_size _
  have q4 : IntKind.i64.wrap ((s.size : Int) - 1) = (s.size : Int) - 1 := by rw [IntKind.wrap_i64]; omega
  obtain ⟨qa, hqa⟩ : ∃ x, (s.size : Int) - 1 = x := ⟨_, rfl⟩
  have HQA := Lib.hid hqa
  have HF := Lib.hid (show ∀ q : Int, 0 ≤ q ∧ q ≤ 500 → (newB q = (qB0 q, 0) ∧ beginB (qB0 q) = (qB1 q ⟨#[]⟩, 1, 0) ∧ pushB (qB1 q ⟨#[]⟩) 1 0 s = (qB1 q s, 0) ∧ offB (qB1 q s) 1 = (((s.size : Nat) : Int), 0)) from fun q h => ⟨qNew h, qBegin h, qPush h hsm, qOff h hsm⟩)
  have HNO := Lib.hid (show ∀ q : Int, 0 ≤ q ∧ q ≤ 500 → q < (s.size : Nat) → endB (qB1 q s) 1 (ofB s) = (nilBlb, 12) from fun q h h2 => qEndNo h hsm h2)
  have HYES := Lib.hid (show ∀ q : Int, 0 ≤ q ∧ q ≤ 500 → (s.size : Int) ≤ q → (endB (qB1 q s) 1 (ofB s) = (qX q s, 0) ∧ beginB (qX q s) = (qY q s ⟨#[]⟩, 2, 0) ∧ pushB (qY q s ⟨#[]⟩) 2 0 s = (qY q s s, 0) ∧ endB (qY q s s) 2 (ofB s) = (qZ q s, 0)) from fun q h h2 => ⟨qEnd h hsm h2, qBegin2 h hsm h2, qPush2 h hsm h2, qEnd2 h hsm h2⟩)
  obtain ⟨dg, hdg⟩ : ∃ d, ofB s = d := ⟨_, rfl⟩
  rw [hdg] at OFW HNO HYES hofs
  have HDG := Lib.hid hdg
  clear he hs0 hm hdg
  go_enter Tryd.func4, Tryd.ntmps4
  go_wp2_with fail
  refine OFW.out.mono ?_
  rintro e wq ⟨rfl, hbq⟩
  have HBq := Lib.hid hbq
  clear hbq OFW
  obtain ⟨w0, hw0⟩ : ∃ x, wq.alloc (.cells #[.int .i64 qa, .int .i64 (s.size : Nat)] 3) = x := ⟨_, rfl⟩
  obtain ⟨B0, hB0⟩ : ∃ x, wq.heap.size = x := ⟨_, rfl⟩
  have HB := Lib.hid (show Below w.heap.size w w0 by rw [← hw0]; exact Below.then HBq.out (below_new _ _))
  have HR := Lib.hid (show At2 3 w0 B0 (.int .i64 qa) (.int .i64 (s.size : Nat)) by rw [← hw0, ← hB0]; exact At2.new _ _ _ _)
  have HW0 := Lib.hid hw0
  clear hw0
  go_wp2_with fail
  rw [HW0.out]
  have HB0 := Lib.hid HB.out
  go_loopw [37] (fun iv wr => ∃ k : Nat, k ≤ 2 ∧ iv = .int .i64 k ∧ At2 3 wr B0 (.int .i64 qa) (.int .i64 (s.size : Nat)) ∧ Below w.heap.size w wr) (fun i _ => 2 - (intOf i).toNat)
  case atStart => exact ⟨0, Nat.zero_le _, rfl, HR.out, HB0.out⟩
  case round =>
    obtain ⟨k, hk, rfl, hr2, hbr⟩ := hrel
    have HR := Lib.hid hr2
    have HBR := Lib.hid hbr
    have HE := Lib.hid (HE.out.keep hbr)
    have HB := Lib.hid (Below.refl wr.heap.size wr)
    clear hbr hr2
    by_cases hlt : k < 2
    · obtain ⟨q, hcell, hq⟩ : ∃ q : Int, wr.cell? ⟨B0, k, none⟩ = some (.int .i64 q) ∧ (q = qa ∨ q = (s.size : Nat)) := by
        obtain ⟨c0, c1⟩ := HR.out.cells
        match k, hlt with
        | 0, _ => exact ⟨_, c0, Or.inl rfl⟩
        | 1, _ => exact ⟨_, c1, Or.inr rfl⟩
      have hq2 : -1 ≤ q ∧ q ≤ 500 := by have := HQA.out; omega
      clear hq
      by_cases hn : q < 0
      · go_wp2_with fail
        go_roundw
        case rel => exact ⟨k + 1, by omega, by go_num, HR.out, HBR.out⟩
        case measure => simp [intOf]; omega
      obtain ⟨hNew, hBegin, hPush, hOff⟩ := HF.out q (by omega)
      have HNew := Lib.hid hNew
      have HBegin := Lib.hid hBegin
      have HPush := Lib.hid hPush
      have HOff := Lib.hid hOff
      clear hNew hBegin hPush hOff
      have C0 := New_t q wr
      rw [HNew.out] at C0
      have C := Lib.hid C0
      clear C0
      go_wp2_with fail
      refine C.out.mono ?_
      rintro e w1 ⟨v1, rfl, hv1, hb1⟩
      obtain ⟨ya, yn, yc, yq, ya', yn', yc', yl, rfl⟩ := hv1.four
      have HV1 := Lib.hid hv1
      replace HB := Lib.hid (Below.then HB.out hb1)
      clear C hb1 hv1
      obtain ⟨w2, hw2⟩ : ∃ x, w1.alloc (.cells #[.slice ya yn yc, .int .i64 yq, .slice ya' yn' yc', .int .i64 yl] 27) = x := ⟨_, rfl⟩
      obtain ⟨Bb, hBb⟩ : ∃ x, w1.heap.size = x := ⟨_, rfl⟩
      have Hb := Lib.hid (show VarB w2 Bb (qB0 q) by rw [← hw2, ← hBb]; exact VarB.new HV1.out)
      have hb2 : Below w1.heap.size w1 w2 := by rw [← hw2]; exact below_new _ _
      have HLb := Lib.hid (show wr.heap.size ≤ Bb by rw [← hBb]; exact HB.out.size)
      replace HB := Lib.hid (Below.then HB.out hb2)
      have HW2 := Lib.hid hw2
      clear hw2 hb2 HV1
      go_upto_region 8 with fail
      rw [HW2.out]
      clear hBb HW2
      obtain ⟨xa, xn, xc, xq, xa', xn', xc', xl, hA, hV⟩ := Hb.out.is
      have C0 := Begin_t _ (qB0 q)  w2 aD aS aZ hV (HE.out.keep HB.out)
      rw [HBegin.out] at C0
      have C := Lib.hid C0
      clear C0
      obtain ⟨a0, a1, a2, a3⟩ := hA.cells
      clear hA hV
      go_wp2_with fail
      refine C.out.mono ?_
      rintro e w3 ⟨v1, rfl, hv1, hb1⟩
      obtain ⟨ya, yn, yc, yq, ya', yn', yc', yl, rfl⟩ := hv1.four
      have HV1 := Lib.hid hv1
      replace HB := Lib.hid (Below.then HB.out hb1)
      replace Hb := Lib.hid (Hb.out.keep hb1)
      clear C hb1 a0 a1 a2 a3 hv1
      obtain ⟨za, zn, zc, zq, za', zn', zc', zl, hA, hV⟩ := Hb.out.is
      obtain ⟨a0, a1, a2, a3⟩ := hA.cells
      obtain ⟨f0, f1, f2, f3⟩ := hA.free
      clear hA hV
      go_upto_region 9 with fail
      obtain ⟨w4, hw2⟩ : ∃ x, (((w3.setCell ⟨Bb, 0, none⟩ (.slice ya yn yc)).setCell ⟨Bb, 1, none⟩ (.int .i64 yq)).setCell ⟨Bb, 2, none⟩ (.slice ya' yn' yc')).setCell ⟨Bb, 3, none⟩ (.int .i64 yl) = x := ⟨_, rfl⟩
      rw [hw2]
      replace Hb := Lib.hid (show VarB w4 Bb (qB1 q ⟨#[]⟩) by rw [← hw2]; exact Hb.out.set HV1.out)
      replace HB := Lib.hid (show Below wr.heap.size wr w4 by rw [← hw2]; exact set4_below HB.out HLb.out (.slice ya yn yc) (.int .i64 yq) (.slice ya' yn' yc') (.int .i64 yl))
      clear hw2 a0 a1 a2 a3 f0 f1 f2 f3 HV1
      obtain ⟨xa, xn, xc, xq, xa', xn', xc', xl, hA, hV⟩ := Hb.out.is
      have C0 := Push_t _ (qB1 q ⟨#[]⟩) 1 0 s w4 aD aS aZ hV (HE.out.keep HB.out) (by omega)
      rw [HPush.out] at C0
      have C := Lib.hid C0
      clear C0
      obtain ⟨a0, a1, a2, a3⟩ := hA.cells
      clear hA hV
      go_wp2_with fail
      refine C.out.mono ?_
      rintro e w5 ⟨v1, rfl, hv1, hb1⟩
      obtain ⟨ya, yn, yc, yq, ya', yn', yc', yl, rfl⟩ := hv1.four
      have HV1 := Lib.hid hv1
      replace HB := Lib.hid (Below.then HB.out hb1)
      replace Hb := Lib.hid (Hb.out.keep hb1)
      clear C hb1 a0 a1 a2 a3 hv1
      obtain ⟨za, zn, zc, zq, za', zn', zc', zl, hA, hV⟩ := Hb.out.is
      obtain ⟨a0, a1, a2, a3⟩ := hA.cells
      obtain ⟨f0, f1, f2, f3⟩ := hA.free
      clear hA hV
      go_upto_region 10 with fail
      obtain ⟨w6, hw2⟩ : ∃ x, (((w5.setCell ⟨Bb, 0, none⟩ (.slice ya yn yc)).setCell ⟨Bb, 1, none⟩ (.int .i64 yq)).setCell ⟨Bb, 2, none⟩ (.slice ya' yn' yc')).setCell ⟨Bb, 3, none⟩ (.int .i64 yl) = x := ⟨_, rfl⟩
      rw [hw2]
      replace Hb := Lib.hid (show VarB w6 Bb (qB1 q s) by rw [← hw2]; exact Hb.out.set HV1.out)
      replace HB := Lib.hid (show Below wr.heap.size wr w6 by rw [← hw2]; exact set4_below HB.out HLb.out (.slice ya yn yc) (.int .i64 yq) (.slice ya' yn' yc') (.int .i64 yl))
      clear hw2 a0 a1 a2 a3 f0 f1 f2 f3 HV1
      by_cases hqs : q < (s.size : Nat)
      · have HEnd := Lib.hid (HNO.out q (by omega) hqs)
        obtain ⟨xa, xn, xc, xq, xa', xn', xc', xl, hA, hV⟩ := Hb.out.is
        have C0 := End_t _ (qB1 q s) 1 dg w6 aD aS aZ hV (HE.out.keep HB.out) (by omega)
        rw [HEnd.out] at C0
        have C := Lib.hid C0
        clear C0
        obtain ⟨a0, a1, a2, a3⟩ := hA.cells
        clear hA hV
        go_wp2_with fail
        refine C.out.mono ?_
        rintro e w31 ⟨v1, rfl, hv1, hb1⟩
        obtain ⟨ya, yn, yc, yq, ya', yn', yc', yl, rfl⟩ := hv1.four
        have HV1 := Lib.hid hv1
        replace HB := Lib.hid (Below.then HB.out hb1)
        replace Hb := Lib.hid (Hb.out.keep hb1)
        clear C hb1 a0 a1 a2 a3 hv1
        obtain ⟨w32, hw2⟩ : ∃ x, w31.alloc (.cells #[.slice ya yn yc, .int .i64 yq, .slice ya' yn' yc', .int .i64 yl] 27) = x := ⟨_, rfl⟩
        obtain ⟨Bx, hBx⟩ : ∃ x, w31.heap.size = x := ⟨_, rfl⟩
        have Hx := Lib.hid (show VarB w32 Bx nilBlb by rw [← hw2, ← hBx]; exact VarB.new HV1.out)
        have hb2 : Below w31.heap.size w31 w32 := by rw [← hw2]; exact below_new _ _
        have HNbx := Lib.hid (show Bb ≠ Bx by have := Hb.out.lt; omega)
        have HNxb := Lib.hid (HNbx.out.symm)
        replace Hb := Lib.hid (Hb.out.keep hb2)
        have HLx := Lib.hid (show wr.heap.size ≤ Bx by rw [← hBx]; exact HB.out.size)
        replace HB := Lib.hid (Below.then HB.out hb2)
        have HW2 := Lib.hid hw2
        clear hw2 hb2 HV1
        go_upto_region 11 with fail
        rw [HW2.out]
        clear hBx HW2
        have AL := Lib.hid (alive_b w32 aD aS aZ (HE.out.keep HB.out))
        go_wp2_with fail
        refine AL.out.mono ?_
        rintro e wtw32 ⟨rfl, hbt⟩
        replace HB := Lib.hid (Below.then HB.out hbt)
        replace Hb := Lib.hid (Hb.out.keep hbt)
        replace Hx := Lib.hid (Hx.out.keep hbt)
        clear hbt AL
        have q6 : ((s.size : Int) != (s.size : Int)) = false := bne_self_eq_false _
        obtain ⟨xa, xn, xc, xq, xa', xn', xc', xl, hA, hV⟩ := Hb.out.is
        have C0 := Offset_t _ (qB1 q s) 1 wtw32 aD aS aZ hV (HE.out.keep HB.out)
        rw [HOff.out] at C0
        have C := Lib.hid C0
        clear C0
        obtain ⟨a0, a1, a2, a3⟩ := hA.cells
        clear hA hV
        go_wp2_with fail
        refine C.out.mono ?_
        rintro e w33 ⟨rfl, hb1⟩
        replace HB := Lib.hid (Below.then HB.out hb1)
        replace Hb := Lib.hid (Hb.out.keep hb1)
        replace Hx := Lib.hid (Hx.out.keep hb1)
        clear C hb1 a0 a1 a2 a3
        go_wp2_with fail
        go_roundw
        case rel => exact ⟨k + 1, by omega, by go_num, HR.out.keep HB.out, Below.then HBR.out HB.out⟩
        case measure => simp [intOf]; omega
      · obtain ⟨hEnd, hBegin2, hPush2, hEnd2⟩ := HYES.out q (by omega) (by omega)
        have HEnd := Lib.hid hEnd
        have HBegin2 := Lib.hid hBegin2
        have HPush2 := Lib.hid hPush2
        have HEnd2 := Lib.hid hEnd2
        clear hEnd hBegin2 hPush2 hEnd2
        obtain ⟨xa, xn, xc, xq, xa', xn', xc', xl, hA, hV⟩ := Hb.out.is
        have C0 := End_t _ (qB1 q s) 1 dg w6 aD aS aZ hV (HE.out.keep HB.out) (by omega)
        rw [HEnd.out] at C0
        have C := Lib.hid C0
        clear C0
        obtain ⟨a0, a1, a2, a3⟩ := hA.cells
        clear hA hV
        go_wp2_with fail
        refine C.out.mono ?_
        rintro e w61 ⟨v1, rfl, hv1, hb1⟩
        obtain ⟨ya, yn, yc, yq, ya', yn', yc', yl, rfl⟩ := hv1.four
        have HV1 := Lib.hid hv1
        replace HB := Lib.hid (Below.then HB.out hb1)
        replace Hb := Lib.hid (Hb.out.keep hb1)
        clear C hb1 a0 a1 a2 a3 hv1
        obtain ⟨w62, hw2⟩ : ∃ x, w61.alloc (.cells #[.slice ya yn yc, .int .i64 yq, .slice ya' yn' yc', .int .i64 yl] 27) = x := ⟨_, rfl⟩
        obtain ⟨Bx, hBx⟩ : ∃ x, w61.heap.size = x := ⟨_, rfl⟩
        have Hx := Lib.hid (show VarB w62 Bx (qX q s) by rw [← hw2, ← hBx]; exact VarB.new HV1.out)
        have hb2 : Below w61.heap.size w61 w62 := by rw [← hw2]; exact below_new _ _
        have HNbx := Lib.hid (show Bb ≠ Bx by have := Hb.out.lt; omega)
        have HNxb := Lib.hid (HNbx.out.symm)
        replace Hb := Lib.hid (Hb.out.keep hb2)
        have HLx := Lib.hid (show wr.heap.size ≤ Bx by rw [← hBx]; exact HB.out.size)
        replace HB := Lib.hid (Below.then HB.out hb2)
        have HW2 := Lib.hid hw2
        clear hw2 hb2 HV1
        go_upto_region 11 with fail
        rw [HW2.out]
        clear hBx HW2
        clear Hb
        have AL := Lib.hid (alive_b w62 aD aS aZ (HE.out.keep HB.out))
        go_wp2_with fail
        refine AL.out.mono ?_
        rintro e wtw62 ⟨rfl, hbt⟩
        replace HB := Lib.hid (Below.then HB.out hbt)
        replace Hx := Lib.hid (Hx.out.keep hbt)
        clear hbt AL
        obtain ⟨pa, pc, pa', pc', hA, hV⟩ := Hx.out.open
        obtain ⟨l0, l1, l2, l3⟩ := hA.cells
        have HVp := Lib.hid (show BlbAt wtw62 (.agg #[.slice pa 1 pc, .int .i64 q, .slice pa' 0 pc', .int .i64 1]) (qX q s) from hV)
        have a0 : wtw62.cell? ⟨Bx, 0, none⟩ = some (.slice pa 1 pc) := l0
        have a1 : wtw62.cell? ⟨Bx, 1, none⟩ = some (.int .i64 q) := l1
        have a2 : wtw62.cell? ⟨Bx, 2, none⟩ = some (.slice pa' 0 pc') := l2
        have a3 : wtw62.cell? ⟨Bx, 3, none⟩ = some (.int .i64 1) := l3
        clear l0 l1 l2 l3 hA hV
        cases twice with
        | false =>
          go_wp2_with fail
          go_roundw
          case rel => exact ⟨k + 1, by omega, by go_num, HR.out.keep HB.out, Below.then HBR.out HB.out⟩
          case measure => simp [intOf]; omega
        | true =>
          have hV := HVp.out
          have C0 := Begin_t _ (qX q s)  wtw62 aD aS aZ hV (HE.out.keep HB.out)
          rw [HBegin2.out] at C0
          have C := Lib.hid C0
          clear C0
          
          clear hV
          go_wp2_with fail
          refine C.out.mono ?_
          rintro e w91 ⟨v1, rfl, hv1, hb1⟩
          obtain ⟨ya, yn, yc, yq, ya', yn', yc', yl, rfl⟩ := hv1.four
          have HV1 := Lib.hid hv1
          replace HB := Lib.hid (Below.then HB.out hb1)
          replace Hx := Lib.hid (Hx.out.keep hb1)
          clear C hb1 a0 a1 a2 a3 hv1
          obtain ⟨w92, hw2⟩ : ∃ x, w91.alloc (.cells #[.slice ya yn yc, .int .i64 yq, .slice ya' yn' yc', .int .i64 yl] 27) = x := ⟨_, rfl⟩
          obtain ⟨By, hBy⟩ : ∃ x, w91.heap.size = x := ⟨_, rfl⟩
          have Hy := Lib.hid (show VarB w92 By (qY q s ⟨#[]⟩) by rw [← hw2, ← hBy]; exact VarB.new HV1.out)
          have hb2 : Below w91.heap.size w91 w92 := by rw [← hw2]; exact below_new _ _
          have HNxy := Lib.hid (show Bx ≠ By by have := Hx.out.lt; omega)
          have HNyx := Lib.hid (HNxy.out.symm)
          replace Hx := Lib.hid (Hx.out.keep hb2)
          have HLy := Lib.hid (show wr.heap.size ≤ By by rw [← hBy]; exact HB.out.size)
          replace HB := Lib.hid (Below.then HB.out hb2)
          have HW2 := Lib.hid hw2
          clear hw2 hb2 HV1
          go_upto_region 21 with fail
          rw [HW2.out]
          clear hBy HW2
          clear Hx
          obtain ⟨xa, xn, xc, xq, xa', xn', xc', xl, hA, hV⟩ := Hy.out.is
          have C0 := Push_t _ (qY q s ⟨#[]⟩) 2 0 s w92 aD aS aZ hV (HE.out.keep HB.out) (by omega)
          rw [HPush2.out] at C0
          have C := Lib.hid C0
          clear C0
          obtain ⟨a0, a1, a2, a3⟩ := hA.cells
          clear hA hV
          go_wp2_with fail
          refine C.out.mono ?_
          rintro e w93 ⟨v1, rfl, hv1, hb1⟩
          obtain ⟨ya, yn, yc, yq, ya', yn', yc', yl, rfl⟩ := hv1.four
          have HV1 := Lib.hid hv1
          replace HB := Lib.hid (Below.then HB.out hb1)
          replace Hy := Lib.hid (Hy.out.keep hb1)
          clear C hb1 a0 a1 a2 a3 hv1
          obtain ⟨za, zn, zc, zq, za', zn', zc', zl, hA, hV⟩ := Hy.out.is
          obtain ⟨a0, a1, a2, a3⟩ := hA.cells
          obtain ⟨f0, f1, f2, f3⟩ := hA.free
          clear hA hV
          go_upto_region 22 with fail
          obtain ⟨w94, hw2⟩ : ∃ x, (((w93.setCell ⟨By, 0, none⟩ (.slice ya yn yc)).setCell ⟨By, 1, none⟩ (.int .i64 yq)).setCell ⟨By, 2, none⟩ (.slice ya' yn' yc')).setCell ⟨By, 3, none⟩ (.int .i64 yl) = x := ⟨_, rfl⟩
          rw [hw2]
          replace Hy := Lib.hid (show VarB w94 By (qY q s s) by rw [← hw2]; exact Hy.out.set HV1.out)
          replace HB := Lib.hid (show Below wr.heap.size wr w94 by rw [← hw2]; exact set4_below HB.out HLy.out (.slice ya yn yc) (.int .i64 yq) (.slice ya' yn' yc') (.int .i64 yl))
          clear hw2 a0 a1 a2 a3 f0 f1 f2 f3 HV1
          obtain ⟨xa, xn, xc, xq, xa', xn', xc', xl, hA, hV⟩ := Hy.out.is
          have C0 := End_t _ (qY q s s) 2 dg w94 aD aS aZ hV (HE.out.keep HB.out) (by omega)
          rw [HEnd2.out] at C0
          have C := Lib.hid C0
          clear C0
          obtain ⟨a0, a1, a2, a3⟩ := hA.cells
          clear hA hV
          go_wp2_with fail
          refine C.out.mono ?_
          rintro e w95 ⟨v1, rfl, hv1, hb1⟩
          obtain ⟨ya, yn, yc, yq, ya', yn', yc', yl, rfl⟩ := hv1.four
          have HV1 := Lib.hid hv1
          replace HB := Lib.hid (Below.then HB.out hb1)
          replace Hy := Lib.hid (Hy.out.keep hb1)
          clear C hb1 a0 a1 a2 a3 hv1
          obtain ⟨w96, hw2⟩ : ∃ x, w95.alloc (.cells #[.slice ya yn yc, .int .i64 yq, .slice ya' yn' yc', .int .i64 yl] 27) = x := ⟨_, rfl⟩
          obtain ⟨Bz, hBz⟩ : ∃ x, w95.heap.size = x := ⟨_, rfl⟩
          have Hz := Lib.hid (show VarB w96 Bz (qZ q s) by rw [← hw2, ← hBz]; exact VarB.new HV1.out)
          have hb2 : Below w95.heap.size w95 w96 := by rw [← hw2]; exact below_new _ _
          have HNyz := Lib.hid (show By ≠ Bz by have := Hy.out.lt; omega)
          have HNzy := Lib.hid (HNyz.out.symm)
          replace Hy := Lib.hid (Hy.out.keep hb2)
          have HLz := Lib.hid (show wr.heap.size ≤ Bz by rw [← hBz]; exact HB.out.size)
          replace HB := Lib.hid (Below.then HB.out hb2)
          have HW2 := Lib.hid hw2
          clear hw2 hb2 HV1
          go_upto_region 23 with fail
          rw [HW2.out]
          clear hBz HW2
          obtain ⟨ra, rc, ra', rc', hA, -⟩ := Hz.out.open
          obtain ⟨l0, -, l2, -⟩ := hA.cells
          have r0 : w96.cell? ⟨Bz, 0, none⟩ = some (.slice ra 1 rc) := l0
          have r2 : w96.cell? ⟨Bz, 2, none⟩ = some (.slice ra' 0 rc') := l2
          clear l0 l2 hA
          go_wp2_with fail
          go_roundw
          case rel => exact ⟨k + 1, by omega, by go_num, HR.out.keep HB.out, Below.then HBR.out HB.out⟩
          case measure => simp [intOf]; omega
    · have AL := Lib.hid (alive_b wr aD aS aZ HE.out)
      go_wp2_with fail
      refine AL.out.mono ?_
      rintro e wt ⟨rfl, hbt⟩
      have HBT := Lib.hid hbt
      clear hbt AL
      go_wp2_with fail
      go_ret
      exact ⟨rfl, Below.then HBR.out HBT.out⟩
end Go.Proofs.YtodjhmphneoifaaDoor
