/-
  ClosureWalks' walk: it answers true. Conditions: what comes in reads as objects; the package-level variables as MEnv says.
-/
import Derived.Test.YtepcaglekgeamaaGreatDoorYClo3
import Derived.Test.YtepcaglekgeamaaGreatDoorYClo4
import Derived.Test.YtepcaglekgeamaaGreatDoorYRfC2
namespace Go.Proofs.YtepcaglekgeamaaGreatDoor
open Go.RowKit

theorem ofL_bad0 {l : List Obj} {d : ByteArray} (h : (ofL l d).2 ≠ 0) : (ofL l d).1 = noWk := by
  unfold ofL at h ⊢
  cases hw : walkL l 4 noWk d with
  | ok t => rw [hw] at h; exact absurd rfl h
  | error x => rfl

set_option maxRecDepth 100000 in
set_option maxHeartbeats 8000000 in
theorem cwalks_walk (la : List Obj) (d : ByteArray) (va : Value) (w : World) (he : MEnv w) (ha : ObjsAt w va la) :
    Calls Tryz.prog 3 #[va, .string d] w fun e w' => e = .returned (.bool true) ∧ Below w.heap.size w w' := by
  have CA := Lib.hid (few06_t va la w ha)
  obtain ⟨aa, ac, rfl, -, -⟩ := ha.shape
  have hfA := fewO_few la
  obtain ⟨na, hna⟩ : ∃ n, la.length = n := ⟨_, rfl⟩
  rw [hna] at CA ⊢
  unfold FewEnds at CA
  obtain ⟨A, hA⟩ : ∃ x, fewO la = x := ⟨_, rfl⟩
  rw [hA] at hfA CA
  have HFA := Lib.hid hfA
  have HE := Lib.hid he
  have AL := Lib.hid (fun w' (h : Below w.heap.size w w') => aliveC_t w' (he.below h))
  clear ha hna hA hfA he
  go_enter Tryz.func3, Tryz.ntmps3
  go_wp2_with fail
  refine CA.out.mono ?_
  rintro e w2 ⟨v1, n, rfl, ho1, hb2⟩
  have hl1 := ho1.len
  obtain ⟨a1, c1, rfl, -, -⟩ := ho1.shape
  have HB2 := Lib.hid hb2
  have HO := Lib.hid (fun w' (h : Below w2.heap.size w2 w') => (ho1.keep h).objs)
  have HEN := Lib.hid (fun w' (h : Below w2.heap.size w2 w') => HE.out.below (Below.then HB2.out h))
  have FI := Lib.hid (fun w' (h : Below w2.heap.size w2 w') => find_t _ A d w' (HEN.out w' h).lo (HO.out w' h) HFA.out)
  have RF := Lib.hid (fun w' (h : Below w2.heap.size w2 w') => refFind_t _ A d w' (HO.out w' h) HFA.out)
  have OF := Lib.hid (fun w' (h : Below w2.heap.size w2 w') => of_t _ A d w' (HEN.out w' h) (HO.out w' h) HFA.out)
  have RW := Lib.hid (fun w' (h : Below w2.heap.size w2 w') => refTop_t _ A d w' (HEN.out w' h) (HO.out w' h) HFA.out)
  have WH := Lib.hid (fun w' (h : Below w2.heap.size w2 w') => cloWhole_t _ A d w' (HEN.out w' h) (HO.out w' h) HFA.out)
  have RH := Lib.hid (fun w' (h : Below w2.heap.size w2 w') => refWhole_t _ A d w' (HEN.out w' h) (HO.out w' h) HFA.out)
  unfold OfEnds at OF
  unfold RefTopEnds at RW
  have hbad := ofL_bad0 (l := A) (d := d)
  obtain ⟨⟨s, f⟩, hf⟩ : ∃ x, findO A d = x := ⟨_, rfl⟩
  obtain ⟨⟨t, k⟩, ht⟩ : ∃ x, ofL A d = x := ⟨_, rfl⟩
  obtain ⟨x, hx⟩ : ∃ x, fullL A d = x := ⟨_, rfl⟩
  rw [hf] at FI RF
  rw [ht] at OF RW hbad
  rw [hx] at WH RH
  simp only at OF RW hbad
  have HBAD := Lib.hid hbad
  clear ho1 hb2 hf ht hx hbad
  go_wp2_with fail
  refine (FI.out w2 (Below.refl _ _)).mono ?_
  rintro e w3 ⟨rfl, hb3⟩
  have HB3 := Lib.hid hb3
  clear hb3
  go_wp2_with fail
  refine (OF.out w3 HB3.out).mono ?_
  rintro e w4 ⟨mv, bv, nm, nb, rfl, hom, hob, hb4⟩
  obtain ⟨ma, mc, rfl, -, -⟩ := hom.shape
  obtain ⟨ba, bc, rfl, -, -⟩ := hob.shape
  obtain ⟨W4, hW4⟩ : ∃ y, w4.alloc (.cells #[.slice ma nm mc, .slice ba nb bc] 29) = y := ⟨_, rfl⟩
  have hb44 : Below w4.heap.size w4 W4 := by rw [← hW4]; exact below_new _ _
  have HZ := Lib.hid (show At2 29 W4 w4.heap.size (.slice ma nm mc) (.slice ba nb bc) by rw [← hW4]; exact At2.new _ _ _ _)
  have HW4 := Lib.hid hW4
  have HB4 := Lib.hid (Below.then HB3.out (Below.then hb4 hb44))
  have HM4 := Lib.hid (hom.keep hb44)
  have HS4 := Lib.hid (hob.keep hb44)
  clear hom hob hb4 hb44 hW4
  go_upto_region 4 with fail
  rw [HW4.out]
  go_wp2_with fail
  refine (RF.out W4 HB4.out).mono ?_
  rintro e w5 ⟨rfl, hb5⟩
  have HK5 := Lib.hid hb5
  have HB5 := Lib.hid (Below.then HB4.out hb5)
  clear hb5
  go_wp2_with fail
  refine (RW.out w5 HB5.out).mono ?_
  rintro e w6 ⟨mv2, bv2, nm2, nb2, rfl, hom2, hob2, hb6⟩
  obtain ⟨ma2, mc2, rfl, -, -⟩ := hom2.shape
  obtain ⟨ba2, bc2, rfl, -, -⟩ := hob2.shape
  obtain ⟨T, hT⟩ : ∃ T, w6.heap.size = T := ⟨_, rfl⟩
  obtain ⟨W7, hW7⟩ : ∃ y, w6.alloc (.cells #[.slice ma2 nm2 mc2, .slice ba2 nb2 bc2, .int .i64 k] 33) = y := ⟨_, rfl⟩
  have hb7 : Below w6.heap.size w6 W7 := by rw [← hW7]; exact below_new _ _
  have HT7 := Lib.hid (show TAt W7 T (.slice ma2 nm2 mc2) (.slice ba2 nb2 bc2) (.int .i64 k) by rw [← hW7, ← hT]; exact TAt.new _ _ _ _)
  have HW7 := Lib.hid hW7
  have HT := Lib.hid hT
  have HK7 := Lib.hid (Below.then HK5.out (Below.then hb6 hb7))
  have HB7 := Lib.hid (Below.then HB4.out HK7.out)
  have HM7 := Lib.hid (hom2.keep hb7)
  have HS7 := Lib.hid (hob2.keep hb7)
  have HTL := Lib.hid (show W4.heap.size ≤ T by have := (Below.then HK5.out hb6).size; omega)
  clear hom2 hob2 hb6 hb7 hW7 hT
  obtain ⟨t0, t1, t2⟩ := HT7.out.cells
  go_upto_region 6 with fail
  try rw [HT.out]
  rw [HW7.out]
  have qs : (s.toList == s.toList) = true := by simp
  have qf : (f == f) = true := by simp
  have qk : (k == k) = true := by simp
  have qx : (x == x) = true := by simp
  have SM := Lib.hid (fun (a b : Value) (l : List ByteArray) w' (h1 : StrsAt w' a l) (h2 : StrsAt w' b l) => by
    have h := same01_t a b l l w' h1 h2
    rw [decide_eq_true (rfl : l = l)] at h
    exact h)
  by_cases h0 : k = 0
  · subst h0
    clear HBAD
    obtain ⟨z0, z1⟩ := (HZ.out.keep HK7.out).cells
    have A8 := Lib.hid (AL.out W7 (Below.then HB2.out HB7.out))
    have SMM := Lib.hid (show ∀ w', Below W7.heap.size W7 w' → StrsAt w' (.slice ma2 nm2 mc2) t.ms from fun w' h => (HM7.out.keep h).strs)
    have SSS := Lib.hid (show ∀ w', Below W7.heap.size W7 w' → StrsAt w' (.slice ba2 nb2 bc2) t.bs from fun w' h => (HS7.out.keep h).strs)
    have HB8 := Lib.hid HB7.out
    go_upto_region 8 with fail
    go_wp2_with (go_at_call 9; refine A8.out.mono ?_; rintro e w8 ⟨rfl, hb8⟩; have HK8 := Lib.hid hb8; obtain ⟨z0, z1⟩ := (HZ.out.keep (Below.then HK7.out hb8)).cells; obtain ⟨t0, t1, t2⟩ := (HT7.out.keep hb8).cells; have SA := Lib.hid (SM.out _ _ _ w8 (HM4.out.keep (Below.then HK7.out hb8)).strs (SMM.out w8 hb8)); clear hb8)
    refine SA.out.mono ?_
    rintro e w9 ⟨rfl, hb9⟩
    have HK9 := Lib.hid (Below.then HK8.out hb9)
    obtain ⟨z0, z1⟩ := (HZ.out.keep (Below.then HK7.out HK9.out)).cells
    obtain ⟨t0, t1, t2⟩ := (HT7.out.keep HK9.out).cells
    have SB := Lib.hid (SM.out _ _ _ w9 (HS4.out.keep (Below.then HK7.out HK9.out)).strs (SSS.out w9 HK9.out))
    clear hb9
    go_wp2_with fail
    refine SB.out.mono ?_
    rintro e w10 ⟨rfl, hb10⟩
    have HK10 := Lib.hid (Below.then HK9.out hb10)
    have WA := Lib.hid (WH.out w10 (Below.then HB8.out HK10.out))
    clear hb10
    go_wp2_with fail
    refine WA.out.mono ?_
    rintro e w11 ⟨rfl, hb11⟩
    have HK11 := Lib.hid (Below.then HK10.out hb11)
    have WB := Lib.hid (RH.out w11 (Below.then HB8.out HK11.out))
    clear hb11
    go_wp2_with fail
    refine WB.out.mono ?_
    rintro e w12 ⟨rfl, hb12⟩
    have HK12 := Lib.hid (Below.then HB8.out (Below.then HK11.out hb12))
    clear hb12
    go_wp2_with fail
    go_ret
    exact ⟨rfl, Below.then HB2.out HK12.out⟩
  · have q : (k != 0) = true := bne_iff_ne.2 h0
    have ht := HBAD.out h0
    subst ht
    have hm0 := HM4.out.len
    have hb0 := HS4.out.len
    clear h0 HBAD
    have f0 := HT7.out.frozen 0
    have f1 := HT7.out.frozen 1
    obtain ⟨W8, hW8⟩ : ∃ y, (W7.setCell ⟨T, 0, none⟩ (.slice none 0 0)).setCell ⟨T, 1, none⟩ (.slice none 0 0) = y := ⟨_, rfl⟩
    have HT8 := Lib.hid (show TAt W8 T (.slice none 0 0) (.slice none 0 0) (.int .i64 k) by rw [← hW8]; exact (HT7.out.put0 _).put1 _)
    have HK8w := Lib.hid (show Below W4.heap.size W4 W8 by rw [← hW8]; exact (HK7.out.setCell (p := ⟨T, 0, none⟩) HTL.out _).setCell (p := ⟨T, 1, none⟩) HTL.out _)
    have HB8 := Lib.hid (Below.then HB4.out HK8w.out)
    have A8 := Lib.hid (AL.out W8 (Below.then HB2.out HB8.out))
    have SMM := Lib.hid (show ∀ w', Below W8.heap.size W8 w' → StrsAt w' (.slice none 0 0) noWk.ms from fun _ _ => Or.inl ⟨rfl, Or.inl rfl⟩)
    have SSS := Lib.hid (show ∀ w', Below W8.heap.size W8 w' → StrsAt w' (.slice none 0 0) noWk.bs from fun _ _ => Or.inl ⟨rfl, Or.inl rfl⟩)
    have HW8 := Lib.hid hW8
    obtain ⟨z0, z1⟩ := (HZ.out.keep HK8w.out).cells
    clear hW8
    go_upto_region 8 with fail
    rw [HW8.out]
    clear t0 t1 t2 f0 f1
    obtain ⟨t0, t1, t2⟩ := HT8.out.cells
    go_wp2_with (go_at_call 9; refine A8.out.mono ?_; rintro e w8 ⟨rfl, hb8⟩; have HK8 := Lib.hid hb8; obtain ⟨z0, z1⟩ := (HZ.out.keep (Below.then HK8w.out hb8)).cells; obtain ⟨t0, t1, t2⟩ := (HT8.out.keep hb8).cells; have SA := Lib.hid (SM.out _ _ _ w8 (HM4.out.keep (Below.then HK8w.out hb8)).strs (SMM.out w8 hb8)); clear hb8)
    refine SA.out.mono ?_
    rintro e w9 ⟨rfl, hb9⟩
    have HK9 := Lib.hid (Below.then HK8.out hb9)
    obtain ⟨z0, z1⟩ := (HZ.out.keep (Below.then HK8w.out HK9.out)).cells
    obtain ⟨t0, t1, t2⟩ := (HT8.out.keep HK9.out).cells
    have SB := Lib.hid (SM.out _ _ _ w9 (HS4.out.keep (Below.then HK8w.out HK9.out)).strs (SSS.out w9 HK9.out))
    clear hb9
    go_wp2_with fail
    refine SB.out.mono ?_
    rintro e w10 ⟨rfl, hb10⟩
    have HK10 := Lib.hid (Below.then HK9.out hb10)
    have WA := Lib.hid (WH.out w10 (Below.then HB8.out HK10.out))
    clear hb10
    go_wp2_with fail
    refine WA.out.mono ?_
    rintro e w11 ⟨rfl, hb11⟩
    have HK11 := Lib.hid (Below.then HK10.out hb11)
    have WB := Lib.hid (RH.out w11 (Below.then HB8.out HK11.out))
    clear hb11
    go_wp2_with fail
    refine WB.out.mono ?_
    rintro e w12 ⟨rfl, hb12⟩
    have HK12 := Lib.hid (Below.then HB8.out (Below.then HK11.out hb12))
    clear hb12
    go_wp2_with fail
    go_ret
    exact ⟨rfl, Below.then HB2.out HK12.out⟩
end Go.Proofs.YtepcaglekgeamaaGreatDoor
