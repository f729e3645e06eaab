/-
  The program's Send, by a contract. Conditions: none.
-/
import Derived.Test.YtjjefdgcbdfclaaPrgWireG
namespace Go.Proofs.Ytjjefdgcbdfclaa
open Go.RowKit Go.WideShapes

theorem toB_no {to : Int} (h : toB to = false) : to < 0 ∨ 63 < to := by
  unfold toB at h
  simp only [Bool.and_eq_false_iff, decide_eq_false_iff_not] at h
  omega
theorem toB_yes {to : Int} (h : toB to = true) : 0 ≤ to ∧ to ≤ 63 := by
  unfold toB at h
  simpa using h

set_option maxRecDepth 100000 in
set_option maxHeartbeats 8000000 in
theorem Send_t (v : Value) (n : Nt) (to : Int) (body : ByteArray) (w : World) (h : NtAt w v n) (hto : i64 to) (hb : body.size ≤ maxLen) :
    Calls Try.prog 8 #[v, .int .i64 to, .string body] w fun e w' => ∃ v', e = .returned (.tuple #[v', .int .i64 (sendA n to body).2.1, .int .i64 (sendA n to body).2.2]) ∧ NtAt w' v' (sendA n to body).1 ∧ Below w.heap.size w w' := by
  have HRT := Lib.hid (fun w' (hb : Below w.heap.size w w') => WRight_t v n w' (h.keep hb))
  have HV := Lib.hid h
  have HTO := Lib.hid hto
  have HBO := Lib.hid hb
  obtain ⟨a, k, c, q, l, rfl⟩ := h.three
  obtain ⟨tb, htb⟩ : ∃ x, toB to = x := ⟨_, rfl⟩
  obtain ⟨bb, hbb⟩ : ∃ x, decide (body.size ≤ 4096) = x := ⟨_, rfl⟩
  obtain ⟨r, hr⟩ : ∃ x, n.right = x := ⟨_, rfl⟩
  have IT := Lib.hid (fun w => isTo_t to w)
  have IB := Lib.hid (fun w => isBody_t body w)
  have IF := Lib.hid (fun w => isFull_t a k c q l w)
  rw [htb] at IT
  rw [hbb] at IB
  rw [hr] at HRT
  have HE := Lib.hid (And.intro htb (And.intro hbb hr))
  obtain ⟨W, hW⟩ : ∃ W, (w.alloc (.cells #[.slice a k c, .int .i64 q, .int .i64 l] 24)).alloc (.cells #[nilV, .int .i64 0, .int .i64 0] 24) = W := ⟨_, rfl⟩
  have h2 := two_net w (.slice a k c) (.int .i64 q) (.int .i64 l) nilV (.int .i64 0) (.int .i64 0) 24
  rw [hW] at h2
  have HW := Lib.hid hW
  have HB := Lib.hid h2.2.2
  have HA := Lib.hid h2.1
  have HN := Lib.hid h2.2.1
  have HRW := Lib.hid (HRT.out W h2.2.2)
  obtain ⟨a0, a1, a2⟩ := h2.1.cells
  clear h2 hW h HRT htb hbb hr hto hb
  go_enter Try.func8, Try.ntmps8
  go_upto_region 1 with fail
  rw [HW.out]
  go_wp2_with fail
  refine HRW.out.mono ?_
  rintro e w1 ⟨rfl, hb1⟩
  have HB1 := Lib.hid (Below.then HB.out hb1)
  have HA1 := Lib.hid (HA.out.keep hb1)
  have HN1 := Lib.hid (HN.out.keep hb1)
  clear hb1 a0 a1 a2
  obtain ⟨b0, b1, b2⟩ := HN1.out.cells
  obtain ⟨f0, f1, f2⟩ := HN1.out.free
  cases r
  · have HSD := Lib.hid (send_bad (to := to) (b := body) HE.out.2.2)
    go_wp2_with fail
    exact bodyPost_ret (results_nt3 (p := 6) (u := 7) (x := 8) rfl _ _ (w.heap.size + 1) _ _ _ rfl (HN1.out.set _ _ _)) rfl ⟨_, by rw [HSD.out]; rfl, by rw [HSD.out]; exact nt_none _, set3_below HB1.out (Nat.le_succ _) _ _ _⟩
  go_wp2_with fail
  refine (IT.out w1).mono ?_
  rintro e w2 ⟨rfl, hw2⟩
  subst hw2
  cases tb
  · have HSD := Lib.hid (send_to (n := n) (b := body) (toB_no HE.out.1))
    go_wp2_with fail
    exact bodyPost_ret (results_nt3 (p := 6) (u := 7) (x := 8) rfl _ _ (w.heap.size + 1) _ _ _ rfl (HN1.out.set _ _ _)) rfl ⟨_, by rw [HSD.out]; rfl, by rw [HSD.out]; exact nt_none _, set3_below HB1.out (Nat.le_succ _) _ _ _⟩
  have HTB := Lib.hid (toB_yes HE.out.1)
  go_wp2_with fail
  refine (IB.out w2).mono ?_
  rintro e w3 ⟨rfl, hw3⟩
  subst hw3
  cases bb
  · have HSD := Lib.hid (send_long (b := body) HE.out.2.2 HTB.out (by have := of_decide_eq_false HE.out.2.1; omega))
    go_wp2_with fail
    exact bodyPost_ret (results_nt3 (p := 6) (u := 7) (x := 8) rfl _ _ (w.heap.size + 1) _ _ _ rfl (HN1.out.set _ _ _)) rfl ⟨_, by rw [HSD.out]; rfl, by rw [HSD.out]; exact nt_none _, set3_below HB1.out (Nat.le_succ _) _ _ _⟩
  have HBB := Lib.hid (of_decide_eq_true HE.out.2.1)
  have HPT := Lib.hid HV.out.parts
  obtain ⟨a0, a1, a2⟩ := HA1.out.cells
  go_wp2_with fail
  refine (IF.out w3).mono ?_
  rintro e w4 ⟨rfl, hb4⟩
  have HB4 := Lib.hid (Below.then HB1.out hb4)
  have HA4 := Lib.hid (HA1.out.keep hb4)
  have HN4 := Lib.hid (HN1.out.keep hb4)
  clear hb4 a0 a1 a2 b0 b1 b2 f0 f1 f2
  obtain ⟨a0, a1, a2⟩ := HA4.out.cells
  obtain ⟨b0, b1, b2⟩ := HN4.out.cells
  obtain ⟨f0, f1, f2⟩ := HN4.out.free
  by_cases hk : k = 32
  · have HSD := Lib.hid (send_full (body := body) HE.out.2.2 HTB.out HBB.out (Or.inl (by rw [← HPT.out.1]; exact hk)))
    rw [decide_eq_true hk]
    go_wp2_with fail
    exact bodyPost_ret (results_nt3 (p := 6) (u := 7) (x := 8) rfl _ _ (w.heap.size + 1) _ _ _ rfl (HN4.out.set _ _ _)) rfl ⟨_, by rw [HSD.out]; rfl, by rw [HSD.out]; exact nt_none _, set3_below HB4.out (Nat.le_succ _) _ _ _⟩
  rw [decide_eq_false hk]
  by_cases hq : q = 1099511627776
  · have HSD := Lib.hid (send_full (body := body) HE.out.2.2 HTB.out HBB.out (Or.inr (by rw [← HPT.out.2.1]; exact hq)))
    go_wp2_with fail
    exact bodyPost_ret (results_nt3 (p := 6) (u := 7) (x := 8) rfl _ _ (w.heap.size + 1) _ _ _ rfl (HN4.out.set _ _ _)) rfl ⟨_, by rw [HSD.out]; rfl, by rw [HSD.out]; exact nt_none _, set3_below HB4.out (Nat.le_succ _) _ _ _⟩
  obtain ⟨q1, hq1⟩ : ∃ x, q + 1 = x := ⟨_, rfl⟩
  have HSD := Lib.hid (show sendA n to body = (⟨n.fl ++ [⟨q1, to, body, l⟩], q1, l⟩, q1, 0) by
    rw [send_ok HE.out.2.2 HTB.out HBB.out (by rw [← HPT.out.1]; exact hk) (by rw [← HPT.out.2.1]; exact hq), ← HPT.out.2.1, ← HPT.out.2.2.1, hq1])
  have HMAY := (Nt.right_iff n).1 HE.out.2.2
  have hl1 := HMAY.last
  rw [← HPT.out.2.1] at hl1
  have hwr : IntKind.i64.wrap q1 = q1 := by rw [IntKind.wrap_i64]; omega
  have hi1 : i64 q1 := ⟨by omega, by omega⟩
  have HWT := Lib.hid (fun w' (hb : Below w.heap.size w w') => with_t a k c q1 l ⟨n.fl, q1, l⟩ ⟨q1, to, body, l⟩ w' ⟨⟨_, rfl, ((HPT.out.2.2.2.2.2).keep hb)⟩, HV.out.fits, hi1, by rw [HPT.out.2.2.1]; exact HV.out.now⟩ ⟨hi1, HTO.out, HBO.out, by rw [HPT.out.2.2.1]; exact HV.out.now⟩ (by have := HMAY.few; show n.fl.length ≤ 300; omega))
  unfold msV at HWT
  simp only at HWT
  have HT1 := Lib.hid hq1
  obtain ⟨z0, z1, z2⟩ := HA4.out.free
  clear hl1 hi1 HMAY hk
  go_upto_region 8 with fail
  obtain ⟨w5, hw5⟩ : ∃ x, w4.setCell ⟨w.heap.size, 1, none⟩ (.int .i64 q1) = x := ⟨_, rfl⟩
  rw [hw5]
  have HA5 := Lib.hid (show At3 24 w5 w.heap.size (.slice a k c) (.int .i64 q1) (.int .i64 l) by rw [← hw5]; exact HA4.out.at1 _)
  have HN5 := Lib.hid (show At3 24 w5 (w.heap.size + 1) nilV (.int .i64 0) (.int .i64 0) by
    rw [← hw5]; exact (Below.heap_setCell _ _ _ _ (show w.heap.size + 1 ≠ w.heap.size by omega)).trans HN4.out)
  have HB5 := Lib.hid (show Below w.heap.size w w5 by rw [← hw5]; exact HB4.out.setCell (p := ⟨w.heap.size, 1, none⟩) (Nat.le_refl _) _)
  have hne2 : w.heap.size + 1 ≠ w.heap.size := by omega
  clear hw5 hq1 hq hwr a0 a1 a2 b0 b1 b2 f0 f1 f2 z0 z1 z2
  obtain ⟨a0, a1, a2⟩ := HA5.out.cells
  go_region_held3 (fun w' => w'.cell? ⟨w.heap.size, 0, none⟩ = some (.slice a k c) ∧ w'.cell? ⟨w.heap.size, 1, none⟩ = some (.int .i64 q1) ∧ w'.cell? ⟨w.heap.size, 2, none⟩ = some (.int .i64 l))
    (first | exact ⟨a0, a1, a2⟩ | exact ⟨far3 a0 hne2, far3 a1 hne2, far3 a2 hne2⟩)
    (first | (go_simp; go_at_call 21
              refine (HWT.out w5.drew (HB5.out.drew)).mono ?_
              rintro e wS ⟨v', rfl, hvS, hbS0⟩
              have hbS : Below w5.heap.size w5 wS := Below.then (Below.refl _ _).drew hbS0
              obtain ⟨a', k', c', q', l', rfl⟩ := hvS.three
              obtain ⟨z0, z1, z2⟩ := (HN5.out.keep hbS).cells
              obtain ⟨f0, f1, f2⟩ := (HN5.out.keep hbS).free
              obtain ⟨a0, a1, a2⟩ := (HA5.out.keep hbS).cells))
  have HNS := Lib.hid (HN5.out.keep hbS)
  have HVS := Lib.hid hvS
  have HBS := Lib.hid (Below.then HB5.out hbS)
  clear a0 a1 a2 z0 z1 z2 f0 f1 f2 hvS hbS hbS0
  go_wp2_with fail
  exact bodyPost_ret (results_nt3 (p := 6) (u := 7) (x := 8) rfl _ _ (w.heap.size + 1) _ _ _ rfl (HNS.out.set _ _ _)) rfl
    ⟨_, by rw [HSD.out]; rfl, by rw [HSD.out]; exact HVS.out.away ⟨_, _, _, _, _, HNS.out⟩ fun g hg => set3_block _ _ _ _ _ _ hg, set3_below HBS.out (Nat.le_succ _) _ _ _⟩
end Go.Proofs.Ytjjefdgcbdfclaa
