/-
  The program's Twice, by a contract. Conditions: none.
-/
import Derived.Test.YtjjefdgcbdfclaaPrgWireF
namespace Go.Proofs.Ytjjefdgcbdfclaa
open Go.RowKit Go.WideShapes

theorem far3 {w : World} {B b i : Nat} {x v0 v1 v2 : Value} (h : w.cell? ⟨b, i, none⟩ = some x) (hne : B ≠ b) :
    (((w.setCell ⟨B, 0, none⟩ v0).setCell ⟨B, 1, none⟩ v1).setCell ⟨B, 2, none⟩ v2).cell? ⟨b, i, none⟩ = some x :=
  far_cell (far_cell (far_cell h hne) hne) hne
theorem twice_not {n : Nt} {p : Int} (h : placeE n p ≠ 0) : twiceA n p = (noN, placeE n p) := by unfold twiceA; rw [if_neg h]

set_option maxRecDepth 100000 in
set_option maxHeartbeats 8000000 in
theorem Twice_t (v : Value) (n : Nt) (p : Int) (w : World) (h : NtAt w v n) (hp : i64 p) :
    Calls Try.prog 10 #[v, .int .i64 p] w fun e w' => ∃ v', e = .returned (.tuple #[v', .int .i64 (twiceA n p).2]) ∧ NtAt w' v' (twiceA n p).1 ∧ Below w.heap.size w w' := by
  have HS := Lib.hid (fun w' (hb : Below w.heap.size w w') => stands_t v n p w' (h.keep hb))
  have HV := Lib.hid h
  obtain ⟨a, k, c, q, l, rfl⟩ := h.three
  obtain ⟨W, hW⟩ : ∃ W, (w.alloc (.cells #[.slice a k c, .int .i64 q, .int .i64 l] 24)).alloc (.cells #[nilV, .int .i64 0, .int .i64 0] 24) = W := ⟨_, rfl⟩
  have h2 := two_net w (.slice a k c) (.int .i64 q) (.int .i64 l) nilV (.int .i64 0) (.int .i64 0) 24
  rw [hW] at h2
  have HW := Lib.hid hW
  have HB := Lib.hid h2.2.2
  have HA := Lib.hid h2.1
  have HN := Lib.hid h2.2.1
  have HSW := Lib.hid (HS.out W h2.2.2)
  obtain ⟨a0, a1, a2⟩ := h2.1.cells
  obtain ⟨pe, hpe⟩ : ∃ x, placeE n p = x := ⟨_, rfl⟩
  rw [hpe] at HSW
  have HPE := Lib.hid hpe
  clear h2 hW h hpe HS
  go_enter Try.func10, Try.ntmps10
  go_upto_region 1 with fail
  rw [HW.out]
  go_wp2_with fail
  refine HSW.out.mono ?_
  rintro e w1 ⟨rfl, hb1⟩
  have HB1 := Lib.hid (Below.then HB.out hb1)
  have HA1 := Lib.hid (HA.out.keep hb1)
  have HN1 := Lib.hid (HN.out.keep hb1)
  clear hb1 a0 a1 a2
  by_cases he : pe = 0
  rotate_left
  · have HTK := Lib.hid (twice_not (n := n) (p := p) (by rw [HPE.out]; exact he))
    obtain ⟨b0, b1, b2⟩ := HN1.out.cells
    obtain ⟨f0, f1, f2⟩ := HN1.out.free
    go_wp2_with fail
    exact bodyPost_ret (results_nt (p := 4) (u := 5) rfl _ _ (w.heap.size + 1) _ _ _ rfl (HN1.out.set _ _ _)) rfl ⟨_, by rw [HTK.out, HPE.out]; rfl, by rw [HTK.out]; exact nt_none _, set3_below HB1.out (Nat.le_succ _) _ _ _⟩
  · subst he
    obtain ⟨hr, hp0, hpl⟩ := place_zero HPE.out
    obtain ⟨pn, rfl⟩ := Int.eq_ofNat_of_zero_le hp0
    obtain ⟨e1, e2, e3, hc, hcm, hra⟩ := HV.out.parts
    have hpn : pn < n.fl.length := by omega
    have hpk : pn < k := by omega
    have IF := Lib.hid (fun w => isFull_t a k c q l w)
    have HE := Lib.hid e1
    clear e1 e2 e3
    obtain ⟨a0, a1, a2⟩ := HA1.out.cells
    go_wp2_with fail
    refine (IF.out w1).mono ?_
    rintro e w2 ⟨rfl, hb2⟩
    have HB2 := Lib.hid (Below.then HB1.out hb2)
    have HA2 := Lib.hid (HA1.out.keep hb2)
    have HN2 := Lib.hid (HN1.out.keep hb2)
    clear hb2 a0 a1 a2
    by_cases hk : k = 32
    · have HTK := Lib.hid (twice_full hr hpn (by rw [← HE.out]; exact hk))
      obtain ⟨b0, b1, b2⟩ := HN2.out.cells
      obtain ⟨f0, f1, f2⟩ := HN2.out.free
      rw [decide_eq_true hk]
      go_wp2_with fail
      exact bodyPost_ret (results_nt (p := 4) (u := 5) rfl _ _ (w.heap.size + 1) _ _ _ rfl (HN2.out.set _ _ _)) rfl ⟨_, by rw [HTK.out]; rfl, by rw [HTK.out]; exact nt_none _, set3_below HB2.out (Nat.le_succ _) _ _ _⟩
    · rw [decide_eq_false hk]
      have HTK := Lib.hid (twice_some hr hpn (by rw [← HE.out]; exact hk))
      have HMAY := (Nt.right_iff n).1 hr
      have hfm := HV.out.fits _ (List.getElem_mem hpn)
      have hwt := fun w' (hb : Below w.heap.size w w') => with_t a k c q l n n.fl[pn] w' (HV.out.keep hb) hfm (by have := HMAY.few; omega)
      obtain ⟨b, o, rfl, x0, x1', x2', x3'⟩ := ms_at hra pn hpn
      have hlt : b < w.heap.size := World.block_lt_of_cell? _ _ x0
      have KS := Lib.hid (fun w' (hb : Below w.heap.size w w') => And.intro (Below.keepc hb x0) (And.intro (Below.keepc hb x1') (And.intro (Below.keepc hb x2') (Below.keepc hb x3'))))
      obtain ⟨⟨x1, x2, x3, x4⟩, hm⟩ : ∃ x, n.fl[pn] = x := ⟨_, rfl⟩
      rw [hm] at HTK hwt KS
      unfold msV at hwt
      simp only at KS hwt
      have HWT := Lib.hid hwt
      have hne : w.heap.size + 1 ≠ b := by omega
      have hne2 : w.heap.size + 1 ≠ w.heap.size := by omega
      have u0 : (0 : Int) ≤ (pn : Int) := by omega
      have u1 : (pn : Int) < (k : Int) := by omega
      clear x0 x1' x2' x3' hra hm hfm hwt hr hp0 hpl hp HMAY hc
      obtain ⟨x0, x1', x2', x3'⟩ := KS.out w2 HB2.out
      obtain ⟨a0, a1, a2⟩ := HA2.out.cells
      go_upto_region 6 with fail
      go_region_held3 (fun w' => w'.cell? ⟨b, o + pn * 4, none⟩ = some (.int .i64 x1) ∧ w'.cell? ⟨b, o + pn * 4 + 1, none⟩ = some (.int .i64 x2) ∧ w'.cell? ⟨b, o + pn * 4 + 2, none⟩ = some (.string x3) ∧ w'.cell? ⟨b, o + pn * 4 + 3, none⟩ = some (.int .i64 x4) ∧ w'.cell? ⟨w.heap.size, 0, none⟩ = some (.slice (some ⟨b, o, none⟩) k c) ∧ w'.cell? ⟨w.heap.size, 1, none⟩ = some (.int .i64 q) ∧ w'.cell? ⟨w.heap.size, 2, none⟩ = some (.int .i64 l))
        (first | exact ⟨x0, x1', x2', x3', a0, a1, a2⟩ | exact ⟨far3 x0 hne, far3 x1' hne, far3 x2' hne, far3 x3' hne, far3 a0 hne2, far3 a1 hne2, far3 a2 hne2⟩)
        (first | (go_simp; go_at_call 21
                  refine (HWT.out w2.drew (HB2.out.drew)).mono ?_
                  rintro e wS ⟨v', rfl, hvS, hbS0⟩
                  have hbS : Below w2.heap.size w2 wS := Below.then (Below.refl _ _).drew hbS0
                  obtain ⟨a', k', c', q', l', rfl⟩ := hvS.three
                  obtain ⟨z0, z1, z2⟩ := (HN2.out.keep hbS).cells
                  obtain ⟨f0, f1, f2⟩ := (HN2.out.keep hbS).free
                  obtain ⟨x0, x1', x2', x3'⟩ := KS.out wS (Below.then HB2.out hbS)
                  obtain ⟨a0, a1, a2⟩ := (HA2.out.keep hbS).cells))
      have HNS := Lib.hid (HN2.out.keep hbS)
      have HVS := Lib.hid hvS
      have HBS := Lib.hid (Below.then HB2.out hbS)
      clear x0 x1' x2' x3' a0 a1 a2 z0 z1 z2 f0 f1 f2 hvS hbS hbS0
      go_wp2_with fail
      exact bodyPost_ret (results_nt (p := 4) (u := 5) rfl _ _ (w.heap.size + 1) _ _ _ rfl (HNS.out.set _ _ _)) rfl
        ⟨_, by rw [HTK.out]; rfl, by rw [HTK.out]; exact HVS.out.away ⟨_, _, _, _, _, HNS.out⟩ fun g hg => set3_block _ _ _ _ _ _ hg, set3_below HBS.out (Nat.le_succ _) _ _ _⟩
end Go.Proofs.Ytjjefdgcbdfclaa
