/-
  ManifestApart's walk: it answers true. Conditions: what comes in reads as manifests; the package-level variables as MEnv says.
-/
import Derived.Test.YtfcglnajdfpmhaaGreatDoorZLMKt
import Derived.Test.YtfcglnajdfpmhaaGreatDoorZLMFw
import Derived.Test.YtfcglnajdfpmhaaGreatDoorZAliv
import Derived.Test.YtfcglnajdfpmhaaGreatDoorZRefM3
import Derived.Test.YtfcglnajdfpmhaaGreatDoorZRegS
import Derived.Deep.CutBlock
import Derived.Deep.CutRange
import Derived.Deep.DeepCutAuto
import Derived.Deep.RegionWith
import Derived.BigQuiet
namespace Go.Proofs.YtfcglnajdfpmhaaGreatDoor
open Go.RowKit

set_option maxRecDepth 100000 in
set_option maxHeartbeats 8000000 in
theorem mapart_walk (ma mb : Man) (va vb : Value) (w : World) (he : MEnv w) (hva : ManAt w va ma) (hvb : ManAt w vb mb) :
    Calls Tryz.prog 7 #[va, vb] w fun e w' => e = .returned (.bool true) ∧ Below w.heap.size w w' := by
  obtain ⟨i0, c0, la0, nl0, lc0, ka0, nk0, kc0, rfl, -, -, -, -⟩ := hva.shape
  obtain ⟨i1, c1, la1, nl1, lc1, ka1, nk1, kc1, rfl, -, -, -, -⟩ := hvb.shape
  obtain ⟨M, hM⟩ : ∃ M, w.heap.size = M := ⟨_, rfl⟩
  obtain ⟨W0, hW0⟩ : ∃ W0, (w.alloc (.cells #[.bool i0, .string c0, .slice la0 nl0 lc0, .slice ka0 nk0 kc0] 25)).alloc (.cells #[.bool i1, .string c1, .slice la1 nl1 lc1, .slice ka1 nk1 kc1] 25) = W0 := ⟨_, rfl⟩
  have hb0 : Below w.heap.size w W0 := by rw [← hW0]; exact Below.then (below_new _ _) (below_new _ _)
  have hs0 : W0.heap.size = M + 2 := by rw [← hW0, World.size_alloc, World.size_alloc, hM]
  have hA0 : At4 W0 M (.bool i0) (.string c0) (.slice la0 nl0 lc0) (.slice ka0 nk0 kc0) := by rw [← hM, ← hW0]; exact (At4.new _ _ _ _ _).keep (below_new _ _)
  have hC0 : At4 W0 (M + 1) (.bool i1) (.string c1) (.slice la1 nl1 lc1) (.slice ka1 nk1 kc1) := by
    rw [← hM, ← hW0]
    have e := At4.new (w.alloc (.cells #[.bool i0, .string c0, .slice la0 nl0 lc0, .slice ka0 nk0 kc0] 25)) (.bool i1) (.string c1) (.slice la1 nl1 lc1) (.slice ka1 nk1 kc1)
    rwa [World.size_alloc] at e
  have CA := Lib.hid (fun w' (h : Below W0.heap.size W0 w') => fewM_t ma _ w' (hva.keep (Below.then hb0 h)))
  have CB := Lib.hid (fun w' (h : Below W0.heap.size W0 w') => fewM_t mb _ w' (hvb.keep (Below.then hb0 h)))
  have HA0 := Lib.hid hA0
  have HC0 := Lib.hid hC0
  have HB0 := Lib.hid hb0
  have HS0 := Lib.hid hs0
  have HW0 := Lib.hid hW0
  have HM := Lib.hid hM
  have HE := Lib.hid he
  obtain ⟨m1, hm1⟩ : ∃ x, fewM ma = x := ⟨_, rfl⟩
  obtain ⟨m2, hm2⟩ : ∃ x, fewM mb = x := ⟨_, rfl⟩
  have HF := Lib.hid (show m1.Few by rw [← hm1]; exact fewM_few ma)
  have HG := Lib.hid (show m2.Few by rw [← hm2]; exact fewM_few mb)
  rw [hm1] at CA
  rw [hm2] at CB
  obtain ⟨a0, a1, a2, a3⟩ := hA0.cells
  obtain ⟨c0', c1', c2', c3'⟩ := hC0.cells
  clear hb0 hs0 hA0 hC0 hW0 hM he hva hvb hm1 hm2
  go_enter Tryz.func7, Tryz.ntmps7
  go_upto_region 1 with fail
  rw [HW0.out, HM.out]
  refine wp_region_S (S := fun w' => (w'.cell? ⟨M, 0, none⟩ = some (.bool i0) ∧ w'.cell? ⟨M, 1, none⟩ = some (.string c0) ∧ w'.cell? ⟨M, 2, none⟩ = some (.slice la0 nl0 lc0) ∧ w'.cell? ⟨M, 3, none⟩ = some (.slice ka0 nk0 kc0)) ∧ (w'.cell? ⟨(M + 1), 0, none⟩ = some (.bool i1) ∧ w'.cell? ⟨(M + 1), 1, none⟩ = some (.string c1) ∧ w'.cell? ⟨(M + 1), 2, none⟩ = some (.slice la1 nl1 lc1) ∧ w'.cell? ⟨(M + 1), 3, none⟩ = some (.slice ka1 nk1 kc1))) 4 (by kernel_rfl) ?hS (fun hHeld => ?hR)
  case hS => exact ⟨⟨a0, a1, a2, a3⟩, c0', c1', c2', c3'⟩
  refine wpAnyS_take (i := 0) (oi := { dst := some 11, op := Op.load 25 (Operand.tmp 2), type := 25, pos := "law.go:96", after := #[], guard := none }) (v := ?gv0) [1, 3, 4, 5] rfl (by kernel_rfl) (by kernel_rfl) (by kernel_rfl) (by kernel_rfl) (fun _ _ _ h => h) (Or.inl ⟨by rfl, ?gy0⟩) (by assumption) ?gr0
  case gy0 => (intro w hSw; (try dsimp only at hSw); go_simp; try with_reducible rfl)
  try simp only [Act.put, List.setIfInBounds_toArray, List.set_cons_zero, List.set_cons_succ]
  refine wpAnyS_take (i := 2) (oi := { dst := some 13, op := Op.load 25 (Operand.tmp 3), type := 25, pos := "law.go:96", after := #[], guard := none }) (v := ?gv2) [3, 4, 5] rfl (by kernel_rfl) (by kernel_rfl) (by kernel_rfl) (by kernel_rfl) (fun _ _ _ h => h) (Or.inl ⟨by rfl, ?gy2⟩) (by assumption) ?gr2
  case gy2 => (intro w hSw; (try dsimp only at hSw); go_simp; try with_reducible rfl)
  try simp only [Act.put, List.setIfInBounds_toArray, List.set_cons_zero, List.set_cons_succ]
  refine wpAnyS_ready (rs := [1]) (by kernel_rfl) (by simp) ?_
  refine AllReadyS.cons (o := { dst := some 12, op := Op.call { callee := Callee.value (Operand.func 12), args := #[Operand.tmp 11], argTypes := #[25] }, type := 25, pos := "law.go:96", after := #[{ on := 0, ground := Ground.data }], guard := none }) rfl (fun K hK => ?c1) AllReadyS.nil
  rw [if_pos (by kernel_rfl)]
  go_simp
  go_wp2_with (go_at_call 12; refine (CA.out W0.drew (Below.refl _ _).drew).mono ?_; rintro e w2 ⟨v1, rfl, hm⟩)
  obtain ⟨i, c, la, nl, lc, ka, nk, kc, rfl, hi', -, -, -⟩ := hm.man.shape
  have hb2 := Below.then ((Below.refl W0.heap.size W0).drew) hm.below
  refine hK.out _ _ ?hS1 (fun hHeld1 => ?hR1)
  case hS1 => exact fun _ => ⟨(HA0.out.keep hb2).cells, (HC0.out.keep hb2).cells⟩
  clear hK K
  replace hHeld1 := hHeld1 (by kernel_rfl)
  try simp only [Act.put, List.setIfInBounds_toArray, List.set_cons_zero, List.set_cons_succ]
  refine wpAnyS_ready (rs := [3]) (by kernel_rfl) (by simp) ?_
  refine AllReadyS.cons (o := { dst := some 14, op := Op.call { callee := Callee.value (Operand.func 12), args := #[Operand.tmp 13], argTypes := #[25] }, type := 25, pos := "law.go:96", after := #[{ on := 2, ground := Ground.data }, { on := 1, ground := Ground.chain }], guard := none }) rfl (fun K hK => ?c3) AllReadyS.nil
  rw [if_pos (by kernel_rfl)]
  go_simp
  go_wp2_with (go_at_call 12; refine (CB.out w2 hb2).mono ?_; rintro e w3 ⟨v2, rfl, hn⟩)
  obtain ⟨i2, c2, la2, nl2, lc2, ka2, nk2, kc2, rfl, hi2', -, -, -⟩ := hn.man.shape
  have hb3 := Below.then hb2 hn.below
  have hA3 := HA0.out.keep hb3
  have hC3 := HC0.out.keep hb3
  obtain ⟨b0, b1, b2, b3⟩ := hA3.cells
  have f0 := hA3.frozen 0
  have f1 := hA3.frozen 1
  have f2 := hA3.frozen 2
  have f3 := hA3.frozen 3
  refine hK.out _ _ ?hS3 (fun hHeld3 => ?hR3)
  case hS3 => exact fun _ => ⟨(HA0.out.keep hb3).cells, (HC0.out.keep hb3).cells⟩
  clear hK K
  replace hHeld3 := hHeld3 (by kernel_rfl)
  try simp only [Act.put, List.setIfInBounds_toArray, List.set_cons_zero, List.set_cons_succ]
  refine wpAnyS_ready (rs := [4]) (by kernel_rfl) (by simp) ?_
  refine AllReadyS.cons (o := { dst := none, op := Op.store 25 (Operand.tmp 2) (Operand.tmp 12), type := 0, pos := "law.go:96", after := #[{ on := 1, ground := Ground.data }, { on := 3, ground := Ground.chain }, { on := 0, ground := Ground.phase }, { on := 1, ground := Ground.phase }, { on := 2, ground := Ground.textOnly Departure.lateStores }, { on := 3, ground := Ground.textOnly Departure.lateStoresUnsure }], guard := none }) rfl (fun K hK => ?c4) AllReadyS.nil
  rw [if_pos (by kernel_rfl)]
  go_simp
  obtain ⟨w4, hw4⟩ : ∃ x, set4 w3 M (.bool i) (.string c) (.slice la nl lc) (.slice ka nk kc) = x := ⟨_, rfl⟩
  rw [set4_eq hw4]
  refine hK.out _ _ ?hS4 (fun hHeld4 => ?hR4)
  case hS4 => exact fun h => Bool.noConfusion (show true = false from h)
  clear hK K
  clear hHeld4
  try simp only [Act.put, List.setIfInBounds_toArray, List.set_cons_zero, List.set_cons_succ]
  have hC4 : At4 w4 (M + 1) (.bool i1) (.string c1) (.slice la1 nl1 lc1) (.slice ka1 nk1 kc1) := by rw [← hw4]; exact (set4_block _ _ _ _ _ _ _ (by omega)).trans hC3
  obtain ⟨g0, g1, g2, g3⟩ := hC4.cells
  have k0 := hC4.frozen 0
  have k1 := hC4.frozen 1
  have k2 := hC4.frozen 2
  have k3 := hC4.frozen 3
  refine wpAnyS_ready (rs := [5]) (by kernel_rfl) (by simp) ?_
  refine AllReadyS.cons (o := { dst := none, op := Op.store 25 (Operand.tmp 3) (Operand.tmp 14), type := 0, pos := "law.go:96", after := #[{ on := 3, ground := Ground.data }, { on := 4, ground := Ground.chain }, { on := 0, ground := Ground.phase }, { on := 1, ground := Ground.phase }, { on := 2, ground := Ground.phase }, { on := 3, ground := Ground.phase }, { on := 4, ground := Ground.phase }], guard := none }) rfl (fun K hK => ?c5) AllReadyS.nil
  rw [if_pos (by kernel_rfl)]
  go_simp
  refine hK.out _ _ ?hS5 (fun hHeld5 => ?hR5)
  case hS5 => exact fun h => Bool.noConfusion (show true = false from h)
  clear hK K
  clear hHeld5
  try simp only [Act.put, List.setIfInBounds_toArray, List.set_cons_zero, List.set_cons_succ]
  refine wpAnyS_done (by kernel_rfl) ?_ _
  obtain ⟨W3, hW3⟩ : ∃ x, set4 w4 (M + 1) (.bool i2) (.string c2) (.slice la2 nl2 lc2) (.slice ka2 nk2 kc2) = x := ⟨_, rfl⟩
  have hsz0 := HS0.out
  have hwz2 := hb2.size
  have hfar : ∀ j, j ≠ M → j ≠ M + 1 → W3.heap[j]? = w3.heap[j]? := fun j h1 h2 => by rw [← hW3, ← hw4]; exact (set4_block _ _ _ _ _ _ _ h2).trans (set4_block _ _ _ _ _ _ _ h1)
  have HX := Lib.hid (show VarM W3 M i c la nl lc ka nk kc m1 from ⟨(show At4 W3 M (.bool i) (.string c) (.slice la nl lc) (.slice ka nk kc) by rw [← hW3]; exact (set4_block _ _ _ _ _ _ _ (by omega)).trans (by rw [← hw4]; exact set4_four hA3 _ _ _ _)), hm.far _ fun j h1 h2 => by
    have h1' : W0.heap.size ≤ j := h1
    exact (hfar j (by omega) (by omega)).trans (hn.below.block j h2)⟩)
  have HY := Lib.hid (show VarM W3 (M + 1) i2 c2 la2 nl2 lc2 ka2 nk2 kc2 m2 from ⟨(by rw [← hW3]; exact set4_four hC4 _ _ _ _), hn.far _ fun j h1 h2 => hfar j (by omega) (by omega)⟩)
  have HB3 := Lib.hid (show Below M w W3 by
    have h := below_set4 (below_set4 (Below.then HB0.out hb3) (Nat.le_of_eq HM.out) (.bool i) (.string c) (.slice la nl lc) (.slice ka nk kc)) (show w.heap.size ≤ M + 1 by rw [HM.out]; omega) (.bool i2) (.string c2) (.slice la2 nl2 lc2) (.slice ka2 nk2 kc2)
    rw [hw4, hW3, HM.out] at h
    exact h)
  have HI := Lib.hid hi'
  have HI2 := Lib.hid hi2'
  have HK := Lib.hid (show ∀ w', Below W3.heap.size W3 w' → Below w.heap.size w w' from fun w' h => by
    have hs := HB3.out.size
    have hM := HM.out
    exact (hM.symm ▸ HB3.out).trans (h.mono (by omega)))
  rw [set4_eq hW3]
  clear b0 b1 b2 b3 f0 f1 f2 f3 g0 g1 g2 g3 k0 k1 k2 k3 hA3 hC3 hC4 hm hn hb2 hb3 hfar hi' hi2' hW3 hw4 a0 a1 a2 a3 c0' c1' c2' c3' hHeld1 hHeld3 hHeld hsz0 hwz2
  have HEL := Lib.hid (fun w' h => HE.out.below (HK.out w' h))
  have PR := Lib.hid (fun (x : Man) v w' (h : Below W3.heap.size W3 w') (hv : ManAt w' v x) (hf : x.Few) => PrintM_t x v w' hv hf (HEL.out w' h).lo)
  have RT := Lib.hid (fun (x : Man) v w' (h : Below W3.heap.size W3 w') (hv : ManAt w' v x) (hf : x.Few) => Right_t x v w' hv hf.small (HEL.out w' h).lo)
  have PA := Lib.hid (fun s w' (h : Below W3.heap.size W3 w') (hs : s.size ≤ 1073741824) => ParseM_t s w' hs (HEL.out w' h))
  have SA := Lib.hid (fun (a b : Man) va vb w' (ha : ManAt w' va a) (hb : ManAt w' vb b) => refSame_t a b va vb w' ha hb)
  have AL := Lib.hid (fun w' (h : Below W3.heap.size W3 w') => aliveM_t w' (HEL.out w' h).lo)
  obtain ⟨a0, a1, a2, a3⟩ := HX.out.1.cells
  have P1 := Lib.hid (PR.out m1 _ W3 (Below.refl _ _) HX.out.2 HF.out)
  obtain ⟨s, k1, hp1⟩ : ∃ t k, printM m1 = (t, k) := ⟨_, _, rfl⟩
  obtain ⟨t, k2, hp2⟩ : ∃ t k, printM m2 = (t, k) := ⟨_, _, rfl⟩
  have HP1 := Lib.hid hp1
  have HP2 := Lib.hid hp2
  rw [hp1] at P1
  clear hp1
  go_wp2_with fail
  refine P1.out.mono ?_
  rintro e w4 ⟨rfl, hb4⟩
  have HB4 := Lib.hid hb4
  have HX4 := Lib.hid (HX.out.keep hb4)
  have HY4 := Lib.hid (HY.out.keep hb4)
  clear hb4 a0 a1 a2 a3
  obtain ⟨a0, a1, a2, a3⟩ := HY4.out.1.cells
  have P2 := Lib.hid (PR.out m2 _ w4 HB4.out HY4.out.2 HG.out)
  rw [hp2] at P2
  clear hp2
  go_wp2_with fail
  refine P2.out.mono ?_
  rintro e w5 ⟨rfl, hb5⟩
  have HB5 := Lib.hid (Below.then HB4.out hb5)
  have HX5 := Lib.hid (HX4.out.keep hb5)
  have HY5 := Lib.hid (HY4.out.keep hb5)
  clear hb5 a0 a1 a2 a3
  have A5 := Lib.hid (AL.out w5 HB5.out)
  rcases printM_cases m1 with ⟨s', hpr, hrt, hpa, htt⟩ | ⟨hpr, hrt⟩
  · obtain ⟨rfl, rfl⟩ : s = s' ∧ k1 = 0 := by rw [HP1.out] at hpr; exact Prod.mk.inj hpr
    clear hpr
    rcases printM_cases m2 with ⟨t', hpr2, hrt2, hpa2, htt2⟩ | ⟨hpr2, hrt2⟩
    · obtain ⟨rfl, rfl⟩ : t = t' ∧ k2 = 0 := by rw [HP2.out] at hpr2; exact Prod.mk.inj hpr2
      clear hpr2
      have htz : s.size ≤ 1073741824 := by
        have h1 := textM_le m1 hrt
        rw [← htt] at h1
        rw [Lib.size_eq]; omega
      have Q5 := Lib.hid (PA.out s w5 HB5.out htz)
      have HPA := Lib.hid hpa
      have HST := Lib.hid (print_same hrt hrt2 htt htt2)
      clear hpa hpa2 htt htt2 htz hrt hrt2
      go_wp2_with fail
      refine Q5.out.mono ?_
      rintro e w6 ⟨r6, rfl, hm6⟩
      have HB6 := Lib.hid (Below.then HB5.out hm6.below)
      rw [HPA.out] at hm6 ⊢
      obtain ⟨i7, c7, la7, nl7, lc7, ka7, nk7, kc7, rfl, hi7, -, -, -⟩ := hm6.man.shape
      obtain rfl : i7 = i := hi7.symm.trans HI.out
      obtain ⟨W7, hW7⟩ : ∃ x, w6.alloc (.cells #[.bool i7, .string c7, .slice la7 nl7 lc7, .slice ka7 nk7 kc7] 25) = x := ⟨_, rfl⟩
      have HZ7 := Lib.hid (show VarM W7 w6.heap.size i7 c7 la7 nl7 lc7 ka7 nk7 kc7 m1 by rw [← hW7]; exact VarM.new hm6)
      have hb7 : Below w5.heap.size w5 W7 := by rw [← hW7]; exact Below.then hm6.below (below_new _ _)
      have HB7 := Lib.hid (Below.then HB5.out hb7)
      have HX7 := Lib.hid (HX5.out.keep hb7)
      have HY7 := Lib.hid (HY5.out.keep hb7)
      have HW7 := Lib.hid hW7
      clear hW7 hm6 hb7 hi7
      have A7 := Lib.hid (AL.out W7 HB7.out)
      go_upto_region 7 with fail
      rw [HW7.out]
      go_wp2_with fail
      refine A7.out.mono ?_
      rintro e w8 ⟨rfl, hb8⟩
      have HB8 := Lib.hid (Below.then HB7.out hb8)
      have HX8 := Lib.hid (HX7.out.keep hb8)
      have HY8 := Lib.hid (HY7.out.keep hb8)
      have HZ8 := Lib.hid (HZ7.out.keep hb8)
      clear hb8
      obtain ⟨a0, a1, a2, a3⟩ := HX8.out.1.cells
      obtain ⟨b0, b1, b2, b3⟩ := HY8.out.1.cells
      have S8 := Lib.hid (SA.out m1 m2 _ _ w8 HX8.out.2 HY8.out.2)
      by_cases hst : s = t
      · subst hst
        have hmm : m1 = m2 := HST.out.1 rfl
        obtain rfl : i7 = i2 := by rw [← HI.out, ← HI2.out, hmm]
        have HMM := Lib.hid hmm
        clear hmm
        have q1 : (s.toList == s.toList) = true := by simp
        go_wp2_with fail
        refine S8.out.mono ?_
        rintro e w9 ⟨r9, rfl, hr9, hb9⟩
        obtain rfl : r9 = true := hr9.2 HMM.out
        have HB9 := Lib.hid (HK.out _ (Below.then HB8.out hb9))
        obtain ⟨d0, d1, d2, d3⟩ := (HX8.out.keep hb9).1.cells
        obtain ⟨g0, g1, g2, g3⟩ := (HY8.out.keep hb9).1.cells
        obtain ⟨h0, h1, h2, h3⟩ := (HZ8.out.keep hb9).1.cells
        have qi : (i7 == i7) = true := by cases i7 <;> rfl
        clear hb9 hr9
        go_wp2_with fail
        go_ret
        exact ⟨rfl, HB9.out⟩
      · have q1 : (s.toList == t.toList) = false := by rw [beqB]; exact decide_eq_false hst
        have HNE := Lib.hid (show m1 ≠ m2 from fun e => hst (HST.out.2 e))
        clear hst
        go_wp2_with fail
        refine S8.out.mono ?_
        rintro e w9 ⟨r9, rfl, hr9, hb9⟩
        obtain rfl : r9 = false := by
          cases r9 with
          | false => rfl
          | true => exact absurd (hr9.1 rfl) HNE.out
        have HB9 := Lib.hid (HK.out _ (Below.then HB8.out hb9))
        obtain ⟨d0, d1, d2, d3⟩ := (HX8.out.keep hb9).1.cells
        obtain ⟨g0, g1, g2, g3⟩ := (HY8.out.keep hb9).1.cells
        obtain ⟨h0, h1, h2, h3⟩ := (HZ8.out.keep hb9).1.cells
        have qi : (i7 == i7) = true := by cases i7 <;> rfl
        clear hb9 hr9
        obtain ⟨bi, hbi⟩ : ∃ x, (i7 == i2) = x := ⟨_, rfl⟩
        cases bi
        all_goals
          go_wp2_with fail
          go_ret
          exact ⟨rfl, HB9.out⟩
    · obtain ⟨rfl, rfl⟩ : t = ⟨#[]⟩ ∧ k2 = 1 := by rw [HP2.out] at hpr2; exact Prod.mk.inj hpr2
      clear hpr2 hrt2
      go_wp2_with fail
      refine A5.out.mono ?_
      rintro e w6 ⟨rfl, hb6⟩
      have HEND := Lib.hid (HK.out _ (Below.then HB5.out hb6))
      clear hb6
      go_wp2_with fail
      go_ret
      exact ⟨rfl, HEND.out⟩
  · obtain ⟨rfl, rfl⟩ : s = ⟨#[]⟩ ∧ k1 = 1 := by rw [HP1.out] at hpr; exact Prod.mk.inj hpr
    clear hpr hrt
    go_wp2_with fail
    refine A5.out.mono ?_
    rintro e w6 ⟨rfl, hb6⟩
    have HEND := Lib.hid (HK.out _ (Below.then HB5.out hb6))
    clear hb6
    go_wp2_with fail
    go_ret
    exact ⟨rfl, HEND.out⟩
end Go.Proofs.YtfcglnajdfpmhaaGreatDoor
