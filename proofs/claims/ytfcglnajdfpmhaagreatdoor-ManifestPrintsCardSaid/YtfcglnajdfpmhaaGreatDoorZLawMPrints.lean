/-
  ManifestPrints' walk: it answers true. Conditions: what comes in reads as a manifest; the package-level variables as MLow says.
-/
import Derived.Test.YtfcglnajdfpmhaaGreatDoorZLMKt
import Derived.Test.YtfcglnajdfpmhaaGreatDoorZLMFw
import Derived.Test.YtfcglnajdfpmhaaGreatDoorZMnBl
import Derived.Test.YtfcglnajdfpmhaaGreatDoorZAliv
import Derived.Test.YtfcglnajdfpmhaaGreatDoorZRefM2
import Derived.Deep.CutBlock
import Derived.Deep.CutRange
import Derived.Deep.DeepCutAuto
import Derived.Deep.RegionWith
import Derived.BigQuiet
namespace Go.Proofs.YtfcglnajdfpmhaaGreatDoor
open Go.RowKit

set_option maxRecDepth 100000 in
set_option maxHeartbeats 8000000 in
theorem mprints_walk (m : Man) (v : Value) (w : World) (he : MLow w) (hv : ManAt w v m) :
    Calls Tryz.prog 3 #[v] w fun e w' => e = .returned (.bool true) ∧ Below w.heap.size w w' := by
  obtain ⟨i0, c0, la0, nl0, lc0, ka0, nk0, kc0, rfl, -, -, -, -⟩ := hv.shape
  obtain ⟨M, hM⟩ : ∃ M, w.heap.size = M := ⟨_, rfl⟩
  obtain ⟨W0, hW0⟩ : ∃ W0, w.alloc (.cells #[.bool i0, .string c0, .slice la0 nl0 lc0, .slice ka0 nk0 kc0] 25) = W0 := ⟨_, rfl⟩
  have hb0 : Below w.heap.size w W0 := by rw [← hW0]; exact below_new _ _
  have hs0 : M < W0.heap.size := by rw [← hW0, World.size_alloc, hM]; exact Nat.lt_succ_self _
  have hA0 : At4 W0 M (.bool i0) (.string c0) (.slice la0 nl0 lc0) (.slice ka0 nk0 kc0) := by rw [← hM, ← hW0]; exact At4.new _ _ _ _ _
  have CF := Lib.hid (fun w' (h : Below W0.heap.size W0 w') => fewM_t m _ w' (hv.keep (Below.then hb0 h)))
  have HA0 := Lib.hid hA0
  have HB0 := Lib.hid hb0
  have HS0 := Lib.hid hs0
  have HW0 := Lib.hid hW0
  have HM := Lib.hid hM
  have HE := Lib.hid he
  obtain ⟨m1, hm1⟩ : ∃ x, fewM m = x := ⟨_, rfl⟩
  have HF := Lib.hid (show m1.Few by rw [← hm1]; exact fewM_few m)
  rw [hm1] at CF
  obtain ⟨a0, a1, a2, a3⟩ := hA0.cells
  clear hb0 hs0 hA0 hW0 hM he hv hm1
  go_enter Tryz.func3, Tryz.ntmps3
  go_upto_region 1 with fail
  rw [HW0.out, HM.out]
  go_wp2_with fail
  refine (CF.out W0 (Below.refl _ _)).mono ?_
  rintro e w2 ⟨v1, rfl, hm⟩
  obtain ⟨i, c, la, nl, lc, ka, nk, kc, rfl, hi', -, -, -⟩ := hm.man.shape
  obtain ⟨W3, hW3⟩ : ∃ x, set4 w2 M (.bool i) (.string c) (.slice la nl lc) (.slice ka nk kc) = x := ⟨_, rfl⟩
  have hA2 := HA0.out.keep hm.below
  have HX := Lib.hid (show VarM W3 M i c la nl lc ka nk kc m1 by rw [← hW3]; exact VarM.set hA2 HS0.out hm)
  have HB3 := Lib.hid (show Below M w W3 by
    have h := below_set4 (Below.then HB0.out hm.below) (Nat.le_of_eq HM.out) (.bool i) (.string c) (.slice la nl lc) (.slice ka nk kc)
    rw [hW3, HM.out] at h
    exact h)
  have HI := Lib.hid hi'
  have HW3 := Lib.hid (set4_eq hW3)
  have HK := Lib.hid (show ∀ w', Below W3.heap.size W3 w' → Below w.heap.size w w' from fun w' h => by
    have hs := HB3.out.size
    have hM := HM.out
    exact (hM.symm ▸ HB3.out).trans (h.mono (by omega)))
  have HEL := Lib.hid (fun w' h => HE.out.below (HK.out w' h))
  have RT := Lib.hid (fun w' (h : Below W3.heap.size W3 w') => Right_t m1 _ w' (HX.out.keep h).2 HF.out.small (HEL.out w' h))
  have PR := Lib.hid (fun w' (h : Below W3.heap.size W3 w') => PrintM_t m1 _ w' (HX.out.keep h).2 HF.out (HEL.out w' h))
  have AL := Lib.hid (fun w' (h : Below W3.heap.size W3 w') => aliveM_t w' (HEL.out w' h))
  have RR := Lib.hid (fun w' (h : Below W3.heap.size W3 w') => refRight_t m1 _ w' (HX.out.keep h).2)
  have BL := Lib.hid (fun w' (h : Below W3.heap.size W3 w') => Blobs_t m1 _ w' (HX.out.keep h).2 HF.out (HEL.out w' h))
  have RB := Lib.hid (fun w' (h : Below W3.heap.size W3 w') => refBlobs_t m1 _ w' (HX.out.keep h).2 HF.out)
  have SM := Lib.hid (fun w' (_ : Below W3.heap.size W3 w') va vb (ha : StrsAt w' va (blobsM m1)) (hb : StrsAt w' vb (blobsM m1)) => same01_t va vb _ _ w' ha hb)
  have TX := Lib.hid (fun w' (h : Below W3.heap.size W3 w') hr => refText_t m1 _ w' (HEL.out w' h).t (HX.out.keep h).2 hr)
  obtain ⟨r, hr⟩ : ∃ r, rightM m1 = r := ⟨_, rfl⟩
  rw [hr] at RT RR
  have HR := Lib.hid hr
  obtain ⟨b0, b1, b2, b3⟩ := hA2.cells
  have f0 := hA2.frozen 0
  have f1 := hA2.frozen 1
  have f2 := hA2.frozen 2
  have f3 := hA2.frozen 3
  clear hA2 hm hi' hW3 hr a0 a1 a2 a3
  go_upto_region 2 with fail
  rw [HW3.out]
  clear b0 b1 b2 b3 f0 f1 f2 f3
  obtain ⟨a0, a1, a2, a3⟩ := HX.out.1.cells
  obtain ⟨s, k, hp⟩ : ∃ s k, printM m1 = (s, k) := ⟨_, _, rfl⟩
  have HP := Lib.hid hp
  have P1 := Lib.hid (PR.out W3 (Below.refl _ _))
  rw [hp] at P1
  clear hp
  go_wp2_with fail
  refine P1.out.mono ?_
  rintro e w4 ⟨rfl, hb4⟩
  have HB4 := Lib.hid hb4
  have HX4 := Lib.hid (HX.out.keep hb4)
  clear hb4 a0 a1 a2 a3
  go_upto_region 3 with fail
  have RT4 := Lib.hid (fun w' (h : Below w4.heap.size w4 w') => RT.out w' (Below.then HB4.out h))
  have RR4 := Lib.hid (fun w' (h : Below w4.heap.size w4 w') => RR.out w' (Below.then HB4.out h))
  have BL4 := Lib.hid (fun w' (h : Below w4.heap.size w4 w') => BL.out w' (Below.then HB4.out h))
  have RB4 := Lib.hid (fun w' (h : Below w4.heap.size w4 w') => RB.out w' (Below.then HB4.out h))
  have SM4 := Lib.hid (fun w' (h : Below w4.heap.size w4 w') => SM.out w' (Below.then HB4.out h))
  have AL4 := Lib.hid (fun w' (h : Below w4.heap.size w4 w') => AL.out w' (Below.then HB4.out h))
  have q0 : (r != r) = false := by cases r <;> rfl
  have hbA := Below.refl w4.heap.size w4
  obtain ⟨mc0, mc1, mc2, mc3⟩ := HX4.out.1.cells
  refine wp_region_held_drew (S := fun w' => (w'.cell? ⟨M, 0, none⟩ = some (.bool i) ∧ w'.cell? ⟨M, 1, none⟩ = some (.string c) ∧ w'.cell? ⟨M, 2, none⟩ = some (.slice la nl lc) ∧ w'.cell? ⟨M, 3, none⟩ = some (.slice ka nk kc))) (by kernel_rfl) ?hSq (fun hHeld => ?hRq)
  case hSq => exact ⟨mc0, mc1, mc2, mc3⟩
  refine wpAnyH_take (i := 0) (oi := { dst := some 12, op := Op.load 25 (Operand.tmp 1), type := 25, pos := "law.go:35", after := #[], guard := none }) (v := ?gvq0) rfl (by kernel_rfl) (by kernel_rfl) (by kernel_rfl) (fun _ _ _ h => h) (Or.inl ⟨by rfl, ?gyq0⟩) (by assumption) ?grq0
  case gyq0 => (intro w hSw; (try dsimp only at hSw); go_simp; try with_reducible rfl)
  try simp only [Act.put, List.setIfInBounds_toArray, List.set_cons_zero, List.set_cons_succ]
  refine wpAnyH_take (i := 2) (oi := { dst := some 14, op := Op.load 25 (Operand.tmp 1), type := 25, pos := "law.go:35", after := #[], guard := none }) (v := ?gvq2) rfl (by kernel_rfl) (by kernel_rfl) (by kernel_rfl) (fun _ _ _ h => h) (Or.inl ⟨by rfl, ?gyq2⟩) (by assumption) ?grq2
  case gyq2 => (intro w hSw; (try dsimp only at hSw); go_simp; try with_reducible rfl)
  try simp only [Act.put, List.setIfInBounds_toArray, List.set_cons_zero, List.set_cons_succ]
  refine wpAnyH_ready (rs := [1]) (by kernel_rfl) (by simp) ?_
  refine AllReadyH.cons (o := { dst := some 13, op := Op.call { callee := Callee.value (Operand.func 14), args := #[Operand.tmp 12], argTypes := #[25] }, type := 4, pos := "law.go:35", after := #[{ on := 0, ground := Ground.data }], guard := none }) rfl (fun K hK => ?_) AllReadyH.nil
  rw [if_pos (by kernel_rfl)]
  go_simp
  go_wp2_with (go_at_call 14; refine (RT4.out w4.drew (hbA.drew)).mono ?_; rintro e wq1 ⟨rfl, hbn⟩)
  have hbq1 := Below.then (hbA.drew) hbn
  obtain ⟨mc0, mc1, mc2, mc3⟩ := (HX4.out.keep hbq1).1.cells
  clear hbn
  refine hK.out _ _ ?hSq1 (fun hHeld1 => ?hRq1)
  case hSq1 => exact ⟨mc0, mc1, mc2, mc3⟩
  clear hK K
  try simp only [Act.put, List.setIfInBounds_toArray, List.set_cons_zero, List.set_cons_succ]
  refine wpAnyH_ready (rs := [3]) (by kernel_rfl) (by simp) ?_
  refine AllReadyH.cons (o := { dst := some 15, op := Op.call { callee := Callee.value (Operand.func 15), args := #[Operand.tmp 14], argTypes := #[25] }, type := 4, pos := "law.go:35", after := #[{ on := 2, ground := Ground.data }, { on := 1, ground := Ground.chain }], guard := none }) rfl (fun K hK => ?_) AllReadyH.nil
  rw [if_pos (by kernel_rfl)]
  go_simp
  go_wp2_with (go_at_call 15; refine (RR4.out wq1 (hbq1)).mono ?_; rintro e wq2 ⟨rfl, hbn⟩)
  have hbq2 := Below.then (hbq1) hbn
  obtain ⟨mc0, mc1, mc2, mc3⟩ := (HX4.out.keep hbq2).1.cells
  clear hbn
  refine hK.out _ _ ?hSq3 (fun hHeld3 => ?hRq3)
  case hSq3 => exact ⟨mc0, mc1, mc2, mc3⟩
  clear hK K
  try simp only [Act.put, List.setIfInBounds_toArray, List.set_cons_zero, List.set_cons_succ]
  refine wpAnyH_take (i := 4) (oi := { dst := some 16, op := Op.binOp BinOp.neq 4 (Operand.tmp 13) (Operand.tmp 15) 4, type := 4, pos := "law.go:35", after := #[{ on := 1, ground := Ground.data }, { on := 3, ground := Ground.data }], guard := none }) (v := ?gvq4) rfl (by kernel_rfl) (by kernel_rfl) (by kernel_rfl) (fun _ _ _ h => h) (Or.inl ⟨by rfl, ?gyq4⟩) (by assumption) ?grq4
  case gyq4 => (intro w hSw; (try dsimp only at hSw); go_simp; try with_reducible rfl)
  try simp only [Act.put, List.setIfInBounds_toArray, List.set_cons_zero, List.set_cons_succ]
  refine wpAnyH_take (i := 5) (oi := { dst := some 17, op := Op.move (Operand.tmp 16), type := 4, pos := "law.go:35", after := #[{ on := 4, ground := Ground.data }, { on := 3, ground := Ground.chain }], guard := none }) (v := ?gvq5) rfl (by kernel_rfl) (by kernel_rfl) (by kernel_rfl) (fun _ _ _ h => h) (Or.inl ⟨by rfl, ?gyq5⟩) (by assumption) ?grq5
  case gyq5 => (intro w hSw; (try dsimp only at hSw); go_simp; try with_reducible rfl)
  try simp only [Act.put, List.setIfInBounds_toArray, List.set_cons_zero, List.set_cons_succ]
  refine wpAnyH_take (i := 6) (oi := { dst := some 18, op := Op.load 25 (Operand.tmp 1), type := 25, pos := "law.go:35", after := #[{ on := 5, ground := Ground.guard }], guard := some (5, false) }) (v := ?gvq6) rfl (by kernel_rfl) (by kernel_rfl) (by kernel_rfl) (fun _ _ _ h => h) (Or.inl ⟨by rfl, ?gyq6⟩) (by assumption) ?grq6
  case gyq6 => (intro w hSw; (try dsimp only at hSw); go_simp; try with_reducible rfl)
  try simp only [Act.put, List.setIfInBounds_toArray, List.set_cons_zero, List.set_cons_succ]
  refine wpAnyH_take (i := 8) (oi := { dst := some 20, op := Op.load 25 (Operand.tmp 1), type := 25, pos := "law.go:35", after := #[{ on := 5, ground := Ground.guard }], guard := some (5, false) }) (v := ?gvq8) rfl (by kernel_rfl) (by kernel_rfl) (by kernel_rfl) (fun _ _ _ h => h) (Or.inl ⟨by rfl, ?gyq8⟩) (by assumption) ?grq8
  case gyq8 => (intro w hSw; (try dsimp only at hSw); go_simp; try with_reducible rfl)
  try simp only [Act.put, List.setIfInBounds_toArray, List.set_cons_zero, List.set_cons_succ]
  refine wpAnyH_ready (rs := [7]) (by kernel_rfl) (by simp) ?_
  refine AllReadyH.cons (o := { dst := some 19, op := Op.call { callee := Callee.value (Operand.func 17), args := #[Operand.tmp 18], argTypes := #[25] }, type := 23, pos := "law.go:35", after := #[{ on := 6, ground := Ground.data }, { on := 5, ground := Ground.chain }, { on := 5, ground := Ground.guard }], guard := some (5, false) }) rfl (fun K hK => ?_) AllReadyH.nil
  rw [if_pos (by kernel_rfl)]
  go_simp
  go_wp2_with (go_at_call 17; refine (BL4.out wq2 (hbq2)).mono ?_; rintro e wq3 ⟨vB, nB, rfl, hoB, hbn⟩)
  have hbq3 := Below.then (hbq2) hbn
  obtain ⟨mc0, mc1, mc2, mc3⟩ := (HX4.out.keep hbq3).1.cells
  clear hbn
  refine hK.out _ _ ?hSq7 (fun hHeld7 => ?hRq7)
  case hSq7 => exact ⟨mc0, mc1, mc2, mc3⟩
  clear hK K
  try simp only [Act.put, List.setIfInBounds_toArray, List.set_cons_zero, List.set_cons_succ]
  refine wpAnyH_ready (rs := [9]) (by kernel_rfl) (by simp) ?_
  refine AllReadyH.cons (o := { dst := some 21, op := Op.call { callee := Callee.value (Operand.func 18), args := #[Operand.tmp 20], argTypes := #[25] }, type := 23, pos := "law.go:35", after := #[{ on := 8, ground := Ground.data }, { on := 7, ground := Ground.chain }, { on := 5, ground := Ground.guard }], guard := some (5, false) }) rfl (fun K hK => ?_) AllReadyH.nil
  rw [if_pos (by kernel_rfl)]
  go_simp
  go_wp2_with (go_at_call 18; refine (RB4.out wq3 (hbq3)).mono ?_; rintro e wq4 ⟨vD, nD, rfl, hoD, hbn⟩)
  have hbq4 := Below.then (hbq3) hbn
  replace hoB := hoB.keep hbn
  obtain ⟨mc0, mc1, mc2, mc3⟩ := (HX4.out.keep hbq4).1.cells
  clear hbn
  refine hK.out _ _ ?hSq9 (fun hHeld9 => ?hRq9)
  case hSq9 => exact ⟨mc0, mc1, mc2, mc3⟩
  clear hK K
  try simp only [Act.put, List.setIfInBounds_toArray, List.set_cons_zero, List.set_cons_succ]
  refine wpAnyH_ready (rs := [10]) (by kernel_rfl) (by simp) ?_
  refine AllReadyH.cons (o := { dst := some 22, op := Op.call { callee := Callee.value (Operand.func 16), args := #[Operand.tmp 19, Operand.tmp 21], argTypes := #[23, 23] }, type := 4, pos := "law.go:35", after := #[{ on := 7, ground := Ground.data }, { on := 9, ground := Ground.data }, { on := 9, ground := Ground.chain }, { on := 5, ground := Ground.guard }], guard := some (5, false) }) rfl (fun K hK => ?_) AllReadyH.nil
  rw [if_pos (by kernel_rfl)]
  go_simp
  go_wp2_with (go_at_call 16; refine (SM4.out wq4 (hbq4) vB vD hoB.strs hoD.strs).mono ?_; rintro e wq5 ⟨rfl, hbn⟩)
  have hbq5 := Below.then (hbq4) hbn
  obtain ⟨mc0, mc1, mc2, mc3⟩ := (HX4.out.keep hbq5).1.cells
  clear hbn
  refine hK.out _ _ ?hSq10 (fun hHeld10 => ?hRq10)
  case hSq10 => exact ⟨mc0, mc1, mc2, mc3⟩
  clear hK K
  try simp only [Act.put, List.setIfInBounds_toArray, List.set_cons_zero, List.set_cons_succ]
  refine wpAnyH_take (i := 11) (oi := { dst := some 23, op := Op.unOp UnOp.not 4 (Operand.tmp 22), type := 4, pos := "law.go:35", after := #[{ on := 10, ground := Ground.data }, { on := 5, ground := Ground.guard }], guard := some (5, false) }) (v := ?gvq11) rfl (by kernel_rfl) (by kernel_rfl) (by kernel_rfl) (fun _ _ _ h => h) (Or.inl ⟨by rfl, ?gyq11⟩) (by assumption) ?grq11
  case gyq11 => (intro w hSw; (try dsimp only at hSw); go_simp; try with_reducible rfl)
  try simp only [Act.put, List.setIfInBounds_toArray, List.set_cons_zero, List.set_cons_succ]
  refine wpAnyH_take (i := 12) (oi := { dst := some 24, op := Op.pick (Operand.tmp 17) (Operand.const (Value.bool true)) (Operand.tmp 23), type := 4, pos := "law.go:35", after := #[{ on := 5, ground := Ground.data }, { on := 11, ground := Ground.data }], guard := none }) (v := ?gvq12) rfl (by kernel_rfl) (by kernel_rfl) (by kernel_rfl) (fun _ _ _ h => h) (Or.inl ⟨by rfl, ?gyq12⟩) (by assumption) ?grq12
  case gyq12 => (intro w hSw; (try dsimp only at hSw); go_simp; try with_reducible rfl)
  try simp only [Act.put, List.setIfInBounds_toArray, List.set_cons_zero, List.set_cons_succ]
  refine wpAnyH_take (i := 13) (oi := { dst := some 25, op := Op.move (Operand.tmp 24), type := 4, pos := "law.go:35", after := #[{ on := 12, ground := Ground.data }, { on := 10, ground := Ground.chain }], guard := none }) (v := ?gvq13) rfl (by kernel_rfl) (by kernel_rfl) (by kernel_rfl) (fun _ _ _ h => h) (Or.inl ⟨by rfl, ?gyq13⟩) (by assumption) ?grq13
  case gyq13 => (intro w hSw; (try dsimp only at hSw); go_simp; try with_reducible rfl)
  try simp only [Act.put, List.setIfInBounds_toArray, List.set_cons_zero, List.set_cons_succ]
  refine wpAnyH_ready (rs := [14]) (by kernel_rfl) (by simp) ?_
  refine AllReadyH.cons (o := { dst := some 26, op := Op.call { callee := Callee.value (Operand.func 19), args := #[], argTypes := #[] }, type := 4, pos := "law.go:35", after := #[{ on := 13, ground := Ground.chain }, { on := 13, ground := Ground.guard }], guard := some (13, false) }) rfl (fun K hK => ?_) AllReadyH.nil
  rw [if_pos (by kernel_rfl)]
  go_simp
  go_wp2_with (go_at_call 19; refine (AL4.out wq5 (hbq5)).mono ?_; rintro e wq6 ⟨rfl, hbn⟩)
  have hbq6 := Below.then (hbq5) hbn
  obtain ⟨mc0, mc1, mc2, mc3⟩ := (HX4.out.keep hbq6).1.cells
  clear hbn
  refine hK.out _ _ ?hSq14 (fun hHeld14 => ?hRq14)
  case hSq14 => exact ⟨mc0, mc1, mc2, mc3⟩
  clear hK K
  try simp only [Act.put, List.setIfInBounds_toArray, List.set_cons_zero, List.set_cons_succ]
  refine wpAnyH_take (i := 15) (oi := { dst := some 27, op := Op.unOp UnOp.not 4 (Operand.tmp 26), type := 4, pos := "law.go:35", after := #[{ on := 14, ground := Ground.data }, { on := 13, ground := Ground.guard }], guard := some (13, false) }) (v := ?gvq15) rfl (by kernel_rfl) (by kernel_rfl) (by kernel_rfl) (fun _ _ _ h => h) (Or.inl ⟨by rfl, ?gyq15⟩) (by assumption) ?grq15
  case gyq15 => (intro w hSw; (try dsimp only at hSw); go_simp; try with_reducible rfl)
  try simp only [Act.put, List.setIfInBounds_toArray, List.set_cons_zero, List.set_cons_succ]
  refine wpAnyH_take (i := 16) (oi := { dst := some 28, op := Op.pick (Operand.tmp 25) (Operand.const (Value.bool true)) (Operand.tmp 27), type := 4, pos := "law.go:35", after := #[{ on := 13, ground := Ground.data }, { on := 15, ground := Ground.data }], guard := none }) (v := ?gvq16) rfl (by kernel_rfl) (by kernel_rfl) (by kernel_rfl) (fun _ _ _ h => h) (Or.inl ⟨by rfl, ?gyq16⟩) (by assumption) ?grq16
  case gyq16 => (intro w hSw; (try dsimp only at hSw); go_simp; try with_reducible rfl)
  try simp only [Act.put, List.setIfInBounds_toArray, List.set_cons_zero, List.set_cons_succ]
  refine wpAnyH_done (by kernel_rfl) ?_ _
  have HB5 := Lib.hid (Below.then HB4.out hbq6)
  have R5 := Lib.hid (RR.out _ HB5.out)
  have HX5 := Lib.hid (HX4.out.keep hbq6)
  clear q0
  cases r with
  | false =>
    have HO := Lib.hid (show s = ⟨#[]⟩ ∧ k = 1 by
      rcases printM_cases m1 with ⟨t, h1, h2, -⟩ | ⟨h1, -⟩
      · rw [HR.out] at h2; cases h2
      · rw [HP.out] at h1; exact Prod.mk.inj h1)
    obtain ⟨rfl, rfl⟩ := HO.out
    go_wp2_with fail
    refine R5.out.mono ?_
    rintro e w6 ⟨rfl, hb6⟩
    have HEND := Lib.hid (HK.out _ (Below.then HB5.out hb6))
    go_wp2_with fail
    go_ret
    exact ⟨rfl, HEND.out⟩
  | true =>
    have HO := Lib.hid (show s = ⟨(textM m1).toArray⟩ ∧ k = 0 by
      have h1 : printM m1 = (⟨(textM m1).toArray⟩, 0) := by unfold printM; rw [if_pos HR.out]
      rw [HP.out] at h1; exact Prod.mk.inj h1)
    obtain ⟨hs, rfl⟩ := HO.out
    have HS := Lib.hid hs
    clear hs
    go_wp2_with fail
    refine R5.out.mono ?_
    rintro e w6 ⟨rfl, hb6⟩
    have HB6 := Lib.hid (Below.then HB5.out hb6)
    obtain ⟨c0', c1', c2', c3'⟩ := (HX5.out.keep hb6).1.cells
    have T6 := Lib.hid (TX.out w6 HB6.out HR.out)
    rw [← HS.out] at T6
    have q1 : (s.toList == s.toList) = true := by simp
    clear hb6
    go_wp2_with fail
    refine T6.out.mono ?_
    rintro e w7 ⟨rfl, hb7⟩
    have HEND := Lib.hid (HK.out _ (Below.then HB6.out hb7))
    clear hb7
    go_wp2_with fail
    go_ret
    exact ⟨rfl, HEND.out⟩
end Go.Proofs.YtfcglnajdfpmhaaGreatDoor
