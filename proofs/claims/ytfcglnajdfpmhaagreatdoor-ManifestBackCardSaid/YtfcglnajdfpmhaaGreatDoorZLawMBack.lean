/-
  ManifestBack's walk: it answers true. Conditions: what comes in reads as a manifest; the package-level variables as MEnv says.
-/
import Derived.Test.YtfcglnajdfpmhaaGreatDoorZLMKt
import Derived.Test.YtfcglnajdfpmhaaGreatDoorZLMFw
import Derived.Test.YtfcglnajdfpmhaaGreatDoorZAliv
import Derived.Test.YtfcglnajdfpmhaaGreatDoorZRefM3
import Derived.Test.YtfcglnajdfpmhaaGreatDoorZRegS
import Derived.Deep.CutBlock
import Derived.Deep.CutRange
import Derived.Deep.DeepCutAuto
import Derived.Deep.RegionWith
import Derived.BigQuiet
namespace Go.Proofs.YtfcglnajdfpmhaaGreatDoor
open Go.RowKit

set_option maxRecDepth 100000 in
set_option maxHeartbeats 8000000 in
theorem mback_walk (m : Man) (v : Value) (s : ByteArray) (w : World) (he : MEnv w) (hv : ManAt w v m) :
    Calls Tryz.prog 5 #[v, .string s] w fun e w' => e = .returned (.bool true) ∧ Below w.heap.size w w' := by
  obtain ⟨i0, c0, la0, nl0, lc0, ka0, nk0, kc0, rfl, -, -, -, -⟩ := hv.shape
  obtain ⟨M, hM⟩ : ∃ M, w.heap.size = M := ⟨_, rfl⟩
  obtain ⟨W0, hW0⟩ : ∃ W0, w.alloc (.cells #[.bool i0, .string c0, .slice la0 nl0 lc0, .slice ka0 nk0 kc0] 25) = W0 := ⟨_, rfl⟩
  have hb0 : Below w.heap.size w W0 := by rw [← hW0]; exact below_new _ _
  have hs0 : M < W0.heap.size := by rw [← hW0, World.size_alloc, hM]; exact Nat.lt_succ_self _
  have hA0 : At4 W0 M (.bool i0) (.string c0) (.slice la0 nl0 lc0) (.slice ka0 nk0 kc0) := by rw [← hM, ← hW0]; exact At4.new _ _ _ _ _
  have CF := Lib.hid (fun w' (h : Below W0.heap.size W0 w') => fewM_t m _ w' (hv.keep (Below.then hb0 h)))
  have HA0 := Lib.hid hA0
  have HB0 := Lib.hid hb0
  have HS0 := Lib.hid hs0
  have HW0 := Lib.hid hW0
  have HM := Lib.hid hM
  have HE := Lib.hid he
  obtain ⟨m1, hm1⟩ : ∃ x, fewM m = x := ⟨_, rfl⟩
  have HF := Lib.hid (show m1.Few by rw [← hm1]; exact fewM_few m)
  rw [hm1] at CF
  obtain ⟨a0, a1, a2, a3⟩ := hA0.cells
  clear hb0 hs0 hA0 hW0 hM he hv hm1
  obtain ⟨p, hp⟩ : ∃ p, min s.size 4200 = p := ⟨_, rfl⟩
  have hp' : min ((s.size : Nat) : Int) 4200 = (p : Int) := by omega
  have hps : p ≤ s.size := by omega
  have HSZ := Lib.hid (show (s.extract 0 p).size ≤ 1073741824 by rw [ByteArray.size_extract]; omega)
  clear hp
  go_enter Tryz.func5, Tryz.ntmps5
  go_upto_region 1 with fail
  rw [HW0.out, HM.out]
  refine wp_region_S (S := fun w' => w'.cell? ⟨M, 0, none⟩ = some (.bool i0) ∧ w'.cell? ⟨M, 1, none⟩ = some (.string c0) ∧ w'.cell? ⟨M, 2, none⟩ = some (.slice la0 nl0 lc0) ∧ w'.cell? ⟨M, 3, none⟩ = some (.slice ka0 nk0 kc0)) 7 (by kernel_rfl) ?hS (fun hHeld => ?hR)
  case hS => exact ⟨a0, a1, a2, a3⟩
  refine wpAnyS_take (i := 0) (oi := { dst := some 13, op := Op.load 25 (Operand.tmp 2), type := 25, pos := "law.go:54", after := #[], guard := none }) (v := ?gv0) [1, 7, 8] rfl (by kernel_rfl) (by kernel_rfl) (by kernel_rfl) (by kernel_rfl) (fun _ _ _ h => h) (Or.inl ⟨by rfl, ?gy0⟩) (by assumption) ?gr0
  case gy0 => (intro w hSw; (try dsimp only at hSw); go_simp; try with_reducible rfl)
  try simp only [Act.put, List.setIfInBounds_toArray, List.set_cons_zero, List.set_cons_succ]
  refine wpAnyS_free (i := 2) (oi := { dst := some 15, op := Op.move (Operand.tmp 1), type := 9, pos := "law.go:54", after := #[], guard := none }) (v := ?gv2) rfl (by kernel_rfl) (by kernel_rfl) (by kernel_rfl) (by kernel_rfl) (fun _ _ _ h => h) (Or.inl ⟨by rfl, ?gy2⟩) (fun _ => by assumption) ?gr2
  case gy2 => (intro w _; go_simp; try with_reducible rfl)
  try simp only [Act.put, List.setIfInBounds_toArray, List.set_cons_zero, List.set_cons_succ]
  refine wpAnyS_free (i := 3) (oi := { dst := some 16, op := Op.move (Operand.tmp 1), type := 9, pos := "law.go:54", after := #[], guard := none }) (v := ?gv3) rfl (by kernel_rfl) (by kernel_rfl) (by kernel_rfl) (by kernel_rfl) (fun _ _ _ h => h) (Or.inl ⟨by rfl, ?gy3⟩) (fun _ => by assumption) ?gr3
  case gy3 => (intro w _; go_simp; try with_reducible rfl)
  try simp only [Act.put, List.setIfInBounds_toArray, List.set_cons_zero, List.set_cons_succ]
  refine wpAnyS_free (i := 4) (oi := { dst := some 17, op := Op.call { callee := Callee.builtin Builtin.len, args := #[Operand.tmp 16], argTypes := #[9] }, type := 3, pos := "law.go:54", after := #[{ on := 3, ground := Ground.data }], guard := none }) (v := ?gv4) rfl (by kernel_rfl) (by kernel_rfl) (by kernel_rfl) (by kernel_rfl) (fun _ _ _ h => h) (Or.inl ⟨by rfl, ?gy4⟩) (fun _ => by assumption) ?gr4
  case gy4 => (intro w _; go_simp; try with_reducible rfl)
  try simp only [Act.put, List.setIfInBounds_toArray, List.set_cons_zero, List.set_cons_succ]
  refine wpAnyS_free (i := 5) (oi := { dst := some 18, op := Op.call { callee := Callee.builtin Builtin.min, args := #[Operand.tmp 17, Operand.const (Value.int IntKind.i64 4200)], argTypes := #[3, 3] }, type := 3, pos := "law.go:54", after := #[{ on := 4, ground := Ground.data }], guard := none }) (v := ?gv5) rfl (by kernel_rfl) (by kernel_rfl) (by kernel_rfl) (by kernel_rfl) (fun _ _ _ h => h) (Or.inl ⟨by rfl, ?gy5⟩) (fun _ => by assumption) ?gr5
  case gy5 => (intro w _; go_simp; try with_reducible rfl)
  try simp only [Act.put, List.setIfInBounds_toArray, List.set_cons_zero, List.set_cons_succ]
  refine wpAnyS_free (i := 6) (oi := { dst := some 19, op := Op.slice 9 (Operand.tmp 15) none (some (Operand.tmp 18)) none, type := 9, pos := "law.go:54", after := #[{ on := 2, ground := Ground.data }, { on := 5, ground := Ground.data }], guard := none }) (v := ?gv6) rfl (by kernel_rfl) (by kernel_rfl) (by kernel_rfl) (by kernel_rfl) (fun _ _ _ h => h) (Or.inl ⟨by rfl, ?gy6⟩) (fun _ => by assumption) ?gr6
  case gy6 => (intro w _; go_simp; try with_reducible rfl)
  try simp only [Act.put, List.setIfInBounds_toArray, List.set_cons_zero, List.set_cons_succ]
  refine wpAnyS_ready (rs := [1]) (by kernel_rfl) (by simp) ?_
  refine AllReadyS.cons (o := { dst := some 14, op := Op.call { callee := Callee.value (Operand.func 12), args := #[Operand.tmp 13], argTypes := #[25] }, type := 25, pos := "law.go:54", after := #[{ on := 0, ground := Ground.data }], guard := none }) rfl (fun K hK => ?c1) AllReadyS.nil
  rw [if_pos (by kernel_rfl)]
  go_simp
  go_wp2_with (go_at_call 12; refine (CF.out W0.drew (Below.refl _ _).drew).mono ?_; rintro e w2 ⟨v1, rfl, hm⟩)
  obtain ⟨i, c, la, nl, lc, ka, nk, kc, rfl, hi', -, -, -⟩ := hm.man.shape
  have hA2 := HA0.out.keep (Below.then ((Below.refl W0.heap.size W0).drew) hm.below)
  obtain ⟨b0, b1, b2, b3⟩ := hA2.cells
  have f0 := hA2.frozen 0
  have f1 := hA2.frozen 1
  have f2 := hA2.frozen 2
  have f3 := hA2.frozen 3
  refine hK.out _ _ ?hS1 (fun hHeld1 => ?hR1)
  case hS1 => exact fun _ => ⟨b0, b1, b2, b3⟩
  clear hK K
  replace hHeld1 := hHeld1 (by kernel_rfl)
  try simp only [Act.put, List.setIfInBounds_toArray, List.set_cons_zero, List.set_cons_succ]
  refine wpAnyS_ready (rs := [7]) (by kernel_rfl) (by simp) ?_
  refine AllReadyS.cons (o := { dst := none, op := Op.store 25 (Operand.tmp 2) (Operand.tmp 14), type := 0, pos := "law.go:54", after := #[{ on := 1, ground := Ground.data }, { on := 1, ground := Ground.chain }, { on := 0, ground := Ground.phase }, { on := 1, ground := Ground.phase }, { on := 2, ground := Ground.textOnly Departure.lateStores }, { on := 3, ground := Ground.textOnly Departure.lateStores }, { on := 4, ground := Ground.textOnly Departure.lateStoresUnsure }, { on := 5, ground := Ground.textOnly Departure.lateStoresUnsure }, { on := 6, ground := Ground.textOnly Departure.lateStoresUnsure }], guard := none }) rfl (fun K hK => ?c7) AllReadyS.nil
  rw [if_pos (by kernel_rfl)]
  go_simp
  refine hK.out _ _ ?hS7 (fun hHeld7 => ?hR7)
  case hS7 => exact fun h => Bool.noConfusion (show true = false from h)
  clear hK K
  clear hHeld7
  try simp only [Act.put, List.setIfInBounds_toArray, List.set_cons_zero, List.set_cons_succ]
  refine wpAnyS_ready (rs := [8]) (by kernel_rfl) (by simp) ?_
  refine AllReadyS.cons (o := { dst := some 1, op := Op.assign (Operand.tmp 19), type := 9, pos := "law.go:54", after := #[{ on := 6, ground := Ground.data }, { on := 7, ground := Ground.chain }, { on := 0, ground := Ground.phase }, { on := 1, ground := Ground.phase }, { on := 2, ground := Ground.phase }, { on := 3, ground := Ground.phase }, { on := 4, ground := Ground.phase }, { on := 5, ground := Ground.phase }, { on := 6, ground := Ground.phase }, { on := 7, ground := Ground.phase }], guard := none }) rfl (fun K hK => ?c8) AllReadyS.nil
  rw [if_pos (by kernel_rfl)]
  go_simp
  refine hK.out _ _ ?hS8 (fun hHeld8 => ?hR8)
  case hS8 => exact fun h => Bool.noConfusion (show true = false from h)
  clear hK K
  clear hHeld8
  try simp only [Act.put, List.setIfInBounds_toArray, List.set_cons_zero, List.set_cons_succ]
  refine wpAnyS_done (by kernel_rfl) ?_ _
  obtain ⟨W3, hW3⟩ : ∃ x, set4 w2 M (.bool i) (.string c) (.slice la nl lc) (.slice ka nk kc) = x := ⟨_, rfl⟩
  have HX := Lib.hid (show VarM W3 M i c la nl lc ka nk kc m1 by rw [← hW3]; exact VarM.set hA2 (W := W0.drew) HS0.out hm)
  have HB3 := Lib.hid (show Below M w W3 by
    have h := below_set4 (Below.then HB0.out (Below.then ((Below.refl W0.heap.size W0).drew) hm.below)) (Nat.le_of_eq HM.out) (.bool i) (.string c) (.slice la nl lc) (.slice ka nk kc)
    rw [hW3, HM.out] at h
    exact h)
  have HI := Lib.hid hi'
  have HK := Lib.hid (show ∀ w', Below W3.heap.size W3 w' → Below w.heap.size w w' from fun w' h => by
    have hs := HB3.out.size
    have hM := HM.out
    exact (hM.symm ▸ HB3.out).trans (h.mono (by omega)))
  rw [set4_eq hW3]
  clear b0 b1 b2 b3 f0 f1 f2 f3 hA2 hm hi' hW3 a0 a1 a2 a3
  obtain ⟨s1, hs1⟩ : ∃ x, s.extract 0 p = x := ⟨_, rfl⟩
  rw [hs1] at HSZ ⊢
  clear hs1 hp' hps
  have HEL := Lib.hid (fun w' h => HE.out.below (HK.out w' h))
  have PR := Lib.hid (fun (x : Man) v w' (h : Below W3.heap.size W3 w') (hv : ManAt w' v x) (hf : x.Few) => PrintM_t x v w' hv hf (HEL.out w' h).lo)
  have RT := Lib.hid (fun (x : Man) v w' (h : Below W3.heap.size W3 w') (hv : ManAt w' v x) (hf : x.Few) => Right_t x v w' hv hf.small (HEL.out w' h).lo)
  have PA := Lib.hid (fun s w' (h : Below W3.heap.size W3 w') (hs : s.size ≤ 1073741824) => ParseM_t s w' hs (HEL.out w' h))
  have SA := Lib.hid (fun (a b : Man) va vb w' (ha : ManAt w' va a) (hb : ManAt w' vb b) => refSame_t a b va vb w' ha hb)
  have AL := Lib.hid (fun w' (h : Below W3.heap.size W3 w') => aliveM_t w' (HEL.out w' h).lo)
  obtain ⟨a0, a1, a2, a3⟩ := HX.out.1.cells
  have P1 := Lib.hid (PR.out m1 _ W3 (Below.refl _ _) HX.out.2 HF.out)
  obtain ⟨t, k, hpt⟩ : ∃ t k, printM m1 = (t, k) := ⟨_, _, rfl⟩
  have HP := Lib.hid hpt
  rw [hpt] at P1
  clear hpt
  go_wp2_with fail
  refine P1.out.mono ?_
  rintro e w4 ⟨rfl, hb4⟩
  have HB4 := Lib.hid hb4
  obtain ⟨d0, d1, d2, d3⟩ := (HX.out.keep hb4).1.cells
  clear hb4 a0 a1 a2 a3
  rcases printM_cases m1 with ⟨t', hpr, hrt, hpa, htt⟩ | ⟨hpr, hrt⟩
  · obtain ⟨rfl, rfl⟩ : t = t' ∧ k = 0 := by rw [HP.out] at hpr; exact Prod.mk.inj hpr
    have htz : t.size ≤ 1073741824 := by
      have h1 := textM_le m1 hrt
      rw [← htt] at h1
      rw [Lib.size_eq]; omega
    have Q4 := Lib.hid (PA.out t w4 HB4.out htz)
    have HPA := Lib.hid hpa
    clear hpr hrt htt htz
    go_wp2_with fail
    refine Q4.out.mono ?_
    rintro e w5 ⟨r5, rfl, hm5⟩
    have HB5 := Lib.hid (Below.then HB4.out hm5.below)
    rw [HPA.out] at hm5 ⊢
    obtain ⟨i7, c7, la7, nl7, lc7, ka7, nk7, kc7, rfl, -, -, -, -⟩ := hm5.man.shape
    obtain ⟨W6, hW6⟩ : ∃ x, w5.alloc (.cells #[.bool i7, .string c7, .slice la7 nl7 lc7, .slice ka7 nk7 kc7] 25) = x := ⟨_, rfl⟩
    have HX6 := Lib.hid (show VarM W6 w5.heap.size i7 c7 la7 nl7 lc7 ka7 nk7 kc7 m1 by rw [← hW6]; exact VarM.new hm5)
    have HB6 := Lib.hid (show Below W3.heap.size W3 W6 by rw [← hW6]; exact Below.then HB5.out (below_new _ _))
    have HY6 := Lib.hid (HX.out.keep HB6.out)
    have HW6 := Lib.hid hW6
    clear hW6 hm5 hpa d0 d1 d2 d3
    obtain ⟨e0, e1, e2, e3⟩ := HX6.out.1.cells
    obtain ⟨d0, d1, d2, d3⟩ := HY6.out.1.cells
    have S6 := Lib.hid (SA.out m1 m1 _ _ W6 HX6.out.2 HY6.out.2)
    go_upto_region 5 with fail
    rw [HW6.out]
    go_wp2_with fail
    refine S6.out.mono ?_
    rintro e w7 ⟨r7, rfl, hr7, hb7⟩
    obtain rfl : r7 = true := hr7.2 rfl
    have HB7 := Lib.hid (Below.then HB6.out hb7)
    clear hb7 hr7 d0 d1 d2 d3 e0 e1 e2 e3
    have Qa := Lib.hid (PA.out s1 w7 HB7.out HSZ.out)
    go_wp2_with fail
    refine Qa.out.mono ?_
    rintro e w5a ⟨r5, rfl, hm5⟩
    have HB5a := Lib.hid (Below.then HB7.out hm5.below)
    rcases parseM_cases s1 with ⟨x, hpx, hrx, htx⟩ | ⟨k5, hpx, hk5⟩
    · rw [hpx] at hm5 ⊢
      have HXF := Lib.hid (show x.Few by have := parseM_few s1; rw [hpx] at this; exact this)
      have HPX := Lib.hid (print_of_parse hrx htx)
      have HRX := Lib.hid hrx
      clear hpx hrx htx
      obtain ⟨i5, c5, la5, nl5, lc5, ka5, nk5, kc5, rfl, -, -, -, -⟩ := hm5.man.shape
      obtain ⟨W6a, hW6a⟩ : ∃ x, w5a.alloc (.cells #[.bool i5, .string c5, .slice la5 nl5 lc5, .slice ka5 nk5 kc5] 25) = x := ⟨_, rfl⟩
      have HX6 := Lib.hid (show VarM W6a w5a.heap.size i5 c5 la5 nl5 lc5 ka5 nk5 kc5 x by rw [← hW6a]; exact VarM.new hm5)
      have HB6 := Lib.hid (show Below W3.heap.size W3 W6a by rw [← hW6a]; exact Below.then HB5a.out (below_new _ _))
      have HW6 := Lib.hid hW6a
      clear hW6a hm5
      obtain ⟨e0, e1, e2, e3⟩ := HX6.out.1.cells
      have P6 := Lib.hid (PR.out x _ W6a HB6.out HX6.out.2 HXF.out)
      rw [HPX.out] at P6
      go_upto_region 8 with fail
      rw [HW6.out]
      go_wp2_with fail
      refine P6.out.mono ?_
      rintro e w7 ⟨rfl, hb7⟩
      have HB7 := Lib.hid (Below.then HB6.out hb7)
      have HX7 := Lib.hid (HX6.out.keep hb7)
      clear hb7 e0 e1 e2 e3
      have A7 := Lib.hid (AL.out w7 HB7.out)
      go_wp2_with fail
      refine A7.out.mono ?_
      rintro e w8 ⟨rfl, hb8⟩
      have HB8 := Lib.hid (Below.then HB7.out hb8)
      have HX8 := Lib.hid (HX7.out.keep hb8)
      clear hb8
      obtain ⟨e0, e1, e2, e3⟩ := HX8.out.1.cells
      have R8 := Lib.hid (RT.out x _ w8 HB8.out HX8.out.2 HXF.out)
      rw [HRX.out] at R8
      have q8 : (s1.toList == s1.toList) = true := by simp
      go_wp2_with fail
      refine R8.out.mono ?_
      rintro e w9 ⟨rfl, hb9⟩
      have HEND := Lib.hid (HK.out _ (Below.then HB8.out hb9))
      clear hb9
      go_wp2_with fail
      go_ret
      exact ⟨rfl, HEND.out⟩
    · rw [hpx] at hm5 ⊢
      have q5 : (k5 != 0) = true := by rw [bne, hk5]; rfl
      clear hpx
      obtain ⟨i5, c5, la5, nl5, lc5, ka5, nk5, kc5, rfl, -, -, -, -⟩ := hm5.man.shape
      obtain ⟨W6a, hW6a⟩ : ∃ x, w5a.alloc (.cells #[.bool i5, .string c5, .slice la5 nl5 lc5, .slice ka5 nk5 kc5] 25) = x := ⟨_, rfl⟩
      have HX6 := Lib.hid (show VarM W6a w5a.heap.size i5 c5 la5 nl5 lc5 ka5 nk5 kc5 noMan by rw [← hW6a]; exact VarM.new hm5)
      have HB6 := Lib.hid (show Below W3.heap.size W3 W6a by rw [← hW6a]; exact Below.then HB5a.out (below_new _ _))
      have HW6 := Lib.hid hW6a
      clear hW6a hm5
      have A6 := Lib.hid (AL.out W6a HB6.out)
      go_upto_region 8 with fail
      rw [HW6.out]
      go_wp2_with fail
      refine A6.out.mono ?_
      rintro e w7 ⟨rfl, hb7⟩
      have HB7 := Lib.hid (Below.then HB6.out hb7)
      have HX7 := Lib.hid (HX6.out.keep hb7)
      clear hb7
      obtain ⟨e0, e1, e2, e3⟩ := HX7.out.1.cells
      have S7 := Lib.hid (SA.out noMan noMan _ _ w7 HX7.out.2 (noMan_at w7))
      go_wp2_with fail
      refine S7.out.mono ?_
      rintro e w8 ⟨r8, rfl, hr8, hb8⟩
      obtain rfl : r8 = true := hr8.2 rfl
      have HEND := Lib.hid (HK.out _ (Below.then HB7.out hb8))
      clear hb8 hr8
      go_wp2_with fail
      go_ret
      exact ⟨rfl, HEND.out⟩
  · obtain ⟨rfl, rfl⟩ : t = ⟨#[]⟩ ∧ k = 1 := by rw [HP.out] at hpr; exact Prod.mk.inj hpr
    clear hpr hrt d0 d1 d2 d3
    have Qb := Lib.hid (PA.out s1 w4 HB4.out HSZ.out)
    go_wp2_with fail
    refine Qb.out.mono ?_
    rintro e w5b ⟨r5, rfl, hm5⟩
    have HB5b := Lib.hid (Below.then HB4.out hm5.below)
    rcases parseM_cases s1 with ⟨x, hpx, hrx, htx⟩ | ⟨k5, hpx, hk5⟩
    · rw [hpx] at hm5 ⊢
      have HXF := Lib.hid (show x.Few by have := parseM_few s1; rw [hpx] at this; exact this)
      have HPX := Lib.hid (print_of_parse hrx htx)
      have HRX := Lib.hid hrx
      clear hpx hrx htx
      obtain ⟨i5, c5, la5, nl5, lc5, ka5, nk5, kc5, rfl, -, -, -, -⟩ := hm5.man.shape
      obtain ⟨W6b, hW6b⟩ : ∃ x, w5b.alloc (.cells #[.bool i5, .string c5, .slice la5 nl5 lc5, .slice ka5 nk5 kc5] 25) = x := ⟨_, rfl⟩
      have HX6 := Lib.hid (show VarM W6b w5b.heap.size i5 c5 la5 nl5 lc5 ka5 nk5 kc5 x by rw [← hW6b]; exact VarM.new hm5)
      have HB6 := Lib.hid (show Below W3.heap.size W3 W6b by rw [← hW6b]; exact Below.then HB5b.out (below_new _ _))
      have HW6 := Lib.hid hW6b
      clear hW6b hm5
      obtain ⟨e0, e1, e2, e3⟩ := HX6.out.1.cells
      have P6 := Lib.hid (PR.out x _ W6b HB6.out HX6.out.2 HXF.out)
      rw [HPX.out] at P6
      go_upto_region 8 with fail
      rw [HW6.out]
      go_wp2_with fail
      refine P6.out.mono ?_
      rintro e w7 ⟨rfl, hb7⟩
      have HB7 := Lib.hid (Below.then HB6.out hb7)
      have HX7 := Lib.hid (HX6.out.keep hb7)
      clear hb7 e0 e1 e2 e3
      have A7 := Lib.hid (AL.out w7 HB7.out)
      go_wp2_with fail
      refine A7.out.mono ?_
      rintro e w8 ⟨rfl, hb8⟩
      have HB8 := Lib.hid (Below.then HB7.out hb8)
      have HX8 := Lib.hid (HX7.out.keep hb8)
      clear hb8
      obtain ⟨e0, e1, e2, e3⟩ := HX8.out.1.cells
      have R8 := Lib.hid (RT.out x _ w8 HB8.out HX8.out.2 HXF.out)
      rw [HRX.out] at R8
      have q8 : (s1.toList == s1.toList) = true := by simp
      go_wp2_with fail
      refine R8.out.mono ?_
      rintro e w9 ⟨rfl, hb9⟩
      have HEND := Lib.hid (HK.out _ (Below.then HB8.out hb9))
      clear hb9
      go_wp2_with fail
      go_ret
      exact ⟨rfl, HEND.out⟩
    · rw [hpx] at hm5 ⊢
      have q5 : (k5 != 0) = true := by rw [bne, hk5]; rfl
      clear hpx
      obtain ⟨i5, c5, la5, nl5, lc5, ka5, nk5, kc5, rfl, -, -, -, -⟩ := hm5.man.shape
      obtain ⟨W6b, hW6b⟩ : ∃ x, w5b.alloc (.cells #[.bool i5, .string c5, .slice la5 nl5 lc5, .slice ka5 nk5 kc5] 25) = x := ⟨_, rfl⟩
      have HX6 := Lib.hid (show VarM W6b w5b.heap.size i5 c5 la5 nl5 lc5 ka5 nk5 kc5 noMan by rw [← hW6b]; exact VarM.new hm5)
      have HB6 := Lib.hid (show Below W3.heap.size W3 W6b by rw [← hW6b]; exact Below.then HB5b.out (below_new _ _))
      have HW6 := Lib.hid hW6b
      clear hW6b hm5
      have A6 := Lib.hid (AL.out W6b HB6.out)
      go_upto_region 8 with fail
      rw [HW6.out]
      go_wp2_with fail
      refine A6.out.mono ?_
      rintro e w7 ⟨rfl, hb7⟩
      have HB7 := Lib.hid (Below.then HB6.out hb7)
      have HX7 := Lib.hid (HX6.out.keep hb7)
      clear hb7
      obtain ⟨e0, e1, e2, e3⟩ := HX7.out.1.cells
      have S7 := Lib.hid (SA.out noMan noMan _ _ w7 HX7.out.2 (noMan_at w7))
      go_wp2_with fail
      refine S7.out.mono ?_
      rintro e w8 ⟨r8, rfl, hr8, hb8⟩
      obtain rfl : r8 = true := hr8.2 rfl
      have HEND := Lib.hid (HK.out _ (Below.then HB7.out hb8))
      clear hb8 hr8
      go_wp2_with fail
      go_ret
      exact ⟨rfl, HEND.out⟩
end Go.Proofs.YtfcglnajdfpmhaaGreatDoor
