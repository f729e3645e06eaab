/-
  ManifestNeeds' walk: it answers true. Conditions: what comes in reads as a manifest; the package-level variables as MLow says.
-/
import Derived.Test.YtfcglnajdfpmhaaGreatDoorZLMKt
import Derived.Test.YtfcglnajdfpmhaaGreatDoorZLMFw
import Derived.Test.YtfcglnajdfpmhaaGreatDoorZAliv
import Derived.Test.YtfcglnajdfpmhaaGreatDoorZMnBl
import Derived.Test.YtfcglnajdfpmhaaGreatDoorZSetM
import Derived.Deep.CutBlock
import Derived.Deep.CutRange
import Derived.Deep.DeepCutAuto
import Derived.Deep.RegionWith
import Derived.BigQuiet
namespace Go.Proofs.YtfcglnajdfpmhaaGreatDoor
open Go.RowKit

set_option maxRecDepth 100000 in
set_option maxHeartbeats 8000000 in
theorem mneeds_walk (m : Man) (v : Value) (w : World) (he : MLow w) (hv : ManAt w v m) :
    Calls Tryz.prog 6 #[v] w fun e w' => e = .returned (.bool true) ∧ Below w.heap.size w w' := by
  obtain ⟨i0, c0, la0, nl0, lc0, ka0, nk0, kc0, rfl, -, -, -, -⟩ := hv.shape
  obtain ⟨M, hM⟩ : ∃ M, w.heap.size = M := ⟨_, rfl⟩
  obtain ⟨W0, hW0⟩ : ∃ W0, w.alloc (.cells #[.bool i0, .string c0, .slice la0 nl0 lc0, .slice ka0 nk0 kc0] 25) = W0 := ⟨_, rfl⟩
  have hb0 : Below w.heap.size w W0 := by rw [← hW0]; exact below_new _ _
  have hs0 : M < W0.heap.size := by rw [← hW0, World.size_alloc, hM]; exact Nat.lt_succ_self _
  have hA0 : At4 W0 M (.bool i0) (.string c0) (.slice la0 nl0 lc0) (.slice ka0 nk0 kc0) := by rw [← hM, ← hW0]; exact At4.new _ _ _ _ _
  have CF := Lib.hid (fun w' (h : Below W0.heap.size W0 w') => fewM_t m _ w' (hv.keep (Below.then hb0 h)))
  have HA0 := Lib.hid hA0
  have HB0 := Lib.hid hb0
  have HS0 := Lib.hid hs0
  have HW0 := Lib.hid hW0
  have HM := Lib.hid hM
  have HE := Lib.hid he
  obtain ⟨m1, hm1⟩ : ∃ x, fewM m = x := ⟨_, rfl⟩
  have HF := Lib.hid (show m1.Few by rw [← hm1]; exact fewM_few m)
  rw [hm1] at CF
  obtain ⟨a0, a1, a2, a3⟩ := hA0.cells
  clear hb0 hs0 hA0 hW0 hM he hv hm1
  have hmm := @run_makeMap Tryz.prog
  go_enter Tryz.func6, Tryz.ntmps6
  go_upto_region 1 with fail
  rw [HW0.out, HM.out]
  go_wp2_with fail
  refine (CF.out W0 (Below.refl _ _)).mono ?_
  rintro e w2 ⟨v1, rfl, hm⟩
  obtain ⟨i, c, la, nl, lc, ka, nk, kc, rfl, hi', hc', hl', -⟩ := hm.man.shape
  obtain ⟨W3, hW3⟩ : ∃ x, set4 w2 M (.bool i) (.string c) (.slice la nl lc) (.slice ka nk kc) = x := ⟨_, rfl⟩
  have hA2 := HA0.out.keep hm.below
  have HX := Lib.hid (show VarM W3 M i c la nl lc ka nk kc m1 by rw [← hW3]; exact VarM.set hA2 HS0.out hm)
  have HB3 := Lib.hid (show Below M w W3 by
    have h := below_set4 (Below.then HB0.out hm.below) (Nat.le_of_eq HM.out) (.bool i) (.string c) (.slice la nl lc) (.slice ka nk kc)
    rw [hW3, HM.out] at h
    exact h)
  have HI := Lib.hid hi'
  have HCF := Lib.hid hc'
  have HLN := Lib.hid hl'
  have HW3 := Lib.hid (set4_eq hW3)
  have HK := Lib.hid (show ∀ w', Below W3.heap.size W3 w' → Below w.heap.size w w' from fun w' h => by
    have hs := HB3.out.size
    have hM := HM.out
    exact (hM.symm ▸ HB3.out).trans (h.mono (by omega)))
  have HEL := Lib.hid (fun w' h => HE.out.below (HK.out w' h))
  have RT := Lib.hid (fun w' (h : Below W3.heap.size W3 w') => Right_t m1 _ w' (HX.out.keep h).2 HF.out.small (HEL.out w' h))
  have PR := Lib.hid (fun w' (h : Below W3.heap.size W3 w') => PrintM_t m1 _ w' (HX.out.keep h).2 HF.out (HEL.out w' h))
  have AL := Lib.hid (fun w' (h : Below W3.heap.size W3 w') => aliveM_t w' (HEL.out w' h))
  have B3 := Lib.hid (Blobs_t m1 _ W3 HX.out.2 HF.out (HEL.out W3 (Below.refl _ _)))
  obtain ⟨r, hr⟩ : ∃ r, rightM m1 = r := ⟨_, rfl⟩
  rw [hr] at RT
  have HR := Lib.hid hr
  obtain ⟨b0, b1, b2, b3⟩ := hA2.cells
  have f0 := hA2.frozen 0
  have f1 := hA2.frozen 1
  have f2 := hA2.frozen 2
  have f3 := hA2.frozen 3
  have hln := hl'
  have hlz : nl ≤ 1048576 := by rw [← hl']; exact HF.out.layers
  clear hA2 hm hi' hc' hl' hW3 hr a0 a1 a2 a3 hln
  go_upto_region 2 with fail
  rw [HW3.out]
  clear b0 b1 b2 b3 f0 f1 f2 f3
  obtain ⟨a0, a1, a2, a3⟩ := HX.out.1.cells
  go_wp2_with fail
  refine B3.out.mono ?_
  rintro e w4 ⟨vB, n, rfl, hoB, hb4⟩
  obtain ⟨ba, bc, rfl, hnc, hcm⟩ := hoB.shape
  have HB4 := Lib.hid hb4
  have HOB := Lib.hid hoB
  have HX4 := Lib.hid (HX.out.keep hb4)
  clear hoB hb4 a0 a1 a2 a3
  obtain ⟨a0, a1, a2, a3⟩ := HX4.out.1.cells
  cases i with
  | true =>
    have hn0 : n = 0 := by
      have := HOB.out.len
      rw [blobsM_none (Or.inl HI.out)] at this
      exact this.symm
    subst hn0
    have A5 := Lib.hid (AL.out w4 HB4.out)
    go_wp2_with fail
    refine A5.out.mono ?_
    rintro e w6 ⟨rfl, hb6⟩
    have HEND := Lib.hid (HK.out _ (Below.then HB4.out hb6))
    clear hb6
    go_wp2_with fail
    go_ret
    exact ⟨rfl, HEND.out⟩
  | false =>
    have R4 := Lib.hid (RT.out w4 HB4.out)
    go_wp2_with fail
    refine R4.out.mono ?_
    rintro e w5 ⟨rfl, hb5⟩
    have HB5 := Lib.hid (Below.then HB4.out hb5)
    have HX5 := Lib.hid (HX4.out.keep hb5)
    have HO5 := Lib.hid (HOB.out.keep hb5)
    clear hb5 a0 a1 a2 a3
    obtain ⟨a0, a1, a2, a3⟩ := HX5.out.1.cells
    cases r with
    | false =>
      have hn0 : n = 0 := by
        have := HOB.out.len
        rw [blobsM_none (Or.inr HR.out)] at this
        exact this.symm
      subst hn0
      have A5 := Lib.hid (AL.out w5 HB5.out)
      go_wp2_with fail
      refine A5.out.mono ?_
      rintro e w6 ⟨rfl, hb6⟩
      have HEND := Lib.hid (HK.out _ (Below.then HB5.out hb6))
      clear hb6
      go_wp2_with fail
      go_ret
      exact ⟨rfl, HEND.out⟩
    | true =>
      obtain ⟨rest, hbl, hble, hbnd, hbmem⟩ := blobsM_of HI.out HR.out
      obtain ⟨L, hL⟩ : ∃ x, blobsM m1 = x := ⟨_, rfl⟩
      rw [hL] at hbl hble hbnd hbmem HOB HO5
      rw [HLN.out] at hble
      have hlen := HOB.out.len
      have hn1 : 0 < n := by rw [← hlen, hbl]; simp
      have hn2 : n ≤ nl + 1 := by rw [← hlen]; exact hble
      obtain ⟨g, rfl, -, -⟩ := own_some HO5.out.own hn1
      have HL0 := Lib.hid (show (L.map Value.string)[0]? = some (.string c) by rw [hbl, ← HCF.out]; rfl)
      have g0 := (own_cell HO5.out.own (j := 0) HL0.out).1
      have HND := Lib.hid hbnd
      have HMEM := Lib.hid hbmem
      have HLEN := Lib.hid hlen
      have HLZ := Lib.hid (show ∀ x ∈ L, x.size ≤ maxLen from fun x hx => by
        have hs := (rightM_image HI.out).1 HR.out
        rw [← hL] at hx
        unfold blobsM at hx
        split at hx
        · cases hx
        · rw [onceL_mem] at hx
          rcases hx with hx | hx
          · rw [List.mem_singleton.1 hx, isD_size hs.1]; decide
          · obtain ⟨l, hl, rfl⟩ := List.mem_map.1 hx
            have := hs.2.2.1 l hl
            unfold okLayer at this
            rw [Bool.and_eq_true] at this
            rw [isD_size this.1]; decide)
      have e1 : ((n : Int) == 0) = false := beq_eq_false_iff_ne.2 (by omega)
      have e2 : decide ((nl : Int) + 1 < (n : Int)) = false := decide_eq_false (by omega)
      have e3 : (c.toList == c.toList) = true := by simp
      have e4 : IntKind.i64.wrap ((nl : Int) + 1) = (nl : Int) + 1 := by rw [IntKind.wrap_i64]; omega
      clear hbl hble hbnd hbmem hL hlen
      go_upto_region 5 with fail
      refine wp_region_held_drew (S := fun w' => (w'.cell? ⟨M, 0, none⟩ = some (.bool false) ∧ w'.cell? ⟨M, 1, none⟩ = some (.string c) ∧ w'.cell? ⟨M, 2, none⟩ = some (.slice la nl lc) ∧ w'.cell? ⟨M, 3, none⟩ = some (.slice ka nk kc)) ∧ w'.cell? ⟨g, 0, none⟩ = some (.string c)) (by kernel_rfl) ?hSq (fun hHeld => ?hRq)
      case hSq => exact ⟨⟨a0, a1, a2, a3⟩, g0⟩
      refine wpAnyH_take (i := 0) (oi := { dst := some 26, op := Op.move (Operand.tmp 3), type := 23, pos := "law.go:76", after := #[], guard := none }) (v := ?gvq0) rfl (by kernel_rfl) (by kernel_rfl) (by kernel_rfl) (fun _ _ _ h => h) (Or.inl ⟨by rfl, ?gyq0⟩) (by assumption) ?grq0
      case gyq0 => (intro w hSw; (try dsimp only at hSw); go_simp; try with_reducible rfl)
      try simp only [Act.put, List.setIfInBounds_toArray, List.set_cons_zero, List.set_cons_succ]
      refine wpAnyH_take (i := 1) (oi := { dst := some 27, op := Op.call { callee := Callee.builtin Builtin.len, args := #[Operand.tmp 26], argTypes := #[23] }, type := 3, pos := "law.go:76", after := #[{ on := 0, ground := Ground.data }], guard := none }) (v := ?gvq1) rfl (by kernel_rfl) (by kernel_rfl) (by kernel_rfl) (fun _ _ _ h => h) (Or.inl ⟨by rfl, ?gyq1⟩) (by assumption) ?grq1
      case gyq1 => (intro w hSw; (try dsimp only at hSw); go_simp; try with_reducible rfl)
      try simp only [Act.put, List.setIfInBounds_toArray, List.set_cons_zero, List.set_cons_succ]
      refine wpAnyH_take (i := 2) (oi := { dst := some 28, op := Op.binOp BinOp.eql 3 (Operand.tmp 27) (Operand.const (Value.int IntKind.i64 0)) 3, type := 4, pos := "law.go:76", after := #[{ on := 1, ground := Ground.data }], guard := none }) (v := ?gvq2) rfl (by kernel_rfl) (by kernel_rfl) (by kernel_rfl) (fun _ _ _ h => h) (Or.inl ⟨by rfl, ?gyq2⟩) (by assumption) ?grq2
      case gyq2 => (intro w hSw; (try dsimp only at hSw); go_simp; try with_reducible rfl)
      try simp only [Act.put, List.setIfInBounds_toArray, List.set_cons_zero, List.set_cons_succ]
      refine wpAnyH_take (i := 3) (oi := { dst := some 29, op := Op.move (Operand.tmp 28), type := 4, pos := "law.go:76", after := #[{ on := 2, ground := Ground.data }], guard := none }) (v := ?gvq3) rfl (by kernel_rfl) (by kernel_rfl) (by kernel_rfl) (fun _ _ _ h => h) (Or.inl ⟨by rfl, ?gyq3⟩) (by assumption) ?grq3
      case gyq3 => (intro w hSw; (try dsimp only at hSw); go_simp; try with_reducible rfl)
      try simp only [Act.put, List.setIfInBounds_toArray, List.set_cons_zero, List.set_cons_succ]
      refine wpAnyH_take (i := 4) (oi := { dst := some 30, op := Op.move (Operand.tmp 3), type := 23, pos := "law.go:76", after := #[{ on := 3, ground := Ground.guard }], guard := some (3, false) }) (v := ?gvq4) rfl (by kernel_rfl) (by kernel_rfl) (by kernel_rfl) (fun _ _ _ h => h) (Or.inl ⟨by rfl, ?gyq4⟩) (by assumption) ?grq4
      case gyq4 => (intro w hSw; (try dsimp only at hSw); go_simp; try with_reducible rfl)
      try simp only [Act.put, List.setIfInBounds_toArray, List.set_cons_zero, List.set_cons_succ]
      refine wpAnyH_take (i := 7) (oi := { dst := some 33, op := Op.fieldAddr 25 (Operand.tmp 1) 1, type := 0, pos := "law.go:76", after := #[{ on := 3, ground := Ground.guard }], guard := some (3, false) }) (v := ?gvq7) rfl (by kernel_rfl) (by kernel_rfl) (by kernel_rfl) (fun _ _ _ h => h) (Or.inl ⟨by rfl, ?gyq7⟩) (by assumption) ?grq7
      case gyq7 => (intro w hSw; (try dsimp only at hSw); go_simp; try with_reducible rfl)
      try simp only [Act.put, List.setIfInBounds_toArray, List.set_cons_zero, List.set_cons_succ]
      refine wpAnyH_take (i := 5) (oi := { dst := some 31, op := Op.indexAddr 23 (Operand.tmp 30) (Operand.const (Value.int IntKind.i64 0)), type := 0, pos := "law.go:76", after := #[{ on := 4, ground := Ground.data }, { on := 3, ground := Ground.guard }], guard := some (3, false) }) (v := ?gvq5) rfl (by kernel_rfl) (by kernel_rfl) (by kernel_rfl) (fun _ _ _ h => h) (Or.inl ⟨by rfl, ?gyq5⟩) (by assumption) ?grq5
      case gyq5 => (intro w hSw; (try dsimp only at hSw); go_simp; try with_reducible rfl)
      try simp only [Act.put, List.setIfInBounds_toArray, List.set_cons_zero, List.set_cons_succ]
      refine wpAnyH_take (i := 6) (oi := { dst := some 32, op := Op.load 9 (Operand.tmp 31), type := 9, pos := "law.go:76", after := #[{ on := 5, ground := Ground.data }, { on := 3, ground := Ground.guard }], guard := some (3, false) }) (v := ?gvq6) rfl (by kernel_rfl) (by kernel_rfl) (by kernel_rfl) (fun _ _ _ h => h) (Or.inl ⟨by rfl, ?gyq6⟩) (by assumption) ?grq6
      case gyq6 => (intro w hSw; (try dsimp only at hSw); go_simp; try with_reducible rfl)
      try simp only [Act.put, List.setIfInBounds_toArray, List.set_cons_zero, List.set_cons_succ]
      refine wpAnyH_take (i := 8) (oi := { dst := some 34, op := Op.load 9 (Operand.tmp 33), type := 9, pos := "law.go:76", after := #[{ on := 7, ground := Ground.data }, { on := 3, ground := Ground.guard }], guard := some (3, false) }) (v := ?gvq8) rfl (by kernel_rfl) (by kernel_rfl) (by kernel_rfl) (fun _ _ _ h => h) (Or.inl ⟨by rfl, ?gyq8⟩) (by assumption) ?grq8
      case gyq8 => (intro w hSw; (try dsimp only at hSw); go_simp; try with_reducible rfl)
      try simp only [Act.put, List.setIfInBounds_toArray, List.set_cons_zero, List.set_cons_succ]
      refine wpAnyH_take (i := 9) (oi := { dst := some 35, op := Op.binOp BinOp.neq 9 (Operand.tmp 32) (Operand.tmp 34) 9, type := 4, pos := "law.go:76", after := #[{ on := 6, ground := Ground.data }, { on := 8, ground := Ground.data }, { on := 3, ground := Ground.guard }], guard := some (3, false) }) (v := ?gvq9) rfl (by kernel_rfl) (by kernel_rfl) (by kernel_rfl) (fun _ _ _ h => h) (Or.inl ⟨by rfl, ?gyq9⟩) (by assumption) ?grq9
      case gyq9 => (intro w hSw; (try dsimp only at hSw); go_simp; try with_reducible rfl)
      try simp only [Act.put, List.setIfInBounds_toArray, List.set_cons_zero, List.set_cons_succ]
      refine wpAnyH_take (i := 10) (oi := { dst := some 36, op := Op.pick (Operand.tmp 29) (Operand.const (Value.bool true)) (Operand.tmp 35), type := 4, pos := "law.go:76", after := #[{ on := 3, ground := Ground.data }, { on := 9, ground := Ground.data }], guard := none }) (v := ?gvq10) rfl (by kernel_rfl) (by kernel_rfl) (by kernel_rfl) (fun _ _ _ h => h) (Or.inl ⟨by rfl, ?gyq10⟩) (by assumption) ?grq10
      case gyq10 => (intro w hSw; (try dsimp only at hSw); go_simp; try with_reducible rfl)
      try simp only [Act.put, List.setIfInBounds_toArray, List.set_cons_zero, List.set_cons_succ]
      refine wpAnyH_take (i := 11) (oi := { dst := some 37, op := Op.move (Operand.tmp 36), type := 4, pos := "law.go:76", after := #[{ on := 10, ground := Ground.data }, { on := 3, ground := Ground.chain }], guard := none }) (v := ?gvq11) rfl (by kernel_rfl) (by kernel_rfl) (by kernel_rfl) (fun _ _ _ h => h) (Or.inl ⟨by rfl, ?gyq11⟩) (by assumption) ?grq11
      case gyq11 => (intro w hSw; (try dsimp only at hSw); go_simp; try with_reducible rfl)
      try simp only [Act.put, List.setIfInBounds_toArray, List.set_cons_zero, List.set_cons_succ]
      refine wpAnyH_take (i := 12) (oi := { dst := some 38, op := Op.move (Operand.tmp 3), type := 23, pos := "law.go:76", after := #[{ on := 11, ground := Ground.guard }], guard := some (11, false) }) (v := ?gvq12) rfl (by kernel_rfl) (by kernel_rfl) (by kernel_rfl) (fun _ _ _ h => h) (Or.inl ⟨by rfl, ?gyq12⟩) (by assumption) ?grq12
      case gyq12 => (intro w hSw; (try dsimp only at hSw); go_simp; try with_reducible rfl)
      try simp only [Act.put, List.setIfInBounds_toArray, List.set_cons_zero, List.set_cons_succ]
      refine wpAnyH_take (i := 14) (oi := { dst := some 40, op := Op.fieldAddr 25 (Operand.tmp 1) 2, type := 0, pos := "law.go:76", after := #[{ on := 11, ground := Ground.guard }], guard := some (11, false) }) (v := ?gvq14) rfl (by kernel_rfl) (by kernel_rfl) (by kernel_rfl) (fun _ _ _ h => h) (Or.inl ⟨by rfl, ?gyq14⟩) (by assumption) ?grq14
      case gyq14 => (intro w hSw; (try dsimp only at hSw); go_simp; try with_reducible rfl)
      try simp only [Act.put, List.setIfInBounds_toArray, List.set_cons_zero, List.set_cons_succ]
      refine wpAnyH_take (i := 13) (oi := { dst := some 39, op := Op.call { callee := Callee.builtin Builtin.len, args := #[Operand.tmp 38], argTypes := #[23] }, type := 3, pos := "law.go:76", after := #[{ on := 12, ground := Ground.data }, { on := 11, ground := Ground.guard }], guard := some (11, false) }) (v := ?gvq13) rfl (by kernel_rfl) (by kernel_rfl) (by kernel_rfl) (fun _ _ _ h => h) (Or.inl ⟨by rfl, ?gyq13⟩) (by assumption) ?grq13
      case gyq13 => (intro w hSw; (try dsimp only at hSw); go_simp; try with_reducible rfl)
      try simp only [Act.put, List.setIfInBounds_toArray, List.set_cons_zero, List.set_cons_succ]
      refine wpAnyH_take (i := 15) (oi := { dst := some 41, op := Op.load 22 (Operand.tmp 40), type := 22, pos := "law.go:76", after := #[{ on := 14, ground := Ground.data }, { on := 11, ground := Ground.guard }], guard := some (11, false) }) (v := ?gvq15) rfl (by kernel_rfl) (by kernel_rfl) (by kernel_rfl) (fun _ _ _ h => h) (Or.inl ⟨by rfl, ?gyq15⟩) (by assumption) ?grq15
      case gyq15 => (intro w hSw; (try dsimp only at hSw); go_simp; try with_reducible rfl)
      try simp only [Act.put, List.setIfInBounds_toArray, List.set_cons_zero, List.set_cons_succ]
      refine wpAnyH_take (i := 16) (oi := { dst := some 42, op := Op.call { callee := Callee.builtin Builtin.len, args := #[Operand.tmp 41], argTypes := #[22] }, type := 3, pos := "law.go:76", after := #[{ on := 15, ground := Ground.data }, { on := 11, ground := Ground.guard }], guard := some (11, false) }) (v := ?gvq16) rfl (by kernel_rfl) (by kernel_rfl) (by kernel_rfl) (fun _ _ _ h => h) (Or.inl ⟨by rfl, ?gyq16⟩) (by assumption) ?grq16
      case gyq16 => (intro w hSw; (try dsimp only at hSw); go_simp; try with_reducible rfl)
      try simp only [Act.put, List.setIfInBounds_toArray, List.set_cons_zero, List.set_cons_succ]
      refine wpAnyH_take (i := 17) (oi := { dst := some 43, op := Op.binOp BinOp.add 3 (Operand.tmp 42) (Operand.const (Value.int IntKind.i64 1)) 3, type := 3, pos := "law.go:76", after := #[{ on := 16, ground := Ground.data }, { on := 11, ground := Ground.guard }], guard := some (11, false) }) (v := ?gvq17) rfl (by kernel_rfl) (by kernel_rfl) (by kernel_rfl) (fun _ _ _ h => h) (Or.inl ⟨by rfl, ?gyq17⟩) (by assumption) ?grq17
      case gyq17 => (intro w hSw; (try dsimp only at hSw); go_simp; try with_reducible rfl)
      try simp only [Act.put, List.setIfInBounds_toArray, List.set_cons_zero, List.set_cons_succ]
      refine wpAnyH_take (i := 18) (oi := { dst := some 44, op := Op.binOp BinOp.gtr 3 (Operand.tmp 39) (Operand.tmp 43) 3, type := 4, pos := "law.go:76", after := #[{ on := 13, ground := Ground.data }, { on := 17, ground := Ground.data }, { on := 11, ground := Ground.guard }], guard := some (11, false) }) (v := ?gvq18) rfl (by kernel_rfl) (by kernel_rfl) (by kernel_rfl) (fun _ _ _ h => h) (Or.inl ⟨by rfl, ?gyq18⟩) (by assumption) ?grq18
      case gyq18 => (intro w hSw; (try dsimp only at hSw); go_simp; try with_reducible rfl)
      try simp only [Act.put, List.setIfInBounds_toArray, List.set_cons_zero, List.set_cons_succ]
      refine wpAnyH_take (i := 19) (oi := { dst := some 45, op := Op.pick (Operand.tmp 37) (Operand.const (Value.bool true)) (Operand.tmp 44), type := 4, pos := "law.go:76", after := #[{ on := 11, ground := Ground.data }, { on := 18, ground := Ground.data }], guard := none }) (v := ?gvq19) rfl (by kernel_rfl) (by kernel_rfl) (by kernel_rfl) (fun _ _ _ h => h) (Or.inl ⟨by rfl, ?gyq19⟩) (by assumption) ?grq19
      case gyq19 => (intro w hSw; (try dsimp only at hSw); go_simp; try with_reducible rfl)
      try simp only [Act.put, List.setIfInBounds_toArray, List.set_cons_zero, List.set_cons_succ]
      refine wpAnyH_take (i := 20) (oi := { dst := some 46, op := Op.move (Operand.tmp 45), type := 4, pos := "law.go:76", after := #[{ on := 19, ground := Ground.data }, { on := 11, ground := Ground.chain }], guard := none }) (v := ?gvq20) rfl (by kernel_rfl) (by kernel_rfl) (by kernel_rfl) (fun _ _ _ h => h) (Or.inl ⟨by rfl, ?gyq20⟩) (by assumption) ?grq20
      case gyq20 => (intro w hSw; (try dsimp only at hSw); go_simp; try with_reducible rfl)
      try simp only [Act.put, List.setIfInBounds_toArray, List.set_cons_zero, List.set_cons_succ]
      refine wpAnyH_ready (rs := [21]) (by kernel_rfl) (by simp) ?_
      refine AllReadyH.cons (o := { dst := some 47, op := Op.call { callee := Callee.value (Operand.func 19), args := #[], argTypes := #[] }, type := 4, pos := "law.go:76", after := #[{ on := 20, ground := Ground.chain }, { on := 20, ground := Ground.guard }], guard := some (20, false) }) rfl (fun K hK => ?_) AllReadyH.nil
      rw [if_pos (by kernel_rfl)]
      go_simp
      go_wp2_with (go_at_call 19; refine (AL.out w5.drew HB5.out.drew).mono ?_; rintro e w6 ⟨rfl, hbn⟩)
      have hb6 := Below.then ((Below.refl w5.heap.size w5).drew) hbn
      have HB6 := Lib.hid (Below.then HB5.out hb6)
      have HX6 := Lib.hid (HX5.out.keep hb6)
      have HO6 := Lib.hid (HO5.out.keep hb6)
      replace g0 := (own_cell HO6.out.own (j := 0) HL0.out).1
      clear hbn a0 a1 a2 a3
      obtain ⟨a0, a1, a2, a3⟩ := HX6.out.1.cells
      clear hb6
      refine hK.out _ _ ?hSq21 (fun hHeld21 => ?hRq21)
      case hSq21 => exact ⟨⟨a0, a1, a2, a3⟩, g0⟩
      clear hK K
      try simp only [Act.put, List.setIfInBounds_toArray, List.set_cons_zero, List.set_cons_succ]
      refine wpAnyH_take (i := 22) (oi := { dst := some 48, op := Op.unOp UnOp.not 4 (Operand.tmp 47), type := 4, pos := "law.go:76", after := #[{ on := 21, ground := Ground.data }, { on := 20, ground := Ground.guard }], guard := some (20, false) }) (v := ?gvq22) rfl (by kernel_rfl) (by kernel_rfl) (by kernel_rfl) (fun _ _ _ h => h) (Or.inl ⟨by rfl, ?gyq22⟩) (by assumption) ?grq22
      case gyq22 => (intro w hSw; (try dsimp only at hSw); go_simp; try with_reducible rfl)
      try simp only [Act.put, List.setIfInBounds_toArray, List.set_cons_zero, List.set_cons_succ]
      refine wpAnyH_take (i := 23) (oi := { dst := some 49, op := Op.pick (Operand.tmp 46) (Operand.const (Value.bool true)) (Operand.tmp 48), type := 4, pos := "law.go:76", after := #[{ on := 20, ground := Ground.data }, { on := 22, ground := Ground.data }], guard := none }) (v := ?gvq23) rfl (by kernel_rfl) (by kernel_rfl) (by kernel_rfl) (fun _ _ _ h => h) (Or.inl ⟨by rfl, ?gyq23⟩) (by assumption) ?grq23
      case gyq23 => (intro w hSw; (try dsimp only at hSw); go_simp; try with_reducible rfl)
      try simp only [Act.put, List.setIfInBounds_toArray, List.set_cons_zero, List.set_cons_succ]
      refine wpAnyH_done (by kernel_rfl) ?_ _
      clear e2 e4
      have hcm' := hcm
      unfold maxLen at hcm'
      obtain ⟨Wm, hWm⟩ : ∃ x, w6.alloc (.map #[] 0) = x := ⟨_, rfl⟩
      have HS := Lib.hid (show SetAt Wm w6.heap.size 0 [] by rw [← hWm]; exact SetAt.made w6)
      have HBm := Lib.hid (show Below w6.heap.size w6 Wm by rw [← hWm]; exact below_new _ _)
      have hszm : w6.heap.size < Wm.heap.size := by rw [← hWm, World.size_alloc]; exact Nat.lt_succ_self _
      have HWm := Lib.hid hWm
      clear hWm a0 a1 a2 a3 g0
      obtain ⟨B, hB⟩ : ∃ x, w6.heap.size = x := ⟨_, rfl⟩
      rw [hB] at HS hszm
      have HBB := Lib.hid hB
      clear hB
      go_upto_region 8 with fail
      rw [HWm.out, HBB.out]
      go_wp2_with fail
      go_loopw [53] (fun iv wr => ∃ k : Nat, k ≤ n ∧ iv = .int .i64 k ∧ SetAt wr B k (L.take k) ∧ Below w6.heap.size w6 wr) (fun i _ => n - (intOf i).toNat)
      case atStart => exact ⟨0, Nat.zero_le _, rfl, HS.out, HBm.out⟩
      case round =>
        obtain ⟨k, hk, rfl, hS, hb⟩ := hrel
        have HBR := Lib.hid hb
        by_cases hlt : k < n
        · have h1 : k < L.length := by rw [HLEN.out]; exact hlt
          have hj : (L.map Value.string)[k]? = some (.string L[k]) := by rw [List.getElem?_map, List.getElem?_eq_getElem h1]; rfl
          have v0 := (own_cell (HO6.out.keep hb).own hj).1
          have hxz := HLZ.out _ (List.getElem_mem h1)
          have hnot : L[k] ∉ L.take k := fun hm => by
            have hd := HND.out
            rw [← List.take_append_drop k L, List.nodup_append] at hd
            exact hd.2.2 _ hm _ (by rw [List.drop_eq_getElem_cons h1]; exact List.mem_cons_self ..) rfl
          have HTK := Lib.hid (show L.take (k + 1) = L.take k ++ [L[k]] from List.take_succ_eq_append_getElem h1)
          obtain ⟨x, hx⟩ : ∃ x, L[k] = x := ⟨_, rfl⟩
          rw [hx] at v0 hxz hnot HTK
          have hlk := hS.look x hxz
          rw [decide_eq_false hnot] at hlk
          obtain ⟨w', hup, hS2, hgr⟩ := hS.add x hxz (by unfold maxLen; omega)
          have HS2 := Lib.hid (show SetAt w' B (k + 1) (L.take (k + 1)) by rw [HTK.out]; exact hS2)
          have HB2 := Lib.hid (show Below w6.heap.size w6 w' from hb.trans (below_set hgr (Nat.le_of_eq HBB.out) hS.lt))
          clear hS hS2 hgr hb hx hnot hj hxz
          go_wp2_with fail
          go_roundw
          case rel => exact ⟨k + 1, by omega, by go_num, HS2.out, HB2.out⟩
          case measure => simp [intOf]; omega
        · have HSL := Lib.hid (show SetAt wr B k L by
            rw [List.take_of_length_le (by rw [HLEN.out]; omega)] at hS
            exact hS)
          have HXR := Lib.hid (HX6.out.keep hb)
          obtain ⟨a0, a1, a2, a3⟩ := HXR.out.1.cells
          have hlay := HXR.out.2.is
          obtain ⟨lv, kv, hev, hpl, -⟩ := hlay
          simp only [Value.agg.injEq, Array.mk.injEq, List.cons.injEq, and_true] at hev
          obtain ⟨-, -, rfl, -⟩ := hev
          have HPL := Lib.hid hpl
          obtain ⟨wo, rfl⟩ : ∃ wo : World, wo = wr := ⟨_, rfl⟩
          have HWO := Lib.hid hb
          clear hS hb hpl HBR
          go_wp2_with fail
          go_loopw [66] (fun iv wr => ∃ j : Nat, j ≤ nl ∧ iv = .int .i64 j ∧ Below wo.heap.size wo wr) (fun i _ => nl - (intOf i).toNat)
          case atStart => exact ⟨0, Nat.zero_le _, rfl, Below.refl _ _⟩
          case round =>
            obtain ⟨j, hj, rfl, hb⟩ := hrel
            have HBJ := Lib.hid hb
            clear a0 a1 a2 a3
            by_cases hlt : j < nl
            · have h1 : j < m1.layers.length := by rw [HLN.out]; exact hlt
              obtain ⟨lb, lo, rfl, e0, e1'⟩ := HPL.out.at j (by rw [List.length_map]; exact h1)
              rw [layer_getElem m1.layers j h1] at e0 e1'
              have hmem := HMEM.out _ (List.getElem_mem h1)
              obtain ⟨⟨x, y⟩, hx⟩ : ∃ x, m1.layers[j] = x := ⟨_, rfl⟩
              rw [hx] at e0 e1' hmem
              simp only at hmem
              have v0 := (hb.cell (World.block_lt_of_cell? _ _ e0)).trans e0
              have v1 := (hb.cell (World.block_lt_of_cell? _ _ e1')).trans e1'
              obtain ⟨W8, hW8⟩ : ∃ W8, wr.alloc (.cells #[.string x, .int .i64 y] 42) = W8 := ⟨_, rfl⟩
              have hb8 : Below wr.heap.size wr W8 := by rw [← hW8]; exact below_new _ _
              obtain ⟨t0, t1⟩ := At2.cells (show At2 42 W8 wr.heap.size (.string x) (.int .i64 y) by rw [← hW8]; exact At2.new _ _ _ _)
              have hlk := ((HSL.out.below hb).below hb8).look x (HLZ.out x hmem)
              rw [decide_eq_true hmem] at hlk
              have HB8 := Lib.hid (Below.then hb hb8)
              have HW8 := Lib.hid hW8
              clear hW8 hb8 hb hx e0 e1' hmem
              rcases Nat.eq_zero_or_pos j with rfl | hj0
              · have v0' : wr.cell? ⟨lb, lo, none⟩ = some (.string x) := by simpa using v0
                have v1' : wr.cell? ⟨lb, lo + 1, none⟩ = some (.int .i64 y) := by simpa using v1
                go_upto_region 18 with fail
                rw [HW8.out]
                go_wp2_with fail
                go_roundw
                case rel => exact ⟨1, by omega, by go_num, HB8.out⟩
                case measure => simp [intOf]; omega
              · go_upto_region 18 with fail
                rw [HW8.out]
                go_wp2_with fail
                go_roundw
                case rel => exact ⟨j + 1, by omega, by go_num, HB8.out⟩
                case measure => simp [intOf]; omega
            · have HEND := Lib.hid (HK.out _ (Below.then HB6.out ((Below.then HWO.out hb))))
              clear hb
              go_wp2_with fail
              go_ret
              exact ⟨rfl, HEND.out⟩
end Go.Proofs.YtfcglnajdfpmhaaGreatDoor
