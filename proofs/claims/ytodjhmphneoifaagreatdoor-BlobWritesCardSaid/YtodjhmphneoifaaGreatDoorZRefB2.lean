/-
  The document's own Without of blobs, by a contract. Conditions: there is such an upload; few uploads.
  The document's own End of blobs, by a contract. Conditions: few objects and few uploads, of few bytes.
-/
import Derived.Test.YtodjhmphneoifaaGreatDoorZBlb3
import Derived.Test.YtodjhmphneoifaaGreatDoorZRefB1
import Derived.Test.YtodjhmphneoifaaGreatDoorZBlb2
/-! The document's own Without of blobs, by a contract. Conditions: there is such an upload; few uploads. -/
namespace Go.Proofs.YtodjhmphneoifaaGreatDoor
open Go.RowKit Go.WideShapes

theorem without_end {w W w3 w4 : World} {b : Blb} {k kk m : Nat} {o q v2 l uv : Value} {T : TypeId}
    (hv : BlbAt w (.agg #[o, q, uv, l]) b) (hm : b.ups.length = m) (hkk : k + 1 = kk) (hk : kk ≤ m) (hW : W.heap.size = w.heap.size + 2)
    (hB : Below w.heap.size w W) (hB3 : Below W.heap.size W w3)
    (hown : w3.ownsRow W.heap.size T 2 v2 (k + (m - kk)) (cellsL ((b.ups.map upCell).take k) ++ cellsL ((b.ups.map upCell).drop kk)))
    (h4 : w3.setCell ⟨w.heap.size, 2, none⟩ v2 = w4) :
    ∃ v', Ending.returned (.agg #[o, q, v2, l]) = .returned v' ∧ BlbAt (set4 w4 (w.heap.size + 1) o q v2 l) v' (withoutB b k) ∧ Below w.heap.size w (set4 w4 (w.heap.size + 1) o q v2 l) := by
  subst h4
  subst hkk
  have hlt : w.heap.size < w3.heap.size := by have := hB3.size; omega
  have hb3 : Below w.heap.size w w3 := Below.then hB hB3
  have hb5 : Below w.heap.size w (set4 (w3.setCell ⟨w.heap.size, 2, none⟩ v2) (w.heap.size + 1) o q v2 l) :=
    set4_below (hb3.setCell (p := ⟨w.heap.size, 2, none⟩) (Nat.le_refl _) _) (Nat.le_succ _) _ _ _ _
  refine ⟨_, rfl, ?_, hb5⟩
  have hp := (hv.keep hb5).parts
  obtain ⟨h1, h2, rfl, rfl⟩ := hp
  have hown5 := own_same (w' := set4 (w3.setCell ⟨w.heap.size, 2, none⟩ v2) (w.heap.size + 1) o (.int .i64 b.quota) v2 (.int .i64 b.last)) hown fun g hg => by
    rw [set4_block _ _ _ _ _ _ _ (show g ≠ w.heap.size + 1 by omega), Below.heap_setCell _ _ _ _ (show g ≠ w.heap.size by omega)]
  rw [← List.map_take, ← List.map_drop, ← cellsL_append, ← List.map_append] at hown5
  refine ⟨⟨o, v2, rfl, h1, PairsAt.of_own hown5 ?_⟩, hv.objs, fun u hu => hv.ups u ?_, hv.quota, hv.last⟩
  · rw [List.length_map]
    show (b.ups.take k ++ b.ups.drop (k + 1)).length = _
    rw [List.length_append, List.length_take, List.length_drop, hm]; omega
  · rcases List.mem_append.1 hu with hu | hu
    · exact List.mem_of_mem_take hu
    · exact List.mem_of_mem_drop hu
set_option maxRecDepth 100000 in
set_option maxHeartbeats 4000000 in
theorem refBWithout_t (v : Value) (b : Blb) (k : Nat) (w : World) (h : BlbAt w v b) (hk : k < b.ups.length) (h100 : b.ups.length ≤ 100) :
    Calls Tryz.prog 22 #[v, .int .i64 k] w fun e w' => ∃ v', e = .returned v' ∧ BlbAt w' v' (withoutB b k) ∧ Below w.heap.size w w' := by
  obtain ⟨i0, hi, hz0, hz1, hz2⟩ := info_parts infoUp
  have HV := Lib.hid h
  obtain ⟨a, c, a', c', rfl, hl1, hl2⟩ := h.shape
  have hp := h.parts
  have hcap := h.ups_cap
  obtain ⟨n, hn⟩ : ∃ x, b.objs.length = x := ⟨_, rfl⟩
  obtain ⟨m, hm⟩ : ∃ x, b.ups.length = x := ⟨_, rfl⟩
  obtain ⟨q, hq⟩ : ∃ x, b.quota = x := ⟨_, rfl⟩
  obtain ⟨l, hl⟩ : ∃ x, b.last = x := ⟨_, rfl⟩
  rw [hn, hm] at hp
  rw [hm] at hk h100 hcap
  have hpu := hp.2.1
  rw [hn, hm, hq, hl] at HV ⊢
  have hun : (b.ups.map upCell).length = m := by rw [List.length_map, hm]
  obtain ⟨ad, rfl⟩ : ∃ ad, a' = some ad := by
    rcases hpu with ⟨h0, -⟩ | ⟨b0, o0, cap, e, -⟩
    · rw [h0] at hun; simp at hun; omega
    · simp only [Value.slice.injEq] at e; exact ⟨_, e.1⟩
  obtain ⟨W, hW⟩ : ∃ W, (w.alloc (.cells #[.slice a n c, .int .i64 q, .slice (some ad) m c', .int .i64 l] 25)).alloc (.cells #[nilV, .int .i64 0, nilV, .int .i64 0] 25) = W := ⟨_, rfl⟩
  have HB := Lib.hid (show Below w.heap.size w W by rw [← hW]; exact Below.then (below_new _ _) (below_new _ _))
  have HA := Lib.hid (show At4 25 W w.heap.size (.slice a n c) (.int .i64 q) (.slice (some ad) m c') (.int .i64 l) by rw [← hW]; exact (At4.new _ _ _ _ _ _).keep (below_new _ _))
  have HR := Lib.hid (show At4 25 W (w.heap.size + 1) nilV (.int .i64 0) nilV (.int .i64 0) by
    rw [← hW]
    have e := At4.new 25 (w.alloc (.cells #[.slice a n c, .int .i64 q, .slice (some ad) m c', .int .i64 l] 25)) nilV (.int .i64 0) nilV (.int .i64 0)
    rwa [World.size_alloc] at e)
  have HPW := Lib.hid (hpu.keep HB.out)
  have HUN := Lib.hid hun
  have HW := Lib.hid hW
  unfold maxLen at hcap
  have hk1 : k ≤ c' := by omega
  have hk2 : k + 1 ≤ m := by omega
  have hmc : m ≤ c' := hcap.1
  have hcm : c' ≤ 9223372036854775807 := by omega
  obtain ⟨kk, hkk⟩ : ∃ x, k + 1 = x := ⟨_, rfl⟩
  have hki : (k : Int) + 1 = (kk : Int) := by omega
  have HKK := Lib.hid hkk
  have hkm : kk ≤ m := by omega
  have HQ := Lib.hid (And.intro hn (And.intro hm (And.intro hq hl)))
  clear hW h hp hpu hn hm hq hl hun hkk
  have HS1 := Lib.hid (show ∀ w', Below W.heap.size W w' → SrcOf 2 w' (.slice (some ad) k c') k (cellsL ((b.ups.take k).map upCell)) from fun w' hb => by
    have := ((HPW.out.keep hb).take HUN.out k (by omega) _ rfl).src
    rwa [← List.map_take, List.length_map, List.length_take, show min k b.ups.length = k by rw [HQ.out.2.1]; omega] at this)
  go_enter Tryz.func22, Tryz.ntmps22
  go_upto_region 1 with fail
  rw [HW.out]
  obtain ⟨W1, hW1⟩ : ∃ W1, W.alloc (.cells #[] 40) = W1 := ⟨_, rfl⟩
  have hb1 : Below W.heap.size W W1 := by rw [← hW1]; exact below_new _ _
  have hown1 : W1.ownsRow W.heap.size 40 2 (.slice (some ⟨W.heap.size, 0, none⟩) 0 0) 0 [] := by rw [← hW1]; exact World.ownsRow_lit W #[] 0 (Nat.le_refl _) (Nat.zero_le _) rfl
  obtain ⟨a0, a1, a2, a3⟩ := (HA.out.keep hb1).cells
  have HB1 := Lib.hid hb1
  have HOWN1 := Lib.hid hown1
  have HW1 := Lib.hid hW1
  clear hW1 hb1 hown1
  go_upto_region 2 with fail
  rw [HW1.out]
  have HU2 := Lib.hid (show ∀ w', Below W.heap.size W w' → ∀ x, (x = .slice (some (ad.add (kk * 2))) (m - kk) (c' - kk) ∧ ¬ c' = kk) ∨ (x = .slice (some ad) 0 0 ∧ c' = kk) → SrcOf 2 w' x (m - kk) (cellsL ((b.ups.drop kk).map upCell)) from fun w' hb x hx => by
    rcases hx with ⟨rfl, hc⟩ | ⟨rfl, hc⟩
    · have := ((HPW.out.keep hb).drop HUN.out kk hkm hc).src
      rwa [← List.map_drop, List.length_map, List.length_drop, HQ.out.2.1] at this
    · have e : b.ups.drop kk = [] := List.drop_of_length_le (by rw [HQ.out.2.1]; omega)
      rw [e, show m - kk = 0 by omega]
      exact Or.inr ⟨ad, 0, rfl, rfl, fun j u hj => by simp [cellsL] at hj⟩)
  go_wp2_with (at_builtin; refine wpList_append_src _ rfl _ _ 23 rfl W.heap.size 40 i0 (.agg #[.int .i64 0, .string ⟨#[]⟩]) 2 24 Tryz.underlying23 hi hz0 hz1 hz2 rfl (by decide) _ 0 [] rfl HOWN1.out _ k _ rfl (HS1.out W1 HB1.out) (one_ups _) (by unfold maxLen; omega) (by omega) HB1.out.size ?_)
  intro v1 w2 hown2 hgrow2
  obtain ⟨s1, t1, rfl⟩ := own_shape hown2
  have HO2 := Lib.hid hown2
  have HB2 := Lib.hid (HB1.out.grown hgrow2 HB1.out.size (fun k hk => (HOWN1.out.lt k hk).1))
  clear hown2 hgrow2 a0 a1 a2 a3
  obtain ⟨a0, a1, a2, a3⟩ := (HA.out.keep HB2.out).cells
  by_cases hck : c' = kk
  · have hs2 := HU2.out w2 HB2.out _ (Or.inr ⟨rfl, hck⟩)
    have hmk : m - kk = 0 := by omega
    go_wp2_with (at_builtin; refine wpList_append_src _ rfl _ _ 23 rfl W.heap.size 40 i0 (.agg #[.int .i64 0, .string ⟨#[]⟩]) 2 24 Tryz.underlying23 hi hz0 hz1 hz2 rfl (by decide) _ k _ rfl HO2.out _ (m - kk) _ rfl hs2 (one_ups _) (by unfold maxLen; omega) (by omega) HB2.out.size ?_)
    intro v2 w3 hown3 hgrow3
    obtain ⟨s2, t2, rfl⟩ := own_shape hown3
    have HO3 := Lib.hid hown3
    have HB3 := Lib.hid (HB2.out.grown hgrow3 HB2.out.size (fun k hk => (HO2.out.lt k hk).1))
    clear hown3 hgrow3 a0 a1 a2 a3
    have hA3 := HA.out.keep HB3.out
    obtain ⟨a0, a1, a2, a3⟩ := hA3.cells
    obtain ⟨f0, f1, f2, f3⟩ := hA3.free
    have HA3 := Lib.hid hA3
    have HR3 := Lib.hid (HR.out.keep HB3.out)
    clear hA3
    go_upto_region 5 with fail
    obtain ⟨w4, hw4⟩ : ∃ w4, w3.setCell ⟨w.heap.size, 2, none⟩ (.slice s2 k t2) = w4 := ⟨_, rfl⟩
    have hA4 : At4 25 w4 w.heap.size (.slice a n c) (.int .i64 q) (.slice s2 k t2) (.int .i64 l) := by rw [← hw4]; exact HA3.out.at2 _
    have hR4 : At4 25 w4 (w.heap.size + 1) nilV (.int .i64 0) nilV (.int .i64 0) := by rw [← hw4]; exact HR3.out.other (by omega) _
    rw [hw4]
    have HW4 := Lib.hid hw4
    have HR4 := Lib.hid hR4
    clear hw4 a0 a1 a2 a3 f0 f1 f2 f3
    obtain ⟨a0, a1, a2, a3⟩ := hA4.cells
    obtain ⟨b0, b1, b2, b3⟩ := hR4.cells
    obtain ⟨f0, f1, f2, f3⟩ := hR4.free
    clear hA4 hR4
    go_wp2_with fail
    exact bodyPost_ret (results_cell_row (p := 4) rfl _ _ (w.heap.size + 1) 25 _ (0, 0) _ rfl (HR4.out.set _ _ _ _) Tryz.underlying25 rfl infoBlb) rfl (without_end HV.out HQ.out.2.1 HKK.out hkm (by rw [← HW.out]; simp only [World.size_alloc]) HB.out HB3.out (by rw [show k + (m - kk) = k by omega]; exact HO3.out) HW4.out)
  · have hs2 := HU2.out w2 HB2.out _ (Or.inl ⟨rfl, hck⟩)
    go_wp2_with (at_builtin; refine wpList_append_src _ rfl _ _ 23 rfl W.heap.size 40 i0 (.agg #[.int .i64 0, .string ⟨#[]⟩]) 2 24 Tryz.underlying23 hi hz0 hz1 hz2 rfl (by decide) _ k _ rfl HO2.out _ (m - kk) _ rfl hs2 (one_ups _) (by unfold maxLen; omega) (by omega) HB2.out.size ?_)
    intro v2 w3 hown3 hgrow3
    obtain ⟨s2, t2, rfl⟩ := own_shape hown3
    have HO3 := Lib.hid hown3
    have HB3 := Lib.hid (HB2.out.grown hgrow3 HB2.out.size (fun k hk => (HO2.out.lt k hk).1))
    clear hown3 hgrow3 a0 a1 a2 a3
    have hA3 := HA.out.keep HB3.out
    obtain ⟨a0, a1, a2, a3⟩ := hA3.cells
    obtain ⟨f0, f1, f2, f3⟩ := hA3.free
    have HA3 := Lib.hid hA3
    have HR3 := Lib.hid (HR.out.keep HB3.out)
    clear hA3
    go_upto_region 5 with fail
    obtain ⟨w4, hw4⟩ : ∃ w4, w3.setCell ⟨w.heap.size, 2, none⟩ (.slice s2 (k + (m - kk)) t2) = w4 := ⟨_, rfl⟩
    have hA4 : At4 25 w4 w.heap.size (.slice a n c) (.int .i64 q) (.slice s2 (k + (m - kk)) t2) (.int .i64 l) := by rw [← hw4]; exact HA3.out.at2 _
    have hR4 : At4 25 w4 (w.heap.size + 1) nilV (.int .i64 0) nilV (.int .i64 0) := by rw [← hw4]; exact HR3.out.other (by omega) _
    rw [hw4]
    have HW4 := Lib.hid hw4
    have HR4 := Lib.hid hR4
    clear hw4 a0 a1 a2 a3 f0 f1 f2 f3
    obtain ⟨a0, a1, a2, a3⟩ := hA4.cells
    obtain ⟨b0, b1, b2, b3⟩ := hR4.cells
    obtain ⟨f0, f1, f2, f3⟩ := hR4.free
    clear hA4 hR4
    go_wp2_with fail
    exact bodyPost_ret (results_cell_row (p := 4) rfl _ _ (w.heap.size + 1) 25 _ (0, 0) _ rfl (HR4.out.set _ _ _ _) Tryz.underlying25 rfl infoBlb) rfl (without_end HV.out HQ.out.2.1 HKK.out hkm (by rw [← HW.out]; simp only [World.size_alloc]) HB.out HB3.out HO3.out HW4.out)
end Go.Proofs.YtodjhmphneoifaaGreatDoor
/-! The document's own End of blobs, by a contract. Conditions: few objects and few uploads, of few bytes. -/
namespace Go.Proofs.YtodjhmphneoifaaGreatDoor
open Go.RowKit Go.WideShapes

theorem endL_no {b : Blb} {id : Int} {dg : ByteArray} (h : upL b.ups id = -1) : endL b id dg = (nilBlb, 9) := by
  unfold endL; rw [h]; rfl
theorem endL_yes {b : Blb} {id : Int} {dg s : ByteArray} {j : Nat} {x : Int} (h : upL b.ups id = (j : Int)) (hj : j < b.ups.length) (hx : b.ups[j] = (x, s)) :
    endL b id dg = if (parseD dg).2 ≠ 0 then (nilBlb, 6) else if fitsD dg s ≠ 0 then (nilBlb, 10) else if 0 ≤ atL b.objs dg then (withoutB b j, 0)
      else if b.objs.length = 64 then (nilBlb, 13) else if b.quota < (usedL b.objs : Int) + (s.size : Nat) then (nilBlb, 12)
      else (withoutB ⟨b.objs ++ [(dg, s)], b.quota, b.ups, b.last⟩ j, 0) := by
  unfold endL
  rw [h, if_neg (by omega), Int.toNat_natCast, List.getD_eq_getElem?_getD, List.getElem?_eq_getElem hj, hx]
  rfl
set_option maxRecDepth 100000 in
set_option maxHeartbeats 8000000 in
theorem refBEnd_t (v : Value) (b : Blb) (id : Int) (dg : ByteArray) (w : World) (h : BlbAt w v b) (hf : FewIs b) (h100 : b.ups.length ≤ 100) (hu5 : ∀ u ∈ b.ups, u.2.size ≤ 5000) :
    Calls Tryz.prog 21 #[v, .int .i64 id, .string dg] w (BlbOut (endL b id dg) w) := by
  obtain ⟨i0, hi, hz0, hz1, hz2⟩ := info_parts infoObj
  have AT := Lib.hid (fun w' (hb : Below w.heap.size w w') => refBAt_t v b dg w' (h.keep hb))
  have US := Lib.hid (fun w' (hb : Below w.heap.size w w') => refBUsed_t v b w' (h.keep hb) hf)
  have UP := Lib.hid (fun w' (hb : Below w.heap.size w w') => refBUp_t v b id w' (h.keep hb))
  have WO := Lib.hid (fun w' (hb : Below w.heap.size w w') (k : Nat) (hk : k < b.ups.length) => refBWithout_t v b k w' (h.keep hb) hk h100)
  have PA := Lib.hid (fun w' => refParse_any dg w')
  have FT := Lib.hid (refBFits_t dg)
  have HV := Lib.hid h
  obtain ⟨a, c, a', c', rfl, hl1, hl2⟩ := h.shape
  have hp := h.parts
  have hn100 := hf.objs
  obtain ⟨n, hn⟩ : ∃ x, b.objs.length = x := ⟨_, rfl⟩
  obtain ⟨m, hm⟩ : ∃ x, b.ups.length = x := ⟨_, rfl⟩
  obtain ⟨q, hq⟩ : ∃ x, b.quota = x := ⟨_, rfl⟩
  obtain ⟨l, hl⟩ : ∃ x, b.last = x := ⟨_, rfl⟩
  rw [hn, hm, hq, hl] at AT US UP WO HV ⊢
  rw [hn] at hl1 hn100
  rw [hm] at hl2 h100
  rw [hn, hm] at hp
  have HQ := Lib.hid (And.intro hn (And.intro hm (And.intro hq hl)))
  obtain ⟨W, hW⟩ : ∃ W, ((w.alloc (.cells #[.slice a n c, .int .i64 q, .slice a' m c', .int .i64 l] 25)).alloc (.cells #[nilV, zeroV, nilV, zeroV] 25)).alloc (.cells #[nilV, zeroV, nilV, zeroV] 25) = W := ⟨_, rfl⟩
  have HB := Lib.hid (show Below w.heap.size w W by rw [← hW]; exact Below.then (Below.then (below_new _ _) (below_new _ _)) (below_new _ _))
  have HA := Lib.hid (show At4 25 W w.heap.size (.slice a n c) (.int .i64 q) (.slice a' m c') (.int .i64 l) by rw [← hW]; exact ((At4.new _ _ _ _ _ _).keep (below_new _ _)).keep (below_new _ _))
  have HR := Lib.hid (show At4 25 W (w.heap.size + 1) nilV zeroV nilV zeroV by
    rw [← hW]
    have e := (At4.new 25 (w.alloc (.cells #[.slice a n c, .int .i64 q, .slice a' m c', .int .i64 l] 25)) nilV zeroV nilV zeroV).keep (below_new _ (.cells #[nilV, zeroV, nilV, zeroV] 25))
    rwa [World.size_alloc] at e)
  have HZ := Lib.hid (show At4 25 W (w.heap.size + 1 + 1) nilV zeroV nilV zeroV by
    rw [← hW]
    have e := At4.new 25 ((w.alloc (.cells #[.slice a n c, .int .i64 q, .slice a' m c', .int .i64 l] 25)).alloc (.cells #[nilV, zeroV, nilV, zeroV] 25)) nilV zeroV nilV zeroV
    rwa [World.size_alloc, World.size_alloc] at e)
  have HPO := Lib.hid (hp.1.keep HB.out)
  have HPU := Lib.hid (hp.2.1.keep HB.out)
  have HW := Lib.hid hW
  have HCS := Lib.hid (findL_cases (fun u : Int × ByteArray => u.1 == id) b.ups)
  have HCO := Lib.hid (findL_cases (fun o : ByteArray × ByteArray => decide (o.1 = dg)) b.objs)
  have HU5 := Lib.hid hu5
  have HUS := Lib.hid (show usedL b.objs ≤ 500000 by have := hf.used b.objs.length; rwa [List.take_length] at this)
  clear hW h hp hf hn hm hq hl hu5
  go_enter Tryz.func21, Tryz.ntmps21
  go_upto_region 2 with fail
  rw [HW.out]
  obtain ⟨a0, a1, a2, a3⟩ := HA.out.cells
  go_wp2_with fail
  refine (UP.out W HB.out).mono ?_
  rintro e w1 ⟨rfl, hb1⟩
  have HB1 := Lib.hid hb1
  clear hb1 a0 a1 a2 a3
  rcases HCS.out with ⟨hu, -⟩ | ⟨j, hj, hu, -, -⟩
  · have hu : upL b.ups id = -1 := hu
    have HO := Lib.hid (endL_no (dg := dg) hu)
    rw [hu]
    obtain ⟨z0, z1, z2, z3⟩ := (HZ.out.keep HB1.out).cells
    obtain ⟨f0, f1, f2, f3⟩ := (HR.out.keep HB1.out).free
    obtain ⟨r0, r1, r2, r3⟩ := (HR.out.keep HB1.out).cells
    clear hu
    go_wp2_with fail
    exact bodyPost_ret (results_blb (p := 6) (u := 7) rfl _ _ (w.heap.size + 1) _ _ _ _ rfl ((HR.out.keep HB1.out).set _ _ _ _)) rfl (blbOut_nil HO.out (Below.then HB.out HB1.out) (Nat.le_succ _))
  · have hu : upL b.ups id = (j : Int) := hu
    obtain ⟨pb, po, rfl, e0, e1⟩ := (HPU.out).at j (by rw [List.length_map]; exact hj)
    rw [up_getElem b.ups j hj] at e0 e1
    have hs5 := HU5.out _ (List.getElem_mem hj)
    have hey := fun x s => endL_yes (dg := dg) (x := x) (s := s) hu hj
    obtain ⟨⟨x, s⟩, hx⟩ : ∃ x, b.ups[j] = x := ⟨_, rfl⟩
    have HE := Lib.hid (hey x s hx)
    rw [hx] at e0 e1 hs5
    simp only at e0 e1 hs5
    rw [hu]
    have hjm : j < m := by rw [← HQ.out.2.1]; exact hj
    have E1 := Lib.hid e1
    clear hx hey hu e0 e1
    go_upto_region 5 with fail
    go_wp2_with fail
    refine (PA.out w1).mono ?_
    rintro e w2 ⟨y, p, rfl, hpy, hb2⟩
    have HB2 := Lib.hid (Below.then HB1.out hb2)
    have HPY := Lib.hid hpy
    clear hb2 hpy
    cases p with
    | false =>
      have HO := Lib.hid (show endL b id dg = (nilBlb, 6) by
        rcases HPY.out with ⟨h, -⟩ | ⟨-, h⟩
        · cases h
        · rw [HE.out, h]; rfl)
      obtain ⟨z0, z1, z2, z3⟩ := (HZ.out.keep HB2.out).cells
      obtain ⟨f0, f1, f2, f3⟩ := (HR.out.keep HB2.out).free
      obtain ⟨r0, r1, r2, r3⟩ := (HR.out.keep HB2.out).cells
      go_wp2_with fail
      exact bodyPost_ret (results_blb (p := 6) (u := 7) rfl _ _ (w.heap.size + 1) _ _ _ _ rfl ((HR.out.keep HB2.out).set _ _ _ _)) rfl (blbOut_nil HO.out (Below.then HB.out HB2.out) (Nat.le_succ _))
    | true =>
      have hP : (parseD dg).2 = 0 := by
        rcases HPY.out with ⟨-, h⟩ | ⟨h, -⟩
        · rw [h]
        · cases h
      have HDG := Lib.hid (show dg.size ≤ maxLen by
        by_cases e : dg.size = 71
        · rw [e]; decide
        · rw [parseD_no (Or.inr e)] at hP; exact absurd hP (by decide))
      have HE2 := Lib.hid (HE.out.trans (if_neg (by rw [hP]; decide)))
      clear hP HE HPY
      go_upto_region 8 with fail
      obtain ⟨a0, a1, a2, a3⟩ := (HA.out.keep HB2.out).cells
      have e1 := Below.keepc HB2.out E1.out
      go_upto_region 9 with fail
      clear a0 a1 a2 a3 e1
      go_wp2_with fail
      refine (FT.out s w2 (by omega)).mono ?_
      rintro e w3 ⟨rfl, hb3⟩
      have HB3 := Lib.hid (Below.then HB2.out hb3)
      clear hb3
      obtain ⟨ft, hft⟩ : ∃ t, (fitsD dg s == 0) = t := ⟨_, rfl⟩
      rw [hft]
      cases ft with
      | false =>
        have HO := Lib.hid (HE2.out.trans (if_pos (by simpa using hft)))
        clear hft
        obtain ⟨z0, z1, z2, z3⟩ := (HZ.out.keep HB3.out).cells
        obtain ⟨f0, f1, f2, f3⟩ := (HR.out.keep HB3.out).free
        obtain ⟨r0, r1, r2, r3⟩ := (HR.out.keep HB3.out).cells
        go_wp2_with fail
        exact bodyPost_ret (results_blb (p := 6) (u := 7) rfl _ _ (w.heap.size + 1) _ _ _ _ rfl ((HR.out.keep HB3.out).set _ _ _ _)) rfl (blbOut_nil HO.out (Below.then HB.out HB3.out) (Nat.le_succ _))
      | true =>
        have HE3 := Lib.hid (HE2.out.trans (if_neg (by simpa using hft)))
        clear hft HE2
        go_upto_region 11 with fail
        obtain ⟨a0, a1, a2, a3⟩ := (HA.out.keep HB3.out).cells
        go_wp2_with fail
        refine (AT.out w3 (Below.then HB.out HB3.out)).mono ?_
        rintro e w4 ⟨rfl, hb4⟩
        have HB4 := Lib.hid (Below.then HB3.out hb4)
        clear hb4 a0 a1 a2 a3
        rcases HCO.out with ⟨ha, -⟩ | ⟨k, hk, ha, -, -⟩
        · have ha : atL b.objs dg = -1 := ha
          have HE4 := Lib.hid (HE3.out.trans (if_neg (by rw [ha]; decide)))
          rw [ha]
          clear ha
          go_upto_region 13 with fail
          obtain ⟨a0, a1, a2, a3⟩ := (HA.out.keep HB4.out).cells
          have husd := HUS.out
          by_cases h64 : n = 64
          · have HO := Lib.hid (HE4.out.trans (if_pos (HQ.out.1.trans h64)))
            obtain ⟨z0, z1, z2, z3⟩ := (HZ.out.keep HB4.out).cells
            obtain ⟨f0, f1, f2, f3⟩ := (HR.out.keep HB4.out).free
            obtain ⟨r0, r1, r2, r3⟩ := (HR.out.keep HB4.out).cells
            go_wp2_with fail
            exact bodyPost_ret (results_blb (p := 6) (u := 7) rfl _ _ (w.heap.size + 1) _ _ _ _ rfl ((HR.out.keep HB4.out).set _ _ _ _)) rfl (blbOut_nil HO.out (Below.then HB.out HB4.out) (Nat.le_succ _))
          · have HE5 := Lib.hid (HE4.out.trans (if_neg (fun e => h64 (HQ.out.1.symm.trans e))))
            have h64i : ¬ (n : Int) = 64 := by omega
            obtain ⟨us, hus⟩ : ∃ x, usedL b.objs = x := ⟨_, rfl⟩
            have HE6 := HE5.out
            rw [hus] at husd HE6
            rw [HQ.out.2.2.1] at HE6
            have HE7 := Lib.hid HE6
            have USr := Lib.hid (fun w' (hb : Below w4.heap.size w4 w') => US.out w' (Below.then HB.out (Below.then HB4.out hb)))
            rw [hus] at USr
            have hbA := Below.refl w4.heap.size w4
            have HA4 := Lib.hid (HA.out.keep HB4.out)
            clear HE6 hus
            have hws : IntKind.i64.wrap ((us : Int) + (s.size : Nat)) = (us : Int) + (s.size : Nat) := by rw [IntKind.wrap_i64]; omega
            go_upto_region 15 with fail
            by_cases hqs : q < (us : Int) + (s.size : Nat)
            · have HO := Lib.hid (HE7.out.trans (if_pos hqs))
              have E0 := decide_eq_true hqs
              clear hqs
              go_region_held3 (fun w' => w'.cell? ⟨w.heap.size, 0, none⟩ = some (.slice a n c) ∧ w'.cell? ⟨w.heap.size, 1, none⟩ = some (.int .i64 q) ∧ w'.cell? ⟨w.heap.size, 2, none⟩ = some (.slice (some ⟨pb, po, none⟩) m c') ∧ w'.cell? ⟨w.heap.size, 3, none⟩ = some (.int .i64 l)) (exact ⟨a0, a1, a2, a3⟩)
                ((go_simp; go_at_call 31
                  refine (USr.out _ (by first | exact hbA | exact hbA.drew)).mono ?_
                  rintro e wS ⟨rfl, hbS⟩
                  have hbA : Below w4.heap.size w4 wS := by first | exact Below.then hbA hbS | exact Below.then hbA.drew hbS
                  obtain ⟨a0, a1, a2, a3⟩ := (HA4.out.keep hbA).cells))
              all_goals
                have HB5 := Lib.hid (Below.then HB4.out hbA)
                obtain ⟨z0, z1, z2, z3⟩ := (HZ.out.keep HB5.out).cells
                obtain ⟨f0, f1, f2, f3⟩ := (HR.out.keep HB5.out).free
                obtain ⟨r0, r1, r2, r3⟩ := (HR.out.keep HB5.out).cells
                go_wp2_with fail
                exact bodyPost_ret (results_blb (p := 6) (u := 7) rfl _ _ (w.heap.size + 1) _ _ _ _ rfl ((HR.out.keep HB5.out).set _ _ _ _)) rfl (blbOut_nil HO.out (Below.then HB.out HB5.out) (Nat.le_succ _))
            · have HO := Lib.hid (HE7.out.trans (if_neg hqs))
              have E0 := decide_eq_false hqs
              clear hqs
              go_region_held3 (fun w' => w'.cell? ⟨w.heap.size, 0, none⟩ = some (.slice a n c) ∧ w'.cell? ⟨w.heap.size, 1, none⟩ = some (.int .i64 q) ∧ w'.cell? ⟨w.heap.size, 2, none⟩ = some (.slice (some ⟨pb, po, none⟩) m c') ∧ w'.cell? ⟨w.heap.size, 3, none⟩ = some (.int .i64 l)) (exact ⟨a0, a1, a2, a3⟩)
                ((go_simp; go_at_call 31
                  refine (USr.out _ (by first | exact hbA | exact hbA.drew)).mono ?_
                  rintro e wS ⟨rfl, hbS⟩
                  have hbA : Below w4.heap.size w4 wS := by first | exact Below.then hbA hbS | exact Below.then hbA.drew hbS
                  obtain ⟨a0, a1, a2, a3⟩ := (HA4.out.keep hbA).cells))
              all_goals
                have HB5 := Lib.hid (Below.then HB4.out hbA)
                clear a0 a1 a2 a3
                go_upto_region 18 with fail
                obtain ⟨w6, hw6⟩ : ∃ w6, wS.alloc (.cells #[] 43) = w6 := ⟨_, rfl⟩
                have HB6 := Lib.hid (show Below W.heap.size W w6 by rw [← hw6]; exact Below.then HB5.out (below_new _ _))
                have HOWN6 := Lib.hid (show w6.ownsRow W.heap.size 43 2 (.slice (some ⟨wS.heap.size, 0, none⟩) 0 0) 0 [] by rw [← hw6]; exact World.ownsRow_lit wS #[] 0 HB5.out.size (Nat.zero_le _) rfl)
                have HS6 := Lib.hid (show SrcOf 2 w6 (.slice a n c) n (cellsL (b.objs.map objCell)) by
                  have e := (HPO.out.keep HB6.out).src
                  rwa [List.length_map, HQ.out.1] at e)
                rw [hw6]
                clear hw6 hbA
                obtain ⟨a0, a1, a2, a3⟩ := (HA.out.keep HB6.out).cells
                go_wp2_with (at_builtin; refine wpList_append_src _ rfl _ _ 22 rfl W.heap.size 43 i0 (.agg #[.string ⟨#[]⟩, .string ⟨#[]⟩]) 2 32 Tryz.underlying22 hi hz0 hz1 hz2 rfl (by decide) _ 0 [] rfl HOWN6.out _ n _ rfl HS6.out (one_objs _) (by unfold maxLen; omega) (by omega) HB6.out.size ?_)
                intro v7 w7 hown7 hgrow7
                obtain ⟨s7, t7, rfl⟩ := own_shape hown7
                have HO7 := Lib.hid hown7
                have HB7 := Lib.hid (HB6.out.grown hgrow7 HB6.out.size (fun k hk => (HOWN6.out.lt k hk).1))
                clear hown7 hgrow7 a0 a1 a2 a3
                go_upto_region 19 with fail
                have HB8 := Lib.hid (show Below W.heap.size W (w7.alloc (.cells #[.string dg, .string s] 43)) from Below.then HB7.out (below_new _ _))
                have HS8 := Lib.hid (show SrcOf 2 (w7.alloc (.cells #[.string dg, .string s] 43)) (.slice (some ⟨w7.heap.size, 0, none⟩) 1 1) 1 (cellsL [objCell (dg, s)]) from
                  Or.inr ⟨⟨w7.heap.size, 0, none⟩, 1, rfl, rfl, fun i u hu => by
                    obtain ⟨z0, z1⟩ := (At2.new 43 w7 (.string dg) (.string s)).cells
                    rw [add_plain, Nat.zero_add]
                    match i, hu with
                    | 0, hu => simp [cellsL, objCell] at hu; subst hu; exact z0
                    | 1, hu => simp [cellsL, objCell] at hu; subst hu; exact z1
                    | i + 2, hu => simp [cellsL, objCell] at hu⟩)
                go_wp2_with (at_builtin; refine wpList_append_src _ rfl _ _ 22 rfl W.heap.size 43 i0 (.agg #[.string ⟨#[]⟩, .string ⟨#[]⟩]) 2 32 Tryz.underlying22 hi hz0 hz1 hz2 rfl (by decide) _ n _ rfl (HO7.out.alloc _) _ 1 _ rfl HS8.out (by intro u hu; simp [cellsL, objCell] at hu; rcases hu with rfl | rfl <;> rfl) (by unfold maxLen; omega) (by omega) HB8.out.size ?_)
                intro v9 w9 hown9 hgrow9
                obtain ⟨s9, t9, rfl⟩ := own_shape hown9
                have HO9 := Lib.hid hown9
                have HB9 := Lib.hid (HB8.out.grown hgrow9 HB8.out.size (fun k hk => (HO7.out.lt k hk).1))
                clear hown9 hgrow9
                obtain ⟨a0, a1, a2, a3⟩ := (HA.out.keep HB9.out).cells
                obtain ⟨f0, f1, f2, f3⟩ := (HA.out.keep HB9.out).free
                go_upto_region 21 with fail
                obtain ⟨w10, hw10⟩ : ∃ w10, w9.setCell ⟨w.heap.size, 0, none⟩ (.slice s9 (n + 1) t9) = w10 := ⟨_, rfl⟩
                have HA10 := Lib.hid (show At4 25 w10 w.heap.size (.slice s9 (n + 1) t9) (.int .i64 q) (.slice (some ⟨pb, po, none⟩) m c') (.int .i64 l) by rw [← hw10]; exact (HA.out.keep HB9.out).at0 _)
                have HR10 := Lib.hid (show At4 25 w10 (w.heap.size + 1) nilV zeroV nilV zeroV by rw [← hw10]; exact (HR.out.keep HB9.out).other (by omega) _)
                have HB10 := Lib.hid (show Below w.heap.size w w10 by rw [← hw10]; exact (Below.then HB.out HB9.out).setCell (p := ⟨w.heap.size, 0, none⟩) (Nat.le_refl _) _)
                have HV10 := Lib.hid (objs_more HV.out HQ.out.1 HQ.out.2.2.1 (by rw [← HW.out]; simp only [World.size_alloc]; omega) HB10.out HO9.out hw10 HDG.out (by unfold maxLen; omega))
                rw [hw10]
                clear hw10 a0 a1 a2 a3 f0 f1 f2 f3
                obtain ⟨a0, a1, a2, a3⟩ := HA10.out.cells
                go_wp2_with fail
                refine (refBWithout_t _ _ j w10 HV10.out hj (by rw [HQ.out.2.1]; exact h100)).mono ?_
                rintro e w11 ⟨v', rfl, hv', hb11⟩
                obtain ⟨ra, rn, rc, rq, ra', rn', rc', rl, rfl⟩ := hv'.four
                have HB11 := Lib.hid (Below.then HB10.out hb11)
                have HV11 := Lib.hid hv'
                have HR11 := Lib.hid (HR10.out.keep hb11)
                clear hv' hb11 a0 a1 a2 a3
                obtain ⟨f0, f1, f2, f3⟩ := HR11.out.free
                obtain ⟨r0, r1, r2, r3⟩ := HR11.out.cells
                go_wp2_with fail
                exact bodyPost_ret (results_blb (p := 6) (u := 7) rfl _ _ (w.heap.size + 1) _ _ _ _ rfl (HR11.out.set _ _ _ _)) rfl (blbOut_ok HO.out HB11.out (Nat.le_succ _) HV11.out HR11.out)
        · have ha : atL b.objs dg = (k : Int) := ha
          have HO := Lib.hid (HE3.out.trans (if_pos (by rw [ha]; omega)))
          rw [ha]
          clear ha hk
          go_upto_region 12 with fail
          obtain ⟨a0, a1, a2, a3⟩ := (HA.out.keep HB4.out).cells
          go_wp2_with fail
          refine (WO.out w4 (Below.then HB.out HB4.out) j hjm).mono ?_
          rintro e w5 ⟨v', rfl, hv', hb5⟩
          obtain ⟨ra, rn, rc, rq, ra', rn', rc', rl, rfl⟩ := hv'.four
          have HB5 := Lib.hid (Below.then HB4.out hb5)
          have HV5 := Lib.hid hv'
          have HR5 := Lib.hid (HR.out.keep HB5.out)
          clear hv' hb5 a0 a1 a2 a3
          obtain ⟨f0, f1, f2, f3⟩ := HR5.out.free
          obtain ⟨r0, r1, r2, r3⟩ := HR5.out.cells
          go_wp2_with fail
          exact bodyPost_ret (results_blb (p := 6) (u := 7) rfl _ _ (w.heap.size + 1) _ _ _ _ rfl (HR5.out.set _ _ _ _)) rfl (blbOut_ok HO.out (Below.then HB.out HB5.out) (Nat.le_succ _) HV5.out HR5.out)
end Go.Proofs.YtodjhmphneoifaaGreatDoor
