/-
  The program's Pass and Late, by contracts. Conditions: none.
-/
import Derived.Test.YtjjefdgcbdfclaaPrgWireH
namespace Go.Proofs.Ytjjefdgcbdfclaa
open Go.RowKit Go.WideShapes

set_option maxRecDepth 100000 in
set_option maxHeartbeats 8000000 in
theorem Pass_t (v : Value) (n : Nt) (t : Int) (w : World) (h : NtAt w v n) (ht : i64 t) :
    Calls Try.prog 13 #[v, .int .i64 t] w fun e w' => ∃ v', e = .returned (.tuple #[v', .int .i64 (passA n t).2]) ∧ NtAt w' v' (passA n t).1 ∧ Below w.heap.size w w' := by
  have HRT := Lib.hid (fun w' (hb : Below w.heap.size w w') => WRight_t v n w' (h.keep hb))
  have HV := Lib.hid h
  obtain ⟨a, k, c, q, l, rfl⟩ := h.three
  obtain ⟨r, hr⟩ : ∃ x, n.right = x := ⟨_, rfl⟩
  rw [hr] at HRT
  have HE := Lib.hid hr
  have HPT := Lib.hid HV.out.parts
  obtain ⟨W, hW⟩ : ∃ W, (w.alloc (.cells #[.slice a k c, .int .i64 q, .int .i64 l] 24)).alloc (.cells #[nilV, .int .i64 0, .int .i64 0] 24) = W := ⟨_, rfl⟩
  have h2 := two_net w (.slice a k c) (.int .i64 q) (.int .i64 l) nilV (.int .i64 0) (.int .i64 0) 24
  rw [hW] at h2
  have HW := Lib.hid hW
  have HB := Lib.hid h2.2.2
  have HA := Lib.hid h2.1
  have HN := Lib.hid h2.2.1
  have HRW := Lib.hid (HRT.out W h2.2.2)
  obtain ⟨a0, a1, a2⟩ := h2.1.cells
  clear h2 hW h HRT hr
  go_enter Try.func13, Try.ntmps13
  go_upto_region 1 with fail
  rw [HW.out]
  go_wp2_with fail
  refine HRW.out.mono ?_
  rintro e w1 ⟨rfl, hb1⟩
  have HB1 := Lib.hid (Below.then HB.out hb1)
  have HA1 := Lib.hid (HA.out.keep hb1)
  have HN1 := Lib.hid (HN.out.keep hb1)
  clear hb1 a0 a1 a2
  obtain ⟨b0, b1, b2⟩ := HN1.out.cells
  obtain ⟨f0, f1, f2⟩ := HN1.out.free
  cases r
  · have HPA := Lib.hid (pass_no (n := n) (t := t) (Or.inl HE.out))
    go_wp2_with fail
    exact bodyPost_ret (results_nt (p := 4) (u := 5) rfl _ _ (w.heap.size + 1) _ _ _ rfl (HN1.out.set _ _ _)) rfl ⟨_, by rw [HPA.out]; rfl, by rw [HPA.out]; exact nt_none _, set3_below HB1.out (Nat.le_succ _) _ _ _⟩
  by_cases ht0 : t < 0
  · have HPA := Lib.hid (pass_no (n := n) (t := t) (Or.inr ht0))
    go_wp2_with fail
    exact bodyPost_ret (results_nt (p := 4) (u := 5) rfl _ _ (w.heap.size + 1) _ _ _ rfl (HN1.out.set _ _ _)) rfl ⟨_, by rw [HPA.out]; rfl, by rw [HPA.out]; exact nt_none _, set3_below HB1.out (Nat.le_succ _) _ _ _⟩
  have HMAY := (Nt.right_iff n).1 HE.out
  have hl1 := HMAY.now
  rw [← HPT.out.2.2.1] at hl1
  obtain ⟨d, hd⟩ : ∃ x, 1099511627776 - l = x := ⟨_, rfl⟩
  obtain ⟨m, hm⟩ : ∃ x, min t d = x := ⟨_, rfl⟩
  obtain ⟨s, hs⟩ : ∃ x, l + m = x := ⟨_, rfl⟩
  have HPA := Lib.hid (show passA n t = (⟨n.fl, q, s⟩, 0) by
    rw [pass_ok HE.out (by omega), ← HPT.out.2.1, ← HPT.out.2.2.1, ← hs, ← hm, ← hd]
    congr 2
    unfold pt
    split <;> omega)
  have hw1 : IntKind.i64.wrap d = d := by rw [IntKind.wrap_i64]; omega
  have hw2 : IntKind.i64.wrap s = s := by rw [IntKind.wrap_i64]; omega
  have hi2 : i64 s := ⟨by omega, by omega⟩
  have HQ := Lib.hid (show i64 q by rw [HPT.out.2.1]; exact HV.out.last)
  have HS := Lib.hid hi2
  have HCL := Lib.hid (fun w' (hb : Below w.heap.size w w') => msClone_t (.slice a k c) n.fl w' (HPT.out.2.2.2.2.2.keep hb) (by have := HMAY.few; omega))
  clear hl1 hi2 HMAY
  obtain ⟨a0, a1, a2⟩ := HA1.out.cells
  obtain ⟨z0, z1, z2⟩ := HA1.out.free
  go_upto_region 4 with fail
  obtain ⟨w2, hw3⟩ : ∃ x, w1.setCell ⟨w.heap.size, 2, none⟩ (.int .i64 s) = x := ⟨_, rfl⟩
  rw [hw3]
  have HA2 := Lib.hid (show At3 24 w2 w.heap.size (.slice a k c) (.int .i64 q) (.int .i64 s) by rw [← hw3]; exact HA1.out.at2 _)
  have HN2 := Lib.hid (show At3 24 w2 (w.heap.size + 1) nilV (.int .i64 0) (.int .i64 0) by
    rw [← hw3]; exact (Below.heap_setCell _ _ _ _ (show w.heap.size + 1 ≠ w.heap.size by omega)).trans HN1.out)
  have HB2 := Lib.hid (show Below w.heap.size w w2 by rw [← hw3]; exact HB1.out.setCell (p := ⟨w.heap.size, 2, none⟩) (Nat.le_refl _) _)
  have hlt : w.heap.size + 1 < w2.heap.size := HN2.out.lt
  have HK := Lib.hid (show n.fl.length = k from HPT.out.1.symm)
  clear hw3 hd hm hs hw1 hw2 ht0 ht a0 a1 a2 b0 b1 b2 f0 f1 f2 z0 z1 z2
  obtain ⟨a0, a1, a2⟩ := HA2.out.cells
  go_wp2_with fail
  refine (HCL.out w2 HB2.out).mono ?_
  rintro e w3 ⟨v', rfl, ho, hb3⟩
  obtain ⟨s1, c1, rfl, -, -⟩ := own_shape ho
  rw [HK.out] at ho ⊢
  have HO3 := Lib.hid ho
  have HB3 := Lib.hid hb3
  have hA3 := HA2.out.keep hb3
  have HA3 := Lib.hid hA3
  have HN3 := Lib.hid (HN2.out.keep hb3)
  clear ho hb3 a0 a1 a2
  obtain ⟨a0, a1, a2⟩ := hA3.cells
  obtain ⟨f0, f1, f2⟩ := hA3.free
  clear hA3
  go_upto_region 5 with fail
  obtain ⟨w4, hw4⟩ : ∃ w4, w3.setCell ⟨w.heap.size, 0, none⟩ (.slice s1 k c1) = w4 := ⟨_, rfl⟩
  rw [hw4]
  have HA4 := Lib.hid (show At3 24 w4 w.heap.size (.slice s1 k c1) (.int .i64 q) (.int .i64 s) by rw [← hw4]; exact HA3.out.at0 _)
  have HN4 := Lib.hid (show At3 24 w4 (w.heap.size + 1) nilV (.int .i64 0) (.int .i64 0) by
    rw [← hw4]; exact (Below.heap_setCell _ _ _ _ (show w.heap.size + 1 ≠ w.heap.size by omega)).trans HN3.out)
  have HO4 := Lib.hid (show w4.ownsRow w2.heap.size 30 4 (.slice s1 k c1) k (cellsN n.fl) by
    rw [← hw4]; exact own_same HO3.out fun g hg => Below.heap_setCell _ _ _ _ (show g ≠ w.heap.size by omega))
  have HB4 := Lib.hid (show Below w.heap.size w w4 by rw [← hw4]; exact (Below.then HB2.out HB3.out).setCell (p := ⟨w.heap.size, 0, none⟩) (Nat.le_refl _) _)
  clear hw4 a0 a1 a2 f0 f1 f2
  obtain ⟨a0, a1, a2⟩ := HA4.out.cells
  obtain ⟨b0, b1, b2⟩ := HN4.out.cells
  obtain ⟨f0, f1, f2⟩ := HN4.out.free
  go_wp2_with fail
  exact bodyPost_ret (results_nt (p := 4) (u := 5) rfl _ _ (w.heap.size + 1) _ _ _ rfl (HN4.out.set _ _ _)) rfl
    ⟨_, by rw [HPA.out]; rfl, by rw [HPA.out]; exact net_end HO4.out HK.out hlt HV.out.fits HQ.out HS.out, set3_below HB4.out (Nat.le_succ _) _ _ _⟩

/-! ### What is late -/
abbrev cellsI (l : List Nat) : List Value := (l.map fun (k : Nat) => [Value.int .i64 (k : Int)]).flatten
theorem cellsI_append (a b : List Nat) : cellsI (a ++ b) = cellsI a ++ cellsI b := by unfold cellsI; rw [List.map_append, List.flatten_append]
theorem intWide (l : List Nat) : Wide 1 (l.map fun (k : Nat) => [Value.int .i64 (k : Int)]) := by
  intro x hx
  obtain ⟨m, -, rfl⟩ := List.mem_map.1 hx
  rfl
theorem infoInt13 : (Try.prog.info? 3).map (fun i => (i.zero, i.size, i.bytes)) = some (some (.int .i64 0), 1, 8) := by kernel_rfl
theorem late_step {t : Int} {l : List Ms} {k : Nat} (hk : k < l.length) : lateL t 0 (l.take (k + 1)) = lateL t 0 (l.take k) ++ (if l[k].tm ≤ t then [k] else []) := by
  have h2 : (l.take k).length = k := by rw [List.length_take]; omega
  rw [List.take_succ_eq_append_getElem hk, lateL_app, h2, Nat.zero_add, lateL_cons]
  rfl
theorem one_at {w : World} {B : Nat} {x : Value} {t : TypeId} (h : w.heap[B]? = some (.cells #[x] t (0, 0))) : w.cell? ⟨B, 0, none⟩ = some x := by
  simp [World.cell?, h]
/-- A row of one int. -/
theorem int_src (w : World) (x : Int) : SrcOf 1 (w.alloc (.cells #[.int .i64 x] 3)) (.slice (some ⟨w.heap.size, 0, none⟩) 1 1) 1 [.int .i64 x] := by
  have h := heap_alloc_new w (.cells #[.int .i64 x] 3)
  refine Or.inr ⟨_, _, rfl, rfl, fun j u hu => ?_⟩
  match j, hu with
  | 0, hu =>
    obtain rfl : Value.int .i64 x = u := by simpa using hu
    rw [add_plain]
    exact one_at h
  | j + 1, hu => simp at hu
set_option maxRecDepth 100000 in
set_option maxHeartbeats 8000000 in
theorem Late_t (v : Value) (n : Nt) (t : Int) (w : World) (h : NtAt w v n) (ht : i64 t) :
    Calls Try.prog 12 #[v, .int .i64 t] w fun e w' => ∃ a c, e = .returned (.slice a (lateA n t).length c) ∧ IntsRow w' (.slice a (lateA n t).length c) (lateA n t) ∧ Below w.heap.size w w' := by
  obtain ⟨i0, hi, hz0, hz1, hz2⟩ := info_parts infoInt13
  have HRT := Lib.hid (fun w' (hb : Below w.heap.size w w') => WRight_t v n w' (h.keep hb))
  have HV := Lib.hid h
  obtain ⟨a, k, c, q, l, rfl⟩ := h.three
  obtain ⟨r, hr⟩ : ∃ x, n.right = x := ⟨_, rfl⟩
  rw [hr] at HRT
  have HE := Lib.hid hr
  have HPT := Lib.hid HV.out.parts
  obtain ⟨W, hW⟩ : ∃ W, w.alloc (.cells #[.slice a k c, .int .i64 q, .int .i64 l] 24) = W := ⟨_, rfl⟩
  have hb0 : Below w.heap.size w W := by rw [← hW]; exact below_new _ _
  have HA := Lib.hid (show At3 24 W w.heap.size (.slice a k c) (.int .i64 q) (.int .i64 l) by rw [← hW]; exact At3.new _ _ _ _ _)
  have HW := Lib.hid hW
  have HB := Lib.hid hb0
  have HRW := Lib.hid (HRT.out W hb0)
  obtain ⟨a0, a1, a2⟩ := HA.out.cells
  clear hW h HRT hr hb0
  go_enter Try.func12, Try.ntmps12
  go_upto_region 1 with fail
  rw [HW.out]
  go_wp2_with fail
  refine HRW.out.mono ?_
  rintro e w1 ⟨rfl, hb1⟩
  have HB1 := Lib.hid (Below.then HB.out hb1)
  have HA1 := Lib.hid (HA.out.keep hb1)
  clear hb1 a0 a1 a2
  cases r
  · have HLA := Lib.hid (late_no (n := n) (t := t) (Or.inl HE.out))
    go_wp2_with fail
    go_ret
    exact ⟨none, 0, by rw [HLA.out]; rfl, by rw [HLA.out]; exact Or.inl ⟨rfl, Or.inl rfl⟩, HB1.out⟩
  by_cases ht0 : t < 0
  · have HLA := Lib.hid (late_no (n := n) (t := t) (Or.inr ht0))
    go_wp2_with fail
    go_ret
    exact ⟨none, 0, by rw [HLA.out]; rfl, by rw [HLA.out]; exact Or.inl ⟨rfl, Or.inl rfl⟩, HB1.out⟩
  have HMAY := (Nt.right_iff n).1 HE.out
  have hl1 := HMAY.now
  rw [← HPT.out.2.2.1] at hl1
  obtain ⟨d, hd⟩ : ∃ x, l - t = x := ⟨_, rfl⟩
  have HLA := Lib.hid (show lateA n t = lateL d 0 n.fl by rw [late_ok HE.out (by omega), ← HPT.out.2.2.1, hd])
  have hwr : IntKind.i64.wrap d = d := by rw [IntKind.wrap_i64]; omega
  have HWR := Lib.hid (And.intro hd hwr)
  have hfew := HMAY.few
  have HK := Lib.hid (show n.fl.length = k from HPT.out.1.symm)
  rw [HK.out] at hfew
  have HRA := Lib.hid HPT.out.2.2.2.2.2
  have HST := Lib.hid (fun k hk => late_step (t := d) (l := n.fl) (k := k) hk)
  have HFI := Lib.hid HV.out.fits
  have hcc : k ≤ c := HPT.out.2.2.2.1
  have hcm : c ≤ 9223372036854775807 := HPT.out.2.2.2.2.1
  obtain ⟨a0, a1, a2⟩ := HA1.out.cells
  clear hl1 HMAY hd hwr
  go_wp2_with fail
  clear a0 a1 a2
  go_loopw [5, 18] (fun pv iv wr => ∃ j : Nat, j ≤ k ∧ iv = .int .i64 j ∧ wr.ownsRow w1.heap.size 3 1 pv (lateL d 0 (n.fl.take j)).length (cellsI (lateL d 0 (n.fl.take j))) ∧ Below w1.heap.size w1 wr) (fun _ i _ => k - (intOf i).toNat)
  case atStart => exact ⟨0, Nat.zero_le _, rfl, World.ownsRow_nil _ _ _ _, Below.refl _ _⟩
  case round =>
    obtain ⟨j, hj, rfl, ho, hbr⟩ := hrel
    have HOR := Lib.hid ho
    have HBR := Lib.hid hbr
    clear ho hbr
    obtain ⟨jl, hjl⟩ : ∃ x, (lateL d 0 (n.fl.take j)).length = x := ⟨_, rfl⟩
    have hOR := HOR.out
    rw [hjl] at hOR
    obtain ⟨s1, c1, rfl, hc1, hc1m⟩ := own_shape hOR
    have HOW := Lib.hid hOR
    have HJL := Lib.hid hjl
    have hjk : jl ≤ j := by rw [← hjl]; have := lateL_len d 0 (n.fl.take j); rw [List.length_take] at this; omega
    clear hOR HOR hjl
    by_cases hlt : j < k
    · have k1 : j < n.fl.length := by rw [HK.out]; exact hlt
      obtain ⟨lb, lo, rfl, e0, e1, e2, e3⟩ := ms_at (HRA.out.keep (Below.then HB1.out HBR.out)) j k1
      have hst := HST.out j k1
      obtain ⟨⟨x1, x2, x3, x4⟩, hx⟩ : ∃ x, n.fl[j] = x := ⟨_, rfl⟩
      rw [hx] at e0 e1 e2 e3 hst
      simp only at e0 e1 e2 e3 hst
      obtain ⟨W1, hW1⟩ : ∃ W1, wr.alloc (.cells #[.int .i64 x1, .int .i64 x2, .string x3, .int .i64 x4] 30) = W1 := ⟨_, rfl⟩
      obtain ⟨Bx, hBx⟩ : ∃ B, wr.heap.size = B := ⟨_, rfl⟩
      have HBX := Lib.hid (show Below w1.heap.size w1 W1 by rw [← hW1]; exact Below.then HBR.out (below_new _ _))
      have HX := Lib.hid (show At4 30 W1 Bx (.int .i64 x1) (.int .i64 x2) (.string x3) (.int .i64 x4) by rw [← hW1, ← hBx]; exact At4.new _ _ _ _ _ _)
      have HO1 := Lib.hid (show W1.ownsRow w1.heap.size 3 1 (.slice s1 jl c1) jl (cellsI (lateL d 0 (n.fl.take j))) by rw [← hW1]; exact HOW.out.alloc _)
      have HW1 := Lib.hid hW1
      have HS := Lib.hid hst
      clear hW1 hst hx
      go_upto_region 7 with fail
      rw [HW1.out]
      clear hBx e0 e1 e2 e3
      obtain ⟨x0, x1', x2', x3'⟩ := HX.out.cells
      obtain ⟨a0, a1, a2⟩ := (HA1.out.keep HBX.out).cells
      obtain ⟨hd, hwr⟩ := HWR.out
      by_cases hle : x4 ≤ d
      · have HS2 := Lib.hid (show lateL d 0 (n.fl.take (j + 1)) = lateL d 0 (n.fl.take j) ++ [j] by rw [HS.out, if_pos hle])
        have HSRC := Lib.hid (int_src W1 (j : Int))
        have HO2 := Lib.hid (HO1.out.alloc (.cells #[.int .i64 (j : Int)] 3))
        have HB2 := Lib.hid (show Below w1.heap.size w1 (W1.alloc (.cells #[.int .i64 (j : Int)] 3)) from Below.then HBX.out (below_new _ _))
        go_wp2_with (at_builtin; refine wpList_append_src _ rfl _ _ 35 rfl w1.heap.size 3 i0 (.int .i64 0) 1 8 Try.underlying35 hi hz0 hz1 hz2 rfl (by decide) _ jl _ rfl HO2.out _ 1 _ rfl HSRC.out (by intro u hu; rw [List.mem_singleton.1 hu]; rfl) (by unfold maxLen; omega) (by omega) HB2.out.size ?_; intro v2 w2 hown2 hgrow2)
        have HO3 := Lib.hid (show w2.ownsRow w1.heap.size 3 1 v2 (lateL d 0 (n.fl.take (j + 1))).length (cellsI (lateL d 0 (n.fl.take (j + 1)))) by
          rw [HS2.out, cellsI_append, List.length_append, HJL.out]; exact hown2)
        have HB3 := Lib.hid (HB2.out.grown hgrow2 HB2.out.size (fun k hk => (HO2.out.lt k hk).1))
        clear hown2 hgrow2
        go_wp2_with fail
        go_roundw
        case rel => exact ⟨j + 1, by omega, by go_num, HO3.out, HB3.out⟩
        case measure => simp [intOf]; omega
      · have HO3 := Lib.hid (show W1.ownsRow w1.heap.size 3 1 (.slice s1 jl c1) (lateL d 0 (n.fl.take (j + 1))).length (cellsI (lateL d 0 (n.fl.take (j + 1)))) by
          rw [HS.out, if_neg hle, List.append_nil, HJL.out]; exact HO1.out)
        go_wp2_with fail
        go_roundw
        case rel => exact ⟨j + 1, by omega, by go_num, HO3.out, HBX.out⟩
        case measure => simp [intOf]; omega
    · have HT := Lib.hid (show n.fl.take j = n.fl from List.take_of_length_le (by rw [HK.out]; omega))
      have HB3 := Lib.hid (Below.then HB1.out HBR.out)
      have HOE := Lib.hid (show wr.ownsRow w1.heap.size 3 1 (.slice s1 jl c1) jl (cellsI (lateL d 0 n.fl)) by rw [← HT.out]; exact HOW.out)
      have HJE := Lib.hid (show (lateL d 0 n.fl).length = jl by rw [← HT.out]; exact HJL.out)
      go_wp2_with fail
      go_ret
      exact ⟨s1, c1, by rw [HLA.out, HJE.out]; rfl, by rw [HLA.out, HJE.out]; exact RwAt.of_own HOE.out (intWide _) (by rw [List.length_map]; exact HJE.out), HB3.out⟩
end Go.Proofs.Ytjjefdgcbdfclaa
