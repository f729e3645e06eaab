/-
  The document's own Right of manifests, by a contract. Conditions: none.
-/
import Derived.Test.YtepcaglekgeamaaGreatDoorYMan4
namespace Go.Proofs.YtepcaglekgeamaaGreatDoor
open Go.RowKit

theorem rightM_ref (i : Bool) (c : ByteArray) (ls : List (ByteArray × Int)) (ks : List ByteArray) : rightM ⟨i, c, ls, ks⟩ =
    (apartL [] ks && ls.all okLayer && (decide (ks.length ≤ 8) && decide (ls.length ≤ 8)) && (if i = true then decide (0 < ks.length) && decide (c.size = 0) && decide (ls.length = 0) else isD c && decide (ks.length = 0))) := by
  cases i with
  | true =>
    rw [rightM_true true c ls ks rfl, if_pos rfl]
    by_cases hl : ls.length = 0
    · have hl' := List.length_eq_zero_iff.1 hl
      subst hl'
      by_cases h0 : 0 < ks.length
      · by_cases h8 : ks.length ≤ 8
        · cases apartL [] ks <;> cases decide (c.size = 0) <;> simp [h0, h8, show 1 ≤ ks.length from h0]
        · simp [h8]
      · have h00 : ks.length = 0 := by omega
        simp [h00]
    · simp [hl]
  | false =>
    rw [rightM_false false c ls ks rfl, if_neg (by decide)]
    by_cases hk : ks.length = 0
    · have hk' := List.length_eq_zero_iff.1 hk
      subst hk'
      cases isD c <;> cases ls.all okLayer <;> cases decide (ls.length ≤ 8) <;> simp [apartL]
    · simp [hk]

set_option maxRecDepth 100000 in
set_option maxHeartbeats 8000000 in
theorem refRight_t (m : Man) (v : Value) (w : World) (hv : ManAt w v m) :
    Calls Tryz.prog 38 #[v] w fun e w' => e = .returned (.bool (rightM m)) ∧ Below w.heap.size w w' := by
  obtain ⟨i, c, ls, ks⟩ := m
  obtain ⟨⟨lv, kv, rfl, hl, hk⟩, -, -, -⟩ := hv
  simp only at hl hk
  obtain ⟨W, hW⟩ : ∃ W, w.alloc (.cells #[.bool i, .string c, lv, kv] 53) = W := ⟨_, rfl⟩
  have hb0 : Below w.heap.size w W := by rw [← hW]; exact below_new _ _
  have hA : At4 W w.heap.size (.bool i) (.string c) lv kv := by rw [← hW]; exact At4.new _ _ _ _ _
  have HKT := Lib.hid hk
  have HLT := Lib.hid hl
  have hkl := hk.len
  obtain ⟨la, lc, rfl, -, hll⟩ := hl.shape
  obtain ⟨ka, kc, rfl, -⟩ := hk.shape
  rw [List.length_map] at hA hW hll ⊢
  unfold maxLen at hll hkl
  obtain ⟨nl, hnl⟩ : ∃ n, ls.length = n := ⟨_, rfl⟩
  obtain ⟨nk, hnk⟩ : ∃ n, ks.length = n := ⟨_, rfl⟩
  have HNL := Lib.hid hnl
  have HNK := Lib.hid hnk
  have HR := Lib.hid (rightM_ref i c ls ks)
  rw [hnl] at hA hW hll ⊢
  rw [hnk] at hA hW hkl ⊢
  have HA := Lib.hid hA
  have HB0 := Lib.hid hb0
  have HW := Lib.hid hW
  have IS := Lib.hid (fun s w => is_t s w)
  have HAS := Lib.hid (fun v l s w h => has_t v l s w h)
  obtain ⟨a0, a1, a2, a3⟩ := hA.cells
  clear hA hb0 hW hl hk hnl hnk
  go_enter Tryz.func38, Tryz.ntmps38
  go_upto_region 1 with fail
  rw [HW.out]
  go_wp2_with fail
  -- the kids
  go_loopw [10] (fun iv wr => ∃ k : Nat, k ≤ nk ∧ iv = .int .i64 k ∧ (∀ (j : Nat) (hj : j < ks.length), j < k → isD ks[j] = true ∧ ks[j] ∉ ks.take j) ∧ Below W.heap.size W wr) (fun i _ => nk - (intOf i).toNat)
  case atStart => exact ⟨0, Nat.zero_le _, rfl, fun j _ h => absurd h (Nat.not_lt_zero _), Below.refl _ _⟩
  case round =>
    obtain ⟨k, hkn, rfl, hall, hb⟩ := hrel
    have HAL := Lib.hid hall
    have HB := Lib.hid hb
    clear hall hb
    by_cases hlt : k < nk
    · have hkl2 : k < ks.length := by rw [HNK.out]; exact hlt
      obtain ⟨kb, ko, rfl, e0⟩ := HKT.out.at k hkl2
      have hcap : nk ≤ kc := by
        rcases HKT.out with ⟨h0, -⟩ | ⟨_, _, _, he, -, h3, -, -⟩
        · rw [h0] at hkl2; simp at hkl2
        · simp only [Value.slice.injEq] at he
          rw [he.2.2, ← HNK.out]; exact h3
      have HN := Lib.hid (show isD ks[k] = true → ks[k] ∉ ks.take k → ∀ (j : Nat) (hj : j < ks.length), j < k + 1 → isD ks[j] = true ∧ ks[j] ∉ ks.take j from fun p q j hj hjk => by
        rcases Nat.lt_or_ge j k with h | h
        · exact HAL.out j hj h
        · obtain rfl : j = k := by omega
          exact ⟨p, q⟩)
      have HF := Lib.hid (show (isD ks[k] = false ∨ ks[k] ∈ ks.take k) → rightM ⟨i, c, ls, ks⟩ = false from fun h => by
        have ha : apartL [] ks = false := by
          cases hq : apartL [] ks with
          | false => rfl
          | true =>
            obtain ⟨g1, g2⟩ := apartL_at [] ks k hkl2 hq
            rcases h with h | h
            · rw [g1] at h; cases h
            · exact absurd h (by simpa using g2)
        rw [HR.out, ha]; rfl)
      have hwb : Below w.heap.size w wr := Below.then HB0.out HB.out
      obtain ⟨x, hx⟩ : ∃ x, ks[k] = x := ⟨_, rfl⟩
      rw [hx] at e0
      simp only [hx] at HN HF
      have v0 : wr.cell? ⟨kb, ko + k, none⟩ = some (.string x) := (hwb.cell (World.block_lt_of_cell? _ _ e0)).trans e0
      have HWB := Lib.hid hwb
      obtain ⟨q1, hq1⟩ : ∃ q, isD x = q := ⟨_, rfl⟩
      have D := Lib.hid (IS.out x wr)
      rw [hq1] at D HN HF
      clear e0 hx hq1 hwb
      go_wp2_with fail
      refine D.out.mono ?_
      rintro e w2 ⟨rfl, hb2⟩
      have HB2 := Lib.hid (Below.then HB.out hb2)
      have hwb2 := Below.then HWB.out hb2
      have C := Lib.hid (HAS.out _ _ x w2 ((HKT.out.keep hwb2).take k (by omega)))
      have HWB2 := Lib.hid hwb2
      obtain ⟨b0, b1, b2, b3⟩ := (HA.out.keep HB2.out).cells
      clear hb2 hwb2
      cases q1 with
      | false =>
        have HO := Lib.hid (HF.out (Or.inl rfl))
        go_wp2_with fail
        go_ret
        exact ⟨by rw [HO.out]; rfl, HWB2.out⟩
      | true =>
        by_cases hm : x ∈ ks.take k
        · rw [decide_eq_true hm] at C
          have HO := Lib.hid (HF.out (Or.inr hm))
          clear hm
          go_wp2_with fail
          refine C.out.mono ?_
          rintro e w3 ⟨rfl, rfl⟩
          go_wp2_with fail
          go_ret
          exact ⟨by rw [HO.out]; rfl, HWB2.out⟩
        · rw [decide_eq_false hm] at C
          have HN' := Lib.hid (HN.out rfl hm)
          clear hm
          go_wp2_with fail
          refine C.out.mono ?_
          rintro e w3 ⟨rfl, rfl⟩
          go_wp2_with fail
          go_roundw
          case rel => exact ⟨k + 1, by omega, by go_num, HN'.out, HB2.out⟩
          case measure => simp [intOf]; omega
    · have HAP := Lib.hid (show apartL [] ks = true from apartL_of [] ks fun j hj => by
        have := HAL.out j hj (by rw [HNK.out] at hj; omega)
        simpa using this)
      obtain ⟨b0, b1, b2, b3⟩ := (HA.out.keep HB.out).cells
      obtain ⟨wo, rfl⟩ : ∃ wo : World, wo = wr := ⟨_, rfl⟩
      have HWO := Lib.hid HB.out
      clear a0 a1 a2 a3 HAL HB
      go_wp2_with fail
      -- the layers
      go_loopw [30] (fun iv wr => ∃ k : Nat, k ≤ nl ∧ iv = .int .i64 k ∧ (ls.take k).all okLayer = true ∧ Below W.heap.size W wr) (fun i _ => nl - (intOf i).toNat)
      case atStart => exact ⟨0, Nat.zero_le _, rfl, by simp, HWO.out⟩
      case round =>
        obtain ⟨k, hkn, rfl, hall, hb⟩ := hrel
        have HAL := Lib.hid hall
        have HB := Lib.hid hb
        clear hall hb b0 b1 b2 b3
        have hwb : Below w.heap.size w wr := Below.then HB0.out HB.out
        by_cases hlt : k < nl
        · have hkl2 : k < ls.length := by rw [HNL.out]; exact hlt
          rcases HLT.out with ⟨h0, -⟩ | ⟨lb, lo, lc', he, -, -, -, h5⟩
          · exact absurd (List.map_eq_nil_iff.1 h0) (fun h => by rw [h] at hkl2; simp at hkl2)
          simp only [Value.slice.injEq] at he
          obtain ⟨rfl, -, rfl⟩ := he
          obtain ⟨e0, e1⟩ := h5 k (by rw [List.length_map]; exact hkl2)
          rw [layer_getElem ls k hkl2] at e0 e1
          have hts := Lib.hid (List.take_succ_eq_append_getElem hkl2)
          have HM := Lib.hid (List.getElem_mem hkl2)
          obtain ⟨⟨x, n⟩, hx⟩ : ∃ x, ls[k] = x := ⟨_, rfl⟩
          rw [hx] at e0 e1 hts HM
          have kc' : ∀ {p : Addr} {v : Value}, w.cell? p = some v → wr.cell? p = some v := fun h => hwb.cell (World.block_lt_of_cell? _ _ h) |>.trans h
          have v0 := kc' e0
          have v1 := kc' e1
          obtain ⟨W1, hW1⟩ : ∃ W1, wr.alloc (.cells #[.string x, .int .i64 n] 76) = W1 := ⟨_, rfl⟩
          have hb1 : Below wr.heap.size wr W1 := by rw [← hW1]; exact below_new _ _
          have hA : At2 76 W1 wr.heap.size (.string x) (.int .i64 n) := by rw [← hW1]; exact At2.new _ _ _ _
          have D := Lib.hid (IS.out x W1)
          have HA1 := Lib.hid hA
          have HB1 := Lib.hid (Below.then HB.out hb1)
          have HW1 := Lib.hid hW1
          obtain ⟨a0, a1⟩ := hA.cells
          have HOK := Lib.hid (okLayer_eq x n)
          have HFL := Lib.hid (show okLayer (x, n) = false → rightM ⟨i, c, ls, ks⟩ = false from fun h => by
            have : ls.all okLayer = false := List.all_eq_false.2 ⟨(x, n), HM.out, by rw [h]; decide⟩
            rw [HR.out, this, Bool.and_false]; rfl)
          obtain ⟨q, hq⟩ : ∃ q, isD x = q := ⟨_, rfl⟩
          rw [hq] at D HOK
          clear e0 e1 kc' hx hA hb1 hW1 hq hwb h5
          go_upto_region 10 with fail
          rw [HW1.out]
          go_wp2_with fail
          refine D.out.mono ?_
          rintro e w2 ⟨rfl, hb2⟩
          have HB2 := Lib.hid (Below.then HB1.out hb2)
          have HWB2 := Lib.hid (Below.then HB0.out HB2.out)
          obtain ⟨d0, d1⟩ := (HA1.out.keep hb2).cells
          clear hb2 a0 a1
          cases q with
          | false =>
            have HO := Lib.hid (HFL.out (by rw [HOK.out]; rfl))
            go_wp2_with fail
            go_ret
            exact ⟨by rw [HO.out]; rfl, HWB2.out⟩
          | true =>
            by_cases hn0 : n < 0
            · have HO := Lib.hid (HFL.out (by rw [HOK.out, decide_eq_false (by omega)]; rfl))
              go_wp2_with fail
              go_ret
              exact ⟨by rw [HO.out]; rfl, HWB2.out⟩
            · by_cases hn1 : n ≤ 4096
              · have HN := Lib.hid (show (ls.take (k + 1)).all okLayer = true by
                  rw [hts.out, List.all_append, HAL.out, List.all_cons, List.all_nil, HOK.out, decide_eq_true (show 0 ≤ n ∧ n ≤ 4096 from ⟨by omega, hn1⟩)]; rfl)
                go_wp2_with fail
                go_roundw
                case rel => exact ⟨k + 1, by omega, by go_num, HN.out, HB2.out⟩
                case measure => simp [intOf]; omega
              · have HO := Lib.hid (HFL.out (by rw [HOK.out, decide_eq_false (by omega)]; rfl))
                go_wp2_with fail
                go_ret
                exact ⟨by rw [HO.out]; rfl, HWB2.out⟩
        · have HLA := Lib.hid (show ls.all okLayer = true by
            have := HAL.out
            rwa [List.take_of_length_le (by rw [HNL.out]; omega)] at this)
          have HRR := Lib.hid (show rightM ⟨i, c, ls, ks⟩ = ((decide (nk ≤ 8) && decide (nl ≤ 8)) && (if i = true then decide (0 < nk) && decide (c.size = 0) && decide (nl = 0) else isD c && decide (nk = 0))) by
            rw [HR.out, HAP.out, HLA.out, HNK.out, HNL.out]; simp only [Bool.true_and])
          have HWB := Lib.hid hwb
          have HAW := Lib.hid (HA.out.keep HB.out)
          obtain ⟨b0, b1, b2, b3⟩ := HAW.out.cells
          clear hwb
          by_cases hk8 : nk ≤ 8
          rotate_left
          · have HO := Lib.hid (show rightM ⟨i, c, ls, ks⟩ = false by rw [HRR.out, decide_eq_false hk8]; rfl)
            go_wp2_with fail
            go_ret
            exact ⟨by rw [HO.out]; rfl, HWB.out⟩
          by_cases hl8 : nl ≤ 8
          rotate_left
          · have HO := Lib.hid (show rightM ⟨i, c, ls, ks⟩ = false by rw [HRR.out, decide_eq_false hl8, Bool.and_false]; rfl)
            go_wp2_with fail
            go_ret
            exact ⟨by rw [HO.out]; rfl, HWB.out⟩
          have HR8 := Lib.hid (show rightM ⟨i, c, ls, ks⟩ = (if i = true then decide (0 < nk) && decide (c.size = 0) && decide (nl = 0) else isD c && decide (nk = 0)) by rw [HRR.out, decide_eq_true hk8, decide_eq_true hl8]; rfl)
          cases i with
          | true =>
            by_cases hk0 : 0 < nk
            rotate_left
            · have HO := Lib.hid (show rightM ⟨true, c, ls, ks⟩ = false by rw [HR8.out, if_pos rfl, decide_eq_false hk0]; rfl)
              go_wp2_with fail
              go_ret
              exact ⟨by rw [HO.out]; rfl, HWB.out⟩
            by_cases hc : c.size = 0
            rotate_left
            · have HO := Lib.hid (show rightM ⟨true, c, ls, ks⟩ = false by rw [HR8.out, if_pos rfl, decide_eq_false hc, Bool.and_false]; rfl)
              have q : (c.toList == []) = false := by
                cases hq : (c.toList == []) with
                | false => rfl
                | true => rw [beq_iff_eq] at hq; exact absurd (by rw [Lib.size_eq, ← Lib.toList_data, hq]; rfl) hc
              clear hc
              go_wp2_with fail
              go_ret
              exact ⟨by rw [HO.out]; rfl, HWB.out⟩
            · have HO := Lib.hid (show rightM ⟨true, c, ls, ks⟩ = ((nl : Int) == 0) by
                rw [HR8.out, if_pos rfl, decide_eq_true hk0, decide_eq_true hc, Bool.and_self, Bool.true_and]
                by_cases h : nl = 0
                · rw [decide_eq_true h, h]; rfl
                · rw [decide_eq_false h]; symm; rw [beq_eq_false_iff_ne]; omega)
              have q : (c.toList == []) = true := by rw [bytes_nil c hc, beq_iff_eq, Lib.toList_data]
              clear hc
              go_wp2_with fail
              go_ret
              exact ⟨by rw [HO.out]; rfl, HWB.out⟩
          | false =>
            have D := Lib.hid (IS.out c wr)
            obtain ⟨q, hq⟩ : ∃ q, isD c = q := ⟨_, rfl⟩
            have HR9 := Lib.hid (show rightM ⟨false, c, ls, ks⟩ = (q && decide (nk = 0)) by rw [HR8.out, if_neg (by decide), hq])
            rw [hq] at D
            clear hq
            go_wp2_with fail
            refine D.out.mono ?_
            rintro e w2 ⟨rfl, hb2⟩
            have HB2 := Lib.hid (Below.then HWB.out hb2)
            obtain ⟨c0, c1, c2, c3⟩ := (HAW.out.keep hb2).cells
            clear hb2
            cases q with
            | false =>
              go_wp2_with fail
              go_ret
              exact ⟨by rw [HR9.out]; rfl, HB2.out⟩
            | true =>
              have HO := Lib.hid (show rightM ⟨false, c, ls, ks⟩ = ((nk : Int) == 0) by
                rw [HR9.out, Bool.true_and]
                by_cases h : nk = 0
                · rw [decide_eq_true h, h]; rfl
                · rw [decide_eq_false h]; symm; rw [beq_eq_false_iff_ne]; omega)
              go_wp2_with fail
              go_ret
              exact ⟨by rw [HO.out]; rfl, HB2.out⟩
end Go.Proofs.YtepcaglekgeamaaGreatDoor
