/-
  The program's allFit and Right of a disk, by contracts. Conditions: none but how long a slice and a string may be.
-/
import Derived.Test.YtcjngaapiomkbaaPrgDskA
namespace Go.Proofs.Ytcjngaapiomkbaa
open Go.RowKit

theorem okWrite_eq (n : Nat) (ax : Int) (x : ByteArray) : okWrite n (ax, x) = (placeB n ax && (x.size == 128)) := rfl
set_option maxRecDepth 100000 in
set_option maxHeartbeats 2000000 in
theorem allFit_t (v lv : Value) (d : Dsk) (ls : List (Int × ByteArray)) (w : World) (h : DskAt w v d) (hl : PairsAt w lv (ls.map writeCell)) :
    Calls Try.prog 26 #[v, lv] w fun e w' => e = .returned (.bool (wellB d.secs.length ls)) ∧ Below w.heap.size w w' := by
  obtain ⟨ss, ds⟩ := d
  obtain ⟨⟨sv, dv, rfl, hs, hd⟩, -, -⟩ := h
  simp only at hs hd ⊢
  obtain ⟨sa, sc, rfl, -, hsl⟩ := hs.shape
  obtain ⟨da, dc, rfl, -, -⟩ := hd.shape
  obtain ⟨la, lc, rfl, -, hll⟩ := hl.shape
  unfold maxLen at hsl hll
  rw [List.length_map] at hll hl ⊢
  rw [List.length_map]
  obtain ⟨nd, hnd⟩ : ∃ n, ds.length = n := ⟨_, rfl⟩
  obtain ⟨n, hn⟩ : ∃ n, ss.length = n := ⟨_, rfl⟩
  rw [hnd, hn]
  rw [hn] at hsl
  have P := Lib.hid (fun (at' : Int) (w : World) => isPlace_t sa da n sc nd dc at' w)
  obtain ⟨W, hW⟩ : ∃ W, w.alloc (.cells #[.slice sa n sc, .slice da nd dc] 25) = W := ⟨_, rfl⟩
  have HB0 := Lib.hid (show Below w.heap.size w W by rw [← hW]; exact below_new _ _)
  have HA := Lib.hid (show At2 25 W w.heap.size (.slice sa n sc) (.slice da nd dc) by rw [← hW]; exact At2.new _ _ _ _)
  have HW := Lib.hid hW
  have HL := Lib.hid hl
  clear hW hl hs hd hn hnd
  go_enter Try.func26, Try.ntmps26
  go_upto_region 1 with fail
  rw [HW.out]
  go_wp2_with fail
  go_loopw [9] (fun iv wr => ∃ k : Nat, k ≤ ls.length ∧ iv = .int .i64 k ∧ (ls.take k).all (okWrite n) = true ∧ Below W.heap.size W wr) (fun i _ => ls.length - (intOf i).toNat)
  case atStart => exact ⟨0, Nat.zero_le _, rfl, by simp, Below.refl _ _⟩
  case round =>
    obtain ⟨k, hk, rfl, hall, hb⟩ := hrel
    have HT := Lib.hid hall
    have HB := Lib.hid hb
    have HWR := Lib.hid (Below.then HB0.out hb)
    clear hall hb
    by_cases hlt : k < ls.length
    · obtain ⟨b, o, rfl, e0, e1⟩ := HL.out.at k (by rw [List.length_map]; exact hlt)
      rw [write_getElem ls k hlt] at e0 e1
      have hts := Lib.hid (List.take_succ_eq_append_getElem hlt)
      have HM := Lib.hid (List.getElem_mem hlt)
      obtain ⟨⟨ax, x⟩, hx⟩ : ∃ x, ls[k] = x := ⟨_, rfl⟩
      rw [hx] at e0 e1 hts HM
      have kc : ∀ {p : Addr} {v : Value}, w.cell? p = some v → wr.cell? p = some v := fun h => HWR.out.cell (World.block_lt_of_cell? _ _ h) |>.trans h
      have v0 := kc e0
      have v1 := kc e1
      clear e0 e1 kc hx
      obtain ⟨W1, hW1⟩ : ∃ W1, wr.alloc (.cells #[.int .i64 ax, .string x] 45) = W1 := ⟨_, rfl⟩
      have hb1 : Below wr.heap.size wr W1 := by rw [← hW1]; exact below_new _ _
      have HX := Lib.hid (show At2 45 W1 wr.heap.size (.int .i64 ax) (.string x) by rw [← hW1]; exact At2.new _ _ _ _)
      have HB1 := Lib.hid (Below.then HB.out hb1)
      have HB1' := Lib.hid (Below.then HWR.out hb1)
      have HW1 := Lib.hid hW1
      obtain ⟨x0, x1⟩ := HX.out.cells
      obtain ⟨r0, r1⟩ := (HA.out.keep HB1.out).cells
      clear hb1 hW1
      go_upto_region 4 with fail
      rw [HW1.out]
      have P1 := Lib.hid (P.out ax W1)
      obtain ⟨p, hp⟩ : ∃ p, placeB n ax = p := ⟨_, rfl⟩
      rw [hp] at P1
      have HP := Lib.hid hp
      clear hp
      go_wp2_with fail
      refine P1.out.mono ?_
      rintro e w2 ⟨rfl, hb2⟩
      have HB2 := Lib.hid (Below.then HB1.out hb2)
      have HB2' := Lib.hid (Below.then HB1'.out hb2)
      obtain ⟨y0, y1⟩ := (HX.out.keep hb2).cells
      have S := Lib.hid (isSector_t x w2)
      obtain ⟨q, hq⟩ : ∃ q, (x.size == 128) = q := ⟨_, rfl⟩
      rw [hq] at S
      have HQ := Lib.hid hq
      clear hq hb2 x0 x1 r0 r1 v0 v1 P1
      cases p
      · have HO := Lib.hid (show ls.all (okWrite n) = false from List.all_eq_false.2 ⟨(ax, x), HM.out, by rw [okWrite_eq, HP.out]; simp⟩)
        go_wp2_with fail
        go_ret
        exact ⟨by rw [wellB_eq, HO.out]; rfl, HB2'.out⟩
      · go_wp2_with fail
        refine S.out.mono ?_
        rintro e w3 ⟨rfl, rfl⟩
        cases q
        · have HO := Lib.hid (show ls.all (okWrite n) = false from List.all_eq_false.2 ⟨(ax, x), HM.out, by rw [okWrite_eq, HP.out, HQ.out]; simp⟩)
          go_wp2_with fail
          go_ret
          exact ⟨by rw [wellB_eq, HO.out]; rfl, HB2'.out⟩
        · have HN := Lib.hid (show (ls.take (k + 1)).all (okWrite n) = true by
            rw [hts.out, List.all_append, HT.out, List.all_cons, List.all_nil, okWrite_eq, HP.out, HQ.out]; rfl)
          go_wp2_with fail
          go_roundw
          case rel => exact ⟨k + 1, by omega, by go_num, HN.out, HB2.out⟩
          case measure => simp [intOf]; omega
    · have HO := Lib.hid (show ls.all (okWrite n) = true by
        have := HT.out
        rwa [List.take_of_length_le (by omega)] at this)
      go_wp2_with fail
      go_ret
      exact ⟨by rw [wellB_eq, HO.out]; rfl, HWR.out⟩

set_option maxRecDepth 100000 in
set_option maxHeartbeats 4000000 in
/-- May a disk be. -/
theorem Right_t (v : Value) (d : Dsk) (w : World) (h : DskAt w v d) :
    Calls Try.prog 15 #[v] w fun e w' => e = .returned (.bool d.right) ∧ Below w.heap.size w w' := by
  have H0 := Lib.hid h
  obtain ⟨ss, ls⟩ := d
  obtain ⟨⟨sv, dv, rfl, hs, hd⟩, hz, hy⟩ := h
  simp only at hs hd hz hy
  obtain ⟨sa, sc, rfl, hsc, hsl⟩ := hs.shape
  obtain ⟨da, dc, rfl, -, hl⟩ := hd.shape
  unfold maxLen at hl hsl
  rw [List.length_map] at hl hd H0 ⊢
  obtain ⟨W, hW⟩ : ∃ W, w.alloc (.cells #[.slice sa ss.length sc, .slice da ls.length dc] 25) = W := ⟨_, rfl⟩
  have hb0 : Below w.heap.size w W := by rw [← hW]; exact below_new _ _
  have hA : At2 25 W w.heap.size (.slice sa ss.length sc) (.slice da ls.length dc) := by rw [← hW]; exact At2.new _ _ _ _
  obtain ⟨a0, a1⟩ := hA.cells
  have HB0 := Lib.hid hb0
  have HA := Lib.hid hA
  have HW := Lib.hid hW
  have HD := Lib.hid hd
  have HS := Lib.hid hs
  have HE := Lib.hid (show (Dsk.mk ss ls).right = (ss.all (fun s => s.size == 128) && decide (4 ≤ ss.length) && decide (ss.length ≤ 64) && decide (ls.length ≤ 200) && wellB ss.length ls) from rfl)
  have M := Lib.hid (mayHave_t (ss.length : Int) W)
  have F := Lib.hid (allFit_t (.agg #[.slice sa ss.length sc, .slice da ls.length dc]) (.slice da ls.length dc) ⟨ss, ls⟩ ls W (H0.out.keep hb0) (hd.keep hb0))
  obtain ⟨ns, hns⟩ : ∃ n, ss.length = n := ⟨_, rfl⟩
  obtain ⟨nl, hnl⟩ : ∃ n, ls.length = n := ⟨_, rfl⟩
  simp only at F
  rw [hns] at a0 HA HW HE M F hsl HS H0 ⊢
  rw [hnl] at a1 HA HW HE F hl HD H0 ⊢
  have HNS := Lib.hid hns
  have HNL := Lib.hid hnl
  clear hb0 hA hW hs hd hz hy H0 hns hnl
  obtain ⟨mb, hm⟩ : ∃ m, haveB (ns : Int) = m := ⟨_, rfl⟩
  rw [hm] at M
  have HM := Lib.hid hm
  clear hm
  go_enter Try.func15, Try.ntmps15
  go_upto_region 1 with fail
  rw [HW.out]
  go_wp2_with fail
  refine M.out.mono ?_
  rintro e w1 ⟨rfl, rfl⟩
  cases mb
  · have HF := Lib.hid (show (Dsk.mk ss ls).right = false by
      have := HM.out
      rw [HE.out]
      simp only [haveB, Bool.and_eq_false_iff, decide_eq_false_iff_not] at this
      simp only [Bool.and_eq_false_iff, decide_eq_false_iff_not]
      omega)
    go_wp2_with fail
    go_ret
    exact ⟨by rw [HF.out]; rfl, HB0.out⟩
  have HME := Lib.hid (show decide (4 ≤ ns) = true ∧ decide (ns ≤ 64) = true by
    have := HM.out
    simp only [haveB, Bool.and_eq_true, decide_eq_true_eq] at this
    exact ⟨decide_eq_true (by omega), decide_eq_true (by omega)⟩)
  by_cases h200 : nl ≤ 200
  rotate_left
  · have HF := Lib.hid (show (Dsk.mk ss ls).right = false by rw [HE.out, decide_eq_false h200]; simp)
    go_wp2_with fail
    go_ret
    exact ⟨by rw [HF.out]; rfl, HB0.out⟩
  go_wp2_with fail
  go_loopw [19] (fun iv wr => ∃ k : Nat, k ≤ ns ∧ iv = .int .i64 k ∧ (ss.take k).all (fun s => s.size == 128) = true ∧ w1 = wr) (fun i _ => ns - (intOf i).toNat)
  case atStart => exact ⟨0, Nat.zero_le _, rfl, by simp, rfl⟩
  case round =>
    obtain ⟨k, hk, rfl, hall, rfl⟩ := hrel
    have HL := Lib.hid hall
    clear hall
    by_cases hlt : k < ns
    · have hlt' : k < ss.length := by rw [HNS.out]; exact hlt
      obtain ⟨b, o, rfl, e0⟩ := HS.out.at k hlt'
      have hts := Lib.hid (List.take_succ_eq_append_getElem hlt')
      have HM := Lib.hid (List.getElem_mem hlt')
      obtain ⟨x, hx⟩ : ∃ x, ss[k] = x := ⟨_, rfl⟩
      rw [hx] at e0 hts HM
      have v0 := (HB0.out.cell (World.block_lt_of_cell? _ _ e0)).trans e0
      clear e0 hx
      have S := Lib.hid (isSector_t x w1)
      obtain ⟨q, hq⟩ : ∃ q, (x.size == 128) = q := ⟨_, rfl⟩
      rw [hq] at S
      have HQ := Lib.hid hq
      clear hq
      go_wp2_with fail
      refine S.out.mono ?_
      rintro e w3 ⟨rfl, rfl⟩
      cases q
      · have HO := Lib.hid (show ss.all (fun s => s.size == 128) = false from List.all_eq_false.2 ⟨x, HM.out, by rw [HQ.out]; simp⟩)
        go_wp2_with fail
        go_ret
        exact ⟨by rw [HE.out, HO.out]; rfl, HB0.out⟩
      · have HN := Lib.hid (show (ss.take (k + 1)).all (fun s => s.size == 128) = true by
          rw [hts.out, List.all_append, HL.out, List.all_cons, List.all_nil, HQ.out]; rfl)
        go_wp2_with fail
        go_roundw
        case rel => exact ⟨k + 1, by omega, by go_num, HN.out, trivial⟩
        case measure => simp [intOf]; omega
    · have HO := Lib.hid (show ss.all (fun s => s.size == 128) = true by
        have := HL.out
        rwa [List.take_of_length_le (by rw [HNS.out]; omega)] at this)
      have HF := Lib.hid (show (Dsk.mk ss ls).right = wellB ns ls by rw [HE.out, HO.out, HME.out.1, HME.out.2, decide_eq_true h200]; rfl)
      go_wp2_with fail
      refine F.out.mono ?_
      rintro e w2 ⟨rfl, hb⟩
      have HB := Lib.hid (Below.then HB0.out hb)
      clear hb
      go_wp2_with fail
      go_ret
      exact ⟨by rw [HF.out]; rfl, HB.out⟩
end Go.Proofs.Ytcjngaapiomkbaa
