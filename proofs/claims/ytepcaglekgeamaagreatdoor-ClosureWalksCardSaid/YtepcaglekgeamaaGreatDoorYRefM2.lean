/-
  The document's own Text of a manifest that may be, by a contract. Conditions: the package-level variables as TLow says.
-/
import Derived.Test.YtepcaglekgeamaaGreatDoorYMan4
import Derived.Deep.RegionLaw
namespace Go.Proofs.YtepcaglekgeamaaGreatDoor
open Go.RowKit

theorem cat_toList (a b : ByteArray) : (a ++ b).data.toList = a.data.toList ++ b.data.toList := by rw [ByteArray.data_append, Array.toList_append]

theorem bytes_of {a : ByteArray} {l : List UInt8} (h : a.data.toList = l) : a = ⟨l.toArray⟩ := by
  subst h
  obtain ⟨d⟩ := a
  simp

theorem commaL_snoc : ∀ (l : List (List UInt8)) (x : List UInt8), commaL (l ++ [x]) = (if l = [] then [] else commaL l ++ [44]) ++ x
  | [], x => by simp [commaL]
  | [a], x => by simp [commaL]
  | a :: b :: l, x => by
    have := commaL_snoc (b :: l) x
    rw [if_neg (by simp)] at this
    rw [if_neg (by simp)]
    show a ++ 44 :: commaL (b :: l ++ [x]) = (a ++ 44 :: commaL (b :: l)) ++ [44] ++ x
    rw [this]
    simp

theorem comma_take {α : Type} (f : α → List UInt8) (l : List α) (k : Nat) (h : k < l.length) : commaL ((l.take (k + 1)).map f) = (if k = 0 then [] else commaL ((l.take k).map f) ++ [44]) ++ f l[k] := by
  rw [List.take_succ_eq_append_getElem h, List.map_append, List.map_singleton, commaL_snoc]
  congr 1
  by_cases hk : k = 0
  · subst hk; simp
  · rw [if_neg hk, if_neg]
    intro e
    have : ((l.take k).map f).length = 0 := by rw [e]; rfl
    rw [List.length_map, List.length_take] at this
    omega

set_option maxRecDepth 100000 in
set_option maxHeartbeats 8000000 in
theorem refText_idx (c : ByteArray) (ls : List (ByteArray × Int)) (ks : List ByteArray) (v : Value) (w : World) (hv : ManAt w v ⟨true, c, ls, ks⟩) (hr : rightM ⟨true, c, ls, ks⟩ = true) :
    Calls Tryz.prog 39 #[v] w fun e w' => e = .returned (.string ⟨(textM ⟨true, c, ls, ks⟩).toArray⟩) ∧ Below w.heap.size w w' := by
  obtain ⟨-, -, h1, h8, hap⟩ := (rightM_index rfl).1 hr
  simp only at h1 h8 hap
  have hz : ∀ x ∈ ks, x.size = 71 := fun x hx => isD_size (apartL_isD _ _ hap x hx)
  obtain ⟨⟨lv, kv, rfl, hl, hk⟩, -, -, -⟩ := hv
  simp only at hl hk
  obtain ⟨la, lc, rfl, -, -⟩ := hl.shape
  rcases hk with ⟨h0, -⟩ | ⟨b, o, kc, rfl, -, -, -, h5⟩
  · rw [h0] at h1; simp at h1
  obtain ⟨nl, hnl⟩ : ∃ n, (ls.map layerCell).length = n := ⟨_, rfl⟩
  obtain ⟨nk, hnk⟩ : ∃ n, ks.length = n := ⟨_, rfl⟩
  rw [hnl]
  rw [hnk] at h1 h8 ⊢
  have HA := Lib.hid (At4.new w (.bool true) (.string c) (.slice la nl lc) (.slice (some ⟨b, o, none⟩) nk kc))
  have HB := Lib.hid (below_new w (.cells #[.bool true, .string c, .slice la nl lc, .slice (some ⟨b, o, none⟩) nk kc] 53))
  have HNK := Lib.hid hnk
  have H5 := Lib.hid h5
  have HZ := Lib.hid hz
  have HO := Lib.hid (show ∀ x : ByteArray, x.data.toList = commaL (ks.map quoted) → (⟨#[123, 34, 107, 105, 100, 115, 34, 58, 91]⟩ : ByteArray) ++ x ++ ⟨#[93, 44, 34, 107, 105, 110, 100, 34, 58, 34, 105, 110, 100, 101, 120, 34, 125]⟩ = ⟨(textM ⟨true, c, ls, ks⟩).toArray⟩ from fun x hx => bytes_of (by
    rw [cat_toList, cat_toList, hx]; unfold textM; rw [if_pos rfl]))
  obtain ⟨W, hW⟩ : ∃ W, w.alloc (.cells #[.bool true, .string c, .slice la nl lc, .slice (some ⟨b, o, none⟩) nk kc] 53) = W := ⟨_, rfl⟩
  have HW := Lib.hid hW
  rw [hW] at HA HB
  obtain ⟨a0, a1, a2, a3⟩ := HA.out.cells
  have HBW := Lib.hid HB.out
  clear hW hl h5 hz hap hnk hnl hr
  go_enter Tryz.func39, Tryz.ntmps39
  go_upto_region 1 with fail
  rw [HW.out]
  go_wp2_with fail
  go_loop [3, 13] (fun ov iv => ∃ (k : Nat) (x : ByteArray), k ≤ nk ∧ iv = .int .i64 k ∧ ov = .string x ∧ x.data.toList = commaL ((ks.take k).map quoted)) (fun _ i => nk - (intOf i).toNat)
  case atStart => exact ⟨0, ⟨#[]⟩, Nat.zero_le _, rfl, rfl, rfl⟩
  case round =>
    obtain ⟨k, x, hk, rfl, rfl, hx⟩ := hrel
    have HX := Lib.hid hx
    have hxz : x.size ≤ 100000 := by
      rw [Lib.size_eq, hx]
      have := commaL_le 73 ((ks.take k).map quoted) fun y hy => by
        obtain ⟨z, hz, rfl⟩ := List.mem_map.1 hy
        rw [quoted_length, HZ.out z (List.mem_of_mem_take hz)]
        decide
      rw [List.length_map, List.length_take] at this
      have hmin : min k ks.length ≤ 8 := by have := HNK.out; omega
      have := Nat.mul_le_mul_right (73 + 1) hmin
      omega
    clear hx
    by_cases hlt : k < nk
    · have hkl : k < ks.length := by rw [HNK.out]; exact hlt
      have e0 := H5.out k hkl
      have hyz := HZ.out _ (List.getElem_mem hkl)
      have HT := Lib.hid (comma_take quoted ks k hkl)
      obtain ⟨y, hy⟩ : ∃ y, ks[k] = y := ⟨_, rfl⟩
      rw [hy] at e0 hyz HT
      have v0 : W.cell? ⟨b, o + k, none⟩ = some (.string y) := (HBW.out.cell (World.block_lt_of_cell? _ _ e0)).trans e0
      clear e0 hy
      by_cases hk0 : k = 0
      · subst hk0
        have u0 : W.cell? ⟨b, o, none⟩ = some (.string y) := by simpa using v0
        have HN := Lib.hid (show (x ++ ⟨#[34]⟩ ++ y ++ ⟨#[34]⟩ : ByteArray).data.toList = commaL ((ks.take (0 + 1)).map quoted) by
          rw [HT.out, cat_toList, cat_toList, cat_toList, HX.out]; simp [quoted, commaL])
        go_wp2_with fail
        go_round
        case rel => exact ⟨1, _, by omega, by go_num, rfl, HN.out⟩
        case measure => simp [intOf]; omega
      · have hk1 : 0 < k := by omega
        have HN := Lib.hid (show (x ++ ⟨#[44]⟩ ++ ⟨#[34]⟩ ++ y ++ ⟨#[34]⟩ : ByteArray).data.toList = commaL ((ks.take (k + 1)).map quoted) by
          rw [HT.out, cat_toList, cat_toList, cat_toList, cat_toList, HX.out, if_neg hk0]; simp [quoted])
        go_wp2_with fail
        go_round
        case rel => exact ⟨k + 1, _, by omega, by go_num, rfl, HN.out⟩
        case measure => simp [intOf]; omega
    · have HF := Lib.hid (HO.out x (by rw [HX.out, List.take_of_length_le (by rw [HNK.out]; omega)]))
      go_wp2_with fail
      go_ret
      exact ⟨by rw [← HF.out]; rfl, HBW.out⟩

set_option maxRecDepth 100000 in
set_option maxHeartbeats 8000000 in
theorem refText_img (c : ByteArray) (ls : List (ByteArray × Int)) (ks : List ByteArray) (v : Value) (w : World) (he : TLow w) (hv : ManAt w v ⟨false, c, ls, ks⟩) (hr : rightM ⟨false, c, ls, ks⟩ = true) :
    Calls Tryz.prog 39 #[v] w fun e w' => e = .returned (.string ⟨(textM ⟨false, c, ls, ks⟩).toArray⟩) ∧ Below w.heap.size w w' := by
  obtain ⟨hc, h8, hok, -⟩ := (rightM_image rfl).1 hr
  simp only at hc h8 hok
  have hcz : c.size = 71 := isD_size hc
  have hz : ∀ x ∈ ls, x.1.size = 71 ∧ 0 ≤ x.2 ∧ x.2 ≤ 4096 := fun x hx => by
    have := hok x hx
    unfold okLayer at this
    rw [Bool.and_eq_true, decide_eq_true_eq] at this
    exact ⟨isD_size this.1, this.2⟩
  have hlz : ∀ x ∈ ls, (layerText x).length ≤ 200 := fun x hx => by
    obtain ⟨h1, h2, h3⟩ := hz x hx
    have h4 := Lib.itoa_length_le x.2 (by omega) (by omega)
    unfold layerText
    simp only [List.length_append, List.length_cons, List.length_nil]
    rw [quoted_length, h1]
    omega
  obtain ⟨⟨lv, kv, rfl, hl, hk⟩, -, -, -⟩ := hv
  simp only at hl hk
  obtain ⟨ka, kc, rfl, -⟩ := hk.shape
  obtain ⟨la, lc, rfl, -, -⟩ := hl.shape
  obtain ⟨nl, hnl⟩ : ∃ n, ls.length = n := ⟨_, rfl⟩
  obtain ⟨nk, hnk⟩ : ∃ n, ks.length = n := ⟨_, rfl⟩
  rw [List.length_map] at hl ⊢
  rw [hnl] at h8 hl ⊢
  rw [hnk]
  have HNL := Lib.hid hnl
  have HZ := Lib.hid hz
  have HLZ := Lib.hid hlz
  have HLT := Lib.hid hl
  have HO := Lib.hid (show ∀ x : ByteArray, x.data.toList = commaL (ls.map layerText) → (⟨#[123, 34, 99, 111, 110, 102, 105, 103, 34, 58, 34]⟩ : ByteArray) ++ c ++ ⟨#[34, 44, 34, 107, 105, 110, 100, 34, 58, 34, 105, 109, 97, 103, 101, 34, 44, 34, 108, 97, 121, 101, 114, 115, 34, 58, 91]⟩ ++ x ++ ⟨#[93, 125]⟩ = ⟨(textM ⟨false, c, ls, ks⟩).toArray⟩ from fun x hx => bytes_of (by
    rw [cat_toList, cat_toList, cat_toList, cat_toList, hx]; unfold textM; rw [if_neg (by simp)]; simp [quoted]))
  obtain ⟨W, hW⟩ : ∃ W, w.alloc (.cells #[.bool false, .string c, .slice la nl lc, .slice ka nk kc] 53) = W := ⟨_, rfl⟩
  have hA : At4 W w.heap.size (.bool false) (.string c) (.slice la nl lc) (.slice ka nk kc) := by rw [← hW]; exact At4.new _ _ _ _ _
  have HA := Lib.hid hA
  have HB := Lib.hid (show Below w.heap.size w W by rw [← hW]; exact below_new _ _)
  have HW := Lib.hid hW
  have HE := Lib.hid he
  obtain ⟨a0, a1, a2, a3⟩ := hA.cells
  clear hW hl hk hz hlz hok hnk hnl hr hA hc he
  go_enter Tryz.func39, Tryz.ntmps39
  go_upto_region 1 with fail
  rw [HW.out]
  go_wp2_with fail
  go_loopw [3, 34] (fun ov iv wr => ∃ (k : Nat) (x : ByteArray), k ≤ nl ∧ iv = .int .i64 k ∧ ov = .string x ∧ x.data.toList = commaL ((ls.take k).map layerText) ∧ Below W.heap.size W wr) (fun _ i _ => nl - (intOf i).toNat)
  case atStart => exact ⟨0, ⟨#[]⟩, Nat.zero_le _, rfl, rfl, rfl, Below.refl _ _⟩
  case round =>
    obtain ⟨k, x, hk, rfl, rfl, hx, hb⟩ := hrel
    have HX := Lib.hid hx
    have HBR := Lib.hid hb
    have hxz : x.size ≤ 100000 := by
      rw [Lib.size_eq, hx]
      have := commaL_le 200 ((ls.take k).map layerText) fun y hy => by
        obtain ⟨z, hz, rfl⟩ := List.mem_map.1 hy
        exact HLZ.out z (List.mem_of_mem_take hz)
      rw [List.length_map, List.length_take] at this
      have hmin : min k ls.length ≤ 8 := by have := HNL.out; omega
      have := Nat.mul_le_mul_right (200 + 1) hmin
      omega
    clear hx hb
    by_cases hlt : k < nl
    · have hkl : k < ls.length := by rw [HNL.out]; exact hlt
      rcases HLT.out with ⟨h0, -⟩ | ⟨lb, lo, lc', he', -, -, -, h5⟩
      · exact absurd (List.map_eq_nil_iff.1 h0) (fun h => by rw [h] at hkl; simp at hkl)
      simp only [Value.slice.injEq] at he'
      obtain ⟨rfl, -, rfl⟩ := he'
      obtain ⟨e0, e1⟩ := h5 k (by rw [List.length_map]; exact hkl)
      rw [layer_getElem ls k hkl] at e0 e1
      obtain ⟨hyz, hn0, hn1⟩ := HZ.out _ (List.getElem_mem hkl)
      have HT := Lib.hid (comma_take layerText ls k hkl)
      obtain ⟨⟨y, n⟩, hy⟩ : ∃ y, ls[k] = y := ⟨_, rfl⟩
      rw [hy] at e0 e1 hyz hn0 hn1 HT
      simp only at hyz hn0 hn1
      have hwb : Below w.heap.size w wr := Below.then HB.out HBR.out
      have kc' : ∀ {p : Addr} {v : Value}, w.cell? p = some v → wr.cell? p = some v := fun h => hwb.cell (World.block_lt_of_cell? _ _ h) |>.trans h
      have v0 := kc' e0
      have v1 := kc' e1
      obtain ⟨W1, hW1⟩ : ∃ W1, wr.alloc (.cells #[.string y, .int .i64 n] 76) = W1 := ⟨_, rfl⟩
      have hb1 : Below wr.heap.size wr W1 := by rw [← hW1]; exact below_new _ _
      have hT : At2 76 W1 wr.heap.size (.string y) (.int .i64 n) := by rw [← hW1]; exact At2.new _ _ _ _
      have HT1 := Lib.hid hT
      have HB1 := Lib.hid (Below.then HBR.out hb1)
      have HW1 := Lib.hid hW1
      have hitl := Lib.itoa_length_le n (by omega) (by omega)
      obtain ⟨z, hzd⟩ : ∃ z : ByteArray, (⟨(Lib.itoa n).toArray⟩ : ByteArray) = z := ⟨_, rfl⟩
      have HZL := Lib.hid (show z.data.toList = Lib.itoa n by rw [← hzd])
      have hzz : z.size ≤ 100 := by rw [Lib.size_eq, HZL.out]; omega
      have CI := Lib.hid (show ∀ w3, Below W1.heap.size W1 w3 → Calls Tryz.prog 55 #[.int .i64 n] w3 fun e w4 => e = .returned (.string z) ∧ Below W1.heap.size W1 w4 ∧ w4.cell? ⟨wr.heap.size, 0, none⟩ = some (.string y) ∧ w4.cell? ⟨wr.heap.size, 1, none⟩ = some (.int .i64 n) from
        fun w3 h => (itoa_low n (by omega) (by omega) w3 (HE.out.below (Below.then HB.out (Below.then HB1.out h)))).mono fun e w4 h4 => ⟨by rw [h4.1, hzd], Below.then h h4.2, (HT1.out.keep (Below.then h h4.2)).cells⟩)
      obtain ⟨p0, p1⟩ := hT.cells
      have hyz' : y.size ≤ 71 := by omega
      have HYZ := Lib.hid hyz
      have hbr := Below.refl W1.heap.size W1
      clear hyz
      clear e0 e1 kc' hy hb1 hT hW1 hzd hwb h5 hitl a0 a1 a2 a3
      by_cases hk0 : k = 0
      · subst hk0
        have u0 : wr.cell? ⟨lb, lo, none⟩ = some (.string y) := by simpa using v0
        have u1 : wr.cell? ⟨lb, lo + 1, none⟩ = some (.int .i64 n) := by simpa using v1
        have HN := Lib.hid (show (x ++ ⟨#[123, 34, 100, 105, 103, 101, 115, 116, 34, 58, 34]⟩ ++ y ++ ⟨#[34, 44, 34, 115, 105, 122, 101, 34, 58]⟩ ++ z ++ ⟨#[125]⟩ : ByteArray).data.toList = commaL ((ls.take (0 + 1)).map layerText) by
          rw [HT.out, cat_toList, cat_toList, cat_toList, cat_toList, cat_toList, HX.out, HZL.out]; simp [layerText, quoted, commaL])
        have q0 : ¬ 9223372036854775807 < x.size + 11 := by omega
        have q1 : ¬ 9223372036854775807 < x.size + 11 + y.size := by omega
        have q2 : ¬ 9223372036854775807 < x.size + 11 + y.size + 9 := by omega
        have q3 : ¬ 9223372036854775807 < x.size + 11 + y.size + 9 + z.size := by omega
        have q4 : ¬ 9223372036854775807 < x.size + 11 + y.size + 9 + z.size + 1 := by omega
        go_upto_region 14 with fail
        rw [HW1.out]
        go_wp2_with fail
        go_region_law (first | (go_simp; go_at_call 55; refine (CI.out _ (by first | exact hbr | exact hbr.drew)).mono ?_; rintro e w4 ⟨rfl, hbr, p0, p1⟩))
        all_goals
          have HBN := Lib.hid (Below.then HB1.out hbr)
          go_wp2_with fail
          go_roundw
          case rel => exact ⟨1, _, by omega, by go_num, rfl, HN.out, HBN.out⟩
          case measure => simp [intOf]; omega
      · have hk1 : 0 < k := by omega
        have HN := Lib.hid (show (x ++ ⟨#[44]⟩ ++ ⟨#[123, 34, 100, 105, 103, 101, 115, 116, 34, 58, 34]⟩ ++ y ++ ⟨#[34, 44, 34, 115, 105, 122, 101, 34, 58]⟩ ++ z ++ ⟨#[125]⟩ : ByteArray).data.toList = commaL ((ls.take (k + 1)).map layerText) by
          rw [HT.out, cat_toList, cat_toList, cat_toList, cat_toList, cat_toList, cat_toList, HX.out, HZL.out, if_neg hk0]; simp [layerText, quoted])
        have q0 : ¬ 9223372036854775807 < x.size + 1 + 11 := by omega
        have q1 : ¬ 9223372036854775807 < x.size + 1 + 11 + y.size := by omega
        have q2 : ¬ 9223372036854775807 < x.size + 1 + 11 + y.size + 9 := by omega
        have q3 : ¬ 9223372036854775807 < x.size + 1 + 11 + y.size + 9 + z.size := by omega
        have q4 : ¬ 9223372036854775807 < x.size + 1 + 11 + y.size + 9 + z.size + 1 := by omega
        go_upto_region 14 with fail
        rw [HW1.out]
        go_wp2_with fail
        go_region_law (first | (go_simp; go_at_call 55; refine (CI.out _ (by first | exact hbr | exact hbr.drew)).mono ?_; rintro e w4 ⟨rfl, hbr, p0, p1⟩))
        all_goals
          have HBN := Lib.hid (Below.then HB1.out hbr)
          go_wp2_with fail
          go_roundw
          case rel => exact ⟨k + 1, _, by omega, by go_num, rfl, HN.out, HBN.out⟩
          case measure => simp [intOf]; omega
    · have HF := Lib.hid (HO.out x (by rw [HX.out, List.take_of_length_le (by rw [HNL.out]; omega)]))
      have HBF := Lib.hid (Below.then HB.out HBR.out)
      obtain ⟨c0, c1, c2, c3⟩ := (HA.out.keep HBR.out).cells
      go_wp2_with fail
      go_ret
      exact ⟨by rw [← HF.out]; rfl, HBF.out⟩

theorem refText_t (m : Man) (v : Value) (w : World) (he : TLow w) (hv : ManAt w v m) (hr : rightM m = true) :
    Calls Tryz.prog 39 #[v] w fun e w' => e = .returned (.string ⟨(textM m).toArray⟩) ∧ Below w.heap.size w w' := by
  obtain ⟨i, c, ls, ks⟩ := m
  cases i with
  | true => exact refText_idx c ls ks v w hv hr
  | false => exact refText_img c ls ks v w he hv hr
end Go.Proofs.YtepcaglekgeamaaGreatDoor
