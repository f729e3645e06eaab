/-
  The program's and the document's Blobs of a manifest; two rows of words held against each other: by contracts. Conditions: the package-level variables as MLow says; words of fewer than 2^40 bytes, rows of at most 2^20.
-/
import Derived.Test.YtepcaglekgeamaaGreatDoorYManR
import Derived.Test.YtepcaglekgeamaaGreatDoorYMan4
import Derived.Test.YtepcaglekgeamaaGreatDoorYRefM1
import Derived.Test.YtepcaglekgeamaaGreatDoorYRefM3
namespace Go.Proofs.YtepcaglekgeamaaGreatDoor
open Go.RowKit Go.WideShapes

theorem onceL_snoc : ∀ (p l : List ByteArray) (x : ByteArray), onceL p (l ++ [x]) = if x ∈ onceL p l then onceL p l else onceL p l ++ [x]
  | p, [], x => by rw [List.nil_append, onceL, onceL, onceL]
  | p, a :: l, x => by rw [List.cons_append, onceL, onceL_snoc, onceL]

set_option maxRecDepth 100000 in
set_option maxHeartbeats 4000000 in
theorem same01_t (va vb : Value) (a b : List ByteArray) (w : World) (ha : StrsAt w va a) (hb : StrsAt w vb b) :
    Calls Tryz.prog 10 #[va, vb] w fun e w' => e = .returned (.bool (decide (a = b))) ∧ Below w.heap.size w w' := by
  have hal := ha.len
  have hbl := hb.len
  obtain ⟨aa, ac, rfl, -⟩ := ha.shape
  obtain ⟨ba, bc, rfl, -⟩ := hb.shape
  unfold maxLen at hal hbl
  have HA := Lib.hid ha
  have HB := Lib.hid hb
  obtain ⟨na, hna⟩ : ∃ n, a.length = n := ⟨_, rfl⟩
  obtain ⟨nb, hnb⟩ : ∃ n, b.length = n := ⟨_, rfl⟩
  rw [hna, hnb]
  rw [hna] at hal
  rw [hnb] at hbl
  have HNA := Lib.hid hna
  have HNB := Lib.hid hnb
  clear ha hb hna hnb
  by_cases hn : na = nb
  rotate_left
  · have HO := Lib.hid (show decide (a = b) = false from decide_eq_false fun e => hn (by rw [← HNA.out, ← HNB.out, e]))
    have q : ((na : Int) != (nb : Int)) = true := bne_iff_ne.2 (by omega)
    clear hn
    go_enter Tryz.func10, Tryz.ntmps10
    go_wp2_with fail
    go_ret
    exact ⟨by rw [HO.out]; rfl, Below.refl _ _⟩
  subst hn
  have q0 : ((na : Int) != (na : Int)) = false := by rw [bne_self_eq_false]
  go_enter Tryz.func10, Tryz.ntmps10
  go_wp2_with fail
  go_loopw [13] (fun iv wr => ∃ k : Nat, k ≤ na ∧ iv = .int .i64 k ∧ a.take k = b.take k ∧ Below w.heap.size w wr) (fun i _ => na - (intOf i).toNat)
  case atStart => exact ⟨0, Nat.zero_le _, rfl, rfl, Below.refl _ _⟩
  case round =>
    obtain ⟨k, hk, rfl, htk, hb⟩ := hrel
    have HT := Lib.hid htk
    have HWR := Lib.hid hb
    clear htk hb
    by_cases hlt : k < na
    · have h1 : k < a.length := by rw [HNA.out]; exact hlt
      have h2 : k < b.length := by rw [HNB.out]; exact hlt
      obtain ⟨lb, lo, rfl, e0⟩ := HA.out.at k h1
      obtain ⟨lb', lo', rfl, g0⟩ := HB.out.at k h2
      have hts := Lib.hid (List.take_succ_eq_append_getElem h1)
      have hts' := Lib.hid (List.take_succ_eq_append_getElem h2)
      have HD := Lib.hid (show a[k] ≠ b[k] → a ≠ b from fun h e => h (by simp only [e]))
      obtain ⟨x, hx⟩ : ∃ x, a[k] = x := ⟨_, rfl⟩
      obtain ⟨y, hy⟩ : ∃ x, b[k] = x := ⟨_, rfl⟩
      rw [hx] at e0 hts HD
      rw [hy] at g0 hts' HD
      have v0 := (HWR.out.cell (World.block_lt_of_cell? _ _ e0)).trans e0
      have u0 := (HWR.out.cell (World.block_lt_of_cell? _ _ g0)).trans g0
      clear e0 g0 hx hy
      by_cases hxy : x = y
      · subst hxy
        have s1 : (x.toList == x.toList) = true := by simp
        have HS := Lib.hid (show a.take (k + 1) = b.take (k + 1) by rw [hts.out, hts'.out, HT.out])
        go_wp2_with fail
        go_quiet (fail)
        go_wp2_with fail
        go_roundw
        case rel => exact ⟨k + 1, by omega, by go_num, HS.out, below_drewN HWR.out _⟩
        case measure => simp [intOf]; omega
      · have s1 : (x.toList == y.toList) = false := by rw [beqB]; exact decide_eq_false hxy
        have HO := Lib.hid (show decide (a = b) = false from decide_eq_false (HD.out hxy))
        clear hxy
        go_wp2_with fail
        go_quiet (fail)
        go_wp2_with fail
        go_ret
        exact ⟨by rw [HO.out]; rfl, below_drewN HWR.out _⟩
    · have HO := Lib.hid (show decide (a = b) = true from decide_eq_true (by
        have := HT.out
        rwa [List.take_of_length_le (by rw [HNA.out]; omega), List.take_of_length_le (by rw [HNB.out]; omega)] at this))
      go_wp2_with fail
      go_ret
      exact ⟨by rw [HO.out]; rfl, HWR.out⟩

def BlobsEnds (m : Man) (w : World) (e : Ending) (w' : World) : Prop :=
  ∃ v n, e = .returned v ∧ OwnS w' w.heap.size v n (blobsM m) ∧ Below w.heap.size w w'

theorem BlobsEnds.none {m : Man} {w w' : World} (h : blobsM m = []) (hb : Below w.heap.size w w') : BlobsEnds m w (.returned (.slice none 0 0)) w' := ⟨_, 0, rfl, by rw [h]; exact OwnS.nil _ _, hb⟩

set_option maxRecDepth 100000 in
set_option maxHeartbeats 4000000 in
theorem Blobs_t (m : Man) (v : Value) (w : World) (hv : ManAt w v m) (hf : m.Few) (he : MLow w) :
    Calls Tryz.prog 31 #[v] w (BlobsEnds m w) := by
  obtain ⟨⟨lv, kv, rfl, hl, hk⟩, hcz, hlz, -⟩ := id hv
  obtain ⟨la, lc, rfl, -, -⟩ := hl.shape
  obtain ⟨ka, kc, rfl, -⟩ := hk.shape
  rw [List.length_map] at hl hv ⊢
  obtain ⟨nl, hnl⟩ : ∃ n, m.layers.length = n := ⟨_, rfl⟩
  obtain ⟨nk, hnk⟩ : ∃ n, m.kids.length = n := ⟨_, rfl⟩
  obtain ⟨i, hi⟩ : ∃ n, m.index = n := ⟨_, rfl⟩
  obtain ⟨c, hc⟩ : ∃ n, m.config = n := ⟨_, rfl⟩
  have hnl2 : nl ≤ 1048576 := by rw [← hnl]; exact hf.layers
  rw [hnl, hnk, hi, hc] at hv ⊢
  rw [hnl] at hl
  obtain ⟨W, hW⟩ : ∃ W, w.alloc (.cells #[.bool i, .string c, .slice la nl lc, .slice ka nk kc] 53) = W := ⟨_, rfl⟩
  have hb0 : Below w.heap.size w W := by rw [← hW]; exact below_new _ _
  have hM : At4 W w.heap.size (.bool i) (.string c) (.slice la nl lc) (.slice ka nk kc) := by rw [← hW]; exact At4.new _ _ _ _ _
  have R := Lib.hid (Right_t m _ W (hv.keep hb0) hf.small (he.below hb0))
  obtain ⟨r, hr⟩ : ∃ r, rightM m = r := ⟨_, rfl⟩
  rw [hr] at R
  obtain ⟨p0, p1, p2, p3⟩ := hM.cells
  have HM := Lib.hid hM
  have HB0 := Lib.hid hb0
  have HW := Lib.hid hW
  have HL := Lib.hid hl
  have HNL := Lib.hid hnl
  have HN := Lib.hid (show i = true ∨ r = false → blobsM m = [] from fun h => by
    unfold blobsM
    rw [hi, hr, if_pos h])
  have HY := Lib.hid (show i = false → r = true → blobsM m = onceL [c] (m.layers.map Prod.fst) from fun h1 h2 => by
    unfold blobsM
    rw [hi, hr, hc, if_neg (by rw [h1, h2]; simp)])
  clear hM hb0 hW hv hf he hr hl hk hi hc hnl hnk hcz hlz
  cases i with
  | true =>
    have HO := Lib.hid (BlobsEnds.none (HN.out (by simp)) HB0.out)
    go_enter Tryz.func31, Tryz.ntmps31
    go_upto_region 1 with fail
    rw [HW.out]
    go_wp2_with fail
    go_ret
    exact HO.out
  | false =>
    go_enter Tryz.func31, Tryz.ntmps31
    go_upto_region 1 with fail
    rw [HW.out]
    go_wp2_with fail
    refine R.out.mono ?_
    rintro e w1 ⟨rfl, hb1⟩
    have HB1 := Lib.hid (Below.then HB0.out hb1)
    obtain ⟨q0, q1, q2, q3⟩ := (HM.out.keep hb1).cells
    clear p0 p1 p2 p3
    cases r with
    | false =>
      have HO := Lib.hid (BlobsEnds.none (HN.out (by simp)) HB1.out)
      clear hb1
      go_wp2_with fail
      go_ret
      exact HO.out
    | true =>
      have HO := Lib.hid (HY.out (by trivial) (by trivial))
      obtain ⟨W2, hW2⟩ : ∃ W2, w1.alloc (.cells #[.string c] 9) = W2 := ⟨_, rfl⟩
      have hb2 : Below w1.heap.size w1 W2 := by rw [← hW2]; exact below_new _ _
      have HB2 := Lib.hid (Below.then HB1.out hb2)
      obtain ⟨s0, s1, s2, s3⟩ := ((HM.out.keep hb1).keep hb2).cells
      have HW2 := Lib.hid hW2
      have HS0 := Lib.hid (show OwnS W2 w.heap.size (.slice (some ⟨w1.heap.size, 0, none⟩) 1 1) 1 [c] from OwnS.lit [c] 1 #[.string c] rfl (by rw [← hW2]; exact heap_alloc_new w1 _) rfl HB1.out.size (by decide))
      clear hb1 hb2 hW2
      go_upto_region 4 with fail
      rw [HW2.out]
      clear q0 q1 q2 q3
      go_wp2_with fail
      go_loopw [3, 19] (fun bv iv wr => ∃ (k n : Nat) (a : Option Addr) (cap : Nat), k ≤ nl ∧ n ≤ k + 1 ∧ iv = .int .i64 k ∧ bv = .slice a n cap ∧ OwnS wr w.heap.size (.slice a n cap) n (onceL [c] ((m.layers.take k).map Prod.fst)) ∧ Below w.heap.size w wr) (fun _ i _ => nl - (intOf i).toNat)
      case atStart => exact ⟨0, 1, _, _, Nat.zero_le _, Nat.le_refl _, rfl, rfl, HS0.out, HB2.out⟩
      case round =>
        obtain ⟨k, n, a, cap, hk, hn, rfl, rfl, ho, hb⟩ := hrel
        have HWR := Lib.hid hb
        by_cases hlt : k < nl
        · have h1 : k < m.layers.length := by rw [HNL.out]; exact hlt
          obtain ⟨lb, lo, rfl, e0, e1⟩ := HL.out.at k (by rw [List.length_map]; exact h1)
          rw [layer_getElem m.layers k h1] at e0 e1
          have HT := Lib.hid (show onceL [c] ((m.layers.take (k + 1)).map Prod.fst) = _ by rw [List.take_succ_eq_append_getElem h1, List.map_append, List.map_singleton, onceL_snoc])
          obtain ⟨⟨x, y⟩, hx⟩ : ∃ x, m.layers[k] = x := ⟨_, rfl⟩
          rw [hx] at e0 e1 HT
          obtain ⟨L, hL⟩ : ∃ L, onceL [c] ((m.layers.take k).map Prod.fst) = L := ⟨_, rfl⟩
          rw [hL] at ho HT
          have v0 := (HWR.out.cell (World.block_lt_of_cell? _ _ e0)).trans e0
          have v1 := (HWR.out.cell (World.block_lt_of_cell? _ _ e1)).trans e1
          obtain ⟨W3, hW3⟩ : ∃ W3, wr.alloc (.cells #[.string x, .int .i64 y] 76) = W3 := ⟨_, rfl⟩
          have hb3 : Below wr.heap.size wr W3 := by rw [← hW3]; exact below_new _ _
          have hA3 : At2 76 W3 wr.heap.size (.string x) (.int .i64 y) := by rw [← hW3]; exact At2.new _ _ _ _
          have ho3 := ho.keep hb3
          have C := Lib.hid (contains_t _ L x W3 ho3.strs)
          have HO3 := Lib.hid ho3
          have HB3 := Lib.hid (Below.then hb hb3)
          have HW3 := Lib.hid hW3
          obtain ⟨a0, a1⟩ := hA3.cells
          have hsz3 : w.heap.size ≤ W3.heap.size := HB3.out.size
          clear hb hb3 hW3 ho hx hL e0 e1 hA3 ho3 s0 s1 s2 s3
          by_cases hm : x ∈ L
          · rw [decide_eq_true hm] at C
            have HF := Lib.hid (show OwnS W3 w.heap.size (.slice a n cap) n (onceL [c] ((m.layers.take (k + 1)).map Prod.fst)) by rw [HT.out, if_pos hm]; exact HO3.out)
            clear hm
            rcases Nat.eq_zero_or_pos k with rfl | hk0
            · have v0' : wr.cell? ⟨lb, lo, none⟩ = some (.string x) := by simpa using v0
              have v1' : wr.cell? ⟨lb, lo + 1, none⟩ = some (.int .i64 y) := by simpa using v1
              go_upto_region 7 with fail
              rw [HW3.out]
              go_wp2_with fail
              refine C.out.mono ?_
              rintro e w' ⟨rfl, rfl⟩
              go_wp2_with fail
              go_roundw
              case rel => exact ⟨1, n, a, cap, by omega, by omega, by go_num, rfl, HF.out, HB3.out⟩
              case measure => simp [intOf]; omega
            · go_upto_region 7 with fail
              rw [HW3.out]
              go_wp2_with fail
              refine C.out.mono ?_
              rintro e w' ⟨rfl, rfl⟩
              go_wp2_with fail
              go_roundw
              case rel => exact ⟨k + 1, n, a, cap, by omega, by omega, by go_num, rfl, HF.out, HB3.out⟩
              case measure => simp [intOf]; omega
          · rw [decide_eq_false hm] at C
            have HF := Lib.hid (show onceL [c] ((m.layers.take (k + 1)).map Prod.fst) = L ++ [x] by rw [HT.out, if_neg hm])
            have HO4 := Lib.hid (HO3.out.keep (below_new W3 (.cells #[.string x] 9)))
            have HB4 := Lib.hid (Below.then HB3.out (below_new W3 (.cells #[.string x] 9)))
            clear hm
            rcases Nat.eq_zero_or_pos k with rfl | hk0
            · have v0' : wr.cell? ⟨lb, lo, none⟩ = some (.string x) := by simpa using v0
              have v1' : wr.cell? ⟨lb, lo + 1, none⟩ = some (.int .i64 y) := by simpa using v1
              go_upto_region 7 with fail
              rw [HW3.out]
              go_wp2_with fail
              refine C.out.mono ?_
              rintro e w' ⟨rfl, rfl⟩
              go_wp2_with (at_builtin; refine wpList_push _ rfl _ _ rfl w.heap.size _ n L rfl HO4.out x w'.heap.size rfl (heap_alloc_new w' _) (by omega) (by simp; omega) _ rfl ?_)
              intro g cap' w5 ho5 hg5 _ _
              have HB5 := Lib.hid (HB4.out.trans (below_push HO4.out hg5 (Nat.le_refl _) (by simp; omega)))
              have HO5 := Lib.hid ho5
              clear ho5 hg5
              go_wp2_with fail
              go_roundw
              case rel => exact ⟨1, n + 1, _, _, by omega, by omega, by go_num, rfl, by rw [HF.out]; exact HO5.out, HB5.out⟩
              case measure => simp [intOf]; omega
            · go_upto_region 7 with fail
              rw [HW3.out]
              go_wp2_with fail
              refine C.out.mono ?_
              rintro e w' ⟨rfl, rfl⟩
              go_wp2_with (at_builtin; refine wpList_push _ rfl _ _ rfl w.heap.size _ n L rfl HO4.out x w'.heap.size rfl (heap_alloc_new w' _) (by omega) (by simp; omega) _ rfl ?_)
              intro g cap' w5 ho5 hg5 _ _
              have HB5 := Lib.hid (HB4.out.trans (below_push HO4.out hg5 (Nat.le_refl _) (by simp; omega)))
              have HO5 := Lib.hid ho5
              clear ho5 hg5
              go_wp2_with fail
              go_roundw
              case rel => exact ⟨k + 1, n + 1, _, _, by omega, by omega, by go_num, rfl, by rw [HF.out]; exact HO5.out, HB5.out⟩
              case measure => simp [intOf]; omega
        · have HF := Lib.hid (show BlobsEnds m w (.returned (.slice a n cap)) wr from ⟨_, n, rfl, by
            rw [HO.out]
            rw [List.take_of_length_le (by rw [HNL.out]; omega)] at ho
            exact ho, hb⟩)
          clear ho hb
          go_wp2_with fail
          go_ret
          exact HF.out

set_option maxRecDepth 100000 in
set_option maxHeartbeats 4000000 in
theorem refBlobs_t (m : Man) (v : Value) (w : World) (hv : ManAt w v m) (hf : m.Few) :
    Calls Tryz.prog 22 #[v] w (BlobsEnds m w) := by
  obtain ⟨⟨lv, kv, rfl, hl, hk⟩, hcz, hlz, -⟩ := id hv
  obtain ⟨la, lc, rfl, -, -⟩ := hl.shape
  obtain ⟨ka, kc, rfl, -⟩ := hk.shape
  rw [List.length_map] at hl hv ⊢
  obtain ⟨nl, hnl⟩ : ∃ n, m.layers.length = n := ⟨_, rfl⟩
  obtain ⟨nk, hnk⟩ : ∃ n, m.kids.length = n := ⟨_, rfl⟩
  obtain ⟨i, hi⟩ : ∃ n, m.index = n := ⟨_, rfl⟩
  obtain ⟨c, hc⟩ : ∃ n, m.config = n := ⟨_, rfl⟩
  have hnl2 : nl ≤ 1048576 := by rw [← hnl]; exact hf.layers
  rw [hnl, hnk, hi, hc] at hv ⊢
  rw [hnl] at hl
  obtain ⟨W0, hW0⟩ : ∃ W0, w.alloc (.cells #[.bool i, .string c, .slice la nl lc, .slice ka nk kc] 53) = W0 := ⟨_, rfl⟩
  obtain ⟨W, hW⟩ : ∃ W, W0.alloc (.cells #[] 9) = W := ⟨_, rfl⟩
  have hb00 : Below w.heap.size w W0 := by rw [← hW0]; exact below_new _ _
  have hb0 : Below w.heap.size w W := Below.then hb00 (by rw [← hW]; exact below_new _ _)
  have hM : At4 W w.heap.size (.bool i) (.string c) (.slice la nl lc) (.slice ka nk kc) := by rw [← hW, ← hW0]; exact (At4.new _ _ _ _ _).keep (below_new _ _)
  have R := Lib.hid (refRight_t m _ W (hv.keep hb0))
  obtain ⟨r, hr⟩ : ∃ r, rightM m = r := ⟨_, rfl⟩
  rw [hr] at R
  obtain ⟨p0, p1, p2, p3⟩ := hM.cells
  have HM := Lib.hid hM
  have HB0 := Lib.hid hb0
  have HW0 := Lib.hid hW0
  have HW := Lib.hid hW
  have HL := Lib.hid hl
  have HNL := Lib.hid hnl
  have HE := Lib.hid (show OwnS W w.heap.size (.slice (some ⟨W0.heap.size, 0, none⟩) 0 0) 0 [] from OwnS.lit [] 0 #[] rfl (by rw [← hW]; exact heap_alloc_new W0 _) rfl hb00.size (by decide))
  have HN := Lib.hid (show i = true ∨ r = false → blobsM m = [] from fun h => by
    unfold blobsM
    rw [hi, hr, if_pos h])
  have HY := Lib.hid (show i = false → r = true → blobsM m = onceL [c] (m.layers.map Prod.fst) from fun h1 h2 => by
    unfold blobsM
    rw [hi, hr, hc, if_neg (by rw [h1, h2]; simp)])
  have HNO := Lib.hid (show blobsM m = [] → ∀ w', Below W.heap.size W w' → BlobsEnds m w (.returned (.slice (some ⟨W0.heap.size, 0, none⟩) 0 0)) w' from fun h w' hb => ⟨_, 0, rfl, by rw [h]; exact HE.out.keep hb, Below.then HB0.out hb⟩)
  have hsz0 : w.heap.size + 1 ≤ W0.heap.size := by rw [← hW0, World.size_alloc]; exact Nat.le_refl _
  clear hM hb0 hb00 hW0 hW hv hf hr hl hk hi hc hnl hnk hcz hlz
  cases i with
  | true =>
    have HO := Lib.hid (HNO.out (HN.out (by simp)) W (Below.refl _ _))
    go_enter Tryz.func22, Tryz.ntmps22
    go_upto_region 1 with fail
    rw [HW0.out]
    go_upto_region 2 with fail
    rw [HW.out]
    go_wp2_with fail
    go_ret
    exact HO.out
  | false =>
    go_enter Tryz.func22, Tryz.ntmps22
    go_upto_region 1 with fail
    rw [HW0.out]
    go_upto_region 2 with fail
    rw [HW.out]
    go_wp2_with fail
    refine R.out.mono ?_
    rintro e w1 ⟨rfl, hb1⟩
    have HB1 := Lib.hid (Below.then HB0.out hb1)
    obtain ⟨q0, q1, q2, q3⟩ := (HM.out.keep hb1).cells
    clear p0 p1 p2 p3
    cases r with
    | false =>
      have HO := Lib.hid (HNO.out (HN.out (by simp)) w1 hb1)
      clear hb1
      go_wp2_with fail
      go_ret
      exact HO.out
    | true =>
      have HO := Lib.hid (HY.out (by trivial) (by trivial))
      obtain ⟨W1, hW1⟩ : ∃ W1, w1.alloc (.cells #[.string c] 9) = W1 := ⟨_, rfl⟩
      have hb2 : Below w1.heap.size w1 W1 := by rw [← hW1]; exact below_new _ _
      have HB2 := Lib.hid (Below.then HB1.out hb2)
      have HC1 := Lib.hid (show W1.heap[w1.heap.size]? = some (.cells #[.string c] 9 (0, 0)) by rw [← hW1]; exact heap_alloc_new w1 _)
      have HE1 := Lib.hid ((HE.out.keep hb1).keep hb2)
      have HA1 := Lib.hid ((HM.out.keep hb1).keep hb2)
      have HW1 := Lib.hid hW1
      have hsz1 : w.heap.size ≤ W1.heap.size := HB2.out.size
      clear hb1 hb2 hW1
      go_wp2_with (at_builtin; try rw [HW1.out]; refine wpList_push _ rfl _ _ rfl w.heap.size _ 0 [] rfl HE1.out c w1.heap.size rfl HC1.out (by decide) hsz1 _ rfl ?_)
      intro g cap' W2 ho2 hg2 _ _
      have HB2' := Lib.hid (HB2.out.trans (below_push HE1.out hg2 (Nat.le_refl _) hsz1))
      have HS0 := Lib.hid (show OwnS W2 w.heap.size (.slice (some ⟨g, 0, none⟩) 1 cap') 1 [c] from ho2)
      obtain ⟨s0, s1, s2, s3⟩ : W2.cell? ⟨w.heap.size, 0, none⟩ = some (.bool false) ∧ W2.cell? ⟨w.heap.size, 1, none⟩ = some (.string c) ∧ W2.cell? ⟨w.heap.size, 2, none⟩ = some (.slice la nl lc) ∧ W2.cell? ⟨w.heap.size, 3, none⟩ = some (.slice ka nk kc) := At4.cells ((hg2.block w.heap.size HA1.out.lt (by simp [Value.ownBlock]; omega)).trans HA1.out)
      clear ho2 hg2 q0 q1 q2 q3
      go_upto_region 6 with fail
      go_loopw [3, 23] (fun bv iv wr => ∃ (k n : Nat) (a : Option Addr) (cap : Nat), k ≤ nl ∧ n ≤ k + 1 ∧ iv = .int .i64 k ∧ bv = .slice a n cap ∧ OwnS wr w.heap.size (.slice a n cap) n (onceL [c] ((m.layers.take k).map Prod.fst)) ∧ Below w.heap.size w wr) (fun _ i _ => nl - (intOf i).toNat)
      case atStart => exact ⟨0, 1, _, _, Nat.zero_le _, Nat.le_refl _, rfl, rfl, HS0.out, HB2'.out⟩
      case round =>
        obtain ⟨k, n, a, cap, hk, hn, rfl, rfl, ho, hb⟩ := hrel
        have HWR := Lib.hid hb
        by_cases hlt : k < nl
        · have h1 : k < m.layers.length := by rw [HNL.out]; exact hlt
          obtain ⟨lb, lo, rfl, e0, e1⟩ := HL.out.at k (by rw [List.length_map]; exact h1)
          rw [layer_getElem m.layers k h1] at e0 e1
          have HT := Lib.hid (show onceL [c] ((m.layers.take (k + 1)).map Prod.fst) = _ by rw [List.take_succ_eq_append_getElem h1, List.map_append, List.map_singleton, onceL_snoc])
          obtain ⟨⟨x, y⟩, hx⟩ : ∃ x, m.layers[k] = x := ⟨_, rfl⟩
          rw [hx] at e0 e1 HT
          obtain ⟨L, hL⟩ : ∃ L, onceL [c] ((m.layers.take k).map Prod.fst) = L := ⟨_, rfl⟩
          rw [hL] at ho HT
          have v0 := (HWR.out.cell (World.block_lt_of_cell? _ _ e0)).trans e0
          have v1 := (HWR.out.cell (World.block_lt_of_cell? _ _ e1)).trans e1
          obtain ⟨W3, hW3⟩ : ∃ W3, wr.alloc (.cells #[.string x, .int .i64 y] 76) = W3 := ⟨_, rfl⟩
          have hb3 : Below wr.heap.size wr W3 := by rw [← hW3]; exact below_new _ _
          have hA3 : At2 76 W3 wr.heap.size (.string x) (.int .i64 y) := by rw [← hW3]; exact At2.new _ _ _ _
          have ho3 := ho.keep hb3
          have C := Lib.hid (has_t _ L x W3 ho3.strs)
          have HO3 := Lib.hid ho3
          have HB3 := Lib.hid (Below.then hb hb3)
          have HW3 := Lib.hid hW3
          obtain ⟨a0, a1⟩ := hA3.cells
          have hsz3 : w.heap.size ≤ W3.heap.size := HB3.out.size
          clear hb hb3 hW3 ho hx hL e0 e1 hA3 ho3 s0 s1 s2 s3
          by_cases hm : x ∈ L
          · rw [decide_eq_true hm] at C
            have HF := Lib.hid (show OwnS W3 w.heap.size (.slice a n cap) n (onceL [c] ((m.layers.take (k + 1)).map Prod.fst)) by rw [HT.out, if_pos hm]; exact HO3.out)
            clear hm
            rcases Nat.eq_zero_or_pos k with rfl | hk0
            · have v0' : wr.cell? ⟨lb, lo, none⟩ = some (.string x) := by simpa using v0
              have v1' : wr.cell? ⟨lb, lo + 1, none⟩ = some (.int .i64 y) := by simpa using v1
              go_upto_region 8 with fail
              rw [HW3.out]
              go_wp2_with fail
              refine C.out.mono ?_
              rintro e w' ⟨rfl, rfl⟩
              go_wp2_with fail
              go_roundw
              case rel => exact ⟨1, n, a, cap, by omega, by omega, by go_num, rfl, HF.out, HB3.out⟩
              case measure => simp [intOf]; omega
            · go_upto_region 8 with fail
              rw [HW3.out]
              go_wp2_with fail
              refine C.out.mono ?_
              rintro e w' ⟨rfl, rfl⟩
              go_wp2_with fail
              go_roundw
              case rel => exact ⟨k + 1, n, a, cap, by omega, by omega, by go_num, rfl, HF.out, HB3.out⟩
              case measure => simp [intOf]; omega
          · rw [decide_eq_false hm] at C
            have HF := Lib.hid (show onceL [c] ((m.layers.take (k + 1)).map Prod.fst) = L ++ [x] by rw [HT.out, if_neg hm])
            have HO4 := Lib.hid (HO3.out.keep (below_new W3 (.cells #[.string x] 9)))
            have HB4 := Lib.hid (Below.then HB3.out (below_new W3 (.cells #[.string x] 9)))
            clear hm
            rcases Nat.eq_zero_or_pos k with rfl | hk0
            · have v0' : wr.cell? ⟨lb, lo, none⟩ = some (.string x) := by simpa using v0
              have v1' : wr.cell? ⟨lb, lo + 1, none⟩ = some (.int .i64 y) := by simpa using v1
              go_upto_region 8 with fail
              rw [HW3.out]
              go_wp2_with fail
              refine C.out.mono ?_
              rintro e w' ⟨rfl, rfl⟩
              go_wp2_with (at_builtin; refine wpList_push _ rfl _ _ rfl w.heap.size _ n L rfl HO4.out x w'.heap.size rfl (heap_alloc_new w' _) (by omega) (by simp; omega) _ rfl ?_)
              intro g cap' w5 ho5 hg5 _ _
              have HB5 := Lib.hid (HB4.out.trans (below_push HO4.out hg5 (Nat.le_refl _) (by simp; omega)))
              have HO5 := Lib.hid ho5
              clear ho5 hg5
              go_wp2_with fail
              go_roundw
              case rel => exact ⟨1, n + 1, _, _, by omega, by omega, by go_num, rfl, by rw [HF.out]; exact HO5.out, HB5.out⟩
              case measure => simp [intOf]; omega
            · go_upto_region 8 with fail
              rw [HW3.out]
              go_wp2_with fail
              refine C.out.mono ?_
              rintro e w' ⟨rfl, rfl⟩
              go_wp2_with (at_builtin; refine wpList_push _ rfl _ _ rfl w.heap.size _ n L rfl HO4.out x w'.heap.size rfl (heap_alloc_new w' _) (by omega) (by simp; omega) _ rfl ?_)
              intro g cap' w5 ho5 hg5 _ _
              have HB5 := Lib.hid (HB4.out.trans (below_push HO4.out hg5 (Nat.le_refl _) (by simp; omega)))
              have HO5 := Lib.hid ho5
              clear ho5 hg5
              go_wp2_with fail
              go_roundw
              case rel => exact ⟨k + 1, n + 1, _, _, by omega, by omega, by go_num, rfl, by rw [HF.out]; exact HO5.out, HB5.out⟩
              case measure => simp [intOf]; omega
        · have HF := Lib.hid (show BlobsEnds m w (.returned (.slice a n cap)) wr from ⟨_, n, rfl, by
            rw [HO.out]
            rw [List.take_of_length_le (by rw [HNL.out]; omega)] at ho
            exact ho, hb⟩)
          clear ho hb
          go_wp2_with fail
          go_ret
          exact HF.out
end Go.Proofs.YtepcaglekgeamaaGreatDoor
