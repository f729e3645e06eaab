/-
  Which manifests may be: the program's areLayers, areKids, Right, by contracts. Conditions: the package-level variables as MLow says; words of fewer than 2^40 bytes.
-/
import Derived.Test.YtepcaglekgeamaaGreatDoorYMan0
namespace Go.Proofs.YtepcaglekgeamaaGreatDoor
open Go.RowKit

structure Man.Small (m : Man) : Prop where
  config : m.config.size < 1099511627776
  layers : ∀ l ∈ m.layers, l.1.size < 1099511627776
  kids : ∀ k ∈ m.kids, k.size < 1099511627776

def At2 (t : TypeId) (w : World) (B : Nat) (a b : Value) : Prop := w.heap[B]? = some (.cells #[a, b] t (0, 0))

theorem At2.lt {t : TypeId} {w : World} {B : Nat} {a b : Value} (h : At2 t w B a b) : B < w.heap.size := (Array.getElem?_eq_some_iff.1 h).1

theorem At2.keep {t : TypeId} {w w' : World} {B : Nat} {a b : Value} (h : At2 t w B a b) (hb : Below w.heap.size w w') : At2 t w' B a b := (hb.block B h.lt).trans h

theorem At2.cells {t : TypeId} {w : World} {B : Nat} {a b : Value} (h : At2 t w B a b) : w.cell? ⟨B, 0, none⟩ = some a ∧ w.cell? ⟨B, 1, none⟩ = some b := by
  unfold At2 at h
  refine ⟨?_, ?_⟩ <;> simp [World.cell?, h]

theorem At2.new (t : TypeId) (w : World) (a b : Value) : At2 t (w.alloc (.cells #[a, b] t)) w.heap.size a b := heap_alloc_new w _

def At4 (w : World) (B : Nat) (a b c d : Value) : Prop := w.heap[B]? = some (.cells #[a, b, c, d] 53 (0, 0))

theorem At4.lt {w : World} {B : Nat} {a b c d : Value} (h : At4 w B a b c d) : B < w.heap.size := (Array.getElem?_eq_some_iff.1 h).1

theorem At4.keep {w w' : World} {B : Nat} {a b c d : Value} (h : At4 w B a b c d) (hb : Below w.heap.size w w') : At4 w' B a b c d := (hb.block B h.lt).trans h

theorem At4.cells {w : World} {B : Nat} {a b c d : Value} (h : At4 w B a b c d) :
    w.cell? ⟨B, 0, none⟩ = some a ∧ w.cell? ⟨B, 1, none⟩ = some b ∧ w.cell? ⟨B, 2, none⟩ = some c ∧ w.cell? ⟨B, 3, none⟩ = some d := by
  unfold At4 at h
  refine ⟨?_, ?_, ?_, ?_⟩ <;> simp [World.cell?, h]

theorem At4.new (w : World) (a b c d : Value) : At4 (w.alloc (.cells #[a, b, c, d] 53)) w.heap.size a b c d := heap_alloc_new w _

theorem At4.frozen {w : World} {B : Nat} {a b c d : Value} (h : At4 w B a b c d) (j : Nat) : w.frozen? ⟨B, j, none⟩ = false := by
  unfold At4 at h; simp [World.frozen?, h]

theorem okLayer_eq (x : ByteArray) (n : Int) : okLayer (x, n) = (isD x && decide (0 ≤ n ∧ n ≤ 4096)) := rfl

theorem layer_getElem (ls : List (ByteArray × Int)) (k : Nat) (h : k < ls.length) : (ls.map layerCell)[k]'(by rw [List.length_map]; exact h) = (.string ls[k].1, .int .i64 ls[k].2) := by
  rw [List.getElem_map]; rfl

set_option maxRecDepth 100000 in
set_option maxHeartbeats 2000000 in
theorem areLayers_t (v : Value) (ls : List (ByteArray × Int)) (w : World) (h : PairsAt w v (ls.map layerCell)) (hz : ∀ l ∈ ls, l.1.size < 1099511627776) (he : MLow w) :
    Calls Tryz.prog 58 #[v] w fun e w' => e = .returned (.bool (decide (ls.length ≤ 8) && ls.all okLayer)) ∧ Below w.heap.size w w' := by
  obtain ⟨a, cap, rfl, -, hl⟩ := h.shape
  unfold maxLen at hl
  rw [List.length_map] at hl h ⊢
  by_cases h8 : ls.length ≤ 8
  rotate_left
  · have HO := Lib.hid (show (decide (ls.length ≤ 8) && ls.all okLayer) = false by rw [decide_eq_false h8]; rfl)
    clear h hz he
    go_enter Tryz.func58, Tryz.ntmps58
    go_wp2_with fail
    go_ret
    exact ⟨by rw [HO.out]; rfl, Below.refl _ _⟩
  have HR := Lib.hid (show (decide (ls.length ≤ 8) && ls.all okLayer) = ls.all okLayer by rw [decide_eq_true h8]; rfl)
  rcases h with ⟨h0, -⟩ | ⟨b, o, cap', e, h2, -, -, h5⟩
  · have h0' : ls = [] := List.map_eq_nil_iff.1 h0
    subst h0'
    clear hz he h0
    go_enter Tryz.func58, Tryz.ntmps58
    go_wp2_with fail
    refine wp_loop_rounds 1 ?_
    rw [rounds_succ]
    go_wp2_with fail
    go_ret
    exact ⟨by simp, Below.refl _ _⟩
  · rw [List.length_map] at e h2
    simp only [Value.slice.injEq] at e
    obtain ⟨rfl, -, rfl⟩ := e
    have H5 := Lib.hid (fun (i : Nat) (h : i < ls.length) => h5 i (by rw [List.length_map]; exact h))
    have HZ := Lib.hid hz
    have HE := Lib.hid he
    clear h5 hz he
    go_enter Tryz.func58, Tryz.ntmps58
    go_wp2_with fail
    go_loopw [10] (fun iv wr => ∃ k : Nat, k ≤ ls.length ∧ iv = .int .i64 k ∧ (ls.take k).all okLayer = true ∧ Below w.heap.size w wr) (fun i _ => ls.length - (intOf i).toNat)
    case atStart => exact ⟨0, Nat.zero_le _, rfl, by simp, Below.refl _ _⟩
    case round =>
      obtain ⟨k, hk, rfl, hall, hb⟩ := hrel
      have HA := Lib.hid hall
      have HB := Lib.hid hb
      clear hall hb
      by_cases hlt : k < ls.length
      · obtain ⟨e0, e1⟩ := H5.out k hlt
        rw [layer_getElem ls k hlt] at e0 e1
        have hts := Lib.hid (List.take_succ_eq_append_getElem hlt)
        have HM := Lib.hid (List.getElem_mem hlt)
        have hzz := HZ.out _ HM.out
        obtain ⟨⟨x, n⟩, hx⟩ : ∃ x, ls[k] = x := ⟨_, rfl⟩
        rw [hx] at e0 e1 hts HM hzz
        have kc : ∀ {p : Addr} {v : Value}, w.cell? p = some v → wr.cell? p = some v := fun h => HB.out.cell (World.block_lt_of_cell? _ _ h) |>.trans h
        have v0 := kc e0
        have v1 := kc e1
        clear e0 e1 kc hx
        obtain ⟨W1, hW1⟩ : ∃ W1, wr.alloc (.cells #[.string x, .int .i64 n] 76) = W1 := ⟨_, rfl⟩
        have hb1 : Below w.heap.size w W1 := by rw [← hW1]; exact Below.then HB.out (below_new _ _)
        have hA : At2 76 W1 wr.heap.size (.string x) (.int .i64 n) := by rw [← hW1]; exact At2.new _ _ _ _
        have D := Lib.hid (isDigest_t x W1 (HE.out.below hb1) hzz)
        have HA1 := Lib.hid hA
        have HB1 := Lib.hid hb1
        have HW1 := Lib.hid hW1
        have hs1 : W1.heap.size = wr.heap.size + 1 := by rw [← hW1]; simp
        obtain ⟨a0, a1⟩ := hA.cells
        have HOK := Lib.hid (okLayer_eq x n)
        obtain ⟨q, hq⟩ : ∃ q, isD x = q := ⟨_, rfl⟩
        rw [hq] at D HOK
        clear hA hb1 hW1 hq hzz
        go_upto_region 6 with fail
        rw [HW1.out]
        go_wp2_with fail
        refine D.out.mono ?_
        rintro e w2 ⟨rfl, hb2⟩
        have HB2 := Lib.hid (Below.then HB1.out hb2)
        obtain ⟨d0, d1⟩ := (HA1.out.keep hb2).cells
        clear hb2 a0 a1
        cases q with
        | false =>
          have HO := Lib.hid (show ls.all okLayer = false from List.all_eq_false.2 ⟨(x, n), HM.out, by rw [HOK.out]; simp⟩)
          go_wp2_with fail
          go_ret
          exact ⟨by rw [HR.out, HO.out]; rfl, HB2.out⟩
        | true =>
          by_cases hn0 : n < 0
          · have HO := Lib.hid (show ls.all okLayer = false from List.all_eq_false.2 ⟨(x, n), HM.out, by rw [HOK.out, decide_eq_false (by omega)]; simp⟩)
            go_wp2_with fail
            go_ret
            exact ⟨by rw [HR.out, HO.out]; rfl, HB2.out⟩
          · by_cases hn1 : n ≤ 4096
            · have HN := Lib.hid (show (ls.take (k + 1)).all okLayer = true by
                rw [hts.out, List.all_append, HA.out, List.all_cons, List.all_nil, HOK.out, decide_eq_true (show 0 ≤ n ∧ n ≤ 4096 from ⟨by omega, hn1⟩)]; rfl)
              go_wp2_with fail
              go_roundw
              case rel => exact ⟨k + 1, by omega, by go_num, HN.out, HB2.out⟩
              case measure => simp [intOf]; omega
            · have HO := Lib.hid (show ls.all okLayer = false from List.all_eq_false.2 ⟨(x, n), HM.out, by rw [HOK.out, decide_eq_false (by omega)]; simp⟩)
              go_wp2_with fail
              go_ret
              exact ⟨by rw [HR.out, HO.out]; rfl, HB2.out⟩
      · have HO := Lib.hid (show ls.all okLayer = true by
          have := HA.out
          rwa [List.take_of_length_le (by omega)] at this)
        go_wp2_with fail
        go_ret
        exact ⟨by rw [HR.out, HO.out]; rfl, HB.out⟩

theorem StrsAt.take {w : World} {a : Option Addr} {n cap : Nat} {l : List ByteArray} (h : StrsAt w (.slice a n cap) l) (k : Nat) (hk : k ≤ l.length) : StrsAt w (.slice a k cap) (l.take k) := by
  rcases h with ⟨rfl, h⟩ | ⟨b, o, cap', e, h2, h3, h4, h5⟩
  · obtain rfl : k = 0 := by simpa using hk
    refine Or.inl ⟨by simp, ?_⟩
    rcases h with h | ⟨a', c', h, hc⟩
    · simp only [Value.slice.injEq] at h
      exact Or.inl (by rw [h.1, h.2.2])
    · simp only [Value.slice.injEq] at h
      exact Or.inr ⟨a', c', by rw [h.1, h.2.2], hc⟩
  · simp only [Value.slice.injEq] at e
    obtain ⟨rfl, -, rfl⟩ := e
    have hl : (l.take k).length = k := by rw [List.length_take]; omega
    by_cases h0 : k = 0
    · subst h0
      exact Or.inl ⟨by simp, Or.inr ⟨_, _, rfl, h4⟩⟩
    · refine Or.inr ⟨b, o, cap, by rw [hl], by omega, by omega, h4, fun i hi => ?_⟩
      rw [List.getElem_take]
      exact h5 i (by omega)

theorem apartL_at : ∀ (p l : List ByteArray) (k : Nat) (h : k < l.length), apartL p l = true → isD l[k] = true ∧ l[k] ∉ p ++ l.take k
  | p, a :: l, 0, _, h => by
    rw [apartL, Bool.and_eq_true, Bool.and_eq_true, decide_eq_true_eq] at h
    simpa using h.1
  | p, a :: l, k + 1, hk, h => by
    rw [apartL, Bool.and_eq_true] at h
    have := apartL_at (p ++ [a]) l k (by simpa using hk) h.2
    simpa using this

theorem apartL_of : ∀ (p l : List ByteArray), (∀ (k : Nat) (h : k < l.length), isD l[k] = true ∧ l[k] ∉ p ++ l.take k) → apartL p l = true
  | _, [], _ => rfl
  | p, a :: l, h => by
    rw [apartL, Bool.and_eq_true, Bool.and_eq_true, decide_eq_true_eq]
    have h0 := h 0 (by simp)
    refine ⟨by simpa using h0, apartL_of (p ++ [a]) l fun k hk => ?_⟩
    have := h (k + 1) (by simpa using hk)
    simpa using this

set_option maxRecDepth 100000 in
set_option maxHeartbeats 2000000 in
theorem areKids_t (v : Value) (ks : List ByteArray) (w : World) (h : StrsAt w v ks) (hz : ∀ k ∈ ks, k.size < 1099511627776) (he : MLow w) :
    Calls Tryz.prog 56 #[v] w fun e w' => e = .returned (.bool (decide (1 ≤ ks.length ∧ ks.length ≤ 8) && apartL [] ks)) ∧ Below w.heap.size w w' := by
  have hl := h.len
  unfold maxLen at hl
  obtain ⟨a, cap, rfl, -⟩ := h.shape
  by_cases h1 : 1 ≤ ks.length
  rotate_left
  · have HO := Lib.hid (show (decide (1 ≤ ks.length ∧ ks.length ≤ 8) && apartL [] ks) = false by rw [decide_eq_false (by omega)]; rfl)
    have q : ((ks.length : Int) == 0) = true := by rw [beq_iff_eq]; omega
    clear h hz he
    go_enter Tryz.func56, Tryz.ntmps56
    go_wp2_with fail
    go_ret
    exact ⟨by rw [HO.out]; rfl, Below.refl _ _⟩
  by_cases h8 : ks.length ≤ 8
  rotate_left
  · have HO := Lib.hid (show (decide (1 ≤ ks.length ∧ ks.length ≤ 8) && apartL [] ks) = false by rw [decide_eq_false (by omega)]; rfl)
    have q : ((ks.length : Int) == 0) = false := by rw [beq_eq_false_iff_ne]; omega
    clear h hz he
    go_enter Tryz.func56, Tryz.ntmps56
    go_wp2_with fail
    go_ret
    exact ⟨by rw [HO.out]; rfl, Below.refl _ _⟩
  have HR := Lib.hid (show (decide (1 ≤ ks.length ∧ ks.length ≤ 8) && apartL [] ks) = apartL [] ks by rw [decide_eq_true ⟨h1, h8⟩]; rfl)
  have q : ((ks.length : Int) == 0) = false := by rw [beq_eq_false_iff_ne]; omega
  have HT := Lib.hid h
  rcases h with ⟨h0, -⟩ | ⟨b, o, cap', e, h2, h3, -, h5⟩
  · rw [h0] at h1; simp at h1
  · simp only [Value.slice.injEq] at e
    obtain ⟨rfl, -, rfl⟩ := e
    have H5 := Lib.hid h5
    have HZ := Lib.hid hz
    have HE := Lib.hid he
    clear h5 hz he
    go_enter Tryz.func56, Tryz.ntmps56
    go_wp2_with fail
    go_loopw [15] (fun iv wr => ∃ k : Nat, k ≤ ks.length ∧ iv = .int .i64 k ∧ (∀ (j : Nat) (hj : j < ks.length), j < k → isD ks[j] = true ∧ ks[j] ∉ ks.take j) ∧ Below w.heap.size w wr) (fun i _ => ks.length - (intOf i).toNat)
    case atStart => exact ⟨0, Nat.zero_le _, rfl, fun j _ h => absurd h (Nat.not_lt_zero _), Below.refl _ _⟩
    case round =>
      obtain ⟨k, hk, rfl, hall, hb⟩ := hrel
      have HA := Lib.hid hall
      have HB := Lib.hid hb
      clear hall hb
      by_cases hlt : k < ks.length
      · have e0 := H5.out k hlt
        have HM := Lib.hid (List.getElem_mem hlt)
        have hzz := HZ.out _ HM.out
        have HN := Lib.hid (show isD ks[k] = true → ks[k] ∉ ks.take k → ∀ (j : Nat) (hj : j < ks.length), j < k + 1 → isD ks[j] = true ∧ ks[j] ∉ ks.take j from fun p q j hj hjk => by
          rcases Nat.lt_or_ge j k with h | h
          · exact HA.out j hj h
          · obtain rfl : j = k := by omega
            exact ⟨p, q⟩)
        have HF := Lib.hid (show (isD ks[k] = false ∨ ks[k] ∈ ks.take k) → apartL [] ks = false from fun h => by
          cases hq : apartL [] ks with
          | false => rfl
          | true =>
            obtain ⟨g1, g2⟩ := apartL_at [] ks k hlt hq
            rcases h with h | h
            · rw [g1] at h; cases h
            · exact absurd h (by simpa using g2))
        obtain ⟨x, hx⟩ : ∃ x, ks[k] = x := ⟨_, rfl⟩
        rw [hx] at e0 hzz
        simp only [hx] at HN HF
        have v0 : wr.cell? ⟨b, o + k, none⟩ = some (.string x) := (HB.out.cell (World.block_lt_of_cell? _ _ e0)).trans e0
        have D := Lib.hid (isDigest_t x wr (HE.out.below HB.out) hzz)
        obtain ⟨q1, hq1⟩ : ∃ q, isD x = q := ⟨_, rfl⟩
        rw [hq1] at D HN HF
        clear e0 hx hq1 hzz
        go_wp2_with fail
        refine D.out.mono ?_
        rintro e w2 ⟨rfl, hb2⟩
        have HB2 := Lib.hid (Below.then HB.out hb2)
        have C := Lib.hid (contains_t _ _ x w2 ((HT.out.keep HB2.out).take k hk))
        clear hb2
        cases q1 with
        | false =>
          go_wp2_with fail
          go_ret
          exact ⟨by rw [HR.out, HF.out (Or.inl (by simp))]; rfl, HB2.out⟩
        | true =>
          by_cases hm : x ∈ ks.take k
          · rw [decide_eq_true hm] at C
            have HO := Lib.hid (HF.out (Or.inr hm))
            clear hm
            go_wp2_with fail
            refine C.out.mono ?_
            rintro e w3 ⟨rfl, rfl⟩
            go_wp2_with fail
            go_ret
            exact ⟨by rw [HR.out, HO.out]; rfl, HB2.out⟩
          · rw [decide_eq_false hm] at C
            have HN' := Lib.hid (HN.out (by simp) hm)
            clear hm
            go_wp2_with fail
            refine C.out.mono ?_
            rintro e w3 ⟨rfl, rfl⟩
            go_wp2_with fail
            go_roundw
            case rel => exact ⟨k + 1, by omega, by go_num, HN'.out, HB2.out⟩
            case measure => simp [intOf]; omega
      · have HO := Lib.hid (show apartL [] ks = true from apartL_of [] ks fun j hj => by
          have := HA.out j hj (by omega)
          simpa using this)
        go_wp2_with fail
        go_ret
        exact ⟨by rw [HR.out, HO.out]; rfl, HB.out⟩

theorem rightM_true (i : Bool) (c : ByteArray) (ls : List (ByteArray × Int)) (ks : List ByteArray) (hi : i = true) : rightM ⟨i, c, ls, ks⟩ = (decide (c.size = 0) && decide (ls.length = 0) && (decide (1 ≤ ks.length ∧ ks.length ≤ 8) && apartL [] ks)) := by
  subst hi
  unfold rightM
  rw [if_pos rfl, Bool.and_assoc]

theorem rightM_false (i : Bool) (c : ByteArray) (ls : List (ByteArray × Int)) (ks : List ByteArray) (hi : i = false) : rightM ⟨i, c, ls, ks⟩ = (isD c && (decide (ls.length ≤ 8) && ls.all okLayer) && decide (ks.length = 0)) := by
  subst hi
  show (isD c && decide (ls.length ≤ 8) && ls.all okLayer && decide (ks.length = 0)) = _
  rw [Bool.and_assoc (isD c)]

set_option maxRecDepth 100000 in
set_option maxHeartbeats 2000000 in
theorem Right_t (m : Man) (v : Value) (w : World) (hv : ManAt w v m) (hz : m.Small) (he : MLow w) :
    Calls Tryz.prog 41 #[v] w fun e w' => e = .returned (.bool (rightM m)) ∧ Below w.heap.size w w' := by
  obtain ⟨i, c, ls, ks⟩ := m
  obtain ⟨⟨lv, kv, rfl, hl, hk⟩, -, -, -⟩ := hv
  obtain ⟨hz1, hz2, hz3⟩ := hz
  simp only at hl hk hz1 hz2 hz3
  obtain ⟨W0, hW0⟩ : ∃ W0, w.alloc (.cells #[.bool i, .string c, lv, kv] 53) = W0 := ⟨_, rfl⟩
  have hb0 : Below w.heap.size w W0 := by rw [← hW0]; exact below_new _ _
  have L := Lib.hid (fun w1 (hb : Below w.heap.size w w1) => areLayers_t lv ls w1 (hl.keep hb) hz2 (he.below hb))
  have K := Lib.hid (fun w1 (hb : Below w.heap.size w w1) => areKids_t kv ks w1 (hk.keep hb) hz3 (he.below hb))
  have D := Lib.hid (fun w1 (hb : Below w.heap.size w w1) => isDigest_t c w1 (he.below hb) hz1)
  have hA : At4 W0 w.heap.size (.bool i) (.string c) lv kv := by rw [← hW0]; exact At4.new _ _ _ _ _
  obtain ⟨la, lc, rfl, -, hll⟩ := hl.shape
  rw [List.length_map] at hll L hA hW0 ⊢
  obtain ⟨ka, kc, rfl, -⟩ := hk.shape
  have hkl := hk.len
  unfold maxLen at hll hkl
  have HB0 := Lib.hid hb0
  have HA := Lib.hid hA
  have HW0 := Lib.hid hW0
  obtain ⟨a0, a1, a2, a3⟩ := hA.cells
  clear hb0 hA hW0 hl hk hz1 hz2 hz3 he
  cases i with
  | true =>
    have HR := Lib.hid (rightM_true true c ls ks rfl)
    by_cases hc : c.size = 0
    rotate_left
    · have HO := Lib.hid (show rightM ⟨true, c, ls, ks⟩ = false by rw [HR.out, decide_eq_false hc]; rfl)
      have q : (c.toList == []) = false := by
        cases hq : (c.toList == []) with
        | false => rfl
        | true => rw [beq_iff_eq] at hq; exact absurd (by rw [Lib.size_eq, ← Lib.toList_data, hq]; rfl) hc
      clear hc
      go_enter Tryz.func41, Tryz.ntmps41
      go_upto_region 1 with fail
      rw [HW0.out]
      go_wp2_with fail
      go_ret
      exact ⟨by rw [HO.out]; rfl, HB0.out⟩
    · have hc' : c = ⟨#[]⟩ := bytes_nil c hc
      subst hc'
      by_cases hls : ls.length = 0
      rotate_left
      · have HO := Lib.hid (show rightM ⟨true, ⟨#[]⟩, ls, ks⟩ = false by rw [HR.out, decide_eq_false hls, Bool.and_false]; rfl)
        have q : ((ls.length : Int) == 0) = false := by rw [beq_eq_false_iff_ne]; omega
        clear hls
        go_enter Tryz.func41, Tryz.ntmps41
        go_upto_region 1 with fail
        rw [HW0.out]
        go_wp2_with fail
        go_ret
        exact ⟨by rw [HO.out]; rfl, HB0.out⟩
      · have q0 : ((ls.length : Int) == 0) = true := by rw [beq_iff_eq]; omega
        obtain ⟨r, hr⟩ : ∃ r, (decide (1 ≤ ks.length ∧ ks.length ≤ 8) && apartL [] ks) = r := ⟨_, rfl⟩
        have HO := Lib.hid (show rightM ⟨true, ⟨#[]⟩, ls, ks⟩ = r by rw [HR.out, hr, decide_eq_true hls]; rfl)
        rw [hr] at K
        clear hr hls hc
        go_enter Tryz.func41, Tryz.ntmps41
        go_upto_region 1 with fail
        rw [HW0.out]
        go_wp2_with fail
        refine (K.out _ HB0.out).mono ?_
        rintro e w2 ⟨rfl, hb2⟩
        have HB2 := Lib.hid (Below.then HB0.out hb2)
        clear hb2
        go_wp2_with fail
        go_ret
        exact ⟨by rw [HO.out]; rfl, HB2.out⟩
  | false =>
    have HR := Lib.hid (rightM_false false c ls ks rfl)
    obtain ⟨p, hp⟩ : ∃ p, isD c = p := ⟨_, rfl⟩
    obtain ⟨q, hq⟩ : ∃ q, (decide (ls.length ≤ 8) && ls.all okLayer) = q := ⟨_, rfl⟩
    rw [hp] at D HR
    rw [hq] at L HR
    clear hp hq
    go_enter Tryz.func41, Tryz.ntmps41
    go_upto_region 1 with fail
    rw [HW0.out]
    go_wp2_with fail
    refine (D.out _ HB0.out).mono ?_
    rintro e w2 ⟨rfl, hb2⟩
    have HB2 := Lib.hid (Below.then HB0.out hb2)
    obtain ⟨c0, c1, c2, c3⟩ := (HA.out.keep hb2).cells
    have HA2 := Lib.hid (HA.out.keep hb2)
    clear hb2 a0 a1 a2 a3
    cases p with
    | false =>
      go_wp2_with fail
      go_ret
      exact ⟨by rw [HR.out]; rfl, HB2.out⟩
    | true =>
      go_wp2_with fail
      refine (L.out _ HB2.out).mono ?_
      rintro e w3 ⟨rfl, hb3⟩
      have HB3 := Lib.hid (Below.then HB2.out hb3)
      obtain ⟨d0, d1, d2, d3⟩ := (HA2.out.keep hb3).cells
      clear hb3 c0 c1 c2 c3
      cases q with
      | false =>
        go_wp2_with fail
        go_ret
        exact ⟨by rw [HR.out]; rfl, HB3.out⟩
      | true =>
        have HO := Lib.hid (show rightM ⟨false, c, ls, ks⟩ = ((ks.length : Int) == 0) by
          rw [HR.out, Bool.and_self, Bool.true_and]
          by_cases h : ks.length = 0
          · rw [decide_eq_true h, h]; rfl
          · rw [decide_eq_false h]; symm; rw [beq_eq_false_iff_ne]; omega)
        go_wp2_with fail
        go_ret
        exact ⟨by rw [HO.out]; rfl, HB3.out⟩
end Go.Proofs.YtepcaglekgeamaaGreatDoor
