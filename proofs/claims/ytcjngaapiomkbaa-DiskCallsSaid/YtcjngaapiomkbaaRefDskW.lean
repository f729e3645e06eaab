/-
  The document's own Well and Right of a disk, by contracts. Conditions: none.
-/
import Derived.Test.YtcjngaapiomkbaaDskAt
import Derived.WalkKit
import Derived.WalkLawsBesides
import Derived.WalkSpells
import Derived.BigCall
import Derived.Lib.Hide
import Derived.Outline
import Derived.Lib.OthersKept
import Derived.BigQuiet
import Derived.Deep.Cut
import Derived.Deep.QuietTactic
namespace Go.Proofs.Ytcjngaapiomkbaa
open Go.RowKit

theorem below_new (w : World) (o : Obj) : Below w.heap.size w (w.alloc o) := (Below.refl _ _).alloc (Nat.le_refl _) _
theorem Below.then {w w1 w2 : World} (h : Below w.heap.size w w1) (h2 : Below w1.heap.size w1 w2) : Below w.heap.size w w2 := h.trans (h2.mono h.size)

/-- A row of two cells lies at B. -/
def At2 (t : TypeId) (w : World) (B : Nat) (a b : Value) : Prop := w.heap[B]? = some (.cells #[a, b] t (0, 0))
theorem At2.lt {t : TypeId} {w : World} {B : Nat} {a b : Value} (h : At2 t w B a b) : B < w.heap.size := (Array.getElem?_eq_some_iff.1 h).1
theorem At2.keep {t : TypeId} {w w' : World} {B : Nat} {a b : Value} (h : At2 t w B a b) (hb : Below w.heap.size w w') : At2 t w' B a b := (hb.block B h.lt).trans h
theorem At2.cells {t : TypeId} {w : World} {B : Nat} {a b : Value} (h : At2 t w B a b) : w.cell? ⟨B, 0, none⟩ = some a ∧ w.cell? ⟨B, 1, none⟩ = some b := by
  unfold At2 at h
  refine ⟨?_, ?_⟩ <;> simp [World.cell?, h]
theorem At2.new (t : TypeId) (w : World) (a b : Value) : At2 t (w.alloc (.cells #[a, b] t)) w.heap.size a b := heap_alloc_new w _

theorem write_getElem (ls : List (Int × ByteArray)) (k : Nat) (h : k < ls.length) : (ls.map writeCell)[k]'(by rw [List.length_map]; exact h) = (.int .i64 ls[k].1, .string ls[k].2) := by
  rw [List.getElem_map]; rfl
theorem StrsAt.rows {w : World} {v : Value} {l : List ByteArray} (h : StrsAt w v l) (h0 : 0 < l.length) : ∃ b o cap, v = .slice (some ⟨b, o, none⟩) l.length cap ∧ 0 < l.length ∧ l.length ≤ cap ∧ cap ≤ maxLen ∧ ∀ i (h : i < l.length), w.cell? ⟨b, o + i, none⟩ = some (.string l[i]) := by
  rcases h with ⟨rfl, -⟩ | h
  · simp at h0
  · exact h
theorem PairsAt.at {w : World} {a : Option Addr} {n cap : Nat} {l : List (Value × Value)} (h : PairsAt w (.slice a n cap) l) (i : Nat) (hi : i < l.length) : ∃ b o, a = some ⟨b, o, none⟩ ∧ w.cell? ⟨b, o + i * 2, none⟩ = some l[i].1 ∧ w.cell? ⟨b, o + i * 2 + 1, none⟩ = some l[i].2 := by
  rcases h with ⟨h0, -⟩ | ⟨b, o, c, e, -, -, -, hc⟩
  · rw [h0] at hi; simp at hi
  · simp only [Value.slice.injEq] at e
    exact ⟨b, o, e.1, (hc i hi).1, (hc i hi).2⟩
theorem StrsAt.shape {w : World} {v : Value} {l : List ByteArray} (h : StrsAt w v l) : ∃ a cap, v = .slice a l.length cap ∧ cap ≤ maxLen ∧ l.length ≤ maxLen := by
  rcases h with ⟨rfl, rfl | ⟨a, cap, rfl, hc⟩⟩ | ⟨b, o, cap, rfl, h2, h3, h4, -⟩
  · exact ⟨none, 0, rfl, by decide, by decide⟩
  · exact ⟨_, _, rfl, hc, by decide⟩
  · exact ⟨_, _, rfl, h4, by omega⟩
theorem StrsAt.at {w : World} {a : Option Addr} {n cap : Nat} {l : List ByteArray} (h : StrsAt w (.slice a n cap) l) (i : Nat) (hi : i < l.length) : ∃ b o, a = some ⟨b, o, none⟩ ∧ w.cell? ⟨b, o + i, none⟩ = some (.string l[i]) := by
  rcases h with ⟨h0, -⟩ | ⟨b, o, c, e, -, -, -, hc⟩
  · rw [h0] at hi; simp at hi
  · simp only [Value.slice.injEq] at e
    exact ⟨b, o, e.1, hc i hi⟩
def okWrite (n : Nat) (w : Int × ByteArray) : Bool := decide (0 ≤ w.1) && decide (w.1 < (n : Int)) && w.2.size == 128
theorem wellB_eq (n : Nat) (l : List (Int × ByteArray)) : wellB n l = l.all (okWrite n) := rfl
set_option maxRecDepth 100000 in
set_option maxHeartbeats 2000000 in
theorem refWell_t (v : Value) (ls : List (Int × ByteArray)) (n : Nat) (w : World) (h : PairsAt w v (ls.map writeCell)) (hz : ∀ l ∈ ls, l.2.size ≤ maxLen) :
    Calls Try.prog 20 #[v, .int .i64 n] w fun e w' => e = .returned (.bool (wellB n ls)) ∧ Below w.heap.size w w' := by
  obtain ⟨a, cap, rfl, -, hl⟩ := h.shape
  unfold maxLen at hl
  rw [List.length_map] at hl h ⊢
  rcases h with ⟨h0, -⟩ | ⟨b, o, cap', e, h2, -, -, h5⟩
  · have h0' : ls = [] := List.map_eq_nil_iff.1 h0
    subst h0'
    clear hz h0
    go_enter Try.func20, Try.ntmps20
    go_wp2_with fail
    refine wp_loop_rounds 1 ?_
    rw [rounds_succ]
    go_wp2_with fail
    go_ret
    exact ⟨by simp [wellB], Below.refl _ _⟩
  · rw [List.length_map] at e h2
    simp only [Value.slice.injEq] at e
    obtain ⟨rfl, -, rfl⟩ := e
    have H5 := Lib.hid (fun (i : Nat) (h : i < ls.length) => h5 i (by rw [List.length_map]; exact h))
    have HZ := Lib.hid hz
    clear h5 hz
    go_enter Try.func20, Try.ntmps20
    go_wp2_with fail
    go_loopw [9] (fun iv wr => ∃ k : Nat, k ≤ ls.length ∧ iv = .int .i64 k ∧ (ls.take k).all (okWrite n) = true ∧ Below w.heap.size w wr) (fun i _ => ls.length - (intOf i).toNat)
    case atStart => exact ⟨0, Nat.zero_le _, rfl, by simp, Below.refl _ _⟩
    case round =>
      obtain ⟨k, hk, rfl, hall, hb⟩ := hrel
      have HA := Lib.hid hall
      have HB := Lib.hid hb
      clear hall hb
      by_cases hlt : k < ls.length
      · obtain ⟨e0, e1⟩ := H5.out k hlt
        rw [write_getElem ls k hlt] at e0 e1
        have hts := Lib.hid (List.take_succ_eq_append_getElem hlt)
        have HM := Lib.hid (List.getElem_mem hlt)
        have hzz := HZ.out _ HM.out
        unfold maxLen at hzz
        obtain ⟨⟨ax, x⟩, hx⟩ : ∃ x, ls[k] = x := ⟨_, rfl⟩
        rw [hx] at e0 e1 hts HM hzz
        have kc : ∀ {p : Addr} {v : Value}, w.cell? p = some v → wr.cell? p = some v := fun h => HB.out.cell (World.block_lt_of_cell? _ _ h) |>.trans h
        have v0 := kc e0
        have v1 := kc e1
        clear e0 e1 kc hx
        obtain ⟨W1, hW1⟩ : ∃ W1, wr.alloc (.cells #[.int .i64 ax, .string x] 45) = W1 := ⟨_, rfl⟩
        have hb1 : Below w.heap.size w W1 := by rw [← hW1]; exact Below.then HB.out (below_new _ _)
        have hA : At2 45 W1 wr.heap.size (.int .i64 ax) (.string x) := by rw [← hW1]; exact At2.new _ _ _ _
        have HB1 := Lib.hid hb1
        have HW1 := Lib.hid hW1
        obtain ⟨a0, a1⟩ := hA.cells
        clear hA hb1 hW1
        go_upto_region 4 with fail
        rw [HW1.out]
        by_cases h0 : ax < 0
        · have HO := Lib.hid (show ls.all (okWrite n) = false from List.all_eq_false.2 ⟨(ax, x), HM.out, by simp [okWrite]; omega⟩)
          go_wp2_with fail
          go_ret
          exact ⟨by rw [wellB_eq, HO.out]; rfl, HB1.out⟩
        · by_cases h1 : ax < (n : Int)
          rotate_left
          · have HO := Lib.hid (show ls.all (okWrite n) = false from List.all_eq_false.2 ⟨(ax, x), HM.out, by simp [okWrite]; omega⟩)
            go_wp2_with fail
            go_ret
            exact ⟨by rw [wellB_eq, HO.out]; rfl, HB1.out⟩
          · by_cases h2 : x.size = 128
            · have HN := Lib.hid (show (ls.take (k + 1)).all (okWrite n) = true by
                rw [hts.out, List.all_append, HA.out, List.all_cons, List.all_nil]; simp [okWrite, h1, h2]; omega)
              have q : ((x.size : Int) != 128) = false := by rw [h2]; rfl
              go_wp2_with fail
              go_roundw
              case rel => exact ⟨k + 1, by omega, by go_num, HN.out, HB1.out⟩
              case measure => simp [intOf]; omega
            · have HO := Lib.hid (show ls.all (okWrite n) = false from List.all_eq_false.2 ⟨(ax, x), HM.out, by simp [okWrite, h2]⟩)
              have q : ((x.size : Int) != 128) = true := bne_iff_ne.2 (by omega)
              go_wp2_with fail
              go_ret
              exact ⟨by rw [wellB_eq, HO.out]; rfl, HB1.out⟩
      · have HO := Lib.hid (show ls.all (okWrite n) = true by
          have := HA.out
          rwa [List.take_of_length_le (by omega)] at this)
        go_wp2_with fail
        go_ret
        exact ⟨by rw [wellB_eq, HO.out]; rfl, HB.out⟩

set_option maxRecDepth 100000 in
set_option maxHeartbeats 2000000 in
/-- A sector as it stands: the document's own. -/
theorem refStands_t (v : Value) (d : Dsk) (at' : Nat) (w : World) (h : DskAt w v d) (ha : at' < d.secs.length) :
    Calls Try.prog 18 #[v, .int .i64 at'] w fun e w' => e = .returned (.string (d.stands at')) ∧ Below w.heap.size w w' := by
  obtain ⟨ss, ls⟩ := d
  obtain ⟨⟨sv, dv, rfl, hs, hd⟩, hz, hy⟩ := h
  simp only at hs hd ha hz hy
  obtain ⟨sb, so, sc, rfl, s1, s2, s3, s4⟩ := hs.rows (by omega)
  obtain ⟨da, dc, rfl, -, hl⟩ := hd.shape
  unfold maxLen at hl
  rw [List.length_map] at hl hd ⊢
  obtain ⟨W, hW⟩ : ∃ W, w.alloc (.cells #[.slice (some ⟨sb, so, none⟩) ss.length sc, .slice da ls.length dc] 25) = W := ⟨_, rfl⟩
  have hb0 : Below w.heap.size w W := by rw [← hW]; exact below_new _ _
  have hA : At2 25 W w.heap.size (.slice (some ⟨sb, so, none⟩) ss.length sc) (.slice da ls.length dc) := by rw [← hW]; exact At2.new _ _ _ _
  have hsl : ss.length ≤ 9223372036854775807 := by unfold maxLen at s3; omega
  obtain ⟨s0, hs0⟩ : ∃ s, ss[at'] = s := ⟨_, rfl⟩
  have hg : ss.getD at' ⟨#[]⟩ = s0 := by rw [← hs0]; simp [List.getD, ha]
  have HE := Lib.hid (show (Dsk.mk ss ls).stands at' = standsL at' s0 ls by rw [Dsk.stands, hg])
  have c0 : W.cell? ⟨sb, so + at', none⟩ = some (.string s0) := by
    have := s4 at' ha
    rw [hs0] at this
    exact (hb0.cell (World.block_lt_of_cell? _ _ this)).trans this
  obtain ⟨a0, a1⟩ := hA.cells
  have HB0 := Lib.hid hb0
  have HA := Lib.hid hA
  have HW := Lib.hid hW
  have HD := Lib.hid hd
  clear s4 hb0 hA hW hs0 hg hs hd hz hy
  go_enter Try.func18, Try.ntmps18
  go_upto_region 1 with fail
  rw [HW.out]
  go_wp2_with fail
  go_loopw [5, 16] (fun sv iv wr => ∃ k : Nat, k ≤ ls.length ∧ iv = .int .i64 k ∧ sv = .string (standsL at' s0 (ls.take k)) ∧ Below W.heap.size W wr) (fun _ i _ => ls.length - (intOf i).toNat)
  case atStart => exact ⟨0, Nat.zero_le _, rfl, rfl, Below.refl _ _⟩
  case round =>
    obtain ⟨k, hk, rfl, rfl, hb⟩ := hrel
    obtain ⟨sk, hsk⟩ : ∃ s, standsL at' s0 (ls.take k) = s := ⟨_, rfl⟩
    rw [hsk]
    have HK := Lib.hid hsk
    have HB := Lib.hid hb
    have HWR := Lib.hid (Below.then HB0.out hb)
    obtain ⟨r0, r1⟩ := (HA.out.keep hb).cells
    clear hb hsk
    by_cases hlt : k < ls.length
    · obtain ⟨b, o, rfl, e0, e1⟩ := HD.out.at k (by rw [List.length_map]; exact hlt)
      rw [write_getElem ls k hlt] at e0 e1
      have hts := Lib.hid (List.take_succ_eq_append_getElem hlt)
      obtain ⟨⟨ax, x⟩, hx⟩ : ∃ x, ls[k] = x := ⟨_, rfl⟩
      rw [hx] at e0 e1 hts
      have kc : ∀ {p : Addr} {v : Value}, w.cell? p = some v → wr.cell? p = some v := fun h => HWR.out.cell (World.block_lt_of_cell? _ _ h) |>.trans h
      have v0 := kc e0
      have v1 := kc e1
      clear e0 e1 kc hx
      have HN := Lib.hid (show standsL at' s0 (ls.take (k + 1)) = if ax = (at' : Int) then x else sk by rw [hts.out, standsL_snoc, HK.out])
      obtain ⟨W1, hW1⟩ : ∃ W1, wr.alloc (.cells #[.int .i64 ax, .string x] 45) = W1 := ⟨_, rfl⟩
      have hb1 : Below wr.heap.size wr W1 := by rw [← hW1]; exact below_new _ _
      have hA1 : At2 45 W1 wr.heap.size (.int .i64 ax) (.string x) := by rw [← hW1]; exact At2.new _ _ _ _
      have HB1 := Lib.hid (Below.then HB.out hb1)
      have HW1 := Lib.hid hW1
      obtain ⟨x0, x1⟩ := hA1.cells
      clear hA1 hb1 hW1
      go_upto_region 5 with fail
      rw [HW1.out]
      by_cases he : ax = (at' : Int)
      · have HN' := Lib.hid (show standsL at' s0 (ls.take (k + 1)) = x by rw [HN.out, if_pos he])
        have q : (ax == (at' : Int)) = true := beq_iff_eq.2 he
        clear he
        go_wp2_with fail
        go_roundw
        case rel => exact ⟨k + 1, by omega, by go_num, by rw [HN'.out], HB1.out⟩
        case measure => simp [intOf]; omega
      · have HN' := Lib.hid (show standsL at' s0 (ls.take (k + 1)) = sk by rw [HN.out, if_neg he])
        have q : (ax == (at' : Int)) = false := beq_eq_false_iff_ne.2 he
        clear he
        go_wp2_with fail
        go_roundw
        case rel => exact ⟨k + 1, by omega, by go_num, by rw [HN'.out], HB1.out⟩
        case measure => simp [intOf]; omega
    · have HO := Lib.hid (show standsL at' s0 ls = sk by
        have := HK.out
        rwa [List.take_of_length_le (by omega)] at this)
      go_wp2_with fail
      go_ret
      exact ⟨by rw [HE.out, HO.out]; rfl, HWR.out⟩
end Go.Proofs.Ytcjngaapiomkbaa
