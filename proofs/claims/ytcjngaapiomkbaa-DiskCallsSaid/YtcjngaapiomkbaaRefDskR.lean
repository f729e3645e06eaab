/-
  The document's own Right of a disk, by a contract. Conditions: none.
-/
import Derived.Test.YtcjngaapiomkbaaRefDskW
namespace Go.Proofs.Ytcjngaapiomkbaa
open Go.RowKit

set_option maxRecDepth 100000 in
set_option maxHeartbeats 4000000 in
/-- May a disk be: the document's own. -/
theorem refRight_t (v : Value) (d : Dsk) (w : World) (h : DskAt w v d) :
    Calls Try.prog 16 #[v] w fun e w' => e = .returned (.bool d.right) ∧ Below w.heap.size w w' := by
  obtain ⟨ss, ls⟩ := d
  obtain ⟨⟨sv, dv, rfl, hs, hd⟩, hz, hy⟩ := h
  simp only at hs hd hz hy
  obtain ⟨sa, sc, rfl, hsc, hsl⟩ := hs.shape
  obtain ⟨da, dc, rfl, -, hl⟩ := hd.shape
  unfold maxLen at hl hsl
  rw [List.length_map] at hl hd ⊢
  obtain ⟨W, hW⟩ : ∃ W, w.alloc (.cells #[.slice sa ss.length sc, .slice da ls.length dc] 25) = W := ⟨_, rfl⟩
  have hb0 : Below w.heap.size w W := by rw [← hW]; exact below_new _ _
  have hA : At2 25 W w.heap.size (.slice sa ss.length sc) (.slice da ls.length dc) := by rw [← hW]; exact At2.new _ _ _ _
  obtain ⟨a0, a1⟩ := hA.cells
  have HB0 := Lib.hid hb0
  have HA := Lib.hid hA
  have HW := Lib.hid hW
  have HD := Lib.hid hd
  have HS := Lib.hid hs
  have HZ := Lib.hid hz
  have HY := Lib.hid (fun l hl => (hy l hl).1)
  have HE := Lib.hid (show (Dsk.mk ss ls).right = (ss.all (fun s => s.size == 128) && decide (4 ≤ ss.length) && decide (ss.length ≤ 64) && decide (ls.length ≤ 200) && wellB ss.length ls) from rfl)
  clear hb0 hA hW hs hd hz hy
  go_enter Try.func16, Try.ntmps16
  go_upto_region 1 with fail
  rw [HW.out]
  go_wp2_with fail
  go_loopw [8] (fun iv wr => ∃ k : Nat, k ≤ ss.length ∧ iv = .int .i64 k ∧ (ss.take k).all (fun s => s.size == 128) = true ∧ W = wr) (fun i _ => ss.length - (intOf i).toNat)
  case atStart => exact ⟨0, Nat.zero_le _, rfl, by simp, rfl⟩
  case round =>
    obtain ⟨k, hk, rfl, hall, rfl⟩ := hrel
    have HL := Lib.hid hall
    clear hall
    by_cases hlt : k < ss.length
    · obtain ⟨b, o, rfl, e0⟩ := HS.out.at k hlt
      have hts := Lib.hid (List.take_succ_eq_append_getElem hlt)
      have HM := Lib.hid (List.getElem_mem hlt)
      have hzz := HZ.out _ HM.out
      unfold maxLen at hzz
      obtain ⟨x, hx⟩ : ∃ x, ss[k] = x := ⟨_, rfl⟩
      rw [hx] at e0 hts HM hzz
      have v0 := (HB0.out.cell (World.block_lt_of_cell? _ _ e0)).trans e0
      clear e0 hx
      by_cases hq : x.size = 128
      · have HN := Lib.hid (show (ss.take (k + 1)).all (fun s => s.size == 128) = true by
          rw [hts.out, List.all_append, HL.out, List.all_cons, List.all_nil]; simp [hq])
        have q : ((x.size : Int) != 128) = false := by rw [hq]; rfl
        go_wp2_with fail
        go_roundw
        case rel => exact ⟨k + 1, by omega, by go_num, HN.out, trivial⟩
        case measure => simp [intOf]; omega
      · have HO := Lib.hid (show ss.all (fun s => s.size == 128) = false from List.all_eq_false.2 ⟨x, HM.out, by simp [hq]⟩)
        have q : ((x.size : Int) != 128) = true := bne_iff_ne.2 (by omega)
        go_wp2_with fail
        go_ret
        exact ⟨by rw [HE.out, HO.out]; rfl, HB0.out⟩
    · have HO := Lib.hid (show ss.all (fun s => s.size == 128) = true by
        have := HL.out
        rwa [List.take_of_length_le (by omega)] at this)
      by_cases h4 : 4 ≤ ss.length
      rotate_left
      · have HF := Lib.hid (show (Dsk.mk ss ls).right = false by rw [HE.out, decide_eq_false h4]; simp)
        go_wp2_with fail
        go_ret
        exact ⟨by rw [HF.out]; rfl, HB0.out⟩
      by_cases h64 : ss.length ≤ 64
      rotate_left
      · have HF := Lib.hid (show (Dsk.mk ss ls).right = false by rw [HE.out, decide_eq_false h64]; simp)
        go_wp2_with fail
        go_ret
        exact ⟨by rw [HF.out]; rfl, HB0.out⟩
      by_cases h200 : ls.length ≤ 200
      rotate_left
      · have HF := Lib.hid (show (Dsk.mk ss ls).right = false by rw [HE.out, decide_eq_false h200]; simp)
        go_wp2_with fail
        go_ret
        exact ⟨by rw [HF.out]; rfl, HB0.out⟩
      have HF := Lib.hid (show (Dsk.mk ss ls).right = wellB ss.length ls by rw [HE.out, HO.out, decide_eq_true h4, decide_eq_true h64, decide_eq_true h200]; rfl)
      have D := Lib.hid (refWell_t (.slice da ls.length dc) ls ss.length W (HD.out.keep HB0.out) HY.out)
      go_wp2_with fail
      refine D.out.mono ?_
      rintro e w1 ⟨rfl, hb⟩
      have HB := Lib.hid (Below.then HB0.out hb)
      obtain ⟨q, hq⟩ : ∃ q, wellB ss.length ls = q := ⟨_, rfl⟩
      rw [hq] at HF ⊢
      clear hb hq
      cases q <;>
      · go_wp2_with fail
        go_ret
        exact ⟨by rw [HF.out]; rfl, HB.out⟩
end Go.Proofs.Ytcjngaapiomkbaa
