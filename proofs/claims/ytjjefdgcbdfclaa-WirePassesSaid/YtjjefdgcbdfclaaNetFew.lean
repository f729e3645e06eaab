/-
  The laws' own few of a net, by a contract. Conditions: none.
-/
import Derived.Test.YtjjefdgcbdfclaaNetPlain
import Derived.Lib.MinMax
import Derived.Deep.AppendLies
namespace Go.Proofs.Ytjjefdgcbdfclaa
open Go.RowKit Go.WideShapes

/-- The first k are cut. -/
def cutTo (L : List Ms) (k : Nat) : List Ms := (L.take k).map cutM ++ L.drop k
abbrev cellsN (L : List Ms) : List Value := (L.map msCell).flatten
theorem cellsN_append (a b : List Ms) : cellsN (a ++ b) = cellsN a ++ cellsN b := by unfold cellsN; rw [List.map_append, List.flatten_append]
theorem cellsN_cons (m : Ms) (b : List Ms) : cellsN (m :: b) = msCell m ++ cellsN b := by unfold cellsN; rw [List.map_cons, List.flatten_cons]
theorem cellsN_length (l : List Ms) : (cellsN l).length = l.length * 4 := by
  have := (msWide l).flat
  rwa [List.length_map] at this
theorem cutTo_at (L : List Ms) (k : Nat) (h : k < L.length) : cutTo L k = (L.take k).map cutM ++ L[k] :: L.drop (k + 1) := by
  unfold cutTo; rw [List.drop_eq_getElem_cons h]
theorem cutTo_next (L : List Ms) (k : Nat) (h : k < L.length) : cutTo L (k + 1) = (L.take k).map cutM ++ cutM L[k] :: L.drop (k + 1) := by
  unfold cutTo; rw [List.take_succ_eq_append_getElem h, List.map_append, List.append_assoc]; rfl
theorem cutTo_head (L : List Ms) (k : Nat) (h : k < L.length) : (cellsN ((L.take k).map cutM)).length = k * 4 := by
  rw [cellsN_length, List.length_map, List.length_take, Nat.min_eq_left (by omega)]
theorem cutTo_get (L : List Ms) (k : Nat) (h : k < L.length) (j : Nat) (hj : j < 4) : (cellsN (cutTo L k))[k * 4 + j]? = (msCell L[k])[j]? := by
  rw [cutTo_at L k h, cellsN_append, cellsN_cons, List.getElem?_append_right (by rw [cutTo_head L k h]; omega), cutTo_head L k h, show k * 4 + j - k * 4 = j by omega, List.getElem?_append_left hj]
theorem cutTo_set (L : List Ms) (k : Nat) (h : k < L.length) : (cellsN (cutTo L k)).set (k * 4 + 2) (.string (L[k].body.extract 0 (min L[k].body.size 4100))) = cellsN (cutTo L (k + 1)) := by
  rw [cutTo_at L k h, cutTo_next L k h, cellsN_append, cellsN_cons, cellsN_append, cellsN_cons, List.set_append_right _ _ (by rw [cutTo_head L k h]; omega), cutTo_head L k h, show k * 4 + 2 - k * 4 = 2 by omega]
  rfl
theorem cutTo_zero (L : List Ms) : cutTo L 0 = L := rfl
theorem cutTo_all (L : List Ms) : cutTo L L.length = L.map cutM := by unfold cutTo; rw [List.take_length, List.drop_length, List.append_nil]
theorem few_fits {n : Nt} (h : ∀ m ∈ n.fl, m.fits) : ∀ m ∈ (fewN n).fl, m.fits := by
  intro m hm
  obtain ⟨x, hx, rfl⟩ := List.mem_map.1 hm
  obtain ⟨h1, h2, h3, h4⟩ := h x (List.mem_of_mem_take hx)
  refine ⟨h1, h2, ?_, h4⟩
  show (x.body.extract 0 (min x.body.size 4100)).size ≤ maxLen
  rw [ByteArray.size_extract]; omega
/-- What the loop leaves at its end. -/
theorem few13_end {w w3 wr : World} {B : Nat} {n : Nt} {m t1 : Nat} {s1 : Option Addr} {L : List Ms} (hL : (fewN n).fl = L.map cutM) (hm : L.length = m) (hB : Below w.heap.size w w3) (hBR : Below (w.heap.size + 2) w3 wr)
    (hBB : w.heap.size + 2 ≤ B) (ho : wr.ownsRow B 30 4 (.slice s1 m t1) m (cellsN (cutTo L m))) (hf : ∀ m ∈ n.fl, m.fits) (hl : i64 n.last) (hn : i64 n.now) :
    ∃ v', Ending.returned (.agg #[.slice s1 m t1, .int .i64 n.last, .int .i64 n.now]) = .returned v' ∧ NtAt (set3 wr (w.heap.size + 1) (.slice s1 m t1) (.int .i64 n.last) (.int .i64 n.now)) v' (fewN n) ∧ Below w.heap.size w (set3 wr (w.heap.size + 1) (.slice s1 m t1) (.int .i64 n.last) (.int .i64 n.now)) := by
  subst hm
  rw [cutTo_all] at ho
  have ho' := own_same (w' := set3 wr (w.heap.size + 1) (.slice s1 L.length t1) (.int .i64 n.last) (.int .i64 n.now)) ho fun g hg => set3_block _ _ _ _ _ _ (show g ≠ w.heap.size + 1 by omega)
  refine ⟨_, rfl, ⟨⟨_, rfl, ?_⟩, few_fits hf, hl, hn⟩, set3_below (hB.trans (hBR.mono (by omega))) (by omega) _ _ _⟩
  rw [hL]
  exact RwAt.of_own ho' (msWide _) (by rw [List.length_map, List.length_map])

set_option maxRecDepth 100000 in
set_option maxHeartbeats 8000000 in
theorem few13_t (v : Value) (n : Nt) (w : World) (h : NtAt w v n) :
    Calls Try.prog 7 #[v] w fun e w' => ∃ v', e = .returned v' ∧ NtAt w' v' (fewN n) ∧ Below w.heap.size w w' := by
  obtain ⟨i0, hi, hz0, hz1, hz2⟩ := info_parts infoMsg
  have HEND := Lib.hid (fun (w3 wr : World) (B m t1 : Nat) (s1 : Option Addr) (L : List Ms) hL hm hB hBR hBB ho => few13_end (w := w) (w3 := w3) (wr := wr) (B := B) (m := m) (t1 := t1) (s1 := s1) (L := L) hL hm hB hBR hBB ho h.fits h.last h.now)
  have HFL := Lib.hid (show (fewN n).fl = (n.fl.take 34).map cutM from rfl)
  obtain ⟨p1, c1, rfl, h1, h1c, hra⟩ := h.shape
  unfold maxLen at h1c
  have HFT := Lib.hid h.fits
  obtain ⟨fl, hfl⟩ : ∃ x, n.fl = x := ⟨_, rfl⟩
  obtain ⟨q, hq⟩ : ∃ x, n.last = x := ⟨_, rfl⟩
  obtain ⟨l, hl⟩ : ∃ x, n.now = x := ⟨_, rfl⟩
  rw [hfl] at h1 hra HFL HFT ⊢
  rw [hq, hl] at HEND ⊢
  obtain ⟨nn, hn⟩ : ∃ x, fl.length = x := ⟨_, rfl⟩
  rw [hn] at hra h1 ⊢
  obtain ⟨m, hm⟩ : ∃ m, min nn 34 = m := ⟨_, rfl⟩
  have hmn : m ≤ nn ∧ m ≤ 34 := by omega
  have q1 : min (nn : Int) 34 = (m : Int) := by omega
  have q3 : (m : Int) ≤ (c1 : Int) := by omega
  obtain ⟨L, hL⟩ : ∃ L, fl.take m = L := ⟨_, rfl⟩
  have hLm : L.length = m := by rw [← hL, List.length_take]; omega
  have HLE := Lib.hid (show (fewN n).fl = L.map cutM by rw [HFL.out, ← hL, show fl.take 34 = fl.take m by rw [← hm, List.take_eq_take_iff]; omega])
  have HLM := Lib.hid hLm
  have HLF := Lib.hid (show ∀ x ∈ L, x.fits from fun x hx => HFT.out x (by rw [← hL] at hx; exact List.mem_of_mem_take hx))
  obtain ⟨W, hW⟩ : ∃ W, (w.alloc (.cells #[.slice p1 nn c1, .int .i64 q, .int .i64 l] 24)).alloc (.cells #[nilV, .int .i64 0, .int .i64 0] 24) = W := ⟨_, rfl⟩
  have hb0 : Below w.heap.size w W := by rw [← hW]; exact Below.then (below_new _ _) (below_new _ _)
  have HB0 := Lib.hid hb0
  have hws : W.heap.size = w.heap.size + 2 := by rw [← hW]; simp
  have HA := Lib.hid (show At3 24 W w.heap.size (.slice p1 nn c1) (.int .i64 q) (.int .i64 l) by rw [← hW]; exact (At3.new _ _ _ _ _).keep (below_new _ _))
  have HR := Lib.hid (show At3 24 W (w.heap.size + 1) nilV (.int .i64 0) (.int .i64 0) by
    rw [← hW]
    have e := At3.new 24 (w.alloc (.cells #[.slice p1 nn c1, .int .i64 q, .int .i64 l] 24)) nilV (.int .i64 0) (.int .i64 0)
    rwa [World.size_alloc] at e)
  have HS := Lib.hid (show ∀ w', Below W.heap.size W w' → SrcOf 4 w' (.slice p1 m c1) m (cellsN L) from fun w' hb => by
    have := (((hra.keep hb0).keep hb).take (by rw [List.length_map]; exact hn) m hmn.1).src (by rw [← List.map_take, hL]; exact msWide L) (by decide)
    rw [← List.map_take, hL, List.length_map, hLm] at this
    exact this)
  have HWS := Lib.hid hws
  have HW := Lib.hid hW
  have a0a : ∀ o, (W.alloc o).cell? ⟨w.heap.size, 0, none⟩ = some (.slice p1 nn c1) := fun o => Below.keepc (below_new W o) HA.out.cells.1
  obtain ⟨a0, a1, a2⟩ := HA.out.cells
  clear hW h hra hb0 hn hm hL hLm hfl hq hl hws
  go_enter Try.func7, Try.ntmps7
  go_upto_region 1 with fail
  rw [HW.out]
  go_wp2_with (at_builtin; refine wpList_append_src _ rfl _ _ 22 rfl W.heap.size 30 i0 (.agg #[.int .i64 0, .int .i64 0, .string ⟨#[]⟩, .int .i64 0]) 4 40 Try.underlying22 hi hz0 hz1 hz2 rfl (by decide) _ 0 [] rfl (World.ownsRow_lit W #[] 0 (Nat.le_refl _) (Nat.zero_le _) rfl) _ m (cellsN L) rfl (HS.out _ (below_new _ _)) (ms_one _) (by unfold maxLen; omega) (by omega) (by simp) ?_)
  intro v1 w2 hown2 hgrow2
  have hb2 : Below W.heap.size W w2 := (below_new W _).grown hgrow2 (by simp) (fun _ e => by cases e; exact Nat.le_refl _)
  obtain ⟨s1, t1, rfl, ht1, -⟩ := own_shape hown2
  have HO2 := Lib.hid hown2
  have HB2 := Lib.hid hb2
  have hA2 := HA.out.keep hb2
  obtain ⟨f0, f1, f2⟩ := hA2.free
  clear hown2 hgrow2 a0 a1 a2 a0a hb2
  obtain ⟨a0, a1, a2⟩ := hA2.cells
  have HA2 := Lib.hid hA2
  have HR2 := Lib.hid (HR.out.keep HB2.out)
  clear hA2

  go_upto_region 2 with fail
  obtain ⟨w3, hw3⟩ : ∃ w3, w2.setCell ⟨w.heap.size, 0, none⟩ (.slice s1 m t1) = w3 := ⟨_, rfl⟩
  rw [hw3]
  have HA3 := Lib.hid (show At3 24 w3 w.heap.size (.slice s1 m t1) (.int .i64 q) (.int .i64 l) by
    rw [← hw3]; unfold At3; rw [heap_setCell_same _ _ _ _ _ _ HA2.out]; rfl)
  have HR3 := Lib.hid (show At3 24 w3 (w.heap.size + 1) nilV (.int .i64 0) (.int .i64 0) by
    rw [← hw3]; exact (Below.heap_setCell _ _ _ _ (show w.heap.size + 1 ≠ w.heap.size by omega)).trans HR2.out)
  have HO3 := Lib.hid (show w3.ownsRow W.heap.size 30 4 (.slice s1 m t1) m (cellsN L) by
    rw [← hw3]; exact own_same HO2.out fun g hg => Below.heap_setCell _ _ _ _ (show g ≠ w.heap.size by have := HWS.out; omega))
  have HB3 := Lib.hid (show Below w.heap.size w w3 by rw [← hw3]; exact (Below.then HB0.out HB2.out).setCell (p := ⟨w.heap.size, 0, none⟩) (Nat.le_refl _) _)
  have HSZ := Lib.hid (show W.heap.size ≤ w3.heap.size by rw [← hw3]; simpa using HB2.out.size)
  clear hw3 a0 a1 a2 f0 f1 f2
  obtain ⟨a0, a1, a2⟩ := HA3.out.cells
  go_wp2_with fail
  clear a0 a1 a2
  go_loopw [18] (fun iv wr => ∃ k : Nat, k ≤ m ∧ iv = .int .i64 k ∧ wr.ownsRow W.heap.size 30 4 (.slice s1 m t1) m (cellsN (cutTo L k)) ∧ Below W.heap.size w3 wr) (fun i _ => m - (intOf i).toNat)
  case atStart => exact ⟨0, Nat.zero_le _, rfl, HO3.out, Below.refl _ _⟩
  case round =>
    obtain ⟨k, hk, rfl, ho, hbr⟩ := hrel
    have HOR := Lib.hid ho
    have HBR := Lib.hid hbr
    clear ho hbr
    have hlt0 : w.heap.size < W.heap.size ∧ w.heap.size + 1 < W.heap.size := by have := HWS.out; omega
    by_cases hlt : k < m
    · have k1 : k < L.length := by rw [HLM.out]; exact hlt
      obtain ⟨g, cap, e, hg1, hg2⟩ := HOR.out.form (by omega)
      simp only [Value.slice.injEq, true_and] at e
      obtain ⟨rfl, rfl⟩ := e
      have hcell : ∀ j, j < 4 → wr.cell? ⟨g, k * 4 + j, none⟩ = (msCell L[k])[j]? := fun j hj => (HOR.out.cellAt (k * 4 + j) (by omega)).trans (cutTo_get L k k1 j hj)
      have e0 := hcell 0 (by decide)
      have e1 := hcell 1 (by decide)
      have e2 := hcell 2 (by decide)
      have e3 := hcell 3 (by decide)
      have ST := Lib.hid (fun (wx : World) (hx : wx.ownsRow W.heap.size 30 4 (.slice (some ⟨g, 0, none⟩) m t1) m (cellsN (cutTo L k))) => (hx.stored (k * 4 + 2) (.string (L[k].body.extract 0 (min L[k].body.size 4100)))))
      have HSET := Lib.hid (cutTo_set L k k1)
      have hfx := (HLF.out L[k] (List.getElem_mem k1)).2.2.1
      unfold maxLen at hfx
      obtain ⟨⟨x1, x2, x3, x4⟩, hx⟩ : ∃ x, L[k] = x := ⟨_, rfl⟩
      rw [hx] at e0 e1 e2 e3 ST HSET hfx
      replace e0 : wr.cell? ⟨g, k * 4, none⟩ = some (.int .i64 x1) := e0
      replace e1 : wr.cell? ⟨g, k * 4 + 1, none⟩ = some (.int .i64 x2) := e1
      replace e2 : wr.cell? ⟨g, k * 4 + 2, none⟩ = some (.string x3) := e2
      replace e3 : wr.cell? ⟨g, k * 4 + 3, none⟩ = some (.int .i64 x4) := e3
      simp only at ST HSET hfx
      obtain ⟨z, hz⟩ : ∃ z, min x3.size 4100 = z := ⟨_, rfl⟩
      have q5 : min (x3.size : Int) 4100 = (z : Int) := by omega
      have hzx : z ≤ x3.size := by omega
      rw [hz] at ST HSET
      obtain ⟨W1, hW1⟩ : ∃ W1, wr.alloc (.cells #[.int .i64 x1, .int .i64 x2, .string x3, .int .i64 x4] 30) = W1 := ⟨_, rfl⟩
      obtain ⟨B1, hB1⟩ : ∃ B, wr.heap.size = B := ⟨_, rfl⟩
      have hb1 : Below W.heap.size w3 W1 := by rw [← hW1]; exact HBR.out.alloc (Nat.le_trans HSZ.out HBR.out.size) _
      have HB1 := Lib.hid hb1
      have HX := Lib.hid (show At4 30 W1 B1 (.int .i64 x1) (.int .i64 x2) (.string x3) (.int .i64 x4) by rw [← hW1, ← hB1]; exact At4.new _ _ _ _ _ _)
      have HO1 := Lib.hid (show W1.ownsRow W.heap.size 30 4 (.slice (some ⟨g, 0, none⟩) m t1) m (cellsN (cutTo L k)) by rw [← hW1]; exact HOR.out.alloc _)
      have HW1 := Lib.hid hW1
      have hfz := HO1.out.frozenAt (k * 4 + 2)
      have hec : W1.cell? ⟨g, k * 4 + 2, none⟩ = some (.string x3) := by rw [← hW1]; exact Below.keepc (below_new _ _) e2
      clear hW1 hx hb1 hcell hz
      rcases Nat.eq_zero_or_pos k with rfl | hk0
      · simp only [Nat.zero_mul, Nat.zero_add] at e0 e1 e2 e3 hfz hec
        go_upto_region 5 with fail
        rw [HW1.out]
        clear hB1 e0 e1 e2 e3
        obtain ⟨x0, x1', x2', x3'⟩ := HX.out.cells
        obtain ⟨a0, a1, a2⟩ := (show At3 24 W1 w.heap.size (.slice (some ⟨g, 0, none⟩) m t1) (.int .i64 q) (.int .i64 l) from (HB1.out.block _ hlt0.1).trans HA3.out).cells
        go_region
        go_wp2_with fail
        go_roundw
        case rel => exact ⟨0 + 1, by omega, by go_num, by rw [← HSET.out]; exact (ST.out _ HO1.out.drew).1, HB1.out.drew.setCell (p := ⟨g, _, none⟩) hg1 _⟩
        case measure => simp [intOf]; omega
      · go_upto_region 5 with fail
        rw [HW1.out]
        clear hB1 e0 e1 e2 e3
        obtain ⟨x0, x1', x2', x3'⟩ := HX.out.cells
        obtain ⟨a0, a1, a2⟩ := (show At3 24 W1 w.heap.size (.slice (some ⟨g, 0, none⟩) m t1) (.int .i64 q) (.int .i64 l) from (HB1.out.block _ hlt0.1).trans HA3.out).cells
        go_region
        go_wp2_with fail
        go_roundw
        case rel => exact ⟨k + 1, by omega, by go_num, by rw [← HSET.out]; exact (ST.out _ HO1.out.drew).1, HB1.out.drew.setCell (p := ⟨g, _, none⟩) hg1 _⟩
        case measure => simp [intOf]; omega
    · obtain rfl : k = m := by omega
      obtain ⟨a0, a1, a2⟩ := (show At3 24 wr w.heap.size (.slice s1 k t1) (.int .i64 q) (.int .i64 l) from (HBR.out.block _ hlt0.1).trans HA3.out).cells
      have hRr : At3 24 wr (w.heap.size + 1) nilV (.int .i64 0) (.int .i64 0) := (HBR.out.block _ hlt0.2).trans HR3.out
      obtain ⟨b0, b1, b2⟩ := hRr.cells
      obtain ⟨f0, f1, f2⟩ := hRr.free
      have HRR := Lib.hid hRr
      clear hRr
      go_wp2_with fail
      exact bodyPost_ret (results_cell_row (p := 2) rfl _ _ (w.heap.size + 1) 24 _ (0, 0) _ rfl (HRR.out.set _ _ _) Try.underlying24 rfl infoNet) rfl (HEND.out w3 wr W.heap.size k t1 s1 L HLE.out HLM.out HB3.out (by rw [← HWS.out]; exact HBR.out) (by rw [← HWS.out]; exact Nat.le_refl _) HOR.out)
end Go.Proofs.Ytjjefdgcbdfclaa
