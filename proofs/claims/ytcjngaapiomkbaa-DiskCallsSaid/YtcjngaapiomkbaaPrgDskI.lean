/-
  The program's Flush of a disk, by a contract. Conditions: none.
-/
import Derived.Test.YtcjngaapiomkbaaPrgDskH
namespace Go.Proofs.Ytcjngaapiomkbaa
open Go.RowKit Go.WideShapes

structure RightIs (d : Dsk) : Prop where
  secs : ∀ s ∈ d.secs, s.size = 128
  least : 4 ≤ d.secs.length
  most : d.secs.length ≤ 64
  few : d.dirty.length ≤ 200
  well : ∀ w ∈ d.dirty, 0 ≤ w.1 ∧ w.1 < (d.secs.length : Int) ∧ w.2.size = 128
theorem well_iff (n : Nat) (l : List (Int × ByteArray)) : wellB n l = true ↔ ∀ w ∈ l, 0 ≤ w.1 ∧ w.1 < (n : Int) ∧ w.2.size = 128 := by
  rw [wellB, List.all_eq_true]
  refine forall_congr' fun w => ?_
  refine imp_congr_right fun _ => ?_
  simp only [Bool.and_eq_true, decide_eq_true_eq, beq_iff_eq]
  exact ⟨fun h => ⟨h.1.1, h.1.2, h.2⟩, fun h => ⟨⟨h.1, h.2.1⟩, h.2.2⟩⟩
theorem right_iff (d : Dsk) : d.right = true ↔ RightIs d := by
  unfold Dsk.right
  simp only [Bool.and_eq_true, decide_eq_true_eq, List.all_eq_true, beq_iff_eq, well_iff]
  exact ⟨fun ⟨⟨⟨⟨h1, h2⟩, h3⟩, h4⟩, h5⟩ => ⟨h1, h2, h3, h4, h5⟩, fun h => ⟨⟨⟨⟨h.secs, h.least⟩, h.most⟩, h.few⟩, h.well⟩⟩
theorem standsL_size (k : Nat) : ∀ (l : List (Int × ByteArray)) (s : ByteArray), s.size = 128 → (∀ w ∈ l, w.2.size = 128) → (standsL k s l).size = 128
  | [], _, h, _ => h
  | w :: l, s, h, hw => by
    refine standsL_size k l _ ?_ fun x hx => hw x (List.mem_cons_of_mem _ hx)
    split
    · exact hw w (List.mem_cons_self ..)
    · exact h
theorem sec_size {d : Dsk} (h : RightIs d) {k : Nat} (hk : k < d.secs.length) : (d.secs.getD k ⟨#[]⟩).size = 128 := by
  rw [List.getD_eq_getElem?_getD, List.getElem?_eq_getElem hk]
  exact h.secs _ (List.getElem_mem hk)
theorem stands_size {d : Dsk} (h : RightIs d) {k : Nat} (hk : k < d.secs.length) : (d.stands k).size = 128 := standsL_size k _ _ (sec_size h hk) fun w hw => (h.well w hw).2.2
theorem dleft_size {d : Dsk} (h : RightIs d) (fs : List Int) {k : Nat} (hk : k < d.secs.length) : (d.left k fs).size = 128 := left_size k _ _ _ (sec_size h hk) fun w hw => (h.well w hw).2.2

/-- The disk of these sectors. -/
def clean (n : Nat) (f : Nat → ByteArray) : Dsk := ⟨(List.range n).map f, []⟩
theorem clean_at {w : World} {g n : Nat} {f : Nat → ByteArray} (hg : ∀ i, i < n → w.cell? ⟨g, i, none⟩ = some (.string (f i))) (hn : 0 < n) (c : Nat) (hc : n ≤ c) (hm : c ≤ maxLen) (hz : ∀ i, i < n → (f i).size = 128) :
    DskAt w (.agg #[.slice (some ⟨g, 0, none⟩) n c, nilV]) (clean n f) := by
  refine ⟨⟨_, _, rfl, Or.inr ⟨g, 0, c, by simp [clean], by simp [clean]; exact hn, by simp [clean]; exact hc, hm, fun i hi => ?_⟩, Or.inl ⟨rfl, Or.inl rfl⟩⟩, fun s hs => ?_, fun l hl => (by cases hl)⟩
  · have hi' : i < n := by simpa [clean] using hi
    rw [Nat.zero_add, hg i hi']
    simp [clean]
  · simp only [clean, List.mem_map, List.mem_range] at hs
    obtain ⟨i, hi, rfl⟩ := hs
    rw [hz i hi]; unfold maxLen; decide

def flushD (d : Dsk) : Dsk × Int := if d.right then (clean d.secs.length d.stands, 0) else (emptyD, 1)
set_option maxRecDepth 100000 in
set_option maxHeartbeats 4000000 in
theorem Flush_t (v : Value) (d : Dsk) (w : World) (h : DskAt w v d) : Calls Try.prog 11 #[v] w (DskOut (flushD d) w) := by
  obtain ⟨i0, hi, hz0, hz1, hz2⟩ := info_parts infoStr
  have HV := Lib.hid h
  obtain ⟨a, c, a', c', rfl, -, -⟩ := h.shape
  have R := Lib.hid (fun w (h : DskAt w (.agg #[.slice a d.secs.length c, .slice a' d.dirty.length c']) d) => Right_t _ d w h)
  have S := Lib.hid (fun (k : Nat) w (h : DskAt w (.agg #[.slice a d.secs.length c, .slice a' d.dirty.length c']) d) (hk : k < d.secs.length) => standing_t _ d k w h hk)
  have HE := Lib.hid (show flushD d = if d.right then (clean d.secs.length d.stands, 0) else (emptyD, 1) from rfl)
  have HR := Lib.hid (right_iff d)
  obtain ⟨r, hr⟩ : ∃ r, d.right = r := ⟨_, rfl⟩
  obtain ⟨n, hn⟩ : ∃ r, d.secs.length = r := ⟨_, rfl⟩
  obtain ⟨n', hn'⟩ : ∃ r, d.dirty.length = r := ⟨_, rfl⟩
  rw [hr] at HE R HR
  rw [hn] at R S HV HE ⊢
  rw [hn'] at R S HV ⊢
  have HN := Lib.hid hn
  obtain ⟨W, hW⟩ : ∃ W, (w.alloc (.cells #[.slice a n c, .slice a' n' c'] 25)).alloc (.cells #[nilV, nilV] 25) = W := ⟨_, rfl⟩
  have hsz : W.heap.size = w.heap.size + 1 + 1 := by rw [← hW]; simp
  have HB := Lib.hid (show Below w.heap.size w W by rw [← hW]; exact Below.then (below_new _ _) (below_new _ _))
  have HA := Lib.hid (show At2 25 W w.heap.size (.slice a n c) (.slice a' n' c') by rw [← hW]; exact (At2.new _ _ _ _).keep (below_new _ _))
  have HC := Lib.hid (show At2 25 W (w.heap.size + 1) nilV nilV by
    rw [← hW]
    have e := At2.new 25 (w.alloc (.cells #[.slice a n c, .slice a' n' c'] 25)) nilV nilV
    rwa [World.size_alloc] at e)
  have HW := Lib.hid hW
  have R1 := Lib.hid (R.out W (HV.out.keep HB.out))
  clear hW h hr hn hn' R
  go_enter Try.func11, Try.ntmps11
  go_upto_region 1 with fail
  rw [HW.out]
  obtain ⟨a0, a1⟩ := HA.out.cells
  go_wp2_with fail
  refine R1.out.mono ?_
  rintro e w1 ⟨rfl, hb1⟩
  have HB1 := Lib.hid hb1
  have HA1 := Lib.hid (HA.out.keep hb1)
  have HC1 := Lib.hid (HC.out.keep hb1)
  clear hb1 a0 a1 R1
  cases r with
  | false =>
    have HO := Lib.hid (show flushD d = (emptyD, 1) by rw [HE.out]; rfl)
    obtain ⟨b0, b1⟩ := HC1.out.cells
    obtain ⟨f0, f1⟩ := HC1.out.free
    go_wp2_with fail
    exact bodyPost_ret (results_dsk (p := 2) (u := 3) rfl _ _ (w.heap.size + 1) _ _ rfl (HC1.out.set _ _)) rfl ⟨_, by rw [HO.out]; rfl, by rw [HO.out]; exact emptyD_at _, set2_below (Below.then HB.out HB1.out) (by omega) _ _⟩
  | true =>
    have HRI := Lib.hid (HR.out.1 rfl)
    have hn : 4 ≤ n ∧ n ≤ 64 := by rw [← HN.out]; exact ⟨HRI.out.least, HRI.out.most⟩
    have HO := Lib.hid (show flushD d = (clean n d.stands, 0) by rw [HE.out]; rfl)
    obtain ⟨W2, hW2⟩ : ∃ W2, w1.alloc (.cells (madeCells #[.string ⟨#[]⟩] n) 9) = W2 := ⟨_, rfl⟩
    have HI := Lib.hid (show W2.rowIs w1.heap.size 9 n (fun _ => .string ⟨#[]⟩) by rw [← hW2]; exact World.rowIs_made _ _ _ _)
    have HB2 := Lib.hid (show Below W.heap.size W W2 by rw [← hW2]; exact Below.then HB1.out (below_new _ _))
    have hg : W.heap.size ≤ w1.heap.size := HB1.out.size
    have HW2 := Lib.hid hW2
    obtain ⟨a0, a1⟩ := HA1.out.cells
    clear hW2
    go_wp2_with (at_make; refine wpList_make_row _ rfl _ _ 22 rfl 9 i0 (.string ⟨#[]⟩) Try.underlying22 hi hz0 hz1 rfl .i64 .i64 n rfl rfl (by rw [hz2]; omega) (by omega) ?_; rw [HW2.out])
    obtain ⟨g, hgg⟩ : ∃ g, w1.heap.size = g := ⟨_, rfl⟩
    rw [hgg] at hg HI ⊢
    clear hgg a0 a1
    go_loopw [16] (fun iv wr => ∃ k : Nat, k ≤ n ∧ iv = .int .i64 k ∧ wr.rowIs g 9 n (fun i => if i < k then .string (d.stands i) else .string ⟨#[]⟩) ∧ Below W.heap.size W wr) (fun i _ => n - (intOf i).toNat)
    case atStart => exact ⟨0, Nat.zero_le _, rfl, by simpa using HI.out, HB2.out⟩
    case round =>
      obtain ⟨k, hk, rfl, hrow, hb⟩ := hrel
      have HRW := Lib.hid hrow
      have HBR := Lib.hid hb
      have HAR := Lib.hid (HA.out.keep hb)
      obtain ⟨a0, a1⟩ := HAR.out.cells
      clear hrow hb
      by_cases hlt : k < n
      · have S1 := Lib.hid (S.out k wr (HV.out.keep (Below.then HB.out HBR.out)) hlt)
        go_wp2_with fail
        refine S1.out.mono ?_
        rintro e w3 ⟨rfl, hb3⟩
        have HRW3 := Lib.hid (HRW.out.of_block (hb3.block g HRW.out.lt))
        have HBR3 := Lib.hid (Below.then HBR.out hb3)
        have c0 := HRW3.out.cell (i := k) hlt
        have fz := HRW3.out.frozen k
        obtain ⟨z, hz⟩ : ∃ z, (if k < k then Value.string (d.stands k) else .string ⟨#[]⟩) = z := ⟨_, rfl⟩
        rw [hz] at c0
        have HSet := Lib.hid (HRW3.out.set k (.string (d.stands k)))
        have HN2 := Lib.hid (show (w3.setCell ⟨g, k, none⟩ (.string (d.stands k))).rowIs g 9 n (fun i => if i < k + 1 then .string (d.stands i) else .string ⟨#[]⟩) from HSet.out.congr fun i hi => by
          show (if i = k then _ else if i < k then _ else _) = _
          by_cases e : i = k
          · rw [if_pos e, if_pos (by omega), e]
          · rw [if_neg e]
            by_cases e2 : i < k
            · rw [if_pos e2, if_pos (by omega)]
            · rw [if_neg e2, if_neg (by omega)])
        have HB4 := Lib.hid (HBR3.out.setCell (p := ⟨g, k, none⟩) hg (.string (d.stands k)))
        clear hb3 hz
        go_wp2_with fail
        go_roundw
        case rel => exact ⟨k + 1, by omega, by go_num, HN2.out, HB4.out⟩
        case measure => simp [intOf]; omega
      · obtain rfl : k = n := by omega
        have HCR := Lib.hid (HC.out.keep HBR.out)
        obtain ⟨b0, b1⟩ := HCR.out.cells
        obtain ⟨f0, f1⟩ := HCR.out.free
        have HX := Lib.hid (clean_at (w := wr) (g := g) (n := k) (f := d.stands) (fun i hi => by
          have := HRW.out.cell (i := i) hi
          simpa [hi] using this) (by omega) k (Nat.le_refl _) (by unfold maxLen; omega) (fun i hi => stands_size HRI.out (by rw [HN.out]; exact hi)))
        go_wp2_with fail
        exact bodyPost_ret (results_dsk (p := 2) (u := 3) rfl _ _ (w.heap.size + 1) _ _ rfl (HCR.out.set _ _)) rfl ⟨_, by rw [HO.out]; rfl, by rw [HO.out]; exact HX.out.ns (set2_ns HCR.out isSl_nil isSl_nil _ _), set2_below (Below.then HB.out HBR.out) (by omega) _ _⟩
end Go.Proofs.Ytcjngaapiomkbaa
