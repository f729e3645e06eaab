/-
  The program's Crash of a disk, by a contract. Conditions: none.
-/
import Derived.Test.YtkplpodljmlanaaGreatDoorZDsk2
import Derived.Lib.MinMax
/-! The program's Crash of a disk, by a contract. Conditions: none. -/
namespace Go.Proofs.YtkplpodljmlanaaGreatDoor
open Go.RowKit Go.WideShapes

/-- The first n cells of block g are these strings. -/
def RowF (w : World) (g n : Nat) (f : Nat → ByteArray) : Prop := ∃ cur : Array Value, w.heap[g]? = some (.cells cur 9 (0, 0)) ∧ n ≤ cur.size ∧ ∀ i, i < n → cur[i]? = some (.string (f i))
theorem RowF.cell {w : World} {g n : Nat} {f : Nat → ByteArray} (h : RowF w g n f) {i : Nat} (hi : i < n) : w.cell? ⟨g, i, none⟩ = some (.string (f i)) := by
  obtain ⟨c, hb, _, hc⟩ := h
  simp [World.cell?, hb, hc i hi]
theorem RowF.frozen {w : World} {g n : Nat} {f : Nat → ByteArray} (h : RowF w g n f) (i : Nat) : w.frozen? ⟨g, i, none⟩ = false := by
  obtain ⟨c, hb, _, _⟩ := h
  simp [World.frozen?, hb]
theorem RowF.lt {w : World} {g n : Nat} {f : Nat → ByteArray} (h : RowF w g n f) : g < w.heap.size := by
  obtain ⟨c, hb, _, _⟩ := h
  exact (Array.getElem?_eq_some_iff.1 hb).1
theorem RowF.keep {w w' : World} {g n : Nat} {f : Nat → ByteArray} (h : RowF w g n f) (hb : Below w.heap.size w w') : RowF w' g n f := by
  obtain ⟨c, h1, h2⟩ := h
  exact ⟨c, (hb.block g (Array.getElem?_eq_some_iff.1 h1).1).trans h1, h2⟩
theorem RowF.congr {w : World} {g n : Nat} {f f' : Nat → ByteArray} (h : RowF w g n f) (e : ∀ i, i < n → f i = f' i) : RowF w g n f' := by
  obtain ⟨c, h1, h2, h3⟩ := h
  exact ⟨c, h1, h2, fun i hi => by rw [h3 i hi, e i hi]⟩
theorem RowF.set {w : World} {g n : Nat} {f : Nat → ByteArray} (h : RowF w g n f) (i : Nat) (v : ByteArray) : RowF (w.setCell ⟨g, i, none⟩ (.string v)) g n (fun j => if j = i then v else f j) := by
  obtain ⟨c, hb, hn, hc⟩ := h
  refine ⟨c.setIfInBounds i (.string v), ?_, by simpa using hn, fun j hj => ?_⟩
  · simp [World.setCell, Array.getElem?_modify, hb]
  · rw [Array.getElem?_setIfInBounds]
    by_cases e : j = i
    · subst e
      have : j < c.size := by omega
      simp [this]
    · rw [if_neg (fun h => e h.symm), hc j hj]
      show _ = some (Value.string (if j = i then v else f j))
      rw [if_neg e]
theorem RowF.of_own {w : World} {B n g c : Nat} {ss : List ByteArray} (h : w.ownsRow B 9 1 (.slice (some ⟨g, 0, none⟩) n c) n (ss.map Value.string)) (hn : ss.length = n) : RowF w g n (fun i => ss.getD i ⟨#[]⟩) ∧ B ≤ g ∧ n ≤ c ∧ c ≤ maxLen := by
  rcases h.2 with ⟨e, _⟩ | ⟨g', cap, cur, e, hb, hg, h1, h2, h3, h4⟩
  · cases e
  · simp only [Value.slice.injEq, Option.some.injEq, Addr.mk.injEq, and_true, true_and] at e
    obtain ⟨rfl, rfl⟩ := e
    refine ⟨⟨cur, hg, by omega, fun i hi => ?_⟩, hb, h1, h2⟩
    have : (cur.toList.take (n * 1))[i]? = (ss.map Value.string)[i]? := by rw [h4]
    rw [List.getElem?_take, if_pos (by omega), Array.getElem?_toList, List.getElem?_map, List.getElem?_eq_getElem (by omega)] at this
    rw [this]
    show _ = some (Value.string (ss.getD i ⟨#[]⟩))
    rw [List.getD_eq_getElem?_getD, List.getElem?_eq_getElem (by omega)]
    rfl
theorem PairsAt.shape2 {w : World} {v : Value} {l : List (Value × Value)} (h : PairsAt w v l) : ∃ a cap, v = .slice a l.length cap ∧ l.length ≤ cap ∧ cap ≤ maxLen ∧ (a = none → l = [] ∧ cap = 0) := by
  rcases h with ⟨rfl, rfl | ⟨a, cap, rfl, hc⟩⟩ | ⟨b, o, cap, rfl, h2, h3, h4, -⟩
  · exact ⟨none, 0, rfl, Nat.le_refl _, by decide, fun _ => ⟨rfl, rfl⟩⟩
  · exact ⟨_, _, rfl, Nat.zero_le _, hc, fun h => by cases h⟩
  · exact ⟨_, _, rfl, h3, h4, fun h => by cases h⟩

theorem cell_other {w : World} {g i b j : Nat} (h : b ≠ g) (v : Value) : (w.setCell ⟨g, i, none⟩ v).cell? ⟨b, j, none⟩ = w.cell? ⟨b, j, none⟩ := World.cell?_of_block (Below.heap_setCell _ _ _ _ h)

def crashD (d : Dsk) (fs : List Int) : Dsk × Int := if d.right then (clean d.secs.length (fun k => d.left k fs), 0) else (emptyD, 1)
/-- A sector when k writes have had their fates. -/
def partC (d : Dsk) (fs : List Int) (k i : Nat) : ByteArray := leftL i (d.secs.getD i ⟨#[]⟩) (d.dirty.take k) fs
theorem partC_all (d : Dsk) (fs : List Int) (k i : Nat) (hk : k = min d.dirty.length fs.length) : partC d fs k i = d.left i fs := by
  unfold partC Dsk.left
  rcases Nat.le_total d.dirty.length fs.length with h | h
  · rw [List.take_of_length_le (by omega)]
  · exact left_most i _ _ _ _ (by omega)
theorem partC_size {d : Dsk} (h : RightIs d) (fs : List Int) (k : Nat) {i : Nat} (hi : i < d.secs.length) : (partC d fs k i).size = 128 := left_size i _ _ _ (sec_size h hi) fun w hw => (h.well w (List.mem_of_mem_take hw)).2.2
theorem partC_step (d : Dsk) (fs : List Int) (k i : Nat) (hk : k < d.dirty.length) (hf : k < fs.length) : partC d fs (k + 1) i = if d.dirty[k].1 = (i : Int) then fateB fs[k] (partC d fs k i) d.dirty[k].2 else partC d fs k i := by
  unfold partC
  rw [List.take_succ_eq_append_getElem hk, leftL_snoc]
  have hl : (d.dirty.take k).length = k := by rw [List.length_take]; omega
  simp only [hl, hf, dif_pos]
  rfl

set_option maxRecDepth 100000 in
set_option maxHeartbeats 4000000 in
theorem Crash_t (v fv : Value) (d : Dsk) (fs : List Int) (w : World) (h : DskAt w v d) (hf : IntsAt w fv fs) : Calls Tryz.prog 31 #[v, fv] w (DskOut (crashD d fs) w) := by
  have HV := Lib.hid h
  have HF := Lib.hid hf
  obtain ⟨fa, fc, rfl, -, hfl⟩ := hf.shape
  unfold maxLen at hfl
  obtain ⟨a, c, a', c', hcap, hnil, rfl⟩ : ∃ a c a' c', d.dirty.length ≤ c' ∧ (a' = none → d.dirty = [] ∧ c' = 0) ∧ v = .agg #[.slice a d.secs.length c, .slice a' d.dirty.length c'] := by
    obtain ⟨⟨sv, dv, rfl, h1, h2⟩, -, -⟩ := h
    obtain ⟨a, c, rfl, -, h3⟩ := h1.shape
    obtain ⟨a', c', rfl, h4, -, h5⟩ := h2.shape2
    rw [List.length_map] at h4 ⊢
    exact ⟨a, c, a', c', h4, fun e => ⟨List.map_eq_nil_iff.1 (h5 e).1, (h5 e).2⟩, rfl⟩
  have R := Lib.hid (fun w (h : DskAt w (.agg #[.slice a d.secs.length c, .slice a' d.dirty.length c']) d) => Right_t _ d w h)
  have HE := Lib.hid (show crashD d fs = if d.right then (clean d.secs.length (fun k => d.left k fs), 0) else (emptyD, 1) from rfl)
  have HR := Lib.hid (right_iff d)
  have HALL := Lib.hid (fun k i hk => partC_all d fs k i hk)
  obtain ⟨r, hr⟩ : ∃ r, d.right = r := ⟨_, rfl⟩
  obtain ⟨n, hn⟩ : ∃ r, d.secs.length = r := ⟨_, rfl⟩
  obtain ⟨n', hn'⟩ : ∃ r, d.dirty.length = r := ⟨_, rfl⟩
  obtain ⟨nf, hnf⟩ : ∃ r, fs.length = r := ⟨_, rfl⟩
  rw [hr] at HE R HR
  rw [hn] at R HV HE ⊢
  rw [hn'] at R HV HALL hcap ⊢
  rw [hnf] at HF HALL hfl ⊢
  have HN := Lib.hid (And.intro hn (And.intro hn' hnf))
  have HNIL := Lib.hid hnil
  obtain ⟨W, hW⟩ : ∃ W, (w.alloc (.cells #[.slice a n c, .slice a' n' c'] 25)).alloc (.cells #[nilV, nilV] 25) = W := ⟨_, rfl⟩
  have hsz : W.heap.size = w.heap.size + 1 + 1 := by rw [← hW]; simp
  have HB := Lib.hid (show Below w.heap.size w W by rw [← hW]; exact Below.then (below_new _ _) (below_new _ _))
  have HA := Lib.hid (show At2 25 W w.heap.size (.slice a n c) (.slice a' n' c') by rw [← hW]; exact (At2.new _ _ _ _).keep (below_new _ _))
  have HC := Lib.hid (show At2 25 W (w.heap.size + 1) nilV nilV by
    rw [← hW]
    have e := At2.new 25 (w.alloc (.cells #[.slice a n c, .slice a' n' c'] 25)) nilV nilV
    rwa [World.size_alloc] at e)
  have HW := Lib.hid hW
  have R1 := Lib.hid (R.out W (HV.out.keep HB.out))
  clear hW h hf hr hn hn' hnf R hnil
  go_enter Tryz.func31, Tryz.ntmps31
  go_upto_region 1 with fail
  rw [HW.out]
  obtain ⟨a0, a1⟩ := HA.out.cells
  go_wp2_with fail
  refine R1.out.mono ?_
  rintro e w1 ⟨rfl, hb1⟩
  have HB1 := Lib.hid hb1
  have HA1 := Lib.hid (HA.out.keep hb1)
  have HC1 := Lib.hid (HC.out.keep hb1)
  clear hb1 a0 a1 R1
  cases r with
  | false =>
    have HO := Lib.hid (show crashD d fs = (emptyD, 1) by rw [HE.out]; rfl)
    obtain ⟨b0, b1⟩ := HC1.out.cells
    obtain ⟨f0, f1⟩ := HC1.out.free
    go_wp2_with fail
    exact bodyPost_ret (results_dsk (p := 4) (u := 5) rfl _ _ (w.heap.size + 1) _ _ rfl (HC1.out.set _ _)) rfl ⟨_, by rw [HO.out]; rfl, by rw [HO.out]; exact emptyD_at _, set2_below (Below.then HB.out HB1.out) (by omega) _ _⟩
  | true =>
    have HRI := Lib.hid (HR.out.1 rfl)
    have hn : 4 ≤ n ∧ n ≤ 64 ∧ n' ≤ 200 := by rw [← HN.out.1, ← HN.out.2.1]; exact ⟨HRI.out.least, HRI.out.most, HRI.out.few⟩
    have HO := Lib.hid (show crashD d fs = (clean n (fun k => d.left k fs), 0) by rw [HE.out]; rfl)
    have CL := Lib.hid (show Calls Tryz.prog 39 #[.slice a n c] w1 fun e w4 => ∃ g c2, e = .returned (.slice (some ⟨g, 0, none⟩) n c2) ∧ RowF w4 g n (partC d fs 0) ∧ w1.heap.size ≤ g ∧ n ≤ c2 ∧ c2 ≤ maxLen ∧ Below w1.heap.size w1 w4 from by
      have hs : StrsAt w1 (.slice a n c) d.secs := by
        obtain ⟨⟨sv, dv, e, h1, -⟩, -, -⟩ := HV.out.keep (Below.then HB.out HB1.out)
        simp only [Value.agg.injEq, Array.mk.injEq, List.cons.injEq, and_true] at e
        exact e.1 ▸ h1
      have := Clone_t a c d.secs w1 (by rw [HN.out.1]; exact hs) (by rw [HN.out.1]; omega) (by rw [HN.out.1]; omega)
      rw [HN.out.1] at this
      refine this.mono ?_
      rintro e w4 ⟨g, c2, rfl, hown, hb⟩
      obtain ⟨k1, k2, k3, k4⟩ := RowF.of_own hown HN.out.1
      exact ⟨g, c2, rfl, k1.congr (fun i _ => rfl), k2, k3, k4, hb⟩)
    obtain ⟨a0, a1⟩ := HA1.out.cells
    clear HR
    go_wp2_with fail
    refine CL.out.mono ?_
    rintro e w2 ⟨g, c2, rfl, hrow, hg, hc2, hm2, hb2⟩
    have HROW := Lib.hid hrow
    have HB2 := Lib.hid (Below.then HB1.out hb2)
    have HA2 := Lib.hid (HA1.out.keep hb2)
    have hgW : W.heap.size ≤ g := Nat.le_trans HB1.out.size hg
    have hc63 : c2 ≤ 9223372036854775807 := by unfold maxLen at hm2; omega
    have HM2 := Lib.hid hm2
    clear hrow hb2 a0 a1 CL hg hm2
    obtain ⟨a0, a1⟩ := HA2.out.cells
    obtain ⟨K, hK⟩ : ∃ K, min n' nf = K := ⟨_, rfl⟩
    have hKn : K ≤ n' ∧ K ≤ nf := by omega
    have hmin : min (n' : Int) (nf : Int) = (K : Int) := by omega
    have HK := Lib.hid hK
    have hD : PairsAt w (.slice a' n' c') (d.dirty.map writeCell) := by
      obtain ⟨⟨sv, dv, e, -, h1⟩, -, -⟩ := HV.out
      simp only [Value.agg.injEq, Array.mk.injEq, List.cons.injEq, and_true] at e
      exact e.2 ▸ h1
    have HD := Lib.hid hD
    clear hK hD
    go_wp2_with fail
    clear a0 a1
    go_loopw [26] (fun iv wr => ∃ k : Nat, k ≤ K ∧ iv = .int .i64 k ∧ RowF wr g n (partC d fs k) ∧ Below W.heap.size W wr) (fun i _ => K - (intOf i).toNat)
    case atStart => exact ⟨0, Nat.zero_le _, rfl, HROW.out, HB2.out⟩
    case round =>
      obtain ⟨k, hk, rfl, hrow, hb⟩ := hrel
      have HRW := Lib.hid hrow
      have HBR := Lib.hid hb
      clear hrow hb
      by_cases hlt : k < K
      · have hkd : k < d.dirty.length := by rw [HN.out.2.1]; omega
        have hkf : k < fs.length := by rw [HN.out.2.2]; omega
        obtain ⟨b, o, rfl, e0, e1⟩ := HD.out.at k (by rw [List.length_map]; exact hkd)
        rw [write_getElem d.dirty k hkd] at e0 e1
        obtain ⟨fb, fo, rfl, g0⟩ := HF.out.at k hkf
        have HST := Lib.hid (fun i => partC_step d fs k i hkd hkf)
        have hw := HRI.out.well _ (List.getElem_mem hkd)
        rw [HN.out.1] at hw
        obtain ⟨⟨ax, x⟩, hx⟩ : ∃ x, d.dirty[k] = x := ⟨_, rfl⟩
        obtain ⟨f, hff⟩ : ∃ x, fs[k] = x := ⟨_, rfl⟩
        rw [hx] at e0 e1 HST hw
        rw [hff] at g0 HST
        simp only at e0 e1 HST hw
        obtain ⟨ka, rfl⟩ : ∃ ka : Nat, ax = (ka : Int) := ⟨ax.toNat, by omega⟩
        have hka : ka < n := by omega
        have hka' : (ka : Int) < (n : Int) := by omega
        have hxz := hw.2.2
        obtain ⟨s, hs⟩ : ∃ s, partC d fs k ka = s := ⟨_, rfl⟩
        have hsz1 : s.size = 128 := by rw [← hs]; exact partC_size HRI.out fs k (by rw [HN.out.1]; exact hka)
        have HS := Lib.hid hs
        have HSZ := Lib.hid (And.intro hsz1 hxz)
        have HFB := Lib.hid (show fb ≠ g by have := World.block_lt_of_cell? _ _ g0; have : fb < w.heap.size := this; omega)
        have kc : ∀ {p : Addr} {v : Value}, w.cell? p = some v → wr.cell? p = some v := fun h => Below.keepc (Below.then HB.out HBR.out) h
        have v0 := kc e0
        have v1 := kc e1
        have y0 := kc g0
        clear e0 e1 g0 kc hx hff hw hs hsz1 hxz
        obtain ⟨W1, hW1⟩ : ∃ W1, wr.alloc (.cells #[.int .i64 ka, .string x] 48) = W1 := ⟨_, rfl⟩
        have hb1 : Below wr.heap.size wr W1 := by rw [← hW1]; exact below_new _ _
        have HX := Lib.hid (show At2 48 W1 wr.heap.size (.int .i64 ka) (.string x) by rw [← hW1]; exact At2.new _ _ _ _)
        have HW1 := Lib.hid hW1
        have HBR1 := Lib.hid (Below.then HBR.out hb1)
        have hrow1 := HRW.out.keep hb1
        have HR1 := Lib.hid hrow1
        have s0 := hrow1.cell hka
        rw [HS.out] at s0
        have s1 := hrow1.frozen ka
        have y1 := Below.keepc hb1 y0
        obtain ⟨x0, x1⟩ := HX.out.cells
        have HNE := Lib.hid (show wr.heap.size ≠ g ∧ fb ≠ g from ⟨by have := HRW.out.lt; omega, HFB.out⟩)
        have LF := Lib.hid (show ∀ w3, Below W1.heap.size W1 w3 → Calls Tryz.prog 55 #[.int .i64 f, .string s, .string x] w3 fun e w4 => e = .returned (.string (fateB f s x)) ∧ Below W1.heap.size W1 w4 ∧ w4.cell? ⟨g, ka, none⟩ = some (.string s) ∧ w4.frozen? ⟨g, ka, none⟩ = false ∧ w4.cell? ⟨wr.heap.size, 0, none⟩ = some (.int .i64 ka) ∧ w4.cell? ⟨wr.heap.size, 1, none⟩ = some (.string x) ∧ w4.cell? ⟨fb, fo + k, none⟩ = some (.int .i64 f) ∧ (w4.setCell ⟨g, ka, none⟩ (.string (fateB f s x))).cell? ⟨wr.heap.size, 0, none⟩ = some (.int .i64 ka) ∧ (w4.setCell ⟨g, ka, none⟩ (.string (fateB f s x))).cell? ⟨wr.heap.size, 1, none⟩ = some (.string x) ∧ (w4.setCell ⟨g, ka, none⟩ (.string (fateB f s x))).cell? ⟨fb, fo + k, none⟩ = some (.int .i64 f) from fun w3 h3 => (left_t f s x w3 HSZ.out.1 HSZ.out.2).mono fun e w4 h4 => by
          have h5 := Below.then h3 h4.2
          exact ⟨h4.1, h5, Below.keepc h5 s0, (HR1.out.keep h5).frozen ka, Below.keepc h5 x0, Below.keepc h5 x1, Below.keepc h5 y1, (cell_other HNE.out.1 _).trans (Below.keepc h5 x0), (cell_other HNE.out.1 _).trans (Below.keepc h5 x1), (cell_other HNE.out.2 _).trans (Below.keepc h5 y1)⟩)
        have hbr := Below.refl W1.heap.size W1
        have hkn : (k : Int) < (nf : Int) := by omega
        have HNX := Lib.hid (fun (w4 : World) (h : Below W1.heap.size W1 w4) => show RowF (w4.setCell ⟨g, ka, none⟩ (.string (fateB f s x))) g n (partC d fs (k + 1)) from ((HR1.out.keep h).set ka (fateB f s x)).congr fun i _ => by
          rw [HST.out i]
          show (if i = ka then _ else _) = _
          by_cases e : i = ka
          · subst e
            rw [if_pos rfl, if_pos rfl, HS.out]
          · rw [if_neg e, if_neg (by omega)])
        clear hb1 hW1 hrow1
        go_upto_region 7 with fail
        rw [HW1.out]
        go_region_law (first | (go_simp; go_at_call 55; refine (LF.out _ (by first | exact hbr | exact hbr.drew)).mono ?_; rintro e wL ⟨rfl, hbL, s0, s1, x0, x1, y1, z0, z1, z2⟩))
        all_goals
          have HN1 := Lib.hid (HNX.out _ hbL)
          have HB4 := Lib.hid ((Below.then HBR1.out hbL).setCell (p := ⟨g, ka, none⟩) hgW (.string (fateB f s x)))
          go_wp2_with fail
          go_roundw
          case rel => exact ⟨k + 1, by omega, by go_num, HN1.out, HB4.out⟩
          case measure => simp [intOf]; omega
      · obtain rfl : k = K := by omega
        have HCR := Lib.hid (HC.out.keep HBR.out)
        obtain ⟨b0, b1⟩ := HCR.out.cells
        obtain ⟨f0, f1⟩ := HCR.out.free
        have HX := Lib.hid (clean_at (w := wr) (g := g) (n := n) (f := fun i => d.left i fs) (fun i hi => by rw [HRW.out.cell hi, HALL.out _ _ HK.out.symm]) (by omega) c2 hc2 HM2.out (fun i hi => dleft_size HRI.out fs (by rw [HN.out.1]; exact hi)))
        go_wp2_with fail
        exact bodyPost_ret (results_dsk (p := 4) (u := 5) rfl _ _ (w.heap.size + 1) _ _ rfl (HCR.out.set _ _)) rfl ⟨_, by rw [HO.out]; rfl, by rw [HO.out]; exact HX.out.ns (set2_ns HCR.out isSl_nil isSl_nil _ _), set2_below (Below.then HB.out HBR.out) (by omega) _ _⟩
end Go.Proofs.YtkplpodljmlanaaGreatDoor
