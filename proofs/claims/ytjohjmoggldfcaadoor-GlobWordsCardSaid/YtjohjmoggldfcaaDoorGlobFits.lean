/-
  A text gone through by pieces, by contracts. Conditions: a text of at most 200 bytes.
-/
import Derived.Test.YtjohjmoggldfcaaDoorGlobWords
namespace Go.Proofs.YtjohjmoggldfcaaDoor
open Go.RowKit

/-- The value v is a slice that reads as the pieces ps, of which there is one at least. -/
def PcRow (w : World) (v : Value) (ps : List Pc) : Prop :=
  ∃ b o cap, v = .slice (some ⟨b, o, none⟩) ps.length cap ∧ ps.length ≤ 1000 ∧ ∀ i (h : i < ps.length), ∃ u, w.cell? ⟨b, o + i, none⟩ = some u ∧ PcV w u ps[i]

/-- The first place alone. -/
theorem zero_first : Tryd.zeroCells56.setIfInBounds 0 (.bool true) = placesV (fun i => i == 0) := by
  rw [zero_places]
  apply Array.ext_getElem?
  intro i
  by_cases hi : i < 201
  · rw [placesV_at _ i hi, Array.getElem?_setIfInBounds]
    by_cases h0 : i = 0
    · subst h0; simp [placeAt]
    · rw [if_neg (fun e => h0 e.symm)]
      simp [hi, placeAt, h0]
  · rw [Array.getElem?_eq_none (by simp; omega), Array.getElem?_eq_none (by rw [placesV_size]; omega)]
theorem fits_start (s : List UInt8) (j : Nat) (hj : j ≤ s.length) : ((j == 0) = true ↔ fitsB [] (s.take j) = true) := by
  rw [fitsB_nil, beq_iff_eq]
  constructor
  · rintro rfl; simp
  · intro h
    have := congrArg List.length h
    rw [List.length_take, List.length_nil] at this
    omega

set_option maxRecDepth 100000 in
set_option maxHeartbeats 4000000 in
theorem fits_any (ps : List Pc) (v : Value) (s : ByteArray) (w : World) (hs : s.size ≤ 200) (hv : PcRow w v ps) :
    Calls Tryd.prog 17 #[v, .string s] w fun e w' => e = .returned (.bool (fitsB ps s.data.toList)) ∧ Below w.heap.size w w' := by
  obtain ⟨pb, po, cap, rfl, hl, hcell⟩ := hv
  have hsl : s.data.toList.length = s.size := by simp
  obtain ⟨n, hn⟩ : ∃ n, ps.length = n := ⟨_, rfl⟩
  have HCELL := Lib.hid hcell
  have HN := Lib.hid hn
  rw [hn] at hl ⊢
  clear hcell hn
  go_enter Tryd.func17, Tryd.ntmps17
  have H0 : (w.alloc (.cells Tryd.zeroCells56 56)).heap[w.heap.size]? = some (.cells Tryd.zeroCells56 56 (0, 0)) := Go.Deep.blk_alloc_new _ _
  have hz0 : (Tryd.zeroCells56.setIfInBounds 0 (.bool true)).size = 201 := by rw [zero_first, placesV_size]
  have hz1 : Tryd.zeroCells56.size = (Tryd.zeroCells56.setIfInBounds 0 (.bool true)).size := by simp
  have hz2 : (Tryd.zeroCells56.setIfInBounds 0 (.bool true)).all (·.oneCell') = true := by rw [zero_first]; exact placesV_one _
  have HS0 := Lib.hid (show PlAt w.heap.size (fun i => i == 0) ((w.alloc (.cells Tryd.zeroCells56 56)).setRow w.heap.size (Tryd.zeroCells56.setIfInBounds 0 (.bool true))) ∧ Below w.heap.size w ((w.alloc (.cells Tryd.zeroCells56 56)).setRow w.heap.size (Tryd.zeroCells56.setIfInBounds 0 (.bool true))) from by
    rw [zero_first]
    refine ⟨⟨placesV (fun i => i == 0), setRow_heap _ _ _ _ _ _ H0, placesV_size _, fun i hi => placesV_at _ i hi⟩, below_setRow ((Below.refl _ _).alloc (Nat.le_refl _) _) (Nat.le_refl _) _⟩)
  have HC0 := Lib.hid H0
  have Z0 := Lib.hid hz0
  have Z1 := Lib.hid hz1
  have Z2 := Lib.hid hz2
  clear H0 hz0 hz1 hz2
  go_wp2_with (refine wpList_store_row rfl 56 (.tmp 5) (.tmp 8) rfl w.heap.size (Tryd.zeroCells56.setIfInBounds 0 (.bool true)) rfl rfl 56 Tryd.zeroCells56 HC0.out (info_places Z0.out) Z1.out Z2.out ?_)
  obtain ⟨w0, hw0⟩ : ∃ w0, (w.alloc (.cells Tryd.zeroCells56 56)).setRow w.heap.size (Tryd.zeroCells56.setIfInBounds 0 (.bool true)) = w0 := ⟨_, rfl⟩
  rw [hw0] at HS0 ⊢
  clear hw0 HC0 Z0 Z1 Z2
  go_loopw [11] (fun i wr => ∃ (k : Nat) (f : Nat → Bool), k ≤ n ∧ i = .int .i64 k ∧ (∀ j, j ≤ s.data.toList.length → (f j = true ↔ fitsB (ps.take k) (s.data.toList.take j) = true)) ∧ PlAt w.heap.size f wr ∧ Below w.heap.size w wr) (fun i _ => n - (intOf i).toNat)
  case atStart => exact ⟨0, _, Nat.zero_le _, rfl, fun j hj => fits_start _ j hj, HS0.out.1, HS0.out.2⟩
  case round =>
    clear HS0
    obtain ⟨k, f, hk, rfl, hf, hp, hb⟩ := hrel
    have HB := Lib.hid hb
    have HP := Lib.hid hp
    have HF := Lib.hid hf
    by_cases hlt : k < n
    · have hkl : k < ps.length := by rw [HN.out]; exact hlt
      obtain ⟨u, hc, hu⟩ := HCELL.out k hkl
      have hc2 := (hb.cell (World.block_lt_of_cell? _ _ hc)).trans hc
      have hu2 := PcV.keep hu hb
      have HT := Lib.hid (List.take_succ_eq_append_getElem hkl)
      have hcc := hp.cells
      have z1 := placesV_size f
      obtain ⟨x, hx⟩ : ∃ x, ps[k] = x := ⟨_, rfl⟩
      rw [hx] at hu2 HT
      obtain ⟨C, hC⟩ : ∃ C, placesV f = C := ⟨_, rfl⟩
      rw [hC] at hcc z1
      have HC := Lib.hid hC
      have HCC := Lib.hid hcc
      have Z1 := Lib.hid z1
      clear hb hp hf hc hu hcc z1 hx hC
      cases x with
      | deep =>
        obtain rfl := hu2
        have x0 := deep_any s f wr hs
        rw [HC.out] at x0
        have X := Lib.hid x0
        have hm : ∀ w : World, (method 216 73 (.agg #[]) "consignor/glob.behind").run Tryd.prog w = .ok (81, (.agg #[])) w := fun _ => by kernel_rfl
        clear x0
        go_wp2_with (refine wpList_load_row rfl 56 (.tmp 5) rfl w.heap.size rfl 56 C (0, 0) _ HCC.out Tryd.underlying56 rfl (info_places Z1.out) ?_)
        refine X.out.mono ?_
        rintro e w1 ⟨g, hg, rfl, hb1⟩
        have hcc1 := (hb1.block w.heap.size (HP.out.lt)).trans HCC.out
        have HCC1 := Lib.hid hcc1
        have HBB := Lib.hid (HB.out.trans (hb1.mono HB.out.size))
        have HG := Lib.hid (behind_fits HF.out hg)
        have d1 := placesV_size g
        have d2 := placesV_one g
        have HPG := Lib.hid (show PlAt w.heap.size g (w1.setRow w.heap.size (placesV g)) from ⟨placesV g, setRow_heap _ _ _ _ _ _ hcc1, placesV_size _, fun i hi => placesV_at _ i hi⟩)
        obtain ⟨D, hD⟩ : ∃ D, placesV g = D := ⟨_, rfl⟩
        rw [hD] at d1 d2 HPG ⊢
        have D1 := Lib.hid d1
        have D2 := Lib.hid d2
        have D3 := Lib.hid (Z1.out.trans d1.symm)
        clear hg hb1 hcc1 d1 d2 hD
        go_wp2_with (refine wpList_store_row rfl 56 (.tmp 5) (.tmp 18) rfl w.heap.size D rfl rfl 56 C HCC1.out (info_places D1.out) D3.out D2.out ?_)
        go_roundw
        case rel => exact ⟨k + 1, g, by omega, by go_num, by rw [HT.out]; exact HG.out, HPG.out, below_setRow HBB.out (Nat.le_refl _) _⟩
        case measure => simp [intOf]; omega
      | flat =>
        obtain rfl := hu2
        have x0 := flat_any s f wr hs
        rw [HC.out] at x0
        have X := Lib.hid x0
        have hm : ∀ w : World, (method 216 74 (.agg #[]) "consignor/glob.behind").run Tryd.prog w = .ok (82, (.agg #[])) w := fun _ => by kernel_rfl
        clear x0
        go_wp2_with (refine wpList_load_row rfl 56 (.tmp 5) rfl w.heap.size rfl 56 C (0, 0) _ HCC.out Tryd.underlying56 rfl (info_places Z1.out) ?_)
        refine X.out.mono ?_
        rintro e w1 ⟨g, hg, rfl, hb1⟩
        have hcc1 := (hb1.block w.heap.size (HP.out.lt)).trans HCC.out
        have HCC1 := Lib.hid hcc1
        have HBB := Lib.hid (HB.out.trans (hb1.mono HB.out.size))
        have HG := Lib.hid (behind_fits HF.out hg)
        have d1 := placesV_size g
        have d2 := placesV_one g
        have HPG := Lib.hid (show PlAt w.heap.size g (w1.setRow w.heap.size (placesV g)) from ⟨placesV g, setRow_heap _ _ _ _ _ _ hcc1, placesV_size _, fun i hi => placesV_at _ i hi⟩)
        obtain ⟨D, hD⟩ : ∃ D, placesV g = D := ⟨_, rfl⟩
        rw [hD] at d1 d2 HPG ⊢
        have D1 := Lib.hid d1
        have D2 := Lib.hid d2
        have D3 := Lib.hid (Z1.out.trans d1.symm)
        clear hg hb1 hcc1 d1 d2 hD
        go_wp2_with (refine wpList_store_row rfl 56 (.tmp 5) (.tmp 18) rfl w.heap.size D rfl rfl 56 C HCC1.out (info_places D1.out) D3.out D2.out ?_)
        go_roundw
        case rel => exact ⟨k + 1, g, by omega, by go_num, by rw [HT.out]; exact HG.out, HPG.out, below_setRow HBB.out (Nat.le_refl _) _⟩
        case measure => simp [intOf]; omega
      | one =>
        obtain rfl := hu2
        have x0 := one_any s f wr hs
        rw [HC.out] at x0
        have X := Lib.hid x0
        have hm : ∀ w : World, (method 216 75 (.agg #[]) "consignor/glob.behind").run Tryd.prog w = .ok (83, (.agg #[])) w := fun _ => by kernel_rfl
        clear x0
        go_wp2_with (refine wpList_load_row rfl 56 (.tmp 5) rfl w.heap.size rfl 56 C (0, 0) _ HCC.out Tryd.underlying56 rfl (info_places Z1.out) ?_)
        refine X.out.mono ?_
        rintro e w1 ⟨g, hg, rfl, hb1⟩
        have hcc1 := (hb1.block w.heap.size (HP.out.lt)).trans HCC.out
        have HCC1 := Lib.hid hcc1
        have HBB := Lib.hid (HB.out.trans (hb1.mono HB.out.size))
        have HG := Lib.hid (behind_fits HF.out hg)
        have d1 := placesV_size g
        have d2 := placesV_one g
        have HPG := Lib.hid (show PlAt w.heap.size g (w1.setRow w.heap.size (placesV g)) from ⟨placesV g, setRow_heap _ _ _ _ _ _ hcc1, placesV_size _, fun i hi => placesV_at _ i hi⟩)
        obtain ⟨D, hD⟩ : ∃ D, placesV g = D := ⟨_, rfl⟩
        rw [hD] at d1 d2 HPG ⊢
        have D1 := Lib.hid d1
        have D2 := Lib.hid d2
        have D3 := Lib.hid (Z1.out.trans d1.symm)
        clear hg hb1 hcc1 d1 d2 hD
        go_wp2_with (refine wpList_store_row rfl 56 (.tmp 5) (.tmp 18) rfl w.heap.size D rfl rfl 56 C HCC1.out (info_places D1.out) D3.out D2.out ?_)
        go_roundw
        case rel => exact ⟨k + 1, g, by omega, by go_num, by rw [HT.out]; exact HG.out, HPG.out, below_setRow HBB.out (Nat.le_refl _) _⟩
        case measure => simp [intOf]; omega
      | words l =>
        obtain ⟨u2, hu2, hw2⟩ := hu2
        obtain rfl := hu2
        have x0 := words_any l u2 s f wr hs hw2
        rw [HC.out] at x0
        have X := Lib.hid x0
        have hm : ∀ w : World, (method 216 78 u2 "consignor/glob.behind").run Tryd.prog w = .ok (84, u2) w := fun _ => by kernel_rfl
        clear x0
        go_wp2_with (refine wpList_load_row rfl 56 (.tmp 5) rfl w.heap.size rfl 56 C (0, 0) _ HCC.out Tryd.underlying56 rfl (info_places Z1.out) ?_)
        refine X.out.mono ?_
        rintro e w1 ⟨g, hg, rfl, hb1⟩
        have hcc1 := (hb1.block w.heap.size (HP.out.lt)).trans HCC.out
        have HCC1 := Lib.hid hcc1
        have HBB := Lib.hid (HB.out.trans (hb1.mono HB.out.size))
        have HG := Lib.hid (behind_fits HF.out hg)
        have d1 := placesV_size g
        have d2 := placesV_one g
        have HPG := Lib.hid (show PlAt w.heap.size g (w1.setRow w.heap.size (placesV g)) from ⟨placesV g, setRow_heap _ _ _ _ _ _ hcc1, placesV_size _, fun i hi => placesV_at _ i hi⟩)
        obtain ⟨D, hD⟩ : ∃ D, placesV g = D := ⟨_, rfl⟩
        rw [hD] at d1 d2 HPG ⊢
        have D1 := Lib.hid d1
        have D2 := Lib.hid d2
        have D3 := Lib.hid (Z1.out.trans d1.symm)
        clear hg hb1 hcc1 d1 d2 hD
        go_wp2_with (refine wpList_store_row rfl 56 (.tmp 5) (.tmp 18) rfl w.heap.size D rfl rfl 56 C HCC1.out (info_places D1.out) D3.out D2.out ?_)
        go_roundw
        case rel => exact ⟨k + 1, g, by omega, by go_num, by rw [HT.out]; exact HG.out, HPG.out, below_setRow HBB.out (Nat.le_refl _) _⟩
        case measure => simp [intOf]; omega
      | plain t =>
        obtain rfl := hu2
        have x0 := plain_any t s f wr hs
        rw [HC.out] at x0
        have X := Lib.hid x0
        have hm : ∀ w : World, (method 216 80 (.string t) "consignor/glob.behind").run Tryd.prog w = .ok (85, (.string t)) w := fun _ => by kernel_rfl
        clear x0
        go_wp2_with (refine wpList_load_row rfl 56 (.tmp 5) rfl w.heap.size rfl 56 C (0, 0) _ HCC.out Tryd.underlying56 rfl (info_places Z1.out) ?_)
        refine X.out.mono ?_
        rintro e w1 ⟨g, hg, rfl, hb1⟩
        have hcc1 := (hb1.block w.heap.size (HP.out.lt)).trans HCC.out
        have HCC1 := Lib.hid hcc1
        have HBB := Lib.hid (HB.out.trans (hb1.mono HB.out.size))
        have HG := Lib.hid (behind_fits HF.out hg)
        have d1 := placesV_size g
        have d2 := placesV_one g
        have HPG := Lib.hid (show PlAt w.heap.size g (w1.setRow w.heap.size (placesV g)) from ⟨placesV g, setRow_heap _ _ _ _ _ _ hcc1, placesV_size _, fun i hi => placesV_at _ i hi⟩)
        obtain ⟨D, hD⟩ : ∃ D, placesV g = D := ⟨_, rfl⟩
        rw [hD] at d1 d2 HPG ⊢
        have D1 := Lib.hid d1
        have D2 := Lib.hid d2
        have D3 := Lib.hid (Z1.out.trans d1.symm)
        clear hg hb1 hcc1 d1 d2 hD
        go_wp2_with (refine wpList_store_row rfl 56 (.tmp 5) (.tmp 18) rfl w.heap.size D rfl rfl 56 C HCC1.out (info_places D1.out) D3.out D2.out ?_)
        go_roundw
        case rel => exact ⟨k + 1, g, by omega, by go_num, by rw [HT.out]; exact HG.out, HPG.out, below_setRow HBB.out (Nat.le_refl _) _⟩
        case measure => simp [intOf]; omega
    · obtain rfl : k = n := by omega
      have c0 := hp.cell s.size (by omega)
      have HO := Lib.hid (show fitsB ps s.data.toList = f s.size by
        have := hf s.size (by omega)
        rw [List.take_of_length_le (by rw [HN.out]; omega), List.take_of_length_le (by omega)] at this
        rw [Bool.eq_iff_iff]; exact this.symm)
      obtain ⟨b, hbb⟩ : ∃ b, f s.size = b := ⟨_, rfl⟩
      rw [hbb] at c0 HO
      clear hb hp hf HF hbb
      go_wp2_with fail
      go_ret
      exact ⟨by rw [HO.out]; rfl, HB.out⟩
end Go.Proofs.YtjohjmoggldfcaaDoor
