/-
  A pattern's words and plain bytes, by contracts. Conditions: a text of at most 200 bytes.
-/
import Derived.Test.YtjohjmoggldfcaaDoorGlobPiece
import Derived.Test.YtjohjmoggldfcaaDoorShelf
namespace Go.Proofs.YtjohjmoggldfcaaDoor
open Go.RowKit

/-- The value v is a slice that reads as the words l. -/
def WordRow (w : World) (v : Value) (l : List ByteArray) : Prop :=
  ∃ b o cap, v = .slice (some ⟨b, o, none⟩) l.length cap ∧ l.length ≤ 1000 ∧ ∀ i (h : i < l.length), w.cell? ⟨b, o + i, none⟩ = some (.string l[i])
theorem WordRow.keep {w w' : World} {v : Value} {l : List ByteArray} (h : WordRow w v l) (hb : Below w.heap.size w w') : WordRow w' v l := by
  obtain ⟨b, o, cap, h1, h2, h3⟩ := h
  exact ⟨b, o, cap, h1, h2, fun i hi => (hb.cell (World.block_lt_of_cell? _ _ (h3 i hi))).trans (h3 i hi)⟩
/-- A piece as a value. -/
def PcV (w : World) (v : Value) : Pc → Prop
  | .deep => v = .iface 73 (.agg #[])
  | .flat => v = .iface 74 (.agg #[])
  | .one => v = .iface 75 (.agg #[])
  | .words l => ∃ u, v = .iface 78 u ∧ WordRow w u l
  | .plain t => v = .iface 80 (.string t)
theorem PcV.keep {w w' : World} {v : Value} {x : Pc} (h : PcV w v x) (hb : Below w.heap.size w w') : PcV w' v x := by
  cases x with
  | deep => exact h
  | flat => exact h
  | one => exact h
  | words l => obtain ⟨u, h1, h2⟩ := h; exact ⟨u, h1, h2.keep hb⟩
  | plain t => exact h

theorem extract_list (s : ByteArray) (k : Nat) : (s.extract k s.size).data.toList = s.data.toList.drop k := by
  simp
  exact List.take_of_length_le (by simp)

set_option maxRecDepth 100000 in
set_option maxHeartbeats 4000000 in
theorem words_any (l : List ByteArray) (v : Value) (s : ByteArray) (f : Nat → Bool) (w : World) (hs : s.size ≤ 200) (hv : WordRow w v l) :
    Calls Tryd.prog 84 #[v, .string s, .agg (placesV f)] w fun e w' => ∃ g, Behind (.words l) s.data.toList f g ∧ e = .returned (.agg (placesV g)) ∧ Below w.heap.size w w' := by
  obtain ⟨pb, po, cap, rfl, hl, hcell⟩ := hv
  have hsl : s.data.toList.length = s.size := by simp
  have H0 := Lib.hid (show PlAt w.heap.size f (((w.alloc (.cells (placesV f) 56)).alloc (.cells Tryd.zeroCells56 56)).alloc (.cells Tryd.zeroCells56 56)) ∧ PlAt (w.heap.size + 1) (fun _ => false) (((w.alloc (.cells (placesV f) 56)).alloc (.cells Tryd.zeroCells56 56)).alloc (.cells Tryd.zeroCells56 56)) ∧ PlAt (w.heap.size + 1 + 1) (fun _ => false) (((w.alloc (.cells (placesV f) 56)).alloc (.cells Tryd.zeroCells56 56)).alloc (.cells Tryd.zeroCells56 56)) ∧ Below w.heap.size w (((w.alloc (.cells (placesV f) 56)).alloc (.cells Tryd.zeroCells56 56)).alloc (.cells Tryd.zeroCells56 56)) from by
    have h1 := PlAt.new w f
    have h2 := PlAt.zero (w.alloc (.cells (placesV f) 56))
    have h3 := PlAt.zero ((w.alloc (.cells (placesV f) 56)).alloc (.cells Tryd.zeroCells56 56))
    simp only [World.size_alloc] at h1 h2 h3
    exact ⟨World.rowIs.alloc (World.rowIs.alloc h1 _) _, World.rowIs.alloc h2 _, h3, ((((Below.refl _ _).alloc (Nat.le_refl _) _).alloc (by simp) _).alloc (by simp; omega) _)⟩)
  obtain ⟨C, hC⟩ : ∃ C, placesV f = C := ⟨_, rfl⟩
  rw [hC] at H0 ⊢
  clear hC
  obtain ⟨n, hn⟩ : ∃ n, l.length = n := ⟨_, rfl⟩
  have HCELL := Lib.hid hcell
  have HN := Lib.hid hn
  rw [hn] at hl ⊢
  clear hcell hn
  have HP0 := Lib.hid (fun (a b : ByteArray) (w : World) => Tryd.strings_HasPrefix a b w)
  go_enter Tryd.func84, Tryd.ntmps84
  go_wp2_with fail
  go_loopw [14] (fun i wr => ∃ (k : Nat) (g : Nat → Bool), k ≤ s.size + 1 ∧ i = .int .i64 k ∧ WordsAre l s.data.toList f k 0 g ∧ PlAt w.heap.size f wr ∧ PlAt (w.heap.size + 1) (fun _ => false) wr ∧ PlAt (w.heap.size + 1 + 1) g wr ∧ Below w.heap.size w wr) (fun i _ => s.size + 1 - (intOf i).toNat)
  case atStart => exact ⟨0, fun _ => false, Nat.zero_le _, rfl, WordsAre.start _ _ _, H0.out.1, H0.out.2.1, H0.out.2.2.1, H0.out.2.2.2⟩
  case round =>
    clear H0
    obtain ⟨k, g, hk, rfl, hst, ha, hq, hp, hb⟩ := hrel
    have HB := Lib.hid hb
    have HP := Lib.hid hp
    have HQ := Lib.hid hq
    have HA := Lib.hid ha
    have HS := Lib.hid hst
    by_cases hlt : k < s.size + 1
    · have c0 := ha.cell k (by omega)
      obtain ⟨b0, hb0⟩ : ∃ b, f k = b := ⟨_, rfl⟩
      have HF := Lib.hid hb0
      rw [hb0] at c0
      clear hb hp hq ha hst hb0
      cases b0 with
      | false =>
        go_wp2_with fail
        go_roundw
        case rel => exact ⟨k + 1, g, by omega, by go_num, HS.out.skip HF.out, HA.out, HQ.out, HP.out, HB.out⟩
        case measure => simp [intOf]; omega
      | true =>
        obtain ⟨wo, hwo⟩ : ∃ wo : World, wo = wr := ⟨_, rfl⟩
        rw [← hwo] at HB HP HQ HA c0 ⊢
        clear hwo
        go_wp2_with fail
        rw [show decide ((k : Int) < (s.size : Int) + 1) = true from decide_eq_true (by omega)]
        go_loopw [23] (fun i wr => ∃ (m : Nat) (g : Nat → Bool), m ≤ n ∧ i = .int .i64 m ∧ WordsAre l s.data.toList f k m g ∧ PlAt w.heap.size f wr ∧ PlAt (w.heap.size + 1) (fun _ => false) wr ∧ PlAt (w.heap.size + 1 + 1) g wr ∧ Below w.heap.size w wr) (fun i _ => n - (intOf i).toNat)
        case atStart => exact ⟨0, g, Nat.zero_le _, rfl, HS.out, HA.out, HQ.out, HP.out, HB.out⟩
        case round =>
          clear HB HP HQ HA HS c0
          obtain ⟨m, g, hm, rfl, hst, ha, hq, hp, hb⟩ := hrel
          have HB := Lib.hid hb
          have HP := Lib.hid hp
          have HQ := Lib.hid hq
          have HA := Lib.hid ha
          have HS := Lib.hid hst
          by_cases hmn : m < n
          · have hml : m < l.length := by rw [HN.out]; exact hmn
            have hc := HCELL.out m hml
            have hc2 := (hb.cell (World.block_lt_of_cell? _ _ hc)).trans hc
            have hx := extract_list s k
            have X := Lib.hid (fun w => HP0.out (s.extract k s.size) l[m] w)
            have HW := Lib.hid (show wordAt s.data.toList k l[m] = Lib.hasPrefix (s.extract k s.size).data.toList l[m].data.toList by rw [hx]; rfl)
            obtain ⟨y, hy⟩ : ∃ y, l[m] = y := ⟨_, rfl⟩
            have HY := Lib.hid hy
            rw [hy] at hc2 X HW
            have HR := Lib.hid (show Lib.hasPrefix (s.extract k s.size).data.toList y.data.toList = true → k + y.size ≤ s.size by
              intro h
              have := (List.isPrefixOf_iff_prefix.1 h).length_le
              rw [hx, List.length_drop, hsl] at this
              have h6 : y.data.toList.length = y.size := by simp
              omega)
            obtain ⟨q, hq3⟩ : ∃ q, Lib.hasPrefix (s.extract k s.size).data.toList y.data.toList = q := ⟨_, rfl⟩
            rw [hq3] at X HW HR
            clear hb hp hq ha hst hc hx hy hq3
            cases q with
            | false =>
              go_wp2_with fail
              refine (X.out _).mono ?_
              rintro e w2 ⟨rfl, rfl⟩
              go_wp2_with fail
              go_roundw
              case rel => exact ⟨m + 1, g, by omega, by go_num, HS.out.miss hml (by rw [HY.out]; exact HW.out), HA.out, HQ.out, HP.out, HB.out⟩
              case measure => simp [intOf]; omega
            | true =>
              have hky := HR.out rfl
              have c1 := HP.out.cell (k + y.size) (by omega)
              have fr := HP.out.free (k + y.size)
              go_wp2_with fail
              refine (X.out _).mono ?_
              rintro e w2 ⟨rfl, rfl⟩
              go_wp2_with fail
              go_roundw
              case rel =>
                refine ⟨m + 1, _, by omega, by go_num, HS.out.hit hml HF.out (by rw [HY.out]; exact HW.out), HA.out.other (by omega) _ _, HQ.out.other (by omega) _ _, ?_, HB.out.setCell (by show w.heap.size ≤ w.heap.size + 1 + 1; omega) _⟩
                rw [HY.out]
                exact HP.out.set (k + y.size) true
              case measure => simp [intOf]; omega
          · obtain rfl : m = n := by omega
            clear hb hp hq ha hst
            go_wp2_with fail
            go_roundw
            case rel => exact ⟨k + 1, g, by omega, by go_num, WordsAre.next (by rw [HN.out]; exact HS.out), HA.out, HQ.out, HP.out, HB.out⟩
            case measure => simp [intOf]; omega
    · obtain rfl : k = s.size + 1 := by omega
      have HD := Lib.hid (show Behind (.words l) s.data.toList f g from WordsAre.behind (by rw [hsl]; exact hst))
      have hc1 := hp.cells
      have hc2 := hq.cells
      have h1 := placesV_one g
      have z1 := placesV_size g
      have z2 := placesV_size fun _ => false
      have HR := Lib.hid (show ∃ g', Behind (.words l) s.data.toList f g' ∧ Ending.returned (.agg (placesV g)) = .returned (.agg (placesV g')) from ⟨g, HD.out, rfl⟩)
      obtain ⟨D, hD⟩ : ∃ D, placesV g = D := ⟨_, rfl⟩
      obtain ⟨Z, hZ⟩ : ∃ Z, placesV (fun _ => false) = Z := ⟨_, rfl⟩
      rw [hD] at hc1 h1 z1 HR
      rw [hZ] at hc2 z2
      have HC1 := Lib.hid hc1
      have HC2 := Lib.hid hc2
      have H1 := Lib.hid h1
      have Z1 := Lib.hid z1
      have Z2 := Lib.hid (z2.trans z1.symm)
      clear hb hp hq ha hst hc1 hc2 h1 z1 z2 hD hZ HP HQ HA HD HS
      go_wp2_with (first | (refine wpList_load_row rfl 56 (.tmp 7) rfl (w.heap.size + 1 + 1) rfl 56 D (0, 0) _ HC1.out Tryd.underlying56 rfl (info_places Z1.out) ?_) | (refine wpList_store_row rfl 56 (.tmp 6) (.tmp 39) rfl (w.heap.size + 1) D rfl rfl 56 Z HC2.out (info_places Z1.out) Z2.out H1.out ?_))
      have hfin : (wr.setRow (w.heap.size + 1) D).heap[w.heap.size + 1]? = some (.cells D 56 (0, 0)) := setRow_heap wr _ _ _ _ _ HC2.out
      refine bodyPost_ret (results_cell_row (p := 6) rfl _ _ (w.heap.size + 1) 56 D (0, 0) _ rfl hfin Tryd.underlying56 rfl (info_places Z1.out)) rfl ?_
      obtain ⟨g', h1, h2⟩ := HR.out
      exact ⟨g', h1, h2, HB.out.trans (below_setRow (Below.refl _ _) (by omega) _)⟩

set_option maxRecDepth 100000 in
set_option maxHeartbeats 2000000 in
theorem plain_any (t : ByteArray) (s : ByteArray) (f : Nat → Bool) (w : World) (hs : s.size ≤ 200) :
    Calls Tryd.prog 85 #[.string t, .string s, .agg (placesV f)] w fun e w' => ∃ g, Behind (.plain t) s.data.toList f g ∧ e = .returned (.agg (placesV g)) ∧ Below w.heap.size w w' := by
  have H0 := Lib.hid (show PlAt w.heap.size f (((w.alloc (.cells (placesV f) 56)).alloc (.cells Tryd.zeroCells56 56)).alloc (.cells #[.string t] 9)) ∧ PlAt (w.heap.size + 1) (fun _ => false) (((w.alloc (.cells (placesV f) 56)).alloc (.cells Tryd.zeroCells56 56)).alloc (.cells #[.string t] 9)) ∧ WordRow (((w.alloc (.cells (placesV f) 56)).alloc (.cells Tryd.zeroCells56 56)).alloc (.cells #[.string t] 9)) (.slice (some ⟨w.heap.size + 1 + 1, 0, none⟩) 1 1) [t] ∧ Below w.heap.size w (((w.alloc (.cells (placesV f) 56)).alloc (.cells Tryd.zeroCells56 56)).alloc (.cells #[.string t] 9)) ∧ (((w.alloc (.cells (placesV f) 56)).alloc (.cells Tryd.zeroCells56 56)).alloc (.cells #[.string t] 9)).heap.size = w.heap.size + 1 + 1 + 1 from by
    have h1 := PlAt.new w f
    have h2 := PlAt.zero (w.alloc (.cells (placesV f) 56))
    simp only [World.size_alloc] at h1 h2
    refine ⟨World.rowIs.alloc (World.rowIs.alloc h1 _) _, World.rowIs.alloc h2 _, ⟨_, _, _, rfl, by simp, ?_⟩, ((((Below.refl _ _).alloc (Nat.le_refl _) _).alloc (by simp) _).alloc (by simp; omega) _), by simp⟩
    intro i hi
    obtain rfl : i = 0 := by simpa using hi
    rw [World.cell?_alloc_at _ _ _ _ (by simp)]; rfl)
  have W := Lib.hid (fun (u : Value) (w' : World) (h : WordRow w' u [t]) => words_any [t] u s f w' hs h)
  have hz := placesV_size f
  have hsz : placesV f = placesV f := rfl
  obtain ⟨C, hC⟩ : ∃ C, placesV f = C := ⟨_, rfl⟩
  have HPC := Lib.hid (show ∀ w', PlAt w.heap.size f w' → w'.heap[w.heap.size]? = some (.cells C 56 (0, 0)) by intro w' h; rw [← hC]; exact h.cells)
  rw [hC] at H0 W hz ⊢
  clear hC hsz
  have HC := Lib.hid (HPC.out _ H0.out.1)
  have HZ := Lib.hid hz
  clear hz HPC
  go_enter Tryd.func85, Tryd.ntmps85
  go_wp2_with (refine wpList_load_row rfl 56 (.tmp 5) rfl w.heap.size rfl 56 C (0, 0) _ HC.out Tryd.underlying56 rfl (info_places HZ.out) ?_)
  refine (W.out _ _ H0.out.2.2.1).mono ?_
  rintro e w1 ⟨g, hg, rfl, hb⟩
  have HB := Lib.hid (H0.out.2.2.2.1.trans (hb.mono H0.out.2.2.2.1.size))
  have hq := PlAt.keep H0.out.2.1 _ hb (by rw [H0.out.2.2.2.2]; omega)
  have hc2 := hq.cells
  have h1 := placesV_one g
  have z1 := placesV_size g
  have z2 := placesV_size fun _ => false
  have HR := Lib.hid (show ∃ g', Behind (.plain t) s.data.toList f g' ∧ Ending.returned (.agg (placesV g)) = .returned (.agg (placesV g')) from ⟨g, WordsAre.plain hg, rfl⟩)
  obtain ⟨D, hD⟩ : ∃ D, placesV g = D := ⟨_, rfl⟩
  obtain ⟨Z, hZ⟩ : ∃ Z, placesV (fun _ => false) = Z := ⟨_, rfl⟩
  rw [hD] at h1 z1 HR ⊢
  rw [hZ] at hc2 z2
  have HC2 := Lib.hid hc2
  have H1 := Lib.hid h1
  have Z1 := Lib.hid z1
  have Z2 := Lib.hid (z2.trans z1.symm)
  clear hb hg hq hc2 h1 z1 z2 hD hZ H0 HC W
  go_wp2_with (refine wpList_store_row rfl 56 (.tmp 6) (.tmp 11) rfl (w.heap.size + 1) D rfl rfl 56 Z HC2.out (info_places Z1.out) Z2.out H1.out ?_)
  have hfin : (w1.setRow (w.heap.size + 1) D).heap[w.heap.size + 1]? = some (.cells D 56 (0, 0)) := setRow_heap w1 _ _ _ _ _ HC2.out
  refine bodyPost_ret (results_cell_row (p := 6) rfl _ _ (w.heap.size + 1) 56 D (0, 0) _ rfl hfin Tryd.underlying56 rfl (info_places Z1.out)) rfl ?_
  obtain ⟨g', h1, h2⟩ := HR.out
  exact ⟨g', h1, h2, HB.out.trans (below_setRow (Below.refl _ _) (by omega) _)⟩
end Go.Proofs.YtjohjmoggldfcaaDoor
