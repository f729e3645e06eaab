/-
  A pattern's pieces, each by its contract. Conditions: a text of at most 200 bytes.
-/
import Derived.Test.YtjohjmoggldfcaaDoorGlobRight
import Derived.BigRegion
import Derived.Deep.OwnRows
import Derived.Deep.MidRow
import Derived.Laws.Rows
import Derived.Laws.CopyOwn
import Derived.Deep.QuietTactic
import Derived.BigQuiet
namespace Go.Proofs.YtjohjmoggldfcaaDoor
open Go.RowKit

/-- Places as cells, and as a value. -/
def placeAt (f : Nat → Bool) (i : Nat) : Value := .bool (f i)
def placesV (f : Nat → Bool) : Array Value := ((List.range 201).map (placeAt f)).toArray
theorem placesV_size (f : Nat → Bool) : (placesV f).size = 201 := by simp [placesV]
theorem placesV_at (f : Nat → Bool) (i : Nat) (h : i < 201) : (placesV f)[i]? = some (placeAt f i) := by simp [placesV, h]

theorem placesV_one (f : Nat → Bool) : (placesV f).all (·.oneCell') = true := by
  rw [Array.all_eq_true']
  intro x hx
  simp only [placesV, List.mem_toArray, List.mem_map] at hx
  obtain ⟨i, -, rfl⟩ := hx
  rfl
theorem zero_places : Tryd.zeroCells56 = Array.replicate 201 (.bool false) := by kernel_rfl
theorem info_places {C : Array Value} (h : C.size = 201) : (Tryd.prog.info? 56).map (·.size) = some C.size := by rw [h]; kernel_rfl
/-- Places lie at block b. -/
def PlAt (b : Nat) (f : Nat → Bool) (w : World) : Prop := w.rowIs b 56 201 (placeAt f)
theorem PlAt.new (w : World) (f : Nat → Bool) : PlAt w.heap.size f (w.alloc (.cells (placesV f) 56)) := by
  have h := World.rowIs_alloc w (placesV f) 56 (placeAt f) (fun i hi => placesV_at f i (by rw [placesV_size] at hi; exact hi))
  rw [placesV_size] at h; exact h
theorem PlAt.zero (w : World) : PlAt w.heap.size (fun _ => false) (w.alloc (.cells Tryd.zeroCells56 56)) := by
  have h := World.rowIs_alloc w Tryd.zeroCells56 56 (placeAt fun _ => false) (fun i hi => by
    rw [zero_places] at hi ⊢
    rw [Array.size_replicate] at hi
    simp [hi, placeAt])
  rw [zero_places] at h ⊢
  rw [Array.size_replicate] at h; exact h
theorem PlAt.set {b : Nat} {f : Nat → Bool} {w : World} (h : PlAt b f w) (k : Nat) (v : Bool) : PlAt b (fun j => if j = k then v else f j) (w.setCell ⟨b, k, none⟩ (.bool v)) :=
  (World.rowIs.set h k _).congr fun i _ => by
    show (if i = k then _ else placeAt f i) = Value.bool (if i = k then v else f i)
    split <;> rfl
theorem PlAt.other {b c : Nat} {f : Nat → Bool} {w : World} (h : PlAt b f w) (hb : b ≠ c) (k : Nat) (v : Value) : PlAt b f (w.setCell ⟨c, k, none⟩ v) := World.rowIs.setOther h hb v
theorem PlAt.cells {b : Nat} {f : Nat → Bool} {w : World} (h : PlAt b f w) : w.heap[b]? = some (.cells (placesV f) 56 (0, 0)) := by
  obtain ⟨c, hb, hn, hc⟩ := h
  rw [hb]
  congr 2
  apply Array.ext_getElem?
  intro i
  by_cases hi : i < 201
  · rw [hc i hi, placesV_at f i hi]
  · rw [Array.getElem?_eq_none (by omega), Array.getElem?_eq_none (by rw [placesV_size]; omega)]
theorem PlAt.cell {b : Nat} {f : Nat → Bool} {w : World} (h : PlAt b f w) (i : Nat) (hi : i < 201) : w.cell? ⟨b, i, none⟩ = some (.bool (f i)) := World.rowIs.cell h hi
theorem PlAt.free {b : Nat} {f : Nat → Bool} {w : World} (h : PlAt b f w) (i : Nat) : w.frozen? ⟨b, i, none⟩ = false := World.rowIs.frozen h i
theorem PlAt.keep {b : Nat} {f : Nat → Bool} {w w' : World} (h : PlAt b f w) (n : Nat) (hb : Below n w w') (hn : b < n) : PlAt b f w' := World.rowIs.of_block h (hb.block b hn)

theorem getElem_listG (s : ByteArray) (k : Nat) (h : k < s.size) : s.data.toList[k]'(by rw [← Lib.size_eq]; exact h) = s[k] := by
  have h6 : k < s.data.toList.length := by rw [← Lib.size_eq]; exact h
  have := Lib.data_getElem? s k h
  rw [List.getElem?_eq_getElem h6] at this
  exact Option.some.inj this
theorem bne_byte (c d : UInt8) : ((c.toNat : Int) != (d.toNat : Int)) = (c != d) := by
  rw [Bool.eq_iff_iff, bne_iff_ne, bne_iff_ne, ne_eq, ne_eq, ← UInt8.toNat_inj]; omega

-- GEN

set_option maxRecDepth 100000 in
set_option maxHeartbeats 2000000 in
theorem deep_any (s : ByteArray) (f : Nat → Bool) (w : World) (hs : s.size ≤ 200) :
    Calls Tryd.prog 81 #[.agg #[], .string s, .agg (placesV f)] w fun e w' => ∃ g, Behind .deep s.data.toList f g ∧ e = .returned (.agg (placesV g)) ∧ Below w.heap.size w w' := by
  have hsl : s.data.toList.length = s.size := by simp
  have H0 := Lib.hid (show PlAt (w.heap.size + 1) f (((w.alloc (.cells #[] 73)).alloc (.cells (placesV f) 56)).alloc (.cells Tryd.zeroCells56 56)) ∧ PlAt (w.heap.size + 1 + 1) (fun _ => false) (((w.alloc (.cells #[] 73)).alloc (.cells (placesV f) 56)).alloc (.cells Tryd.zeroCells56 56)) ∧ Below w.heap.size w (((w.alloc (.cells #[] 73)).alloc (.cells (placesV f) 56)).alloc (.cells Tryd.zeroCells56 56)) from by
    have h1 := PlAt.new (w.alloc (.cells #[] 73)) f
    have h2 := PlAt.zero ((w.alloc (.cells #[] 73)).alloc (.cells (placesV f) 56))
    simp only [World.size_alloc] at h1 h2
    exact ⟨World.rowIs.alloc h1 _, h2, ((((Below.refl _ _).alloc (Nat.le_refl _) _).alloc (by simp) _).alloc (by simp; omega) _)⟩)
  obtain ⟨C, hC⟩ : ∃ C, placesV f = C := ⟨_, rfl⟩
  rw [hC] at H0 ⊢
  clear hC
  go_enter Tryd.func81, Tryd.ntmps81
  go_wp2_with fail
  go_loopw [10] (fun i wr => ∃ (k : Nat) (g : Nat → Bool), k ≤ s.size ∧ i = .int .i64 k ∧ StarIs false s.data.toList f k g ∧ PlAt (w.heap.size + 1) g wr ∧ PlAt (w.heap.size + 1 + 1) (fun _ => false) wr ∧ Below w.heap.size w wr) (fun i _ => s.size - (intOf i).toNat)
  case atStart => exact ⟨0, f, Nat.zero_le _, rfl, StarIs.start _ _ _, H0.out.1, H0.out.2.1, H0.out.2.2⟩
  case round =>
    clear H0
    obtain ⟨k, g, hk, rfl, hst, hp, hq, hb⟩ := hrel
    have HB := Lib.hid hb
    have HP := Lib.hid hp
    have HQ := Lib.hid hq
    have HS := Lib.hid hst
    by_cases hlt : k < s.size
    · have c1 := hp.cell (k + 1) (by omega)
      have c0 := hp.cell k (by omega)
      have fr := hp.free (k + 1)
      have HST := Lib.hid (fun b (hb : b = (g (k + 1) || (g k && (!false || s[k] != 47)))) => hst.step (by rw [hsl]; exact hlt) b (by rw [getElem_listG s k hlt]; exact hb))
      obtain ⟨b1, hb1⟩ : ∃ b, g (k + 1) = b := ⟨_, rfl⟩
      obtain ⟨b0, hb0⟩ : ∃ b, g k = b := ⟨_, rfl⟩
      rw [hb1] at c1
      rw [hb0] at c0
      rw [hb1, hb0] at HST
      clear hb hp hq hst hb1 hb0
      cases b1 with
      | true =>
        go_wp2_with fail
        go_roundw
        case rel => exact ⟨k + 1, _, by omega, by go_num, HST.out true (rfl), HP.out.set (k + 1) true, HQ.out.other (by omega) _ _, HB.out.setCell (by show w.heap.size ≤ w.heap.size + 1; omega) _⟩
        case measure => simp [intOf]; omega
      | false =>
        go_wp2_with fail
        go_roundw
        case rel => exact ⟨k + 1, _, by omega, by go_num, HST.out b0 (by simp), HP.out.set (k + 1) b0, HQ.out.other (by omega) _ _, HB.out.setCell (by show w.heap.size ≤ w.heap.size + 1; omega) _⟩
        case measure => simp [intOf]; omega
    · obtain rfl : k = s.size := by omega
      have HD := Lib.hid (show Behind .deep s.data.toList f g from StarIs.deep (by rw [hsl]; exact hst))
      have hc1 := hp.cells
      have hc2 := hq.cells
      have h1 := placesV_one g
      have z1 := placesV_size g
      have z2 := placesV_size fun _ => false
      have HR := Lib.hid (show ∃ g', Behind .deep s.data.toList f g' ∧ Ending.returned (.agg (placesV g)) = .returned (.agg (placesV g')) from ⟨g, HD.out, rfl⟩)
      obtain ⟨D, hD⟩ : ∃ D, placesV g = D := ⟨_, rfl⟩
      obtain ⟨Z, hZ⟩ : ∃ Z, placesV (fun _ => false) = Z := ⟨_, rfl⟩
      rw [hD] at hc1 h1 z1 HR
      rw [hZ] at hc2 z2
      have HC1 := Lib.hid hc1
      have HC2 := Lib.hid hc2
      have H1 := Lib.hid h1
      have Z1 := Lib.hid z1
      have Z2 := Lib.hid (z2.trans z1.symm)
      clear hb hp hq hst hc1 hc2 h1 z1 z2 hD hZ HP HQ HS HD
      go_wp2_with (first | (refine wpList_load_row rfl 56 (.tmp 5) rfl (w.heap.size + 1) rfl 56 D (0, 0) _ HC1.out Tryd.underlying56 rfl (info_places Z1.out) ?_) | (refine wpList_store_row rfl 56 (.tmp 6) (.tmp 26) rfl (w.heap.size + 1 + 1) D rfl rfl 56 Z HC2.out (info_places Z1.out) Z2.out H1.out ?_))
      have hfin : (wr.setRow (w.heap.size + 1 + 1) D).heap[w.heap.size + 1 + 1]? = some (.cells D 56 (0, 0)) := setRow_heap wr _ _ _ _ _ HC2.out
      refine bodyPost_ret (results_cell_row (p := 6) rfl _ _ (w.heap.size + 1 + 1) 56 D (0, 0) _ rfl hfin Tryd.underlying56 rfl (info_places Z1.out)) rfl ?_
      obtain ⟨g', h1, h2⟩ := HR.out
      exact ⟨g', h1, h2, HB.out.trans (below_setRow (Below.refl _ _) (by omega) _)⟩

set_option maxRecDepth 100000 in
set_option maxHeartbeats 2000000 in
theorem flat_any (s : ByteArray) (f : Nat → Bool) (w : World) (hs : s.size ≤ 200) :
    Calls Tryd.prog 82 #[.agg #[], .string s, .agg (placesV f)] w fun e w' => ∃ g, Behind .flat s.data.toList f g ∧ e = .returned (.agg (placesV g)) ∧ Below w.heap.size w w' := by
  have hsl : s.data.toList.length = s.size := by simp
  have H0 := Lib.hid (show PlAt (w.heap.size + 1) f (((w.alloc (.cells #[] 74)).alloc (.cells (placesV f) 56)).alloc (.cells Tryd.zeroCells56 56)) ∧ PlAt (w.heap.size + 1 + 1) (fun _ => false) (((w.alloc (.cells #[] 74)).alloc (.cells (placesV f) 56)).alloc (.cells Tryd.zeroCells56 56)) ∧ Below w.heap.size w (((w.alloc (.cells #[] 74)).alloc (.cells (placesV f) 56)).alloc (.cells Tryd.zeroCells56 56)) from by
    have h1 := PlAt.new (w.alloc (.cells #[] 74)) f
    have h2 := PlAt.zero ((w.alloc (.cells #[] 74)).alloc (.cells (placesV f) 56))
    simp only [World.size_alloc] at h1 h2
    exact ⟨World.rowIs.alloc h1 _, h2, ((((Below.refl _ _).alloc (Nat.le_refl _) _).alloc (by simp) _).alloc (by simp; omega) _)⟩)
  obtain ⟨C, hC⟩ : ∃ C, placesV f = C := ⟨_, rfl⟩
  rw [hC] at H0 ⊢
  clear hC
  go_enter Tryd.func82, Tryd.ntmps82
  go_wp2_with fail
  go_loopw [10] (fun i wr => ∃ (k : Nat) (g : Nat → Bool), k ≤ s.size ∧ i = .int .i64 k ∧ StarIs true s.data.toList f k g ∧ PlAt (w.heap.size + 1) g wr ∧ PlAt (w.heap.size + 1 + 1) (fun _ => false) wr ∧ Below w.heap.size w wr) (fun i _ => s.size - (intOf i).toNat)
  case atStart => exact ⟨0, f, Nat.zero_le _, rfl, StarIs.start _ _ _, H0.out.1, H0.out.2.1, H0.out.2.2⟩
  case round =>
    clear H0
    obtain ⟨k, g, hk, rfl, hst, hp, hq, hb⟩ := hrel
    have HB := Lib.hid hb
    have HP := Lib.hid hp
    have HQ := Lib.hid hq
    have HS := Lib.hid hst
    by_cases hlt : k < s.size
    · have c1 := hp.cell (k + 1) (by omega)
      have c0 := hp.cell k (by omega)
      have fr := hp.free (k + 1)
      have HST := Lib.hid (fun b (hb : b = (g (k + 1) || (g k && (!true || s[k] != 47)))) => hst.step (by rw [hsl]; exact hlt) b (by rw [getElem_listG s k hlt]; exact hb))
      obtain ⟨b1, hb1⟩ : ∃ b, g (k + 1) = b := ⟨_, rfl⟩
      obtain ⟨b0, hb0⟩ : ∃ b, g k = b := ⟨_, rfl⟩
      rw [hb1] at c1
      rw [hb0] at c0
      rw [hb1, hb0] at HST
      clear hb hp hq hst hb1 hb0
      obtain ⟨q, hq⟩ : ∃ q, (s[k] != 47) = q := ⟨_, rfl⟩
      have hqi : ((s[k].toNat : Int) != 47) = q := by rw [← hq]; exact bne_byte s[k] 47
      rw [hq] at HST
      clear hq
      cases b1 with
      | true =>
        clear hqi
        go_wp2_with fail
        go_roundw
        case rel => exact ⟨k + 1, _, by omega, by go_num, HST.out true (rfl), HP.out.set (k + 1) true, HQ.out.other (by omega) _ _, HB.out.setCell (by show w.heap.size ≤ w.heap.size + 1; omega) _⟩
        case measure => simp [intOf]; omega
      | false =>
        cases b0 with
        | false =>
          clear hqi
          go_wp2_with fail
          go_roundw
          case rel => exact ⟨k + 1, _, by omega, by go_num, HST.out false (rfl), HP.out.set (k + 1) false, HQ.out.other (by omega) _ _, HB.out.setCell (by show w.heap.size ≤ w.heap.size + 1; omega) _⟩
          case measure => simp [intOf]; omega
        | true =>
          cases q with
          | true =>
            go_wp2_with fail
            go_roundw
            case rel => exact ⟨k + 1, _, by omega, by go_num, HST.out true (rfl), HP.out.set (k + 1) true, HQ.out.other (by omega) _ _, HB.out.setCell (by show w.heap.size ≤ w.heap.size + 1; omega) _⟩
            case measure => simp [intOf]; omega
          | false =>
            go_wp2_with fail
            go_roundw
            case rel => exact ⟨k + 1, _, by omega, by go_num, HST.out false (rfl), HP.out.set (k + 1) false, HQ.out.other (by omega) _ _, HB.out.setCell (by show w.heap.size ≤ w.heap.size + 1; omega) _⟩
            case measure => simp [intOf]; omega
    · obtain rfl : k = s.size := by omega
      have HD := Lib.hid (show Behind .flat s.data.toList f g from StarIs.flat (by rw [hsl]; exact hst))
      have hc1 := hp.cells
      have hc2 := hq.cells
      have h1 := placesV_one g
      have z1 := placesV_size g
      have z2 := placesV_size fun _ => false
      have HR := Lib.hid (show ∃ g', Behind .flat s.data.toList f g' ∧ Ending.returned (.agg (placesV g)) = .returned (.agg (placesV g')) from ⟨g, HD.out, rfl⟩)
      obtain ⟨D, hD⟩ : ∃ D, placesV g = D := ⟨_, rfl⟩
      obtain ⟨Z, hZ⟩ : ∃ Z, placesV (fun _ => false) = Z := ⟨_, rfl⟩
      rw [hD] at hc1 h1 z1 HR
      rw [hZ] at hc2 z2
      have HC1 := Lib.hid hc1
      have HC2 := Lib.hid hc2
      have H1 := Lib.hid h1
      have Z1 := Lib.hid z1
      have Z2 := Lib.hid (z2.trans z1.symm)
      clear hb hp hq hst hc1 hc2 h1 z1 z2 hD hZ HP HQ HS HD
      go_wp2_with (first | (refine wpList_load_row rfl 56 (.tmp 5) rfl (w.heap.size + 1) rfl 56 D (0, 0) _ HC1.out Tryd.underlying56 rfl (info_places Z1.out) ?_) | (refine wpList_store_row rfl 56 (.tmp 6) (.tmp 32) rfl (w.heap.size + 1 + 1) D rfl rfl 56 Z HC2.out (info_places Z1.out) Z2.out H1.out ?_))
      have hfin : (wr.setRow (w.heap.size + 1 + 1) D).heap[w.heap.size + 1 + 1]? = some (.cells D 56 (0, 0)) := setRow_heap wr _ _ _ _ _ HC2.out
      refine bodyPost_ret (results_cell_row (p := 6) rfl _ _ (w.heap.size + 1 + 1) 56 D (0, 0) _ rfl hfin Tryd.underlying56 rfl (info_places Z1.out)) rfl ?_
      obtain ⟨g', h1, h2⟩ := HR.out
      exact ⟨g', h1, h2, HB.out.trans (below_setRow (Below.refl _ _) (by omega) _)⟩

set_option maxRecDepth 100000 in
set_option maxHeartbeats 2000000 in
theorem one_any (s : ByteArray) (f : Nat → Bool) (w : World) (hs : s.size ≤ 200) :
    Calls Tryd.prog 83 #[.agg #[], .string s, .agg (placesV f)] w fun e w' => ∃ g, Behind .one s.data.toList f g ∧ e = .returned (.agg (placesV g)) ∧ Below w.heap.size w w' := by
  have hsl : s.data.toList.length = s.size := by simp
  have H0 := Lib.hid (show PlAt (w.heap.size + 1) f ((((w.alloc (.cells #[] 75)).alloc (.cells (placesV f) 56)).alloc (.cells Tryd.zeroCells56 56)).alloc (.cells Tryd.zeroCells56 56)) ∧ PlAt (w.heap.size + 1 + 1) (fun _ => false) ((((w.alloc (.cells #[] 75)).alloc (.cells (placesV f) 56)).alloc (.cells Tryd.zeroCells56 56)).alloc (.cells Tryd.zeroCells56 56)) ∧ PlAt (w.heap.size + 1 + 1 + 1) (fun _ => false) ((((w.alloc (.cells #[] 75)).alloc (.cells (placesV f) 56)).alloc (.cells Tryd.zeroCells56 56)).alloc (.cells Tryd.zeroCells56 56)) ∧ Below w.heap.size w ((((w.alloc (.cells #[] 75)).alloc (.cells (placesV f) 56)).alloc (.cells Tryd.zeroCells56 56)).alloc (.cells Tryd.zeroCells56 56)) from by
    have h1 := PlAt.new (w.alloc (.cells #[] 75)) f
    have h2 := PlAt.zero ((w.alloc (.cells #[] 75)).alloc (.cells (placesV f) 56))
    have h3 := PlAt.zero (((w.alloc (.cells #[] 75)).alloc (.cells (placesV f) 56)).alloc (.cells Tryd.zeroCells56 56))
    simp only [World.size_alloc] at h1 h2 h3
    exact ⟨World.rowIs.alloc (World.rowIs.alloc h1 _) _, World.rowIs.alloc h2 _, h3, (((((Below.refl _ _).alloc (Nat.le_refl _) _).alloc (by simp) _).alloc (by simp; omega) _).alloc (by simp; omega) _)⟩)
  obtain ⟨C, hC⟩ : ∃ C, placesV f = C := ⟨_, rfl⟩
  rw [hC] at H0 ⊢
  clear hC
  go_enter Tryd.func83, Tryd.ntmps83
  go_wp2_with fail
  go_loopw [11] (fun i wr => ∃ (k : Nat) (g : Nat → Bool), k ≤ s.size ∧ i = .int .i64 k ∧ OneIs s.data.toList f k g ∧ PlAt (w.heap.size + 1) f wr ∧ PlAt (w.heap.size + 1 + 1) (fun _ => false) wr ∧ PlAt (w.heap.size + 1 + 1 + 1) g wr ∧ Below w.heap.size w wr) (fun i _ => s.size - (intOf i).toNat)
  case atStart => exact ⟨0, fun _ => false, Nat.zero_le _, rfl, OneIs.start _ _, H0.out.1, H0.out.2.1, H0.out.2.2.1, H0.out.2.2.2⟩
  case round =>
    clear H0
    obtain ⟨k, g, hk, rfl, hst, ha, hq, hp, hb⟩ := hrel
    have HB := Lib.hid hb
    have HP := Lib.hid hp
    have HQ := Lib.hid hq
    have HA := Lib.hid ha
    by_cases hlt : k < s.size
    · have c0 := ha.cell k (by omega)
      have c1 := hp.cell (k + 1) (by omega)
      have fr := hp.free (k + 1)
      have HST := Lib.hid (fun b (hb : b = (f k && s[k] != 47)) => hst.step (by rw [hsl]; exact hlt) b (by rw [getElem_listG s k hlt]; exact hb))
      obtain ⟨b0, hb0⟩ : ∃ b, f k = b := ⟨_, rfl⟩
      rw [hb0] at c0
      rw [hb0] at HST
      obtain ⟨q, hq2⟩ : ∃ q, (s[k] != 47) = q := ⟨_, rfl⟩
      have hqi : ((s[k].toNat : Int) != 47) = q := by rw [← hq2]; exact bne_byte s[k] 47
      rw [hq2] at HST
      clear hb hp hq ha hst hb0 hq2
      cases b0 with
      | false =>
        clear hqi
        go_wp2_with fail
        go_roundw
        case rel => exact ⟨k + 1, _, by omega, by go_num, HST.out false (rfl), HA.out.other (by omega) _ _, HQ.out.other (by omega) _ _, HP.out.set (k + 1) false, HB.out.setCell (by show w.heap.size ≤ w.heap.size + 1 + 1 + 1; omega) _⟩
        case measure => simp [intOf]; omega
      | true =>
        cases q with
        | true =>
          go_wp2_with fail
          go_roundw
          case rel => exact ⟨k + 1, _, by omega, by go_num, HST.out true (rfl), HA.out.other (by omega) _ _, HQ.out.other (by omega) _ _, HP.out.set (k + 1) true, HB.out.setCell (by show w.heap.size ≤ w.heap.size + 1 + 1 + 1; omega) _⟩
          case measure => simp [intOf]; omega
        | false =>
          go_wp2_with fail
          go_roundw
          case rel => exact ⟨k + 1, _, by omega, by go_num, HST.out false (rfl), HA.out.other (by omega) _ _, HQ.out.other (by omega) _ _, HP.out.set (k + 1) false, HB.out.setCell (by show w.heap.size ≤ w.heap.size + 1 + 1 + 1; omega) _⟩
          case measure => simp [intOf]; omega
    · obtain rfl : k = s.size := by omega
      have HD := Lib.hid (show Behind .one s.data.toList f g from OneIs.behind (by rw [hsl]; exact hst))
      have hc1 := hp.cells
      have hc2 := hq.cells
      have h1 := placesV_one g
      have z1 := placesV_size g
      have z2 := placesV_size fun _ => false
      have HR := Lib.hid (show ∃ g', Behind .one s.data.toList f g' ∧ Ending.returned (.agg (placesV g)) = .returned (.agg (placesV g')) from ⟨g, HD.out, rfl⟩)
      obtain ⟨D, hD⟩ : ∃ D, placesV g = D := ⟨_, rfl⟩
      obtain ⟨Z, hZ⟩ : ∃ Z, placesV (fun _ => false) = Z := ⟨_, rfl⟩
      rw [hD] at hc1 h1 z1 HR
      rw [hZ] at hc2 z2
      have HC1 := Lib.hid hc1
      have HC2 := Lib.hid hc2
      have H1 := Lib.hid h1
      have Z1 := Lib.hid z1
      have Z2 := Lib.hid (z2.trans z1.symm)
      clear hb hp hq ha hst hc1 hc2 h1 z1 z2 hD hZ HP HQ HA HD
      go_wp2_with (first | (refine wpList_load_row rfl 56 (.tmp 7) rfl (w.heap.size + 1 + 1 + 1) rfl 56 D (0, 0) _ HC1.out Tryd.underlying56 rfl (info_places Z1.out) ?_) | (refine wpList_store_row rfl 56 (.tmp 6) (.tmp 27) rfl (w.heap.size + 1 + 1) D rfl rfl 56 Z HC2.out (info_places Z1.out) Z2.out H1.out ?_))
      have hfin : (wr.setRow (w.heap.size + 1 + 1) D).heap[w.heap.size + 1 + 1]? = some (.cells D 56 (0, 0)) := setRow_heap wr _ _ _ _ _ HC2.out
      refine bodyPost_ret (results_cell_row (p := 6) rfl _ _ (w.heap.size + 1 + 1) 56 D (0, 0) _ rfl hfin Tryd.underlying56 rfl (info_places Z1.out)) rfl ?_
      obtain ⟨g', h1, h2⟩ := HR.out
      exact ⟨g', h1, h2, HB.out.trans (below_setRow (Below.refl _ _) (by omega) _)⟩
end Go.Proofs.YtjohjmoggldfcaaDoor
