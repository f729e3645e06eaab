/-
  The document's own half, Hex and Bytes, by contracts. Conditions: none.
-/
import Derived.Test.YtiebdmamjlgeoaaDoorPlain2
import Derived.Test.YtiebdmamjlgeoaaDoorWide
import Derived.Test.YtiebdmamjlgeoaaDoorHex
import Derived.BigRegion
import Derived.Deep.RegionLaw
import Derived.Deep.AppendLies
namespace Go.Proofs.YtiebdmamjlgeoaaDoor
open Go.RowKit

set_option maxRecDepth 100000 in
set_option maxHeartbeats 1000000 in
theorem half_any (c : UInt8) (w : World) :
    Calls Tryd.prog 46 #[.int .u8 c.toNat] w fun e w' => e = .returned (.int .i64 ((halfB c).getD 16 : Nat)) ∧ w = w' := by
  have hc := c.toNat_lt
  by_cases h1 : 48 ≤ c.toNat ∧ c.toNat ≤ 57
  · have HO := Lib.hid (show (((halfB c).getD 16 : Nat) : Int) = (c.toNat : Int) - 48 by simp [halfB, h1]; omega)
    obtain ⟨h1, h2⟩ := h1
    go_enter Tryd.func46, Tryd.ntmps46
    go_wp2_with fail
    go_ret
    exact ⟨by rw [HO.out]; rfl, rfl⟩
  · by_cases h2 : 97 ≤ c.toNat ∧ c.toNat ≤ 102
    · have HO := Lib.hid (show (((halfB c).getD 16 : Nat) : Int) = (c.toNat : Int) - 97 + 10 by simp [halfB, h1, h2]; omega)
      obtain ⟨h3, h4⟩ := h2
      clear h1
      go_enter Tryd.func46, Tryd.ntmps46
      go_wp2_with fail
      go_ret
      exact ⟨by rw [HO.out]; rfl, rfl⟩
    · have HO := Lib.hid (show (((halfB c).getD 16 : Nat) : Int) = 16 by simp [halfB, h1, h2])
      go_enter Tryd.func46, Tryd.ntmps46
      go_wp2_with fail
      all_goals
        go_ret
        exact ⟨by rw [HO.out]; rfl, rfl⟩
theorem half_some (c : UInt8) (x : Nat) (h : halfB c = some x) (w : World) :
    Calls Tryd.prog 46 #[.int .u8 c.toNat] w fun e w' => e = .returned (.int .i64 x) ∧ w = w' := by
  have := half_any c w
  rwa [h] at this
theorem half_none (c : UInt8) (h : halfB c = none) (w : World) :
    Calls Tryd.prog 46 #[.int .u8 c.toNat] w fun e w' => e = .returned (.int .i64 16) ∧ w = w' := by
  have := half_any c w
  rwa [h] at this

/-- The first m of a byte's digits. -/
def digs (D : Nat → Nat) (m : Nat) : List UInt8 := (List.range m).map fun i => hexDig (D i)
theorem digs_succ (D : Nat → Nat) (m : Nat) : digs D (m + 1) = digs D m ++ [hexDig (D m)] := by simp [digs, List.range_succ]
theorem digs_length (D : Nat → Nat) (m : Nat) : (digs D m).length = m := by simp [digs]
theorem dig_low (x : Nat) (h : x < 10) : Lib.byteCells [hexDig x] = [.int .u8 (48 + (x : Int))] := by
  have : ∀ m : Fin 10, (((hexDig m.1).toNat : Nat) : Int) = 48 + (m.1 : Int) := by decide
  show [Value.int .u8 (((hexDig x).toNat : Nat) : Int)] = _
  rw [this ⟨x, h⟩]
theorem dig_high (x : Nat) (h0 : 10 ≤ x) (h : x < 16) : Lib.byteCells [hexDig x] = [.int .u8 (97 + (x : Int) - 10)] := by
  have : ∀ m : Fin 16, 10 ≤ m.1 → (((hexDig m.1).toNat : Nat) : Int) = 97 + (m.1 : Int) - 10 := by decide
  show [Value.int .u8 (((hexDig x).toNat : Nat) : Int)] = _
  rw [this ⟨x, h⟩ h0]

set_option maxRecDepth 100000 in
set_option maxHeartbeats 1000000 in
theorem refHex_any (s : ByteArray) (w : World) (hs : s.size ≤ 300) :
    Calls Tryd.prog 26 #[.string s] w fun e w' => e = .returned (.string ⟨(hexL s.data.toList).toArray⟩) ∧ Below w.heap.size w w' := by
  obtain ⟨i0, hi, hz0, hz1, hz2⟩ := info_parts infoByte
  go_enter Tryd.func26, Tryd.ntmps26
  go_wp2_with fail
  go_loopw [3, 4] (fun bv iv wr => ∃ k : Nat, k ≤ s.size ∧ iv = .int .i64 k ∧ (∃ g c, bv = .slice (some ⟨g, 0, none⟩) (2 * k) c ∧ w.heap.size ≤ g) ∧ wr.ownsRow w.heap.size 5 1 bv (2 * k) (Lib.byteCells (hexL (s.data.toList.take k))) ∧ Below w.heap.size w wr) (fun _ i _ => s.size - (intOf i).toNat)
  case atStart => exact ⟨0, Nat.zero_le _, rfl, ⟨_, _, rfl, Nat.le_refl _⟩, World.ownsRow_lit w #[] 0 (Nat.le_refl _) (Nat.zero_le _) rfl, (Below.refl _ _).alloc (by omega) _⟩
  case round =>
    obtain ⟨k, hk, rfl, ⟨g, c, rfl, hgB⟩, ho, hb⟩ := hrel
    have hbs := hb.size
    by_cases hlt : k < s.size
    · have hc := s[k].toNat_lt
      have q1 : (0 : Int) ≤ (s[k].toNat : Int) / 16 := by omega
      have q2 : (s[k].toNat : Int) / 16 < 16 := by omega
      have q3 : (0 : Int) ≤ (s[k].toNat : Int) % 16 := by omega
      have q4 : (s[k].toNat : Int) % 16 < 16 := by omega
      have HT := Lib.hid (take_hexL s k hlt)
      obtain ⟨D, hD0, hD1, hDe, hDb⟩ : ∃ D : Nat → Nat, (s[k].toNat : Int) / 16 = (D 0 : Int) ∧ (s[k].toNat : Int) % 16 = (D 1 : Int) ∧ hexL (s.data.toList.take (k + 1)) = hexL (s.data.toList.take k) ++ digs D 2 ∧ ∀ i, D i < 16 :=
        ⟨fun i => if i = 0 then s[k].toNat / 16 else s[k].toNat % 16, by simp, by simp, by rw [HT.out]; rfl, fun i => by simp only []; split <;> omega⟩
      have hgl : g < wr.heap.size := (ho.lt g rfl).2
      have HO := Lib.hid ho
      have HB := Lib.hid hb
      have HD := Lib.hid hDe
      clear ho hb HT hDe
      go_wp2_with fail
      go_region
      obtain ⟨wo, rfl⟩ : ∃ wo : World, wo = wr := ⟨_, rfl⟩
      have hcell : ∀ i, i < 2 → (wo.alloc (.cells #[.int .u8 (D 0 : Int), .int .u8 (D 1 : Int)] 5)).drew.cell? ⟨wo.heap.size, i, none⟩ = some (.int .u8 (D i : Int)) := fun i hi => by
        show (wo.alloc (.cells #[.int .u8 (D 0 : Int), .int .u8 (D 1 : Int)] 5)).cell? ⟨wo.heap.size, i, none⟩ = _
        rw [World.cell?_alloc_at _ _ _ _ rfl]
        match i, hi with
        | 0, _ => rfl
        | 1, _ => rfl
      have hbi : Below w.heap.size w (wo.alloc (.cells #[.int .u8 (D 0 : Int), .int .u8 (D 1 : Int)] 5)).drew := (HB.out.alloc hbs _).drew
      have hoi := ((HO.out.alloc (.cells #[.int .u8 (D 0 : Int), .int .u8 (D 1 : Int)] 5)).drew)
      have hBi : wo.heap.size < (wo.alloc (.cells #[.int .u8 (D 0 : Int), .int .u8 (D 1 : Int)] 5)).drew.heap.size := by
        show wo.heap.size < (wo.alloc (.cells #[.int .u8 (D 0 : Int), .int .u8 (D 1 : Int)] 5)).heap.size
        simp
      generalize (wo.alloc (.cells #[.int .u8 (D 0 : Int), .int .u8 (D 1 : Int)] 5)).drew = wi at hcell hbi hoi hBi ⊢
      obtain ⟨B0, hB0⟩ : ∃ B0, wo.heap.size = B0 := ⟨_, rfl⟩
      rw [hB0] at hcell hBi hgl ⊢
      have hgn0 : g ≠ B0 := by omega
      have hDl : ∀ i, D i < 16 := hDb
      have HDL := Lib.hid hDl
      clear hDl hDb hB0 hbs hc q1 q2 q3 q4 hD0 hD1 HO HB
      go_wp2_with fail
      go_loopw [3, 24] (fun bv iv wi => ∃ m : Nat, m ≤ 2 ∧ iv = .int .i64 m ∧ (∃ g c, bv = .slice (some ⟨g, 0, none⟩) (2 * k + m) c ∧ w.heap.size ≤ g ∧ g ≠ B0) ∧ wi.ownsRow w.heap.size 5 1 bv (2 * k + m) (Lib.byteCells (hexL (s.data.toList.take k) ++ digs D m)) ∧ (∀ i, i < 2 → wi.cell? ⟨B0, i, none⟩ = some (.int .u8 (D i : Int))) ∧ B0 < wi.heap.size ∧ Below w.heap.size w wi) (fun _ i _ => 2 - (intOf i).toNat)
      case atStart => exact ⟨0, Nat.zero_le _, rfl, ⟨_, _, rfl, hgB, hgn0⟩, by simpa [digs] using hoi, hcell, hBi, hbi⟩
      case round =>
        obtain ⟨m, hm, rfl, ⟨g2, c2, rfl, hgB2, hgn⟩, ho2, hcs, hB, hb2⟩ := hrel
        have hbs2 := hb2.size
        have HO2 := Lib.hid ho2
        have HB2 := Lib.hid hb2
        have HCS := Lib.hid hcs
        clear ho2 hb2 hcs hcell hoi hbi
        by_cases hlt2 : m < 2
        · have hcm := HCS.out m hlt2
          have hD16 := HDL.out m
          have hds := Lib.hid (digs_succ D m)
          by_cases hlow : D m < 10
          · have DL := Lib.hid (dig_low (D m) hlow)
            go_wp2_with (at_builtin; refine wpList_append_lies _ rfl _ _ 39 rfl w.heap.size 5 i0 (.int .u8 0) 1 1 Tryd.underlying39 hi hz0 hz1 hz2 rfl (by decide) _ (2 * k + m) (Lib.byteCells (hexL (s.data.toList.take k) ++ digs D m)) rfl (HO2.out.alloc _) ⟨wr.heap.size, 0, none⟩ 1 1 [.int .u8 (48 + (D m : Int))] rfl rfl ?c1 ?c2 ?c3 ?c4 ?c5 ?c6 (wr.heap.size + 1) ?c7 ?_)
            case c1 =>
              intro i u hi'
              match i, hi' with
              | 0, hi' => simp at hi'; subst hi'; rw [addr0_add, World.cell?_alloc_at _ _ _ _ rfl]; rfl
              | i + 1, hi' => simp at hi'
            case c2 => intro u hu; simp at hu; subst hu; rfl
            case c3 => omega
            case c4 => unfold maxLen; omega
            case c5 => omega
            case c6 => simp; omega
            case c7 => simp
            intro g3 c3 w3 hown3 hgrow3 hat3 hlt3
            have hbb3 : Below w.heap.size w w3 := (HB2.out.alloc hbs2 _).grown hgrow3 (by simp; omega) (fun k hk => by cases hk; exact hgB2)
            have hg3 : w.heap.size ≤ g3 ∧ g3 ≠ B0 := by
              rcases hat3 with h | h
              · cases h; exact ⟨hgB2, hgn⟩
              · subst h; exact ⟨by omega, by omega⟩
            have hcs3 : ∀ i, i < 2 → w3.cell? ⟨B0, i, none⟩ = some (.int .u8 (D i : Int)) := fun i hi => by
              rw [hgrow3.cell_far _ (by simp; omega) (by intro e; cases e; exact hgn rfl), World.cell?_alloc_lt _ _ _ (by simpa using hB)]
              exact HCS.out i hi
            have hrow3 := Lib.hid (show w3.ownsRow w.heap.size 5 1 (.slice (some ⟨g3, 0, none⟩) (2 * k + m + 1) c3) (2 * k + m + 1) (Lib.byteCells (hexL (s.data.toList.take k) ++ digs D (m + 1))) from by
              rw [hds.out, ← List.append_assoc, Lib.byteCells_append, DL.out]
              exact hown3)
            have HCS3 := Lib.hid hcs3
            have HB3 := Lib.hid hbb3
            have hB3 : B0 < w3.heap.size := by have := hgrow3.size; simp at this; omega
            clear hown3 hgrow3 hat3 hcs3 hbb3
            go_wp2_with fail
            go_roundw
            case rel => exact ⟨m + 1, by omega, by go_num, ⟨_, _, rfl, hg3⟩, hrow3.out, HCS3.out, hB3, HB3.out⟩
            case measure => simp [intOf]; omega
          · have DL := Lib.hid (dig_high (D m) (by omega) hD16)
            go_wp2_with (at_builtin; refine wpList_append_lies _ rfl _ _ 39 rfl w.heap.size 5 i0 (.int .u8 0) 1 1 Tryd.underlying39 hi hz0 hz1 hz2 rfl (by decide) _ (2 * k + m) (Lib.byteCells (hexL (s.data.toList.take k) ++ digs D m)) rfl (HO2.out.alloc _) ⟨wr.heap.size, 0, none⟩ 1 1 [.int .u8 (97 + (D m : Int) - 10)] rfl rfl ?c1 ?c2 ?c3 ?c4 ?c5 ?c6 (wr.heap.size + 1) ?c7 ?_)
            case c1 =>
              intro i u hi'
              match i, hi' with
              | 0, hi' => simp at hi'; subst hi'; rw [addr0_add, World.cell?_alloc_at _ _ _ _ rfl]; rfl
              | i + 1, hi' => simp at hi'
            case c2 => intro u hu; simp at hu; subst hu; rfl
            case c3 => omega
            case c4 => unfold maxLen; omega
            case c5 => omega
            case c6 => simp; omega
            case c7 => simp
            intro g3 c3 w3 hown3 hgrow3 hat3 hlt3
            have hbb3 : Below w.heap.size w w3 := (HB2.out.alloc hbs2 _).grown hgrow3 (by simp; omega) (fun k hk => by cases hk; exact hgB2)
            have hg3 : w.heap.size ≤ g3 ∧ g3 ≠ B0 := by
              rcases hat3 with h | h
              · cases h; exact ⟨hgB2, hgn⟩
              · subst h; exact ⟨by omega, by omega⟩
            have hcs3 : ∀ i, i < 2 → w3.cell? ⟨B0, i, none⟩ = some (.int .u8 (D i : Int)) := fun i hi => by
              rw [hgrow3.cell_far _ (by simp; omega) (by intro e; cases e; exact hgn rfl), World.cell?_alloc_lt _ _ _ (by simpa using hB)]
              exact HCS.out i hi
            have hrow3 := Lib.hid (show w3.ownsRow w.heap.size 5 1 (.slice (some ⟨g3, 0, none⟩) (2 * k + m + 1) c3) (2 * k + m + 1) (Lib.byteCells (hexL (s.data.toList.take k) ++ digs D (m + 1))) from by
              rw [hds.out, ← List.append_assoc, Lib.byteCells_append, DL.out]
              exact hown3)
            have HCS3 := Lib.hid hcs3
            have HB3 := Lib.hid hbb3
            have hB3 : B0 < w3.heap.size := by have := hgrow3.size; simp at this; omega
            clear hown3 hgrow3 hat3 hcs3 hbb3
            go_wp2_with fail
            go_roundw
            case rel => exact ⟨m + 1, by omega, by go_num, ⟨_, _, rfl, hg3⟩, hrow3.out, HCS3.out, hB3, HB3.out⟩
            case measure => simp [intOf]; omega
        · obtain rfl : m = 2 := by omega
          have hrow := Lib.hid (show wr.ownsRow w.heap.size 5 1 (.slice (some ⟨g2, 0, none⟩) (2 * (k + 1)) c2) (2 * (k + 1)) (Lib.byteCells (hexL (s.data.toList.take (k + 1)))) by rw [HD.out]; exact HO2.out)
          go_wp2_with fail
          go_roundw
          case rel => exact ⟨k + 1, by omega, by go_num, ⟨_, _, rfl, hgB2⟩, hrow.out, HB2.out⟩
          case measure => simp [intOf]; omega
    · rw [List.take_of_length_le (by simp; omega)] at ho
      obtain rfl : k = s.size := by omega
      have hcv := run_convert_bytes_back (P := Tryd.prog) wr 39 9 5 ⟨g, 0, none⟩ c (hexL s.data.toList) Tryd.underlying39 Tryd.underlying5 Tryd.underlying9 (fun i hi => by
        rw [hexL_length, toList_size] at hi
        have := ho.cellAt i (by omega)
        rw [addr0_add, this, List.getElem?_eq_getElem (by rw [Lib.byteCells_length, hexL_length, toList_size]; exact hi)]
        simp [Lib.byteCells])
      rw [hexL_length, toList_size] at hcv
      go_wp2_with fail
      go_ret
      exact ⟨rfl, hb⟩
end Go.Proofs.YtiebdmamjlgeoaaDoor
