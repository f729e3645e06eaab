/-
  The document's own rows of roots, by contracts. Conditions: none.
-/
import Derived.Test.YtiebdmamjlgeoaaDoorRefRoot
import Derived.Test.YtiebdmamjlgeoaaDoorRefKeys
namespace Go.Proofs.YtiebdmamjlgeoaaDoor
open Go.RowKit

theorem pb_mono (k d : Nat) : (pbL k).length ≤ (pbL (k + d)).length := by
  induction d with
  | zero => exact Nat.le_refl _
  | succ d ih =>
    refine Nat.le_trans ih ?_
    rw [show pbL (k + (d + 1)) = if (pbL (k + d)).all (fun q => (k + d + 2) % q != 0) then pbL (k + d) ++ [k + d + 2] else pbL (k + d) from rfl]
    split
    · simp
    · exact Nat.le_refl _
theorem pb309 : (pbL 309).length = 63 := by kernel_rfl
theorem pb_less64 : ∀ k, k < 310 → (pbL k).length < 64 := by
  intro k hk
  have := pb_mono k (309 - k)
  rw [show k + (309 - k) = 309 by omega, pb309] at this
  omega
theorem pb_less8 : ∀ k, k < 18 → (pbL k).length < 8 := by
  have : ∀ k : Fin 18, (pbL k.1).length < 8 := by decide
  exact fun k hk => this ⟨k, hk⟩

set_option maxRecDepth 100000 in
set_option maxHeartbeats 1000000 in
theorem roots_ref (w : World) :
    Calls Tryd.prog 15 #[] w fun e w' => (∃ g c, e = .returned (.slice (some ⟨g, 0, none⟩) 64 c) ∧ RowU w' g keysL ∧ w.heap.size ≤ g) ∧ Below w.heap.size w w' := by
  obtain ⟨i0, hi, hz0, hz1, hz2⟩ := info_parts infoU32
  have PR := Lib.hid (fun w => primes_any 64 310 w (by rw [primes64]; rfl) pb_less64 (by decide))
  obtain ⟨PL, hPL⟩ : ∃ PL, pbL 310 = PL := ⟨_, rfl⟩
  have HR64 := Lib.hid (show (PL.map fun p => ((rootL p 3 : Nat) : Int)) = keysL by rw [← hPL]; exact roots64)
  have hPl : PL.length = 64 := by rw [← hPL, primes64]; rfl
  have HPS := Lib.hid (show ∀ q ∈ PL, q < 65536 from fun q hq => by have := pbL_small 310 q (by rw [hPL]; exact hq); omega)
  rw [hPL] at PR
  clear hPL
  go_enter Tryd.func15, Tryd.ntmps15
  go_wp2_with fail
  refine (PR.out _).mono ?_
  rintro e w1 ⟨⟨g1, c1, rfl, hr1, hg1⟩, hb1⟩
  have HRN := Lib.hid hr1
  have h0 : (w.alloc (.cells #[] 41)).ownsRow w.heap.size 41 1 (.slice (some ⟨w.heap.size, 0, none⟩) 0 0) 0 (wordC []) := World.ownsRow_lit w #[] 0 (Nat.le_refl _) (Nat.zero_le _) rfl
  have HO1 := Lib.hid (h0.kept (grownBy_of_below' hb1) (Or.inr (by simp [Value.ownBlock])))
  have HB1 := Lib.hid (((Below.refl w.heap.size w).alloc (Nat.le_refl _) (.cells #[] 41)).trans (hb1.mono (by simp)))
  clear hr1 hb1 h0 PR
  go_wp2_with fail
  go_loopw [1, 7] (fun ov iv wr => ∃ k : Nat, k ≤ 64 ∧ iv = .int .i64 k ∧ (∃ g c, ov = .slice (some ⟨g, 0, none⟩) k c ∧ w.heap.size ≤ g ∧ g ≠ g1) ∧ wr.ownsRow w.heap.size 41 1 ov k (wordC (keysL.take k)) ∧ RowN wr g1 PL ∧ Below w.heap.size w wr) (fun _ i _ => 64 - (intOf i).toNat)
  case atStart => exact ⟨0, Nat.zero_le _, rfl, ⟨_, _, rfl, Nat.le_refl _, by simp at hg1; omega⟩, HO1.out, HRN.out, HB1.out⟩
  case round =>
    clear HO1 HRN HB1
    obtain ⟨k, hk, rfl, ⟨g, c, rfl, hgB, hgn⟩, ho, hr, hb⟩ := hrel
    by_cases hlt : k < 64
    · have hkl : k < PL.length := by omega
      have c0 := hr.2 k hkl
      have HT := Lib.hid (show keysL.take (k + 1) = keysL.take k ++ [((rootL (PL.getD k 0) 3 : Nat) : Int)] by
        rw [← HR64.out, List.take_succ_eq_append_getElem (by simpa using hkl)]
        congr 1
        simp [hkl])
      have HO := Lib.hid ho
      have HB := Lib.hid hb
      have HRN := Lib.hid hr
      have hgl1 : g1 < wr.heap.size := hr.1
      have hbs := hb.size
      clear ho hb hr
      obtain ⟨q, hq⟩ : ∃ q, PL.getD k 0 = q := ⟨_, rfl⟩
      rw [hq] at c0 HT
      clear hq
      have RT := Lib.hid (fun w => root_any q 3 w (by decide))
      obtain ⟨r, hr⟩ : ∃ r : Nat, rootL q 3 = r := ⟨_, rfl⟩
      rw [hr] at RT HT
      clear hr
      go_wp2_with fail
      refine (RT.out _).mono ?_
      rintro e w4 ⟨rfl, hb4⟩
      have HO4 := Lib.hid (HO.out.kept (grownBy_of_below' hb4) (Or.inr (by simp [Value.ownBlock])))
      have HRN4 := Lib.hid (HRN.out.keep hgl1 hb4)
      have HB4 := Lib.hid (HB.out.trans (hb4.mono hbs))
      have hbs4 : w.heap.size ≤ w4.heap.size := Nat.le_trans hbs hb4.size
      have hgl4 : g1 < w4.heap.size := Nat.lt_of_lt_of_le hgl1 hb4.size
      clear hb4 HO HRN HB RT
      go_wp2_with (at_builtin; refine wpList_append_lies _ rfl _ _ 26 rfl w.heap.size 41 i0 (.int .u32 0) 1 4 Tryd.underlying26 hi hz0 hz1 hz2 rfl (by decide) _ k (wordC (keysL.take k)) rfl (HO4.out.alloc _) ⟨w4.heap.size, 0, none⟩ 1 1 [.int .u32 (r : Int)] rfl rfl ?c1 ?c2 ?c3 ?c4 ?c5 ?c6 (w4.heap.size + 1) ?c7 ?_)
      case c1 =>
        intro i u hi'
        match i, hi' with
        | 0, hi' => simp at hi'; subst hi'; rw [addr0_add, World.cell?_alloc_at _ _ _ _ rfl]; rfl
        | i + 1, hi' => simp at hi'
      case c2 => intro u hu; simp at hu; subst hu; rfl
      case c3 => omega
      case c4 => unfold maxLen; omega
      case c5 => omega
      case c6 => simp; omega
      case c7 => simp
      intro g3 c3 w5 hown3 hgrow3 hat3 hlt3
      have hb5 : Below w.heap.size w w5 := (HB4.out.alloc hbs4 _).grown hgrow3 (by simp; omega) (fun k hk => by cases hk; exact hgB)
      have hg3 : w.heap.size ≤ g3 ∧ g3 ≠ g1 := by
        rcases hat3 with h | h
        · cases h; exact ⟨hgB, hgn⟩
        · subst h; exact ⟨by omega, by omega⟩
      have hrn5 : RowN w5 g1 PL := ⟨by have := hgrow3.size; simp at this; omega, fun i hi => by
        rw [hgrow3.cell_far _ (by simp; omega) (by intro e; cases e; exact hgn rfl), World.cell?_alloc_lt _ _ _ (by simpa using hgl4)]
        exact HRN4.out.2 i hi⟩
      have HO5 := Lib.hid (show w5.ownsRow w.heap.size 41 1 (.slice (some ⟨g3, 0, none⟩) (k + 1) c3) (k + 1) (wordC (keysL.take (k + 1))) by
        rw [HT.out, wordC_append]
        exact hown3)
      have HRN5 := Lib.hid hrn5
      have HB5 := Lib.hid hb5
      clear hown3 hgrow3 hat3 hrn5 hb5 HO4 HRN4 HB4
      go_wp2_with fail
      go_roundw
      case rel => exact ⟨k + 1, by omega, by go_num, ⟨_, _, rfl, hg3⟩, HO5.out, HRN5.out, HB5.out⟩
      case measure => simp [intOf]; omega
    · have hk64 := Lib.hid (show k = 64 by omega)
      have hge : 64 ≤ k := by omega
      have HR := Lib.hid (show RowU wr g keysL from ⟨(ho.lt g rfl).2, fun i hi => by
        have hl : keysL.length = 64 := rfl
        rw [hk64.out] at ho
        rw [ho.cellAt i (by omega), List.take_of_length_le (by omega)]
        simp [wordC, hi]⟩)
      have HB := Lib.hid hb
      clear ho hb hr
      go_wp2_with fail
      go_ret
      exact ⟨⟨g, c, by rw [← hk64.out]; rfl, HR.out, hgB⟩, HB.out⟩
set_option maxRecDepth 100000 in
set_option maxHeartbeats 1000000 in
theorem begins_ref (w : World) :
    Calls Tryd.prog 17 #[] w fun e w' => (∃ g c, e = .returned (.slice (some ⟨g, 0, none⟩) 8 c) ∧ RowU w' g begins.toL ∧ w.heap.size ≤ g) ∧ Below w.heap.size w w' := by
  obtain ⟨i0, hi, hz0, hz1, hz2⟩ := info_parts infoU32
  have PR := Lib.hid (fun w => primes_any 8 18 w (by rw [primes8]; rfl) pb_less8 (by decide))
  obtain ⟨PL, hPL⟩ : ∃ PL, pbL 18 = PL := ⟨_, rfl⟩
  have HR8 := Lib.hid (show (PL.map fun p => ((rootL p 2 : Nat) : Int)) = begins.toL by rw [← hPL]; exact roots8)
  have hPl : PL.length = 8 := by rw [← hPL, primes8]; rfl
  have HPS := Lib.hid (show ∀ q ∈ PL, q < 65536 from fun q hq => by have := pbL_small 18 q (by rw [hPL]; exact hq); omega)
  rw [hPL] at PR
  clear hPL
  go_enter Tryd.func17, Tryd.ntmps17
  go_wp2_with fail
  refine (PR.out _).mono ?_
  rintro e w1 ⟨⟨g1, c1, rfl, hr1, hg1⟩, hb1⟩
  have HRN := Lib.hid hr1
  have h0 : (w.alloc (.cells #[] 41)).ownsRow w.heap.size 41 1 (.slice (some ⟨w.heap.size, 0, none⟩) 0 0) 0 (wordC []) := World.ownsRow_lit w #[] 0 (Nat.le_refl _) (Nat.zero_le _) rfl
  have HO1 := Lib.hid (h0.kept (grownBy_of_below' hb1) (Or.inr (by simp [Value.ownBlock])))
  have HB1 := Lib.hid (((Below.refl w.heap.size w).alloc (Nat.le_refl _) (.cells #[] 41)).trans (hb1.mono (by simp)))
  clear hr1 hb1 h0 PR
  go_wp2_with fail
  go_loopw [1, 7] (fun ov iv wr => ∃ k : Nat, k ≤ 8 ∧ iv = .int .i64 k ∧ (∃ g c, ov = .slice (some ⟨g, 0, none⟩) k c ∧ w.heap.size ≤ g ∧ g ≠ g1) ∧ wr.ownsRow w.heap.size 41 1 ov k (wordC (begins.toL.take k)) ∧ RowN wr g1 PL ∧ Below w.heap.size w wr) (fun _ i _ => 8 - (intOf i).toNat)
  case atStart => exact ⟨0, Nat.zero_le _, rfl, ⟨_, _, rfl, Nat.le_refl _, by simp at hg1; omega⟩, HO1.out, HRN.out, HB1.out⟩
  case round =>
    clear HO1 HRN HB1
    obtain ⟨k, hk, rfl, ⟨g, c, rfl, hgB, hgn⟩, ho, hr, hb⟩ := hrel
    by_cases hlt : k < 8
    · have hkl : k < PL.length := by omega
      have c0 := hr.2 k hkl
      have HT := Lib.hid (show begins.toL.take (k + 1) = begins.toL.take k ++ [((rootL (PL.getD k 0) 2 : Nat) : Int)] by
        rw [← HR8.out, List.take_succ_eq_append_getElem (by simpa using hkl)]
        congr 1
        simp [hkl])
      have HO := Lib.hid ho
      have HB := Lib.hid hb
      have HRN := Lib.hid hr
      have hgl1 : g1 < wr.heap.size := hr.1
      have hbs := hb.size
      clear ho hb hr
      obtain ⟨q, hq⟩ : ∃ q, PL.getD k 0 = q := ⟨_, rfl⟩
      rw [hq] at c0 HT
      clear hq
      have RT := Lib.hid (fun w => root_any q 2 w (by decide))
      obtain ⟨r, hr⟩ : ∃ r : Nat, rootL q 2 = r := ⟨_, rfl⟩
      rw [hr] at RT HT
      clear hr
      go_wp2_with fail
      refine (RT.out _).mono ?_
      rintro e w4 ⟨rfl, hb4⟩
      have HO4 := Lib.hid (HO.out.kept (grownBy_of_below' hb4) (Or.inr (by simp [Value.ownBlock])))
      have HRN4 := Lib.hid (HRN.out.keep hgl1 hb4)
      have HB4 := Lib.hid (HB.out.trans (hb4.mono hbs))
      have hbs4 : w.heap.size ≤ w4.heap.size := Nat.le_trans hbs hb4.size
      have hgl4 : g1 < w4.heap.size := Nat.lt_of_lt_of_le hgl1 hb4.size
      clear hb4 HO HRN HB RT
      go_wp2_with (at_builtin; refine wpList_append_lies _ rfl _ _ 26 rfl w.heap.size 41 i0 (.int .u32 0) 1 4 Tryd.underlying26 hi hz0 hz1 hz2 rfl (by decide) _ k (wordC (begins.toL.take k)) rfl (HO4.out.alloc _) ⟨w4.heap.size, 0, none⟩ 1 1 [.int .u32 (r : Int)] rfl rfl ?c1 ?c2 ?c3 ?c4 ?c5 ?c6 (w4.heap.size + 1) ?c7 ?_)
      case c1 =>
        intro i u hi'
        match i, hi' with
        | 0, hi' => simp at hi'; subst hi'; rw [addr0_add, World.cell?_alloc_at _ _ _ _ rfl]; rfl
        | i + 1, hi' => simp at hi'
      case c2 => intro u hu; simp at hu; subst hu; rfl
      case c3 => omega
      case c4 => unfold maxLen; omega
      case c5 => omega
      case c6 => simp; omega
      case c7 => simp
      intro g3 c3 w5 hown3 hgrow3 hat3 hlt3
      have hb5 : Below w.heap.size w w5 := (HB4.out.alloc hbs4 _).grown hgrow3 (by simp; omega) (fun k hk => by cases hk; exact hgB)
      have hg3 : w.heap.size ≤ g3 ∧ g3 ≠ g1 := by
        rcases hat3 with h | h
        · cases h; exact ⟨hgB, hgn⟩
        · subst h; exact ⟨by omega, by omega⟩
      have hrn5 : RowN w5 g1 PL := ⟨by have := hgrow3.size; simp at this; omega, fun i hi => by
        rw [hgrow3.cell_far _ (by simp; omega) (by intro e; cases e; exact hgn rfl), World.cell?_alloc_lt _ _ _ (by simpa using hgl4)]
        exact HRN4.out.2 i hi⟩
      have HO5 := Lib.hid (show w5.ownsRow w.heap.size 41 1 (.slice (some ⟨g3, 0, none⟩) (k + 1) c3) (k + 1) (wordC (begins.toL.take (k + 1))) by
        rw [HT.out, wordC_append]
        exact hown3)
      have HRN5 := Lib.hid hrn5
      have HB5 := Lib.hid hb5
      clear hown3 hgrow3 hat3 hrn5 hb5 HO4 HRN4 HB4
      go_wp2_with fail
      go_roundw
      case rel => exact ⟨k + 1, by omega, by go_num, ⟨_, _, rfl, hg3⟩, HO5.out, HRN5.out, HB5.out⟩
      case measure => simp [intOf]; omega
    · have hk8 := Lib.hid (show k = 8 by omega)
      have hge : 8 ≤ k := by omega
      have HR := Lib.hid (show RowU wr g begins.toL from ⟨(ho.lt g rfl).2, fun i hi => by
        have hl : begins.toL.length = 8 := rfl
        rw [hk8.out] at ho
        rw [ho.cellAt i (by omega), List.take_of_length_le (by omega)]
        simp [wordC, hi]⟩)
      have HB := Lib.hid hb
      clear ho hb hr
      go_wp2_with fail
      go_ret
      exact ⟨⟨g, c, by rw [← hk8.out]; rfl, HR.out, hgB⟩, HB.out⟩
end Go.Proofs.YtiebdmamjlgeoaaDoor
