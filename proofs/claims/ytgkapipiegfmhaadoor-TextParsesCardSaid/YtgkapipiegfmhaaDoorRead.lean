/-
  The program's Parse: what a text is read as, its panics recovered. Conditions: the package-level variables as TEnv says.
-/
import Derived.Test.YtgkapipiegfmhaaDoorRdA
import Derived.Test.YtgkapipiegfmhaaDoorRight2
import Derived.Defers
import Derived.Recover
namespace Go.Proofs.YtgkapipiegfmhaaDoor
open Go.RowKit

/-- How 'read' ends. -/
structure ReadEnds (s : ByteArray) (w : World) (e : Ending) (w' : World) : Prop where
  below : Below w.heap.size w w'
  is : if 4096 < s.size then e = stop 2 else match parseV s with
    | some T => ∃ v, e = .returned v ∧ ValIn (fun b => w.heap.size ≤ b) w' v T
    | none => e = stop 6
theorem parseV_rdL (s : ByteArray) : parseV s = match rdL s.data.toList with | some (T, []) => if mayV 6 T then some T else none | _ => none := by
  unfold parseV rdL
  rw [Lib.size_eq]
  cases parseL (s.data.toList.length + 1) s.data.toList with
  | none => rfl
  | some p =>
    obtain ⟨T, r⟩ := p
    cases r <;> rfl

set_option maxRecDepth 100000 in
set_option maxHeartbeats 4000000 in
theorem read_t (s : ByteArray) (w : World) (he : TEnv w) (hs : s.size ≤ maxLen) :
    Calls Tryd.prog 11 #[.string s] w fun e w' => ReadEnds s w e w' := by
  unfold maxLen at hs
  by_cases hl : 4096 < s.size
  · have h1 : (4096 : Int) < (s.size : Int) := by omega
    have HB := Lib.hid (below_new w (.cells #[.int .i64 0, .int .i64 0, .string ⟨#[]⟩, .slice none 0 0, .slice none 0 0] 25))
    have HL := Lib.hid hl
    clear he
    go_enter Tryd.func11, Tryd.ntmps11
    go_wp2_with fail
    exact ⟨rfl, ⟨HB.out, by rw [if_pos HL.out]; rfl⟩⟩
  · have h1 : ¬ (4096 : Int) < (s.size : Int) := by omega
    have HL := Lib.hid hl
    have hB : 8 ≤ w.heap.size + 1 := by have := he.size; omega
    obtain ⟨W0, hW0⟩ : ∃ W0, (w.alloc (.cells #[.int .i64 0, .int .i64 0, .string ⟨#[]⟩, .slice none 0 0, .slice none 0 0] 25)).alloc (.cells #[.string s] 43) = W0 := ⟨_, rfl⟩
    have hq1 : ∀ o, (w.alloc o).heap.size = w.heap.size + 1 := fun o => by simp
    have hs0 : W0.heap.size = w.heap.size + 2 := by rw [← hW0]; simp
    have hbw : Below w.heap.size w W0 := by rw [← hW0]; exact ((Below.refl _ _).alloc (Nat.le_refl _) _).alloc (by simp) _
    have hr0 : RdAt W0 (w.heap.size + 1) s := by
      rw [← hW0]
      have e := RdAt.new (w.alloc (.cells #[.int .i64 0, .int .i64 0, .string ⟨#[]⟩, .slice none 0 0, .slice none 0 0] 25)) s
      rw [hq1] at e
      exact e
    have hz5 : At5 W0 w.heap.size (.int .i64 0) (.int .i64 0) (.string ⟨#[]⟩) (.slice none 0 0) (.slice none 0 0) := by
      rw [← hW0]
      exact (Below.heap_alloc _ _ _ (by rw [hq1]; omega)).trans (At5.new w _ _ _ _ _)
    have C := Lib.hid (value_go s.size s (Nat.le_refl _) (by omega) (w.heap.size + 1) W0 hr0 (he.below hbw) hB)
    have HW0 := Lib.hid hW0
    have HS0 := Lib.hid hs0
    have HGZ := Lib.hid (show ∀ w2, Gone (w.heap.size + 1) W0 w2 → Below w.heap.size w w2 ∧ w.heap.size + 2 ≤ w2.heap.size ∧ At5 w2 w.heap.size (.int .i64 0) (.int .i64 0) (.string ⟨#[]⟩) (.slice none 0 0) (.slice none 0 0) from fun w2 h =>
      ⟨hbw.trans ((h.to (N := w.heap.size) (by omega) (by omega)).mono (Nat.le_refl _)), by have := h.size; omega, (h.block w.heap.size (by omega) (fun e => by have := Option.some.inj e; omega)).trans hz5⟩)
    have HP := Lib.hid (parseV_rdL s)
    clear hW0 he hB hq1 hs0 hbw hr0 hz5 hl
    go_enter Tryd.func11, Tryd.ntmps11
    go_wp2_with fail
    rw [HW0.out]
    clear HW0
    refine C.out.mono ?_
    intro e w2 hx
    have hi := hx.is
    obtain ⟨hb2, hsz2, hz2⟩ := HGZ.out w2 hx.gone
    have HB2 := Lib.hid hb2
    have HSZ2 := Lib.hid hsz2
    cases ho : rdL s.data.toList with
    | none =>
      rw [ho] at hi
      obtain rfl : e = .panicked [{ v := .iface 26 (.int .i64 6), recovered := false }] := hi
      have HO := Lib.hid (show parseV s = none by rw [HP.out, ho])
      clear ho hx hz2 hb2 hsz2
      go_wp2_with fail
      exact ⟨rfl, ⟨HB2.out, by rw [if_neg HL.out, HO.out]; rfl⟩⟩
    | some p =>
      obtain ⟨T, r⟩ := p
      rw [ho] at hi
      obtain ⟨v, rfl, hv, hrd⟩ := hi
      obtain ⟨xk, xn, xs', xia, xna, xli, xic, xnn, xnc, rfl⟩ := hv.isVal.shape
      rw [HS0.out] at hv
      have rc := hrd.cell
      have HZ2 := Lib.hid hz2
      have b3 := below_new w2 (.cells #[.int .i64 xk, .int .i64 xn, .string xs', .slice xia xli xic, .slice xna xnn xnc] 25)
      have B3 := Lib.hid b3
      have HV3 := Lib.hid (At5.new w2 (.int .i64 xk) (.int .i64 xn) (.string xs') (.slice xia xli xic) (.slice xna xnn xnc))
      have HV := Lib.hid hv
      have hra : ∀ o, (w2.alloc o).cell? ⟨w.heap.size + 1, 0, none⟩ = some (.string ⟨r.toArray⟩) := fun o => ((below_new w2 o).cell (World.block_lt_of_cell? _ _ rc)).trans rc
      cases r with
      | cons x l =>
        have hne := not_nil ⟨(x :: l).toArray⟩ x l rfl
        obtain ⟨e1, e2⟩ := hne
        have HO := Lib.hid (show parseV s = none by rw [HP.out, ho])
        obtain ⟨rs, hrs⟩ : ∃ rs : ByteArray, (⟨(x :: l).toArray⟩ : ByteArray) = rs := ⟨_, rfl⟩
        rw [hrs] at e1 e2 rc hra
        clear ho hx hz2 hb2 hsz2 hv hrd b3 hrs
        go_wp2_with fail
        exact ⟨rfl, ⟨HB2.out.trans (B3.out.mono (by have := HSZ2.out; omega)), by rw [if_neg HL.out, HO.out]; rfl⟩⟩
      | nil =>
        have RT := Lib.hid (rightT_any T _ (w2.alloc (.cells #[.int .i64 xk, .int .i64 xn, .string xs', .slice xia xli xic, .slice xna xnn xnc] 25)) (hv.isVal.keep b3))
        obtain ⟨b, hb⟩ : ∃ b, mayV 6 T = b := ⟨_, rfl⟩
        rw [hb] at RT
        have HPV := Lib.hid (show parseV s = if b then some T else none by rw [HP.out, ho, ← hb])
        obtain ⟨a0, a1, a2, a3, a4⟩ := HV3.out.cells
        clear ho hx hz2 hb2 hsz2 hv hrd b3 hb
        go_wp2_with fail
        refine RT.out.mono ?_
        rintro e w4 ⟨rfl, hb4⟩
        have B4 := Lib.hid (B3.out.trans (hb4.mono (by simp)))
        have HV4 := Lib.hid (HV3.out.keep hb4)
        obtain ⟨d0, d1, d2, d3, d4⟩ := HV4.out.cells
        have hz4 := HZ2.out.keep B4.out
        have HZ4 := Lib.hid hz4
        obtain ⟨z0, z1, z2, z3, z4⟩ := hz4.cells
        have f0 := hz4.frozen 0
        have f1 := hz4.frozen 1
        have f2 := hz4.frozen 2
        have f3 := hz4.frozen 3
        have f4 := hz4.frozen 4
        clear hb4 hz4 a0 a1 a2 a3 a4
        cases b with
        | false =>
          go_wp2_with fail
          exact ⟨rfl, ⟨HB2.out.trans (B4.out.mono (by have := HSZ2.out; omega)), by rw [if_neg HL.out, HPV.out]; rfl⟩⟩
        | true =>
          go_wp2_with fail
          refine bodyPost_ret (results_cell_row (p := 2) rfl _ _ w.heap.size 25 _ (0, 0) _ rfl (set5_five0 HZ4.out _ _ _ _ _) Tryd.underlying25 rfl valSize) rfl ?_
          have hb := HB2.out.trans (B4.out.mono (by have := HSZ2.out; omega))
          obtain ⟨s1, s2, s3⟩ := set5_rest w4 w.heap.size 0 (.int .i64 xk) (.int .i64 xn) (.string xs') (.slice xia xli xic) (.slice xna xnn xnc)
          show ReadEnds s w _ (set5 w4 w.heap.size 0 (.int .i64 xk) (.int .i64 xn) (.string xs') (.slice xia xli xic) (.slice xna xnn xnc))
          refine ⟨⟨s1.trans hb.os, s2.trans hb.tape, s3.trans hb.output, by rw [set5_size]; exact hb.size, fun k hk => ?_⟩, ?_⟩
          · rw [set5_block _ _ _ _ _ _ _ _ k (by omega)]
            exact hb.block k hk
          · rw [if_neg HL.out, HPV.out]
            exact ⟨_, rfl, HV.out.keep fun k hS hl => ⟨(set5_block _ _ _ _ _ _ _ _ k (by omega)).trans (B4.out.block k hl), by omega⟩⟩
end Go.Proofs.YtgkapipiegfmhaaDoor
