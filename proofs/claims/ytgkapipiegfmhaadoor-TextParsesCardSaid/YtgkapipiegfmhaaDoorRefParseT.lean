/-
  The document's own 'Read' at every place, and its Parse, by contracts. Conditions: texts of at most 2^30 bytes; the package-level variables as TEnv says.
-/
import Derived.Test.YtgkapipiegfmhaaDoorRefObjT
import Derived.Test.YtgkapipiegfmhaaDoorRefMay
import Derived.Test.YtgkapipiegfmhaaDoorParse3
namespace Go.Proofs.YtgkapipiegfmhaaDoor
open Go.RowKit

theorem read_go (s : ByteArray) (hs : s.size ≤ 1073741824) : ∀ (d : Nat), d ≤ 100 → ∀ (dk : Int), dk = d → ∀ (k : Nat) (w : World), k ≤ s.size → TEnv w →
    Calls Tryd.prog 12 #[.string s, .int .i64 k, .int .i64 dk] w fun e w' => ReadT s k d w e w'
  | 0, hd, dk, hdk, k, w, hk, he => read_plain s k 0 dk hdk hd hs hk w he (Or.inl rfl)
  | d + 1, hd, dk, hdk, k, w, hk, he => by
    have IH : ∀ (j : Nat) (w : World), j ≤ s.size → TEnv w → Calls Tryd.prog 12 #[.string s, .int .i64 j, .int .i64 (dk - 1)] w fun e w' => ReadT s j d w e w' :=
      fun j w hj he => read_go s hs d (by omega) (dk - 1) (by omega) j w hj he
    by_cases hlt : k < s.size
    · by_cases h91 : s[k] = 91
      · exact read_row s k d dk (by omega) (by omega) hs hlt h91 w he IH
      · by_cases h123 : s[k] = 123
        · exact read_obj s k d dk (by omega) (by omega) hs hlt h123 w he IH
        · exact read_plain s k (d + 1) dk hdk hd hs hk w he (Or.inr (Or.inr ⟨hlt, h91, h123⟩))
    · exact read_plain s k (d + 1) dk hdk hd hs hk w he (Or.inr (Or.inl (by omega)))

/-- Storing above what was there. -/
theorem below_set5 {w w2 : World} {B : Nat} (h : Below w.heap.size w w2) (hB : w.heap.size ≤ B) (c0 c1 c2 c3 c4 : Value) : Below w.heap.size w (set5 w2 B 0 c0 c1 c2 c3 c4) := by
  obtain ⟨s1, s2, s3⟩ := set5_rest w2 B 0 c0 c1 c2 c3 c4
  exact ⟨s1.trans h.os, s2.trans h.tape, s3.trans h.output, by rw [set5_size]; exact h.size, fun k hk => (set5_block _ _ _ _ _ _ _ _ k (by omega)).trans (h.block k hk)⟩
/-- What the document's Parse answers is what the program's does. -/
theorem parseV_read (s : ByteArray) : parseV s = match readL 6 s.data.toList with
    | some (T, []) => if mayV 6 T = true then some T else none
    | _ => none := by
  cases hr : readL 6 s.data.toList with
  | none =>
    cases hp : parseV s with
    | none => rfl
    | some T =>
      obtain ⟨h1, h2⟩ := (parseV_iff s T).1 hp
      rw [(readL_iff 6 _ T h1).2 h2.symm] at hr
      cases hr
  | some p =>
    obtain ⟨T, r⟩ := p
    cases r with
    | cons a r =>
      cases hp : parseV s with
      | none => rfl
      | some T =>
        obtain ⟨h1, h2⟩ := (parseV_iff s T).1 hp
        rw [(readL_iff 6 _ T h1).2 h2.symm] at hr
        simp at hr
    | nil =>
      simp only
      by_cases hm : mayV 6 T = true
      · rw [if_pos hm]
        exact (parseV_iff s T).2 ⟨hm, ((readL_iff 6 _ T hm).1 hr).symm⟩
      · rw [if_neg hm]
        cases hp : parseV s with
        | none => rfl
        | some U =>
          obtain ⟨h1, h2⟩ := (parseV_iff s U).1 hp
          rw [(readL_iff 6 _ U h1).2 h2.symm] at hr
          simp only [Option.some.injEq, Prod.mk.injEq, and_true] at hr
          exact absurd (hr ▸ h1) hm
/-- How the document's Parse ends. -/
structure RefEnds (s : ByteArray) (w : World) (e : Ending) (w' : World) : Prop where
  below : Below w.heap.size w w'
  is : match parseV s with
    | some T => ∃ v, e = .returned (.tuple #[v, .bool true]) ∧ IsVal w' v T
    | none => e = .returned (.tuple #[noVal, .bool false])

set_option maxRecDepth 100000 in
set_option maxHeartbeats 4000000 in
theorem refParseT (s : ByteArray) (w : World) (hs : s.size ≤ 1073741824) (he : TEnv w) :
    Calls Tryd.prog 6 #[.string s] w (RefEnds s w) := by
  obtain ⟨W0, hW0⟩ : ∃ W0, w.alloc (.cells #[.int .i64 0, .int .i64 0, .string ⟨#[]⟩, .slice none 0 0, .slice none 0 0] 25) = W0 := ⟨_, rfl⟩
  have hb0 : Below w.heap.size w W0 := by rw [← hW0]; exact below_new _ _
  have hZ0 : At5 W0 w.heap.size (.int .i64 0) (.int .i64 0) (.string ⟨#[]⟩) (.slice none 0 0) (.slice none 0 0) := by rw [← hW0]; exact At5.new _ _ _ _ _ _
  have R := Lib.hid (read_go s hs 6 (by decide) 6 rfl 0 W0 (Nat.zero_le _) (he.below hb0))
  have HPR := Lib.hid (parseV_read s)
  have HB0 := Lib.hid hb0
  have HZ0 := Lib.hid hZ0
  have HW0 := Lib.hid hW0
  have hsz : s.data.toList.length = s.size := (Lib.size_eq s).symm
  clear hb0 hZ0 hW0 he
  go_enter Tryd.func6, Tryd.ntmps6
  go_upto_region 1 with fail
  rw [HW0.out]
  go_wp2_with fail
  refine R.out.mono ?_
  intro e w1 hx
  have hi := hx.is
  rw [List.drop_zero] at hi
  have HB1 := Lib.hid (Below.then HB0.out hx.below)
  have HZ1 := Lib.hid (HZ0.out.keep hx.below)
  have hx1 := hx.below.size
  clear hx
  cases hr : readL 6 s.data.toList with
  | none =>
    rw [hr] at hi
    obtain rfl : e = .returned (.agg #[.int .i64 0, .int .i64 0, .string ⟨#[]⟩, .slice none 0 0, .slice none 0 0, .int .i64 (-1)]) := hi
    have HO := Lib.hid (show parseV s = none by rw [HPR.out, hr])
    have HBF := Lib.hid (show Below w.heap.size w (w1.alloc (.cells #[.int .i64 0, .int .i64 0, .string ⟨#[]⟩, .slice none 0 0, .slice none 0 0, .int .i64 (-1)] 38)) from Below.then HB1.out (below_new _ _))
    have hZ2 := HZ1.out.keep (below_new w1 (.cells #[.int .i64 0, .int .i64 0, .string ⟨#[]⟩, .slice none 0 0, .slice none 0 0, .int .i64 (-1)] 38))
    have HZ2 := Lib.hid hZ2
    obtain ⟨z0, z1, z2, z3, z4⟩ := hZ2.cells
    have f0 := hZ2.frozen 0
    have f1 := hZ2.frozen 1
    have f2 := hZ2.frozen 2
    have f3 := hZ2.frozen 3
    have f4 := hZ2.frozen 4
    have q : ((-1 : Int) != (s.size : Int)) = true := bne_iff_ne.2 (by omega)
    clear hr hZ2
    go_wp2_with fail
    refine bodyPost_ret (results_two (p := 2) (u := 3) rfl _ _ w.heap.size 25 _ (0, 0) _ rfl (set5_five0 HZ2.out _ _ _ _ _) Tryd.underlying25 rfl valSize) rfl ?_
    refine ⟨below_set5 HBF.out (Nat.le_refl _) _ _ _ _ _, ?_⟩
    rw [HO.out]
    rfl
  | some p =>
    obtain ⟨T, r⟩ := p
    rw [hr] at hi
    obtain ⟨c0, c1, c2, c3, c4, rfl, hv⟩ := hi
    obtain ⟨xk, xn, xs, xia, xna, xli, xic, xnn, xnc, hsh⟩ := hv.isVal.shape
    simp only [Value.agg.injEq, Array.mk.injEq, List.cons.injEq, and_true] at hsh
    obtain ⟨rfl, rfl, rfl, rfl, rfl⟩ := hsh
    have hrl : r.length ≤ s.size := by
      have := readL_sound 6 _ T r hr
      rw [← hsz, this, List.length_append]
      omega
    obtain ⟨at', hat⟩ : ∃ at', s.size - r.length = at' := ⟨_, rfl⟩
    rw [hat]
    obtain ⟨W2, hW2⟩ : ∃ W2, w1.alloc (.cells #[.int .i64 xk, .int .i64 xn, .string xs, .slice xia xli xic, .slice xna xnn xnc, .int .i64 at'] 38) = W2 := ⟨_, rfl⟩
    have hb2 : Below w1.heap.size w1 W2 := by rw [← hW2]; exact below_new _ _
    have hX : At6 W2 w1.heap.size (.int .i64 xk) (.int .i64 xn) (.string xs) (.slice xia xli xic) (.slice xna xnn xnc) (.int .i64 at') := by rw [← hW2]; exact At6.new _ _ _ _ _ _ _
    have hZ2 := HZ1.out.keep hb2
    have hv2 : ValIn (fun b => W0.heap.size ≤ b) W2 (.agg #[.int .i64 xk, .int .i64 xn, .string xs, .slice xia xli xic, .slice xna xnn xnc]) T := hv.keep fun b hS hl => ⟨hb2.block b hl, hS⟩
    have HB2 := Lib.hid (Below.then HB1.out hb2)
    have HV2 := Lib.hid hv2
    have HZ2 := Lib.hid hZ2
    have HX := Lib.hid hX
    have HW2 := Lib.hid hW2
    obtain ⟨x0, x1, x2, x3, x4, x5⟩ := hX.cells
    have hw0 : W0.heap.size = w.heap.size + 1 := by rw [← HW0.out]; simp
    by_cases hr0 : at' = s.size
    rotate_left
    · have q : ((at' : Int) != (s.size : Int)) = true := bne_iff_ne.2 (by omega)
      have HO := Lib.hid (show parseV s = none by
        rw [HPR.out, hr]
        cases r with
        | nil => simp at hat; omega
        | cons a r => rfl)
      obtain ⟨z0, z1, z2, z3, z4⟩ := hZ2.cells
      have f0 := hZ2.frozen 0
      have f1 := hZ2.frozen 1
      have f2 := hZ2.frozen 2
      have f3 := hZ2.frozen 3
      have f4 := hZ2.frozen 4
      clear hr hZ2 hv hv2 hb2 hX hW2 hat hr0
      go_upto_region 2 with fail
      rw [HW2.out]
      go_wp2_with fail
      refine bodyPost_ret (results_two (p := 2) (u := 3) rfl _ _ w.heap.size 25 _ (0, 0) _ rfl (set5_five0 HZ2.out _ _ _ _ _) Tryd.underlying25 rfl valSize) rfl ?_
      refine ⟨below_set5 HB2.out (Nat.le_refl _) _ _ _ _ _, ?_⟩
      rw [HO.out]
      rfl
    · subst hr0
      have q : ((s.size : Int) != (s.size : Int)) = false := by rw [bne_self_eq_false]
      have C := Lib.hid (right_any T _ W2 hv2.isVal)
      have hr1 : r = [] := List.length_eq_zero_iff.1 (by omega)
      subst hr1
      have HM := Lib.hid (show parseV s = if mayV 6 T = true then some T else none by rw [HPR.out, hr])
      obtain ⟨m, hm⟩ : ∃ m, mayV 6 T = m := ⟨_, rfl⟩
      rw [hm] at C HM
      clear hr hZ2 hv hv2 hb2 hX hW2 hat hm
      go_upto_region 2 with fail
      rw [HW2.out]
      go_wp2_with fail
      refine C.out.mono ?_
      rintro e w3 ⟨rfl, hb3⟩
      have HB3 := Lib.hid (Below.then HB2.out hb3)
      have hZ3 := HZ2.out.keep hb3
      have HZ3 := Lib.hid hZ3
      obtain ⟨z0, z1, z2, z3, z4⟩ := hZ3.cells
      have f0 := hZ3.frozen 0
      have f1 := hZ3.frozen 1
      have f2 := hZ3.frozen 2
      have f3 := hZ3.frozen 3
      have f4 := hZ3.frozen 4
      have HV3 := Lib.hid (HV2.out.keep (S' := fun b => W0.heap.size ≤ b) fun b hS hl => ⟨hb3.block b hl, hS⟩)
      obtain ⟨x0, x1, x2, x3, x4, x5⟩ := (HX.out.keep hb3).cells
      clear hb3 hZ3
      cases m with
      | false =>
        go_wp2_with fail
        refine bodyPost_ret (results_two (p := 2) (u := 3) rfl _ _ w.heap.size 25 _ (0, 0) _ rfl (set5_five0 HZ3.out _ _ _ _ _) Tryd.underlying25 rfl valSize) rfl ?_
        refine ⟨below_set5 HB3.out (Nat.le_refl _) _ _ _ _ _, ?_⟩
        rw [HM.out]
        rfl
      | true =>
        go_wp2_with fail
        refine bodyPost_ret (results_two (p := 2) (u := 3) rfl _ _ w.heap.size 25 _ (0, 0) _ rfl (set5_five0 HZ3.out _ _ _ _ _) Tryd.underlying25 rfl valSize) rfl ?_
        refine ⟨below_set5 HB3.out (Nat.le_refl _) _ _ _ _ _, ?_⟩
        rw [HM.out]
        exact ⟨_, rfl, (HV3.out.keep (S' := fun _ => True) fun b hS _ => ⟨set5_block _ _ _ _ _ _ _ _ b (by omega), trivial⟩).isVal⟩
end Go.Proofs.YtgkapipiegfmhaaDoor
