/-
  The program's Parse of a schedule, by a contract. Conditions: the package-level variables as CEnv says.
-/
import Derived.Test.YtccobaohmbilpaaDoorCronField
import Derived.Test.YtccobaohmbilpaaDoorCronAt
import Derived.StillTailTactics
namespace Go.Proofs.YtccobaohmbilpaaDoor
open Go.RowKit

theorem parse_five {s a b c d e : ByteArray} (h : pieces 32 s = [a, b, c, d, e]) (hs : s.size ≤ 200) :
    parseC s.data.toList = match fieldL a.data.toList 0 59, fieldL b.data.toList 0 23, fieldL c.data.toList 1 31, fieldL d.data.toList 1 12, fieldL e.data.toList 0 6 with
      | some m, some h, some x, some o, some w => some ⟨m, h, x, o, w, decide (c.data.toList = [42]), decide (e.data.toList = [42])⟩
      | _, _, _, _, _ => none := by
  have hg := pieces_map 32 s id
  rw [h] at hg
  simp only [List.map_cons, List.map_nil, List.map_id, id] at hg
  unfold parseC
  rw [if_neg (by rw [← size_list]; omega), ← hg]
  rfl
theorem parse_other {s : ByteArray} (h : (pieces 32 s).length ≠ 5) : parseC s.data.toList = none := by
  have hg := congrArg List.length (pieces_map 32 s id)
  rw [List.length_map, List.map_id] at hg
  unfold parseC
  split
  · rfl
  · split
    · rename_i e
      rw [e] at hg
      exact absurd hg h
    · rfl
theorem parse_long {s : ByteArray} (h : 200 < s.size) : parseC s.data.toList = none := by
  unfold parseC
  rw [if_pos (by rw [← size_list]; exact h)]

/-- Five numbers lie at block B. -/
def Five (w : World) (B : Nat) (a b c d e : Nat) : Prop := w.heap[B]? = some (.cells #[.int .u64 a, .int .u64 b, .int .u64 c, .int .u64 d, .int .u64 e] 48 (0, 0))
theorem Five.lt {w : World} {B a b c d e : Nat} (h : Five w B a b c d e) : B < w.heap.size := (Array.getElem?_eq_some_iff.1 h).1
theorem Five.keep {w w' : World} {B a b c d e : Nat} (h : Five w B a b c d e) (hb : Below w.heap.size w w') : Five w' B a b c d e := (hb.block B h.lt).trans h
theorem Five.cells {w : World} {B a b c d e : Nat} (h : Five w B a b c d e) : (w.cell? ⟨B, 0, none⟩ = some (.int .u64 a) ∧ w.cell? ⟨B, 1, none⟩ = some (.int .u64 b) ∧ w.cell? ⟨B, 2, none⟩ = some (.int .u64 c) ∧ w.cell? ⟨B, 3, none⟩ = some (.int .u64 d) ∧ w.cell? ⟨B, 4, none⟩ = some (.int .u64 e)) ∧ (w.frozen? ⟨B, 0, none⟩ = false ∧ w.frozen? ⟨B, 1, none⟩ = false ∧ w.frozen? ⟨B, 2, none⟩ = false ∧ w.frozen? ⟨B, 3, none⟩ = false ∧ w.frozen? ⟨B, 4, none⟩ = false) := by
  unfold Five at h
  simp [World.cell?, World.frozen?, h]
theorem Five.new (w : World) : Five (w.alloc (.cells #[.int .u64 0, .int .u64 0, .int .u64 0, .int .u64 0, .int .u64 0] 48)) w.heap.size 0 0 0 0 0 := heap_alloc_new w _
theorem Five.set0 {w : World} {B a b c d e : Nat} (h : Five w B a b c d e) (x : Nat) : Five (w.setCell ⟨B, 0, none⟩ (.int .u64 x)) B x b c d e := by
  unfold Five; rw [heap_setCell_same _ _ _ _ _ _ h]; rfl
theorem Five.set1 {w : World} {B a b c d e : Nat} (h : Five w B a b c d e) (x : Nat) : Five (w.setCell ⟨B, 1, none⟩ (.int .u64 x)) B a x c d e := by
  unfold Five; rw [heap_setCell_same _ _ _ _ _ _ h]; rfl
theorem Five.set2 {w : World} {B a b c d e : Nat} (h : Five w B a b c d e) (x : Nat) : Five (w.setCell ⟨B, 2, none⟩ (.int .u64 x)) B a b x d e := by
  unfold Five; rw [heap_setCell_same _ _ _ _ _ _ h]; rfl
theorem Five.set3 {w : World} {B a b c d e : Nat} (h : Five w B a b c d e) (x : Nat) : Five (w.setCell ⟨B, 3, none⟩ (.int .u64 x)) B a b c x e := by
  unfold Five; rw [heap_setCell_same _ _ _ _ _ _ h]; rfl
theorem Five.set4 {w : World} {B a b c d e : Nat} (h : Five w B a b c d e) (x : Nat) : Five (w.setCell ⟨B, 4, none⟩ (.int .u64 x)) B a b c d x := by
  unfold Five; rw [heap_setCell_same _ _ _ _ _ _ h]; rfl
theorem Crn7.frozen {w : World} {B : Nat} {c : Crn} (h : Crn7 w B c) : w.frozen? ⟨B, 0, none⟩ = false ∧ w.frozen? ⟨B, 1, none⟩ = false ∧ w.frozen? ⟨B, 2, none⟩ = false ∧ w.frozen? ⟨B, 3, none⟩ = false ∧ w.frozen? ⟨B, 4, none⟩ = false ∧ w.frozen? ⟨B, 5, none⟩ = false ∧ w.frozen? ⟨B, 6, none⟩ = false := by
  unfold Crn7 at h
  simp [World.frozen?, h]
theorem Crn7.sets {w : World} {B : Nat} {c : Crn} (h : Crn7 w B c) (v0 v1 v2 v3 v4 : Nat) (b5 b6 : Bool) :
    (((((((w.setCell ⟨B, 0, none⟩ (.int .u64 v0)).setCell ⟨B, 1, none⟩ (.int .u64 v1)).setCell ⟨B, 2, none⟩ (.int .u64 v2)).setCell ⟨B, 3, none⟩ (.int .u64 v3)).setCell ⟨B, 4, none⟩ (.int .u64 v4)).setCell ⟨B, 5, none⟩ (.bool b5)).setCell ⟨B, 6, none⟩ (.bool b6)).heap[B]? = some (.cells #[.int .u64 v0, .int .u64 v1, .int .u64 v2, .int .u64 v3, .int .u64 v4, .bool b5, .bool b6] 24 (0, 0)) := by
  unfold Crn7 at h
  have h0 : (w.setCell ⟨B, 0, none⟩ (.int .u64 v0)).heap[B]? = some (.cells #[.int .u64 v0, .int .u64 c.hours, .int .u64 c.days, .int .u64 c.months, .int .u64 c.week, .bool c.anyDay, .bool c.anyWeek] 24 (0, 0)) := by rw [heap_setCell_same _ _ _ _ _ _ h]; rfl
  have h1 : ((w.setCell ⟨B, 0, none⟩ (.int .u64 v0)).setCell ⟨B, 1, none⟩ (.int .u64 v1)).heap[B]? = some (.cells #[.int .u64 v0, .int .u64 v1, .int .u64 c.days, .int .u64 c.months, .int .u64 c.week, .bool c.anyDay, .bool c.anyWeek] 24 (0, 0)) := by rw [heap_setCell_same _ _ _ _ _ _ h0]; rfl
  have h2 : (((w.setCell ⟨B, 0, none⟩ (.int .u64 v0)).setCell ⟨B, 1, none⟩ (.int .u64 v1)).setCell ⟨B, 2, none⟩ (.int .u64 v2)).heap[B]? = some (.cells #[.int .u64 v0, .int .u64 v1, .int .u64 v2, .int .u64 c.months, .int .u64 c.week, .bool c.anyDay, .bool c.anyWeek] 24 (0, 0)) := by rw [heap_setCell_same _ _ _ _ _ _ h1]; rfl
  have h3 : ((((w.setCell ⟨B, 0, none⟩ (.int .u64 v0)).setCell ⟨B, 1, none⟩ (.int .u64 v1)).setCell ⟨B, 2, none⟩ (.int .u64 v2)).setCell ⟨B, 3, none⟩ (.int .u64 v3)).heap[B]? = some (.cells #[.int .u64 v0, .int .u64 v1, .int .u64 v2, .int .u64 v3, .int .u64 c.week, .bool c.anyDay, .bool c.anyWeek] 24 (0, 0)) := by rw [heap_setCell_same _ _ _ _ _ _ h2]; rfl
  have h4 : (((((w.setCell ⟨B, 0, none⟩ (.int .u64 v0)).setCell ⟨B, 1, none⟩ (.int .u64 v1)).setCell ⟨B, 2, none⟩ (.int .u64 v2)).setCell ⟨B, 3, none⟩ (.int .u64 v3)).setCell ⟨B, 4, none⟩ (.int .u64 v4)).heap[B]? = some (.cells #[.int .u64 v0, .int .u64 v1, .int .u64 v2, .int .u64 v3, .int .u64 v4, .bool c.anyDay, .bool c.anyWeek] 24 (0, 0)) := by rw [heap_setCell_same _ _ _ _ _ _ h3]; rfl
  have h5 : ((((((w.setCell ⟨B, 0, none⟩ (.int .u64 v0)).setCell ⟨B, 1, none⟩ (.int .u64 v1)).setCell ⟨B, 2, none⟩ (.int .u64 v2)).setCell ⟨B, 3, none⟩ (.int .u64 v3)).setCell ⟨B, 4, none⟩ (.int .u64 v4)).setCell ⟨B, 5, none⟩ (.bool b5)).heap[B]? = some (.cells #[.int .u64 v0, .int .u64 v1, .int .u64 v2, .int .u64 v3, .int .u64 v4, .bool b5, .bool c.anyWeek] 24 (0, 0)) := by rw [heap_setCell_same _ _ _ _ _ _ h4]; rfl
  rw [heap_setCell_same _ _ _ _ _ _ h5]; rfl
theorem sets_below {w w0 : World} {B : Nat} (h : Below B w0 w) (v0 v1 v2 v3 v4 v5 v6 : Value) : Below B w0 (((((((w.setCell ⟨B, 0, none⟩ v0).setCell ⟨B, 1, none⟩ v1).setCell ⟨B, 2, none⟩ v2).setCell ⟨B, 3, none⟩ v3).setCell ⟨B, 4, none⟩ v4).setCell ⟨B, 5, none⟩ v5).setCell ⟨B, 6, none⟩ v6) :=
  ((((((h.setCell (Nat.le_refl _) _).setCell (Nat.le_refl _) _).setCell (Nat.le_refl _) _).setCell (Nat.le_refl _) _).setCell (Nat.le_refl _) _).setCell (Nat.le_refl _) _).setCell (Nat.le_refl _) _
theorem drew_heap (w : World) : w.drew.heap = w.heap := rfl
theorem infoCrn : (Tryd.prog.info? 24).map (·.size) = some 7 := by kernel_rfl
/-- What Parse answers. -/
def parseOut : Option Crn → Value
  | some c => .tuple #[crnV c, .int .i64 0]
  | none => .tuple #[crnV noCrn, .int .i64 6]

set_option maxRecDepth 100000 in
set_option maxHeartbeats 8000000 in
theorem Parse_t (s : ByteArray) (w : World) {aA aN aO : Addr} (he : CEnv w aA aN aO) :
    Calls Tryd.prog 9 #[.string s] w fun e w' => e = .returned (parseOut (parseC s.data.toList)) ∧ Below w.heap.size w w' := by
  obtain ⟨W, hW⟩ : ∃ W, w.alloc (.cells #[.int .u64 0, .int .u64 0, .int .u64 0, .int .u64 0, .int .u64 0, .bool false, .bool false] 24) = W := ⟨_, rfl⟩
  have hZ : Crn7 W w.heap.size noCrn := hW ▸ Crn7.new w noCrn
  have hB : Below w.heap.size w W := hW ▸ below_new w _
  have hsz := he.months.size
  have hE := he.keep hB
  have HW := Lib.hid hW
  have HB := Lib.hid hB
  have HZ := Lib.hid hZ
  have HE := Lib.hid hE
  have ZO : parseOut none = .tuple #[.agg #[.int .u64 0, .int .u64 0, .int .u64 0, .int .u64 0, .int .u64 0, .bool false, .bool false], .int .i64 6] := rfl
  have HZO := Lib.hid ZO
  obtain ⟨⟨z0, z1, z2, z3, z4, z5, z6⟩, f0, f1, f2, f3, f4, f5, f6⟩ := And.intro hZ.cells hZ.frozen
  clear hW hB hZ hE he ZO
  simp only [noCrn] at z0 z1 z2 z3 z4 z5 z6
  by_cases hlen : 200 < s.size
  · have HO := Lib.hid (parse_long hlen)
    go_enter Tryd.func9, Tryd.ntmps9
    go_upto_region 1 with fail
    rw [HW.out]
    go_wp2_with fail
    exact bodyPost_ret (results_two (p := 2) (u := 3) rfl _ _ w.heap.size 24 _ (0, 0) _ rfl (HZ.out.sets 0 0 0 0 0 false false) Tryd.underlying24 rfl infoCrn) rfl ⟨by rw [HO.out, HZO.out]; rfl, sets_below HB.out _ _ _ _ _ _ _⟩
  · have hs : s.size ≤ 200 := by omega
    have S1 := Lib.hid (split_t s 32 (by omega) W HE.out)
    have HPL := Lib.hid (pieces_len 32 s)
    obtain ⟨ps, hps⟩ : ∃ ps, pieces 32 s = ps := ⟨_, rfl⟩
    have HPS := Lib.hid hps
    rw [hps] at S1 HPL
    clear hps z0 z1 z2 z3 z4 z5 z6 f0 f1 f2 f3 f4 f5 f6
    by_cases h5 : ps.length = 5
    · obtain ⟨ta, tb, tc, td, te, rfl⟩ : ∃ a b c d e, ps = [a, b, c, d, e] := by
        match ps, h5 with
        | [a, b, c, d, e], _ => exact ⟨a, b, c, d, e, rfl⟩
      have HP := Lib.hid (parse_five HPS.out hs)
      have hsta : ta.size ≤ 300 := by have := HPL.out.2 ta (by simp); omega
      have hstb : tb.size ≤ 300 := by have := HPL.out.2 tb (by simp); omega
      have hstc : tc.size ≤ 300 := by have := HPL.out.2 tc (by simp); omega
      have hstd : td.size ≤ 300 := by have := HPL.out.2 td (by simp); omega
      have hste : te.size ≤ 300 := by have := HPL.out.2 te (by simp); omega
      have F0 := Lib.hid (show ∀ w1, CEnv w1 aA aN aO → Calls Tryd.prog 19 #[.agg #[.int .i64 0, .int .i64 59], .string ta] w1 fun e w' => BitsEnd e (fieldL ta.data.toList 0 59) ∧ Below w1.heap.size w1 w' from fun w1 h2 => field_t 0 59 ta w1 (by decide) (by decide) hsta h2)
      obtain ⟨p0, hp0⟩ : ∃ p, fieldL ta.data.toList 0 59 = p := ⟨_, rfl⟩
      rw [hp0] at F0 HP
      have F1 := Lib.hid (show ∀ w1, CEnv w1 aA aN aO → Calls Tryd.prog 19 #[.agg #[.int .i64 0, .int .i64 23], .string tb] w1 fun e w' => BitsEnd e (fieldL tb.data.toList 0 23) ∧ Below w1.heap.size w1 w' from fun w1 h2 => field_t 0 23 tb w1 (by decide) (by decide) hstb h2)
      obtain ⟨p1, hp1⟩ : ∃ p, fieldL tb.data.toList 0 23 = p := ⟨_, rfl⟩
      rw [hp1] at F1 HP
      have F2 := Lib.hid (show ∀ w1, CEnv w1 aA aN aO → Calls Tryd.prog 19 #[.agg #[.int .i64 1, .int .i64 31], .string tc] w1 fun e w' => BitsEnd e (fieldL tc.data.toList 1 31) ∧ Below w1.heap.size w1 w' from fun w1 h2 => field_t 1 31 tc w1 (by decide) (by decide) hstc h2)
      obtain ⟨p2, hp2⟩ : ∃ p, fieldL tc.data.toList 1 31 = p := ⟨_, rfl⟩
      rw [hp2] at F2 HP
      have F3 := Lib.hid (show ∀ w1, CEnv w1 aA aN aO → Calls Tryd.prog 19 #[.agg #[.int .i64 1, .int .i64 12], .string td] w1 fun e w' => BitsEnd e (fieldL td.data.toList 1 12) ∧ Below w1.heap.size w1 w' from fun w1 h2 => field_t 1 12 td w1 (by decide) (by decide) hstd h2)
      obtain ⟨p3, hp3⟩ : ∃ p, fieldL td.data.toList 1 12 = p := ⟨_, rfl⟩
      rw [hp3] at F3 HP
      have F4 := Lib.hid (show ∀ w1, CEnv w1 aA aN aO → Calls Tryd.prog 19 #[.agg #[.int .i64 0, .int .i64 6], .string te] w1 fun e w' => BitsEnd e (fieldL te.data.toList 0 6) ∧ Below w1.heap.size w1 w' from fun w1 h2 => field_t 0 6 te w1 (by decide) (by decide) hste h2)
      obtain ⟨p4, hp4⟩ : ∃ p, fieldL te.data.toList 0 6 = p := ⟨_, rfl⟩
      rw [hp4] at F4 HP
      obtain ⟨bc, hbc⟩ : ∃ t, (tc.toList == [42]) = t := ⟨_, rfl⟩
      obtain ⟨be, hbe⟩ : ∃ t, (te.toList == [42]) = t := ⟨_, rfl⟩
      have dc : decide (tc.data.toList = [42]) = bc := by rw [← hbc, Lib.toList_data, Bool.eq_iff_iff, decide_eq_true_eq, beq_iff_eq]
      have de : decide (te.data.toList = [42]) = be := by rw [← hbe, Lib.toList_data, Bool.eq_iff_iff, decide_eq_true_eq, beq_iff_eq]
      rw [dc, de] at HP
      clear hp0 hp1 hp2 hp3 hp4 dc de h5 HPL HPS hsta hstb hstc hstd hste
      go_enter Tryd.func9, Tryd.ntmps9
      go_upto_region 1 with fail
      rw [HW.out]
      go_wp2_with fail
      refine S1.out.mono ?_
      rintro e w1 ⟨⟨pb, rfl, hcell⟩, hb1⟩
      have HB1 := Lib.hid (HB.out.trans (hb1.mono HB.out.size))
      have HZ1 := Lib.hid (HZ.out.keep hb1)
      have HE1 := Lib.hid (HE.out.keep hb1)
      have HC0 := Lib.hid (hcell 0 (by simp))
      have HC1 := Lib.hid (hcell 1 (by simp))
      have HC2 := Lib.hid (hcell 2 (by simp))
      have HC3 := Lib.hid (hcell 3 (by simp))
      have HC4 := Lib.hid (hcell 4 (by simp))
      simp only [List.getElem_cons_zero, List.getElem_cons_succ] at HC0 HC1 HC2 HC3 HC4
      have HP1 := Lib.hid (World.block_lt_of_cell? _ _ HC0.out)
      clear hcell hb1
      simp only [List.length_cons, List.length_nil]
      obtain ⟨wa, hwa⟩ : ∃ wa, w1.alloc (.cells #[.int .u64 0, .int .u64 0, .int .u64 0, .int .u64 0, .int .u64 0] 48) = wa := ⟨_, rfl⟩
      have HSV := Lib.hid (show Five wa w1.heap.size 0 0 0 0 0 from hwa ▸ Five.new w1)
      have HBV := Lib.hid (show Below w1.heap.size w1 wa from hwa ▸ below_new w1 _)
      have HWA := Lib.hid hwa
      have hw1 : w.heap.size < w1.heap.size := (Array.getElem?_eq_some_iff.1 HZ1.out).1
      clear hwa
      go_upto_region 7 with fail
      rw [HWA.out]
      go_wp2_with fail
      refine wp_loop_rounds 6 ?_
      -- round 0
      rw [rounds_succ]
      have HE0r := Lib.hid (HE1.out.keep HBV.out)
      have hck := (HBV.out.cell HP1.out).trans HC0.out
      obtain ⟨g0, g1⟩ : wa.cell? ⟨0, 0, none⟩ = some (.int .i64 0) ∧ wa.cell? ⟨0, 1, none⟩ = some (.int .i64 59) := HE0r.out.bound 0 (by decide)
      go_wp2_with fail
      refine (F0.out _ HE0r.out).mono ?_
      rintro e w0' ⟨hbe0, hb0⟩
      have HSV0 := Lib.hid (HSV.out.keep hb0)
      have HBV0 := Lib.hid (HBV.out.trans (hb0.mono HBV.out.size))
      clear hb0 hck g0 g1 HSV HBV HE0r
      cases p0 with
      | none =>
        obtain ⟨z, rfl⟩ := hbe0
        have HO := Lib.hid (show parseC s.data.toList = none from HP.out)
        have HZ2 := Lib.hid (HZ1.out.keep HBV0.out)
        obtain ⟨⟨z0, z1, z2, z3, z4, z5, z6⟩, f0, f1, f2, f3, f4, f5, f6⟩ := And.intro HZ2.out.cells HZ2.out.frozen
        simp only [noCrn] at z0 z1 z2 z3 z4 z5 z6
        go_wp2_with fail
        exact bodyPost_ret (results_two (p := 2) (u := 3) rfl _ _ w.heap.size 24 _ (0, 0) _ rfl (HZ2.out.sets 0 0 0 0 0 false false) Tryd.underlying24 rfl infoCrn) rfl ⟨by rw [HO.out, HZO.out]; rfl, sets_below (HB1.out.trans (HBV0.out.mono HB1.out.size)) _ _ _ _ _ _ _⟩
      | some v0 =>
        have hbe2 : e = .returned (.tuple #[.int .u64 (v0 : Nat), .nilIface]) := hbe0
        subst hbe2
        obtain ⟨⟨c0, c1, c2, c3, c4⟩, y0, y1, y2, y3, y4⟩ := HSV0.out.cells
        have HSV := Lib.hid (HSV0.out.set0 v0)
        have HBV := Lib.hid (show Below w1.heap.size w1 (w0'.setCell ⟨w1.heap.size, 0, none⟩ (.int .u64 v0)) from HBV0.out.setCell (Nat.le_refl _) _)
        clear hbe0
        go_wp2_with fail
        clear c0 c1 c2 c3 c4 y0 y1 y2 y3 y4
        obtain ⟨wr0, hwr⟩ : ∃ x, w0'.setCell ⟨w1.heap.size, 0, none⟩ (.int .u64 v0) = x := ⟨_, rfl⟩
        rw [hwr] at HSV HBV ⊢
        clear hwr HSV0 HBV0
        -- round 1
        rw [rounds_succ]
        have HE1r := Lib.hid (HE1.out.keep HBV.out)
        have hck := (HBV.out.cell HP1.out).trans HC1.out
        obtain ⟨g0, g1⟩ : wr0.cell? ⟨0, 2, none⟩ = some (.int .i64 0) ∧ wr0.cell? ⟨0, 3, none⟩ = some (.int .i64 23) := HE1r.out.bound 1 (by decide)
        go_wp2_with fail
        refine (F1.out _ HE1r.out).mono ?_
        rintro e w1' ⟨hbe1, hb1⟩
        have HSV1 := Lib.hid (HSV.out.keep hb1)
        have HBV1 := Lib.hid (HBV.out.trans (hb1.mono HBV.out.size))
        clear hb1 hck g0 g1 HSV HBV HE1r
        cases p1 with
        | none =>
          obtain ⟨z, rfl⟩ := hbe1
          have HO := Lib.hid (show parseC s.data.toList = none from HP.out)
          have HZ2 := Lib.hid (HZ1.out.keep HBV1.out)
          obtain ⟨⟨z0, z1, z2, z3, z4, z5, z6⟩, f0, f1, f2, f3, f4, f5, f6⟩ := And.intro HZ2.out.cells HZ2.out.frozen
          simp only [noCrn] at z0 z1 z2 z3 z4 z5 z6
          go_wp2_with fail
          exact bodyPost_ret (results_two (p := 2) (u := 3) rfl _ _ w.heap.size 24 _ (0, 0) _ rfl (HZ2.out.sets 0 0 0 0 0 false false) Tryd.underlying24 rfl infoCrn) rfl ⟨by rw [HO.out, HZO.out]; rfl, sets_below (HB1.out.trans (HBV1.out.mono HB1.out.size)) _ _ _ _ _ _ _⟩
        | some v1 =>
          have hbe2 : e = .returned (.tuple #[.int .u64 (v1 : Nat), .nilIface]) := hbe1
          subst hbe2
          obtain ⟨⟨c0, c1, c2, c3, c4⟩, y0, y1, y2, y3, y4⟩ := HSV1.out.cells
          have HSV := Lib.hid (HSV1.out.set1 v1)
          have HBV := Lib.hid (show Below w1.heap.size w1 (w1'.setCell ⟨w1.heap.size, 1, none⟩ (.int .u64 v1)) from HBV1.out.setCell (Nat.le_refl _) _)
          clear hbe1
          go_wp2_with fail
          clear c0 c1 c2 c3 c4 y0 y1 y2 y3 y4
          obtain ⟨wr1, hwr⟩ : ∃ x, w1'.setCell ⟨w1.heap.size, 1, none⟩ (.int .u64 v1) = x := ⟨_, rfl⟩
          rw [hwr] at HSV HBV ⊢
          clear hwr HSV1 HBV1
          -- round 2
          rw [rounds_succ]
          have HE2r := Lib.hid (HE1.out.keep HBV.out)
          have hck := (HBV.out.cell HP1.out).trans HC2.out
          obtain ⟨g0, g1⟩ : wr1.cell? ⟨0, 4, none⟩ = some (.int .i64 1) ∧ wr1.cell? ⟨0, 5, none⟩ = some (.int .i64 31) := HE2r.out.bound 2 (by decide)
          go_wp2_with fail
          refine (F2.out _ HE2r.out).mono ?_
          rintro e w2' ⟨hbe2, hb2⟩
          have HSV2 := Lib.hid (HSV.out.keep hb2)
          have HBV2 := Lib.hid (HBV.out.trans (hb2.mono HBV.out.size))
          clear hb2 hck g0 g1 HSV HBV HE2r
          cases p2 with
          | none =>
            obtain ⟨z, rfl⟩ := hbe2
            have HO := Lib.hid (show parseC s.data.toList = none from HP.out)
            have HZ2 := Lib.hid (HZ1.out.keep HBV2.out)
            obtain ⟨⟨z0, z1, z2, z3, z4, z5, z6⟩, f0, f1, f2, f3, f4, f5, f6⟩ := And.intro HZ2.out.cells HZ2.out.frozen
            simp only [noCrn] at z0 z1 z2 z3 z4 z5 z6
            go_wp2_with fail
            exact bodyPost_ret (results_two (p := 2) (u := 3) rfl _ _ w.heap.size 24 _ (0, 0) _ rfl (HZ2.out.sets 0 0 0 0 0 false false) Tryd.underlying24 rfl infoCrn) rfl ⟨by rw [HO.out, HZO.out]; rfl, sets_below (HB1.out.trans (HBV2.out.mono HB1.out.size)) _ _ _ _ _ _ _⟩
          | some v2 =>
            have hbe2 : e = .returned (.tuple #[.int .u64 (v2 : Nat), .nilIface]) := hbe2
            subst hbe2
            obtain ⟨⟨c0, c1, c2, c3, c4⟩, y0, y1, y2, y3, y4⟩ := HSV2.out.cells
            have HSV := Lib.hid (HSV2.out.set2 v2)
            have HBV := Lib.hid (show Below w1.heap.size w1 (w2'.setCell ⟨w1.heap.size, 2, none⟩ (.int .u64 v2)) from HBV2.out.setCell (Nat.le_refl _) _)
            clear hbe2
            go_wp2_with fail
            clear c0 c1 c2 c3 c4 y0 y1 y2 y3 y4
            obtain ⟨wr2, hwr⟩ : ∃ x, w2'.setCell ⟨w1.heap.size, 2, none⟩ (.int .u64 v2) = x := ⟨_, rfl⟩
            rw [hwr] at HSV HBV ⊢
            clear hwr HSV2 HBV2
            -- round 3
            rw [rounds_succ]
            have HE3r := Lib.hid (HE1.out.keep HBV.out)
            have hck := (HBV.out.cell HP1.out).trans HC3.out
            obtain ⟨g0, g1⟩ : wr2.cell? ⟨0, 6, none⟩ = some (.int .i64 1) ∧ wr2.cell? ⟨0, 7, none⟩ = some (.int .i64 12) := HE3r.out.bound 3 (by decide)
            go_wp2_with fail
            refine (F3.out _ HE3r.out).mono ?_
            rintro e w3' ⟨hbe3, hb3⟩
            have HSV3 := Lib.hid (HSV.out.keep hb3)
            have HBV3 := Lib.hid (HBV.out.trans (hb3.mono HBV.out.size))
            clear hb3 hck g0 g1 HSV HBV HE3r
            cases p3 with
            | none =>
              obtain ⟨z, rfl⟩ := hbe3
              have HO := Lib.hid (show parseC s.data.toList = none from HP.out)
              have HZ2 := Lib.hid (HZ1.out.keep HBV3.out)
              obtain ⟨⟨z0, z1, z2, z3, z4, z5, z6⟩, f0, f1, f2, f3, f4, f5, f6⟩ := And.intro HZ2.out.cells HZ2.out.frozen
              simp only [noCrn] at z0 z1 z2 z3 z4 z5 z6
              go_wp2_with fail
              exact bodyPost_ret (results_two (p := 2) (u := 3) rfl _ _ w.heap.size 24 _ (0, 0) _ rfl (HZ2.out.sets 0 0 0 0 0 false false) Tryd.underlying24 rfl infoCrn) rfl ⟨by rw [HO.out, HZO.out]; rfl, sets_below (HB1.out.trans (HBV3.out.mono HB1.out.size)) _ _ _ _ _ _ _⟩
            | some v3 =>
              have hbe2 : e = .returned (.tuple #[.int .u64 (v3 : Nat), .nilIface]) := hbe3
              subst hbe2
              obtain ⟨⟨c0, c1, c2, c3, c4⟩, y0, y1, y2, y3, y4⟩ := HSV3.out.cells
              have HSV := Lib.hid (HSV3.out.set3 v3)
              have HBV := Lib.hid (show Below w1.heap.size w1 (w3'.setCell ⟨w1.heap.size, 3, none⟩ (.int .u64 v3)) from HBV3.out.setCell (Nat.le_refl _) _)
              clear hbe3
              go_wp2_with fail
              clear c0 c1 c2 c3 c4 y0 y1 y2 y3 y4
              obtain ⟨wr3, hwr⟩ : ∃ x, w3'.setCell ⟨w1.heap.size, 3, none⟩ (.int .u64 v3) = x := ⟨_, rfl⟩
              rw [hwr] at HSV HBV ⊢
              clear hwr HSV3 HBV3
              -- round 4
              rw [rounds_succ]
              have HE4r := Lib.hid (HE1.out.keep HBV.out)
              have hck := (HBV.out.cell HP1.out).trans HC4.out
              obtain ⟨g0, g1⟩ : wr3.cell? ⟨0, 8, none⟩ = some (.int .i64 0) ∧ wr3.cell? ⟨0, 9, none⟩ = some (.int .i64 6) := HE4r.out.bound 4 (by decide)
              go_wp2_with fail
              refine (F4.out _ HE4r.out).mono ?_
              rintro e w4' ⟨hbe4, hb4⟩
              have HSV4 := Lib.hid (HSV.out.keep hb4)
              have HBV4 := Lib.hid (HBV.out.trans (hb4.mono HBV.out.size))
              clear hb4 hck g0 g1 HSV HBV HE4r
              cases p4 with
              | none =>
                obtain ⟨z, rfl⟩ := hbe4
                have HO := Lib.hid (show parseC s.data.toList = none from HP.out)
                have HZ2 := Lib.hid (HZ1.out.keep HBV4.out)
                obtain ⟨⟨z0, z1, z2, z3, z4, z5, z6⟩, f0, f1, f2, f3, f4, f5, f6⟩ := And.intro HZ2.out.cells HZ2.out.frozen
                simp only [noCrn] at z0 z1 z2 z3 z4 z5 z6
                go_wp2_with fail
                exact bodyPost_ret (results_two (p := 2) (u := 3) rfl _ _ w.heap.size 24 _ (0, 0) _ rfl (HZ2.out.sets 0 0 0 0 0 false false) Tryd.underlying24 rfl infoCrn) rfl ⟨by rw [HO.out, HZO.out]; rfl, sets_below (HB1.out.trans (HBV4.out.mono HB1.out.size)) _ _ _ _ _ _ _⟩
              | some v4 =>
                have hbe2 : e = .returned (.tuple #[.int .u64 (v4 : Nat), .nilIface]) := hbe4
                subst hbe2
                obtain ⟨⟨c0, c1, c2, c3, c4⟩, y0, y1, y2, y3, y4⟩ := HSV4.out.cells
                have HSV := Lib.hid (HSV4.out.set4 v4)
                have HBV := Lib.hid (show Below w1.heap.size w1 (w4'.setCell ⟨w1.heap.size, 4, none⟩ (.int .u64 v4)) from HBV4.out.setCell (Nat.le_refl _) _)
                clear hbe4
                go_wp2_with fail
                clear c0 c1 c2 c3 c4 y0 y1 y2 y3 y4
                obtain ⟨wr4, hwr⟩ : ∃ x, w4'.setCell ⟨w1.heap.size, 4, none⟩ (.int .u64 v4) = x := ⟨_, rfl⟩
                rw [hwr] at HSV HBV ⊢
                clear hwr HSV4 HBV4
                rw [rounds_succ]
                have HO := Lib.hid (show parseC s.data.toList = some ⟨v0, v1, v2, v3, v4, bc, be⟩ from HP.out)
                have HZ2 := Lib.hid (HZ1.out.keep HBV.out)
                obtain ⟨⟨z0, z1, z2, z3, z4, z5, z6⟩, f0, f1, f2, f3, f4, f5, f6⟩ := And.intro HZ2.out.cells HZ2.out.frozen
                simp only [noCrn] at z0 z1 z2 z3 z4 z5 z6
                obtain ⟨⟨c0, c1, c2, c3, c4⟩, y0, y1, y2, y3, y4⟩ := HSV.out.cells
                have hck2 := (HBV.out.cell (World.block_lt_of_cell? _ _ HC2.out)).trans HC2.out
                have hck4 := (HBV.out.cell (World.block_lt_of_cell? _ _ HC4.out)).trans HC4.out
                go_wp2_with fail
                have hn1 : ((((((((wr4.setCell ⟨w.heap.size, 0, none⟩ (.int .u64 v0)).setCell ⟨w.heap.size, 1, none⟩ (.int .u64 v1)).setCell ⟨w.heap.size, 2, none⟩ (.int .u64 v2)).setCell ⟨w.heap.size, 3, none⟩ (.int .u64 v3)).setCell ⟨w.heap.size, 4, none⟩ (.int .u64 v4)).setCell ⟨w.heap.size, 5, none⟩ (.bool bc)).setCell ⟨w.heap.size, 6, none⟩ (.bool be)).drew).heap[w.heap.size]? = some (.cells #[.int .u64 v0, .int .u64 v1, .int .u64 v2, .int .u64 v3, .int .u64 v4, .bool bc, .bool be] 24 (0, 0)) := (congrArg (·[w.heap.size]?) (drew_heap _)).trans (HZ2.out.sets v0 v1 v2 v3 v4 bc be)
                have hb1 : Below w.heap.size w ((((((((wr4.setCell ⟨w.heap.size, 0, none⟩ (.int .u64 v0)).setCell ⟨w.heap.size, 1, none⟩ (.int .u64 v1)).setCell ⟨w.heap.size, 2, none⟩ (.int .u64 v2)).setCell ⟨w.heap.size, 3, none⟩ (.int .u64 v3)).setCell ⟨w.heap.size, 4, none⟩ (.int .u64 v4)).setCell ⟨w.heap.size, 5, none⟩ (.bool bc)).setCell ⟨w.heap.size, 6, none⟩ (.bool be)).drew) := (sets_below (HB1.out.trans (HBV.out.mono HB1.out.size)) _ _ _ _ _ _ _).drew
                have HN1 := Lib.hid hn1
                have HB2 := Lib.hid hb1
                clear hn1 hb1
                go_still_tail 18, (by kernel_rfl)
                go_wp2_with fail
                exact bodyPost_ret (results_two (p := 2) (u := 3) rfl _ _ w.heap.size 24 _ (0, 0) _ rfl HN1.out Tryd.underlying24 rfl infoCrn) rfl ⟨by rw [HO.out]; rfl, HB2.out⟩
    · have HO := Lib.hid (parse_other (s := s) (by rw [HPS.out]; exact h5))
      have h5i : ((ps.length : Int) != 5) = true := by rw [bne_iff_ne]; omega
      clear HPL HPS
      go_enter Tryd.func9, Tryd.ntmps9
      go_upto_region 1 with fail
      rw [HW.out]
      go_wp2_with fail
      refine S1.out.mono ?_
      rintro e w1 ⟨⟨pb, rfl, -⟩, hb1⟩
      have HB1 := Lib.hid (HB.out.trans (hb1.mono HB.out.size))
      have HZ2 := Lib.hid (HZ.out.keep hb1)
      obtain ⟨⟨z0, z1, z2, z3, z4, z5, z6⟩, f0, f1, f2, f3, f4, f5, f6⟩ := And.intro HZ2.out.cells HZ2.out.frozen
      simp only [noCrn] at z0 z1 z2 z3 z4 z5 z6
      clear hb1 h5
      go_wp2_with fail
      exact bodyPost_ret (results_two (p := 2) (u := 3) rfl _ _ w.heap.size 24 _ (0, 0) _ rfl (HZ2.out.sets 0 0 0 0 0 false false) Tryd.underlying24 rfl infoCrn) rfl ⟨by rw [HO.out, HZO.out]; rfl, sets_below HB1.out _ _ _ _ _ _ _⟩
end Go.Proofs.YtccobaohmbilpaaDoor
