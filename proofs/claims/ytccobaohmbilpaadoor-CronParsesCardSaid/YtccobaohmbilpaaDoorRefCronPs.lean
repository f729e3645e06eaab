/-
  The document's own Parse of a schedule, by a contract. Conditions: texts of at most 300 bytes.
-/
import Derived.Test.YtccobaohmbilpaaDoorRefCronFd
import Derived.Test.YtccobaohmbilpaaDoorCronParse
namespace Go.Proofs.YtccobaohmbilpaaDoor
open Go.RowKit

theorem fieldOut_eq (p : Option Nat) : fieldOut p = .tuple #[.int .u64 ((p.getD 0 : Nat) : Int), .bool p.isSome] := by cases p <;> rfl
theorem match5 (p0 p1 p2 p3 p4 : Option Nat) (bc be : Bool) : (match p0, p1, p2, p3, p4 with
      | some m, some h, some x, some o, some w => some (⟨m, h, x, o, w, bc, be⟩ : Crn)
      | _, _, _, _, _ => none) = if (p0.isSome && p1.isSome && p2.isSome && p3.isSome && p4.isSome) = true then some ⟨p0.getD 0, p1.getD 0, p2.getD 0, p3.getD 0, p4.getD 0, bc, be⟩ else none := by
  cases p0 <;> cases p1 <;> cases p2 <;> cases p3 <;> cases p4 <;> rfl
theorem pieces_of {c : UInt8} {s : ByteArray} {ps : List ByteArray} (h : ps.map (·.data.toList) = goC c [] s.data.toList) : pieces c s = ps := by
  unfold pieces
  rw [← h, List.map_map]
  have e : ((fun l => (⟨l.toArray⟩ : ByteArray)) ∘ fun x : ByteArray => x.data.toList) = id := funext fun x => ext_list rfl
  rw [e, List.map_id]
/-- What the document's Parse answers. -/
def refOut : Option Crn → Value
  | some c => .tuple #[crnV c, .bool true]
  | none => .tuple #[crnV noCrn, .bool false]

set_option maxRecDepth 100000 in
set_option maxHeartbeats 8000000 in
theorem refParse_t (s : ByteArray) (w : World) (hs : s.size ≤ 300) :
    Calls Tryd.prog 10 #[.string s] w fun e w' => e = .returned (refOut (parseC s.data.toList)) ∧ Below w.heap.size w w' := by
  obtain ⟨W, hW⟩ : ∃ W, w.alloc (.cells #[.int .u64 0, .int .u64 0, .int .u64 0, .int .u64 0, .int .u64 0, .bool false, .bool false] 24) = W := ⟨_, rfl⟩
  have hZ : Crn7 W w.heap.size noCrn := hW ▸ Crn7.new w noCrn
  have hB : Below w.heap.size w W := hW ▸ below_new w _
  have HW := Lib.hid hW
  have HB := Lib.hid hB
  have HZ := Lib.hid hZ
  have HZO := Lib.hid (show refOut none = .tuple #[.agg #[.int .u64 0, .int .u64 0, .int .u64 0, .int .u64 0, .int .u64 0, .bool false, .bool false], .bool false] from rfl)
  have S1 := Lib.hid (refSplit_any s 32 W hs)
  clear hW hB hZ
  go_enter Tryd.func10, Tryd.ntmps10
  go_upto_region 1 with fail
  rw [HW.out]
  go_wp2_with fail
  refine S1.out.mono ?_
  rintro e w1 ⟨ps, v1, rfl, hr1, hp1, hz1, -, hb1⟩
  have hne1 : ps ≠ [] := by
    intro e; rw [e] at hp1
    exact goC_ne 32 s.data.toList [] hp1.symm
  have HPC := Lib.hid (pieces_of hp1)
  have HB1 := Lib.hid (HB.out.trans (hb1.mono HB.out.size))
  have HZ1 := Lib.hid (HZ.out.keep hb1)
  rcases hr1 with ⟨-, h⟩ | ⟨pb, po, cap, rfl, hc1, hc2, hcell⟩
  · exact absurd h hne1
  obtain ⟨W2, hW2⟩ : ∃ X, w1.alloc (.cells #[.int .u64 0, .int .u64 0, .int .u64 0, .int .u64 0, .int .u64 0, .bool false, .bool false] 24) = X := ⟨_, rfl⟩
  have hX : Crn7 W2 w1.heap.size noCrn := hW2 ▸ Crn7.new w1 noCrn
  have hB2 : Below w1.heap.size w1 W2 := hW2 ▸ below_new w1 _
  have HX := Lib.hid hX
  have HB2 := Lib.hid (HB1.out.trans (hB2.mono HB1.out.size))
  have HZ2 := Lib.hid (HZ1.out.keep hB2)
  have HC2 := Lib.hid (fun i h => (hB2.cell (World.block_lt_of_cell? _ _ (hcell i h))).trans (hcell i h))
  have HW2 := Lib.hid hW2
  clear hW2 hX hB2 hb1 hp1 hcell hne1
  by_cases hlen : 200 < s.size
  · have HO := Lib.hid (parse_long hlen)
    go_upto_region 3 with fail
    rw [HW2.out]
    obtain ⟨⟨z0, z1, z2, z3, z4, z5, z6⟩, f0, f1, f2, f3, f4, f5, f6⟩ := And.intro HZ2.out.cells HZ2.out.frozen
    obtain ⟨x0, x1, x2, x3, x4, x5, x6⟩ := HX.out.cells
    simp only [noCrn] at z0 z1 z2 z3 z4 z5 z6 x0 x1 x2 x3 x4 x5 x6
    go_wp2_with fail
    exact bodyPost_ret (results_two (p := 2) (u := 3) rfl _ _ w.heap.size 24 _ (0, 0) _ rfl (HZ2.out.sets 0 0 0 0 0 false false) Tryd.underlying24 rfl infoCrn) rfl ⟨by rw [HO.out, HZO.out]; rfl, sets_below HB2.out _ _ _ _ _ _ _⟩
  · have hs2 : s.size ≤ 200 := by omega
    by_cases h5 : ps.length = 5
    · obtain ⟨ta, tb, tc, td, te, rfl⟩ : ∃ a b c d e, ps = [a, b, c, d, e] := by
        match ps, h5 with
        | [a, b, c, d, e], _ => exact ⟨a, b, c, d, e, rfl⟩
      have HP := Lib.hid ((parse_five HPC.out hs2).trans (match5 _ _ _ _ _ _ _))
      have hsta : ta.size ≤ 300 := by have := hz1 ta (by simp); omega
      have hstb : tb.size ≤ 300 := by have := hz1 tb (by simp); omega
      have hstc : tc.size ≤ 300 := by have := hz1 tc (by simp); omega
      have hstd : td.size ≤ 300 := by have := hz1 td (by simp); omega
      have hste : te.size ≤ 300 := by have := hz1 te (by simp); omega

      have F0 := Lib.hid (show ∀ w1, Calls Tryd.prog 21 #[.string ta, .int .i64 0, .int .i64 59] w1 fun e w' => e = .returned (.tuple #[.int .u64 (((fieldL ta.data.toList 0 59).getD 0 : Nat) : Int), .bool (fieldL ta.data.toList 0 59).isSome]) ∧ Below w1.heap.size w1 w' from fun w1 => by
        rw [← fieldOut_eq]; exact refField_t ta 0 59 w1 hsta (by decide) (by decide))
      obtain ⟨v0, hv0⟩ : ∃ v, (fieldL ta.data.toList 0 59).getD 0 = v := ⟨_, rfl⟩
      obtain ⟨b0, hb0⟩ : ∃ v, (fieldL ta.data.toList 0 59).isSome = v := ⟨_, rfl⟩
      rw [hv0, hb0] at F0 HP
      clear hv0 hb0
      have F1 := Lib.hid (show ∀ w1, Calls Tryd.prog 21 #[.string tb, .int .i64 0, .int .i64 23] w1 fun e w' => e = .returned (.tuple #[.int .u64 (((fieldL tb.data.toList 0 23).getD 0 : Nat) : Int), .bool (fieldL tb.data.toList 0 23).isSome]) ∧ Below w1.heap.size w1 w' from fun w1 => by
        rw [← fieldOut_eq]; exact refField_t tb 0 23 w1 hstb (by decide) (by decide))
      obtain ⟨v1, hv1⟩ : ∃ v, (fieldL tb.data.toList 0 23).getD 0 = v := ⟨_, rfl⟩
      obtain ⟨b1, hb1⟩ : ∃ v, (fieldL tb.data.toList 0 23).isSome = v := ⟨_, rfl⟩
      rw [hv1, hb1] at F1 HP
      clear hv1 hb1
      have F2 := Lib.hid (show ∀ w1, Calls Tryd.prog 21 #[.string tc, .int .i64 1, .int .i64 31] w1 fun e w' => e = .returned (.tuple #[.int .u64 (((fieldL tc.data.toList 1 31).getD 0 : Nat) : Int), .bool (fieldL tc.data.toList 1 31).isSome]) ∧ Below w1.heap.size w1 w' from fun w1 => by
        rw [← fieldOut_eq]; exact refField_t tc 1 31 w1 hstc (by decide) (by decide))
      obtain ⟨v2, hv2⟩ : ∃ v, (fieldL tc.data.toList 1 31).getD 0 = v := ⟨_, rfl⟩
      obtain ⟨b2, hb2⟩ : ∃ v, (fieldL tc.data.toList 1 31).isSome = v := ⟨_, rfl⟩
      rw [hv2, hb2] at F2 HP
      clear hv2 hb2
      have F3 := Lib.hid (show ∀ w1, Calls Tryd.prog 21 #[.string td, .int .i64 1, .int .i64 12] w1 fun e w' => e = .returned (.tuple #[.int .u64 (((fieldL td.data.toList 1 12).getD 0 : Nat) : Int), .bool (fieldL td.data.toList 1 12).isSome]) ∧ Below w1.heap.size w1 w' from fun w1 => by
        rw [← fieldOut_eq]; exact refField_t td 1 12 w1 hstd (by decide) (by decide))
      obtain ⟨v3, hv3⟩ : ∃ v, (fieldL td.data.toList 1 12).getD 0 = v := ⟨_, rfl⟩
      obtain ⟨b3, hb3⟩ : ∃ v, (fieldL td.data.toList 1 12).isSome = v := ⟨_, rfl⟩
      rw [hv3, hb3] at F3 HP
      clear hv3 hb3
      have F4 := Lib.hid (show ∀ w1, Calls Tryd.prog 21 #[.string te, .int .i64 0, .int .i64 6] w1 fun e w' => e = .returned (.tuple #[.int .u64 (((fieldL te.data.toList 0 6).getD 0 : Nat) : Int), .bool (fieldL te.data.toList 0 6).isSome]) ∧ Below w1.heap.size w1 w' from fun w1 => by
        rw [← fieldOut_eq]; exact refField_t te 0 6 w1 hste (by decide) (by decide))
      obtain ⟨v4, hv4⟩ : ∃ v, (fieldL te.data.toList 0 6).getD 0 = v := ⟨_, rfl⟩
      obtain ⟨b4, hb4⟩ : ∃ v, (fieldL te.data.toList 0 6).isSome = v := ⟨_, rfl⟩
      rw [hv4, hb4] at F4 HP
      clear hv4 hb4
      obtain ⟨bc, hbc⟩ : ∃ t, (tc.toList == [42]) = t := ⟨_, rfl⟩
      obtain ⟨be, hbe⟩ : ∃ t, (te.toList == [42]) = t := ⟨_, rfl⟩
      have dc : decide (tc.data.toList = [42]) = bc := by rw [← hbc, Lib.toList_data, Bool.eq_iff_iff, decide_eq_true_eq, beq_iff_eq]
      have de : decide (te.data.toList = [42]) = be := by rw [← hbe, Lib.toList_data, Bool.eq_iff_iff, decide_eq_true_eq, beq_iff_eq]
      rw [dc, de] at HP
      have HBC := Lib.hid hbc
      have HBE := Lib.hid hbe
      have C0 := HC2.out 0 (by simp)
      have C1 := HC2.out 1 (by simp)
      have C2 := HC2.out 2 (by simp)
      have C3 := HC2.out 3 (by simp)
      have C4 := HC2.out 4 (by simp)
      simp only [List.getElem_cons_zero, List.getElem_cons_succ, Nat.add_zero] at C0 C1 C2 C3 C4
      simp only [List.length_cons, List.length_nil] at hc1
      clear dc de hbc hbe h5 hz1 hsta hstb hstc hstd hste
      simp only [List.length_cons, List.length_nil]
      go_upto_region 3 with fail
      rw [HW2.out]
      go_wp2_with fail
      refine (F0.out _).mono ?_
      rintro e w3 ⟨rfl, hbb⟩
      have HB3 := Lib.hid (HB2.out.trans (hbb.mono HB2.out.size))
      have HZ3 := Lib.hid (HZ2.out.keep hbb)
      have HX3 := Lib.hid (HX.out.keep hbb)
      replace C0 := (hbb.cell (World.block_lt_of_cell? _ _ C0)).trans C0
      replace C1 := (hbb.cell (World.block_lt_of_cell? _ _ C1)).trans C1
      replace C2 := (hbb.cell (World.block_lt_of_cell? _ _ C2)).trans C2
      replace C3 := (hbb.cell (World.block_lt_of_cell? _ _ C3)).trans C3
      replace C4 := (hbb.cell (World.block_lt_of_cell? _ _ C4)).trans C4
      clear hbb
      go_wp2_with fail
      refine (F1.out _).mono ?_
      rintro e w4 ⟨rfl, hbb⟩
      have HB4 := Lib.hid (HB3.out.trans (hbb.mono HB3.out.size))
      have HZ4 := Lib.hid (HZ3.out.keep hbb)
      have HX4 := Lib.hid (HX3.out.keep hbb)
      replace C0 := (hbb.cell (World.block_lt_of_cell? _ _ C0)).trans C0
      replace C1 := (hbb.cell (World.block_lt_of_cell? _ _ C1)).trans C1
      replace C2 := (hbb.cell (World.block_lt_of_cell? _ _ C2)).trans C2
      replace C3 := (hbb.cell (World.block_lt_of_cell? _ _ C3)).trans C3
      replace C4 := (hbb.cell (World.block_lt_of_cell? _ _ C4)).trans C4
      clear hbb
      go_wp2_with fail
      refine (F2.out _).mono ?_
      rintro e w5 ⟨rfl, hbb⟩
      have HB5 := Lib.hid (HB4.out.trans (hbb.mono HB4.out.size))
      have HZ5 := Lib.hid (HZ4.out.keep hbb)
      have HX5 := Lib.hid (HX4.out.keep hbb)
      replace C0 := (hbb.cell (World.block_lt_of_cell? _ _ C0)).trans C0
      replace C1 := (hbb.cell (World.block_lt_of_cell? _ _ C1)).trans C1
      replace C2 := (hbb.cell (World.block_lt_of_cell? _ _ C2)).trans C2
      replace C3 := (hbb.cell (World.block_lt_of_cell? _ _ C3)).trans C3
      replace C4 := (hbb.cell (World.block_lt_of_cell? _ _ C4)).trans C4
      clear hbb
      go_wp2_with fail
      refine (F3.out _).mono ?_
      rintro e w6 ⟨rfl, hbb⟩
      have HB6 := Lib.hid (HB5.out.trans (hbb.mono HB5.out.size))
      have HZ6 := Lib.hid (HZ5.out.keep hbb)
      have HX6 := Lib.hid (HX5.out.keep hbb)
      replace C0 := (hbb.cell (World.block_lt_of_cell? _ _ C0)).trans C0
      replace C1 := (hbb.cell (World.block_lt_of_cell? _ _ C1)).trans C1
      replace C2 := (hbb.cell (World.block_lt_of_cell? _ _ C2)).trans C2
      replace C3 := (hbb.cell (World.block_lt_of_cell? _ _ C3)).trans C3
      replace C4 := (hbb.cell (World.block_lt_of_cell? _ _ C4)).trans C4
      clear hbb
      go_wp2_with fail
      refine (F4.out _).mono ?_
      rintro e w7 ⟨rfl, hbb⟩
      have HB7 := Lib.hid (HB6.out.trans (hbb.mono HB6.out.size))
      have HZ7 := Lib.hid (HZ6.out.keep hbb)
      have HX7 := Lib.hid (HX6.out.keep hbb)
      replace C0 := (hbb.cell (World.block_lt_of_cell? _ _ C0)).trans C0
      replace C1 := (hbb.cell (World.block_lt_of_cell? _ _ C1)).trans C1
      replace C2 := (hbb.cell (World.block_lt_of_cell? _ _ C2)).trans C2
      replace C3 := (hbb.cell (World.block_lt_of_cell? _ _ C3)).trans C3
      replace C4 := (hbb.cell (World.block_lt_of_cell? _ _ C4)).trans C4
      clear hbb
      cases b0 with
      | false =>
        have HO := Lib.hid (show parseC s.data.toList = none from by rw [HP.out]; rfl)
        clear C0 C1 C2 C3 C4
        obtain ⟨⟨z0, z1, z2, z3, z4, z5, z6⟩, f0, f1, f2, f3, f4, f5, f6⟩ := And.intro HZ7.out.cells HZ7.out.frozen
        obtain ⟨x0, x1, x2, x3, x4, x5, x6⟩ := HX7.out.cells
        simp only [noCrn] at z0 z1 z2 z3 z4 z5 z6 x0 x1 x2 x3 x4 x5 x6
        go_wp2_with fail
        exact bodyPost_ret (results_two (p := 2) (u := 3) rfl _ _ w.heap.size 24 _ (0, 0) _ rfl (HZ7.out.sets 0 0 0 0 0 false false) Tryd.underlying24 rfl infoCrn) rfl ⟨by rw [HO.out, HZO.out]; rfl, sets_below HB7.out _ _ _ _ _ _ _⟩
      | true =>
        cases b1 with
        | false =>
          have HO := Lib.hid (show parseC s.data.toList = none from by rw [HP.out]; rfl)
          clear C0 C1 C2 C3 C4
          obtain ⟨⟨z0, z1, z2, z3, z4, z5, z6⟩, f0, f1, f2, f3, f4, f5, f6⟩ := And.intro HZ7.out.cells HZ7.out.frozen
          obtain ⟨x0, x1, x2, x3, x4, x5, x6⟩ := HX7.out.cells
          simp only [noCrn] at z0 z1 z2 z3 z4 z5 z6 x0 x1 x2 x3 x4 x5 x6
          go_wp2_with fail
          exact bodyPost_ret (results_two (p := 2) (u := 3) rfl _ _ w.heap.size 24 _ (0, 0) _ rfl (HZ7.out.sets 0 0 0 0 0 false false) Tryd.underlying24 rfl infoCrn) rfl ⟨by rw [HO.out, HZO.out]; rfl, sets_below HB7.out _ _ _ _ _ _ _⟩
        | true =>
          cases b2 with
          | false =>
            have HO := Lib.hid (show parseC s.data.toList = none from by rw [HP.out]; rfl)
            clear C0 C1 C2 C3 C4
            obtain ⟨⟨z0, z1, z2, z3, z4, z5, z6⟩, f0, f1, f2, f3, f4, f5, f6⟩ := And.intro HZ7.out.cells HZ7.out.frozen
            obtain ⟨x0, x1, x2, x3, x4, x5, x6⟩ := HX7.out.cells
            simp only [noCrn] at z0 z1 z2 z3 z4 z5 z6 x0 x1 x2 x3 x4 x5 x6
            go_wp2_with fail
            exact bodyPost_ret (results_two (p := 2) (u := 3) rfl _ _ w.heap.size 24 _ (0, 0) _ rfl (HZ7.out.sets 0 0 0 0 0 false false) Tryd.underlying24 rfl infoCrn) rfl ⟨by rw [HO.out, HZO.out]; rfl, sets_below HB7.out _ _ _ _ _ _ _⟩
          | true =>
            cases b3 with
            | false =>
              have HO := Lib.hid (show parseC s.data.toList = none from by rw [HP.out]; rfl)
              clear C0 C1 C2 C3 C4
              obtain ⟨⟨z0, z1, z2, z3, z4, z5, z6⟩, f0, f1, f2, f3, f4, f5, f6⟩ := And.intro HZ7.out.cells HZ7.out.frozen
              obtain ⟨x0, x1, x2, x3, x4, x5, x6⟩ := HX7.out.cells
              simp only [noCrn] at z0 z1 z2 z3 z4 z5 z6 x0 x1 x2 x3 x4 x5 x6
              go_wp2_with fail
              exact bodyPost_ret (results_two (p := 2) (u := 3) rfl _ _ w.heap.size 24 _ (0, 0) _ rfl (HZ7.out.sets 0 0 0 0 0 false false) Tryd.underlying24 rfl infoCrn) rfl ⟨by rw [HO.out, HZO.out]; rfl, sets_below HB7.out _ _ _ _ _ _ _⟩
            | true =>
              cases b4 with
              | false =>
                have HO := Lib.hid (show parseC s.data.toList = none from by rw [HP.out]; rfl)
                clear C0 C1 C2 C3 C4
                obtain ⟨⟨z0, z1, z2, z3, z4, z5, z6⟩, f0, f1, f2, f3, f4, f5, f6⟩ := And.intro HZ7.out.cells HZ7.out.frozen
                obtain ⟨x0, x1, x2, x3, x4, x5, x6⟩ := HX7.out.cells
                simp only [noCrn] at z0 z1 z2 z3 z4 z5 z6 x0 x1 x2 x3 x4 x5 x6
                go_wp2_with fail
                exact bodyPost_ret (results_two (p := 2) (u := 3) rfl _ _ w.heap.size 24 _ (0, 0) _ rfl (HZ7.out.sets 0 0 0 0 0 false false) Tryd.underlying24 rfl infoCrn) rfl ⟨by rw [HO.out, HZO.out]; rfl, sets_below HB7.out _ _ _ _ _ _ _⟩
              | true =>
                have HO := Lib.hid (show parseC s.data.toList = some ⟨v0, v1, v2, v3, v4, bc, be⟩ from by rw [HP.out]; rfl)
                have hn1 : ((((((((w7.setCell ⟨w.heap.size, 0, none⟩ (.int .u64 v0)).setCell ⟨w.heap.size, 1, none⟩ (.int .u64 v1)).setCell ⟨w.heap.size, 2, none⟩ (.int .u64 v2)).setCell ⟨w.heap.size, 3, none⟩ (.int .u64 v3)).setCell ⟨w.heap.size, 4, none⟩ (.int .u64 v4)).setCell ⟨w.heap.size, 5, none⟩ (.bool bc)).setCell ⟨w.heap.size, 6, none⟩ (.bool be)).drew).heap[w.heap.size]? = some (.cells #[.int .u64 v0, .int .u64 v1, .int .u64 v2, .int .u64 v3, .int .u64 v4, .bool bc, .bool be] 24 (0, 0)) := (congrArg (·[w.heap.size]?) (drew_heap _)).trans (HZ7.out.sets v0 v1 v2 v3 v4 bc be)
                have hb1 : Below w.heap.size w ((((((((w7.setCell ⟨w.heap.size, 0, none⟩ (.int .u64 v0)).setCell ⟨w.heap.size, 1, none⟩ (.int .u64 v1)).setCell ⟨w.heap.size, 2, none⟩ (.int .u64 v2)).setCell ⟨w.heap.size, 3, none⟩ (.int .u64 v3)).setCell ⟨w.heap.size, 4, none⟩ (.int .u64 v4)).setCell ⟨w.heap.size, 5, none⟩ (.bool bc)).setCell ⟨w.heap.size, 6, none⟩ (.bool be)).drew) := (sets_below HB7.out _ _ _ _ _ _ _).drew
                have HN1 := Lib.hid hn1
                have HBE1 := Lib.hid hb1
                clear hn1 hb1
                obtain ⟨⟨z0, z1, z2, z3, z4, z5, z6⟩, f0, f1, f2, f3, f4, f5, f6⟩ := And.intro HZ7.out.cells HZ7.out.frozen
                simp only [noCrn] at z0 z1 z2 z3 z4 z5 z6
                have hbc := HBC.out
                have hbe := HBE.out
                go_wp2_with fail
                go_still_tail 13, (by kernel_rfl)
                go_wp2_with fail
                exact bodyPost_ret (results_two (p := 2) (u := 3) rfl _ _ w.heap.size 24 _ (0, 0) _ rfl HN1.out Tryd.underlying24 rfl infoCrn) rfl ⟨by rw [HO.out]; rfl, HBE1.out⟩
    · have HO := Lib.hid (parse_other (s := s) (by rw [HPC.out]; exact h5))
      have h5i : ((ps.length : Int) != 5) = true := by rw [bne_iff_ne]; omega
      clear hz1 h5
      go_upto_region 3 with fail
      rw [HW2.out]
      obtain ⟨⟨z0, z1, z2, z3, z4, z5, z6⟩, f0, f1, f2, f3, f4, f5, f6⟩ := And.intro HZ2.out.cells HZ2.out.frozen
      obtain ⟨x0, x1, x2, x3, x4, x5, x6⟩ := HX.out.cells
      simp only [noCrn] at z0 z1 z2 z3 z4 z5 z6 x0 x1 x2 x3 x4 x5 x6
      go_wp2_with fail
      exact bodyPost_ret (results_two (p := 2) (u := 3) rfl _ _ w.heap.size 24 _ (0, 0) _ rfl (HZ2.out.sets 0 0 0 0 0 false false) Tryd.underlying24 rfl infoCrn) rfl ⟨by rw [HO.out, HZO.out]; rfl, sets_below HB2.out _ _ _ _ _ _ _⟩
end Go.Proofs.YtccobaohmbilpaaDoor
