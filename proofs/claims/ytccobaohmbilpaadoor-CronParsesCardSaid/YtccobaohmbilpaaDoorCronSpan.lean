/-
  The program's span, part and field of a schedule, by contracts. Conditions: texts of at most 300 bytes, the package-level variables as CEnv says.
-/
import Derived.Test.YtccobaohmbilpaaDoorCronNumP
import Derived.Test.YtccobaohmbilpaaDoorCronResults
import Derived.BigRegion
namespace Go.Proofs.YtccobaohmbilpaaDoor
open Go.RowKit

theorem infoTwo : (Tryd.prog.info? 53).map (·.size) = some 2 := by kernel_rfl
theorem Two.row {w : World} {B x y : Nat} (h : Two w B x y) (a b : Nat) : ((w.setCell ⟨B, 0, none⟩ (.int .i64 a)).setCell ⟨B, 1, none⟩ (.int .i64 b)).heap[B]? = some (.cells #[.int .i64 a, .int .i64 b] 53 (0, 0)) := by
  have h0 : (w.setCell ⟨B, 0, none⟩ (.int .i64 a)).heap[B]? = some (.cells #[.int .i64 a, .int .i64 y] 53 (0, 0)) := by
    unfold Two at h; rw [heap_setCell_same _ _ _ _ _ _ h]; rfl
  rw [heap_setCell_same _ _ _ _ _ _ h0]; rfl
theorem Two.row0 {w : World} {B x y : Nat} (h : Two w B x y) : ((w.setCell ⟨B, 0, none⟩ (.int .i64 0)).setCell ⟨B, 1, none⟩ (.int .i64 0)).heap[B]? = some (.cells #[.int .i64 0, .int .i64 0] 53 (0, 0)) := h.row 0 0
theorem Two.drewN {w : World} {B x y : Nat} (h : Two w B x y) (n : Nat) : Two (w.drewN n) B x y := h

/-- How span ends. -/
def SpanEnd (aA aN aO : Addr) (e : Ending) : Spn → Prop
  | .ok a b => e = .returned (.tuple #[bV a b, .nilIface])
  | .bad => ∃ x, (x = aN ∨ x = aO) ∧ e = .returned (.tuple #[bV 0 0, errV x])
  | .alone => e = .returned (.tuple #[bV 0 0, errV aA])

set_option maxRecDepth 100000 in
set_option maxHeartbeats 4000000 in
theorem span_t (low high : Nat) (s : ByteArray) (w : World) {aA aN aO : Addr} (hh : high ≤ 99) (hl : low ≤ 99) (hs : s.size ≤ 300) (he : CEnv w aA aN aO) :
    Calls Tryd.prog 48 #[bV low high, .string s] w fun e w' => SpanEnd aA aN aO e (spanS s.data.toList low high) ∧ Below w.heap.size w w' := by
  obtain ⟨W, hW⟩ : ∃ W, (w.alloc (.cells #[.int .i64 low, .int .i64 high] 53)).alloc (.cells #[.int .i64 0, .int .i64 0] 53) = W := ⟨_, rfl⟩
  have hT := (Two.new w low high).keep (below_new _ (.cells #[.int .i64 0, .int .i64 0] 53))
  have hZ := Two.new (w.alloc (.cells #[.int .i64 low, .int .i64 high] 53)) 0 0
  have hB := Below.then (below_new w (.cells #[.int .i64 low, .int .i64 high] 53)) (below_new _ (.cells #[.int .i64 0, .int .i64 0] 53))
  have hS : (w.alloc (.cells #[.int .i64 low, .int .i64 high] 53)).heap.size = w.heap.size + 1 := by simp
  rw [hS] at hZ
  replace hZ : Two ((w.alloc (.cells #[.int .i64 low, .int .i64 high] 53)).alloc (.cells #[.int .i64 0, .int .i64 0] 53)) (w.heap.size + 1) 0 0 := hZ
  rw [hW] at hT hZ hB
  have hsz := he.months.size
  have hE := he.keep hB
  have C1 := Lib.hid (cut_t s 45 hs W hE)
  have hcl := cutB_len 45 s.data.toList
  rw [← size_list s] at hcl
  have NT := Lib.hid (fun (x : List UInt8) (h : x.length ≤ 300) w1 (h2 : CEnv w1 aA aN aO) => number_t low high ⟨x.toArray⟩ w1 hh hl (by rw [size_list]; exact h) h2)
  have HW := Lib.hid hW
  have HB := Lib.hid hB
  have HT := Lib.hid hT
  have HZ := Lib.hid hZ
  have HE := Lib.hid hE
  obtain ⟨⟨c0, c1⟩, -⟩ := hT.cells
  obtain ⟨⟨z0, z1⟩, f0, f1⟩ := hZ.cells
  have gA := hE.gA
  have HSP := Lib.hid (show spanS s.data.toList low high = if s.data.toList = [42] then .ok low high else if (cutB 45 s.data.toList).2.2 then spanOf (numberL (cutB 45 s.data.toList).1 low high) (numberL (cutB 45 s.data.toList).2.1 low high) else .alone from rfl)
  clear hW hB hT hZ hE he hS
  obtain ⟨q, hq⟩ : ∃ q, cutB 45 s.data.toList = q := ⟨_, rfl⟩
  rw [hq] at C1 HSP hcl
  clear hq
  obtain ⟨x, r, t⟩ := q
  simp only at C1 HSP hcl
  unfold bV
  by_cases hst : s.data.toList = [42]
  · have x1 : (s.toList == [42]) = true := by rw [Lib.toList_data, hst]; rfl
    have HO := Lib.hid (show spanS s.data.toList low high = .ok low high from by rw [HSP.out, if_pos hst])
    clear hst
    go_enter Tryd.func48, Tryd.ntmps48
    go_upto_region 1 with fail
    rw [HW.out]
    go_wp2_with fail
    exact bodyPost_ret (results_two (p := 4) (u := 5) rfl _ _ (w.heap.size + 1) 53 _ (0, 0) _ rfl (HZ.out.row _ _) Tryd.underlying53 rfl infoTwo) rfl ⟨by rw [HO.out]; exact rfl, (HB.out.setCell (Nat.le_succ _) _).setCell (Nat.le_succ _) _⟩
  · have x1 : (s.toList == [42]) = false := by rw [Lib.toList_data]; exact beq_eq_false_iff_ne.2 hst
    have HSP2 := Lib.hid (show spanS s.data.toList low high = if t then spanOf (numberL x low high) (numberL r low high) else .alone from by rw [HSP.out, if_neg hst])
    clear hst HSP
    cases t with
    | false =>
      have HO := Lib.hid (show spanS s.data.toList low high = .alone from HSP2.out)
      go_enter Tryd.func48, Tryd.ntmps48
      go_upto_region 1 with fail
      rw [HW.out]
      go_wp2_with fail
      refine C1.out.mono ?_
      rintro e w1 ⟨rfl, hb1⟩
      have HB1 := Lib.hid (HB.out.trans (hb1.mono HB.out.size))
      have hZ1 := HZ.out.keep hb1
      have HZ1 := Lib.hid hZ1
      obtain ⟨⟨y0, y1⟩, h0, h1⟩ := hZ1.cells
      have gA1 := (HE.out.keep hb1).gA
      clear hb1 hZ1 c0 c1 z0 z1 f0 f1 gA
      go_upto_region 5 with fail
      go_region
      all_goals
        go_wp2_with fail
        first
          | exact bodyPost_ret (results_two (p := 4) (u := 5) rfl _ _ (w.heap.size + 1) 53 _ (0, 0) _ rfl (HZ1.out.row0) Tryd.underlying53 rfl infoTwo) rfl ⟨by rw [HO.out]; exact rfl, (HB1.out.setCell (Nat.le_succ _) _).setCell (Nat.le_succ _) _⟩
          | exact bodyPost_ret (results_two (p := 4) (u := 5) rfl _ _ (w.heap.size + 1) 53 _ (0, 0) _ rfl (HZ1.out.row0) Tryd.underlying53 rfl infoTwo) rfl ⟨by rw [HO.out]; exact rfl, ((HB1.out.setCell (Nat.le_succ _) _).setCell (Nat.le_succ _) _).drew⟩
    | true =>
      have HS3 := Lib.hid (show spanS s.data.toList low high = spanOf (numberL x low high) (numberL r low high) from HSP2.out)
      clear HSP2
      have N1 := Lib.hid (fun w1 h => NT.out x (by omega) w1 h)
      have N2 := Lib.hid (fun w1 h => NT.out r (by omega) w1 h)
      simp only at N1 N2
      obtain ⟨p1, hp1⟩ : ∃ p, numberL x low high = p := ⟨_, rfl⟩
      obtain ⟨p2, hp2⟩ : ∃ p, numberL r low high = p := ⟨_, rfl⟩
      rw [hp1] at N1
      rw [hp2] at N2
      rw [hp1, hp2] at HS3
      have HP1 := Lib.hid hp1
      have HP2 := Lib.hid hp2
      unfold bV at N1 N2
      clear hp1 hp2 NT
      go_enter Tryd.func48, Tryd.ntmps48
      go_upto_region 1 with fail
      rw [HW.out]
      go_wp2_with fail
      refine C1.out.mono ?_
      rintro e w1 ⟨rfl, hb1⟩
      have HB1 := Lib.hid (HB.out.trans (hb1.mono HB.out.size))
      have hZ1 := HZ.out.keep hb1
      have hT1 := HT.out.keep hb1
      have HZ1 := Lib.hid hZ1
      have HT1 := Lib.hid hT1
      have HE1 := Lib.hid (HE.out.keep hb1)
      obtain ⟨⟨k0, k1⟩, -⟩ := hT1.cells
      clear hb1 hZ1 hT1 c0 c1 z0 z1 f0 f1 gA
      cases p1 with
      | none =>
        have HO := Lib.hid (show spanS s.data.toList low high = .bad from by rw [HS3.out]; cases p2 <;> rfl)
        go_wp2_with fail
        refine (N1.out _ HE1.out).mono ?_
        rintro e w2 ⟨rfl, hb2⟩
        have HB2 := Lib.hid (HB1.out.trans (hb2.mono HB1.out.size))
        have hZ2 := HZ1.out.keep hb2
        have HZ2 := Lib.hid hZ2
        obtain ⟨⟨y0, y1⟩, h0, h1⟩ := hZ2.cells
        clear hb2 hZ2 k0 k1
        unfold numOut
        go_wp2_with fail
        exact bodyPost_ret (results_two (p := 4) (u := 5) rfl _ _ (w.heap.size + 1) 53 _ (0, 0) _ rfl (HZ2.out.row0) Tryd.underlying53 rfl infoTwo) rfl ⟨by rw [HO.out]; exact ⟨aN, Or.inl rfl, rfl⟩, (HB2.out.setCell (Nat.le_succ _) _).setCell (Nat.le_succ _) _⟩
      | some a =>
        have ha := numberL_le HP1.out
        go_wp2_with fail
        refine (N1.out _ HE1.out).mono ?_
        rintro e w2 ⟨rfl, hb2⟩
        have HB2 := Lib.hid (HB1.out.trans (hb2.mono HB1.out.size))
        have hT2 := HT1.out.keep hb2
        have HZ2 := Lib.hid (HZ1.out.keep hb2)
        have HE2 := Lib.hid (HE1.out.keep hb2)
        obtain ⟨⟨k20, k21⟩, -⟩ := hT2.cells
        clear hb2 hT2 k0 k1
        unfold numOut
        cases p2 with
        | none =>
          have HO := Lib.hid (show spanS s.data.toList low high = .bad from HS3.out)
          go_wp2_with fail
          refine (N2.out _ HE2.out).mono ?_
          rintro e w3 ⟨rfl, hb3⟩
          have HB3 := Lib.hid (HB2.out.trans (hb3.mono HB2.out.size))
          have hZ3 := HZ2.out.keep hb3
          have HZ3 := Lib.hid hZ3
          obtain ⟨⟨y0, y1⟩, h0, h1⟩ := hZ3.cells
          clear hb3 hZ3 k20 k21
          unfold numOut
          go_wp2_with fail
          exact bodyPost_ret (results_two (p := 4) (u := 5) rfl _ _ (w.heap.size + 1) 53 _ (0, 0) _ rfl (HZ3.out.row0) Tryd.underlying53 rfl infoTwo) rfl ⟨by rw [HO.out]; exact ⟨aN, Or.inl rfl, rfl⟩, (HB3.out.setCell (Nat.le_succ _) _).setCell (Nat.le_succ _) _⟩
        | some b =>
          have hb := numberL_le HP2.out
          have HSO := Lib.hid (show spanS s.data.toList low high = if a ≤ b then .ok a b else .bad from HS3.out)
          go_wp2_with fail
          refine (N2.out _ HE2.out).mono ?_
          rintro e w3 ⟨rfl, hb3⟩
          have HB3 := Lib.hid (HB2.out.trans (hb3.mono HB2.out.size))
          have hZ3 := HZ2.out.keep hb3
          have HZ3 := Lib.hid hZ3
          obtain ⟨⟨y0, y1⟩, h0, h1⟩ := hZ3.cells
          have gO := (HE2.out.keep hb3).gO
          clear hb3 hZ3 k20 k21
          unfold numOut
          by_cases hab : a ≤ b
          · have HO := Lib.hid (show spanS s.data.toList low high = .ok a b from by rw [HSO.out, if_pos hab])
            go_wp2_with fail
            exact bodyPost_ret (results_two (p := 4) (u := 5) rfl _ _ (w.heap.size + 1) 53 _ (0, 0) _ rfl (HZ3.out.row _ _) Tryd.underlying53 rfl infoTwo) rfl ⟨by rw [HO.out]; exact rfl, (HB3.out.setCell (Nat.le_succ _) _).setCell (Nat.le_succ _) _⟩
          · have HO := Lib.hid (show spanS s.data.toList low high = .bad from by rw [HSO.out, if_neg hab])
            go_upto_region 13 with fail
            go_region
            all_goals
              go_wp2_with fail
              first
                | exact bodyPost_ret (results_two (p := 4) (u := 5) rfl _ _ (w.heap.size + 1) 53 _ (0, 0) _ rfl (HZ3.out.row0) Tryd.underlying53 rfl infoTwo) rfl ⟨by rw [HO.out]; exact ⟨aO, Or.inr rfl, rfl⟩, (HB3.out.setCell (Nat.le_succ _) _).setCell (Nat.le_succ _) _⟩
                | exact bodyPost_ret (results_two (p := 4) (u := 5) rfl _ _ (w.heap.size + 1) 53 _ (0, 0) _ rfl (HZ3.out.row0) Tryd.underlying53 rfl infoTwo) rfl ⟨by rw [HO.out]; exact ⟨aO, Or.inr rfl, rfl⟩, ((HB3.out.setCell (Nat.le_succ _) _).setCell (Nat.le_succ _) _).drew⟩
end Go.Proofs.YtccobaohmbilpaaDoor
