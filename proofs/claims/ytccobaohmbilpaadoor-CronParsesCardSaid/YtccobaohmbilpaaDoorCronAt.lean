/-
  The program's time of a tick, and whether a schedule fires at it, by contracts. Conditions: the table of the months lies where it lies.
-/
import Derived.Test.YtccobaohmbilpaaDoorCronResults
import Derived.Deep.RegionWith
import Derived.Deep.RegionHeld
import Derived.Deep.RegionLaw
import Derived.Deep.Cut
namespace Go.Proofs.YtccobaohmbilpaaDoor
open Go.RowKit

/-- Six stores, cell by cell. -/
def set6 (w : World) (B : Nat) (v0 v1 v2 v3 v4 v5 : Value) : World := (((((w.setCell ⟨B, 0, none⟩ v0).setCell ⟨B, 1, none⟩ v1).setCell ⟨B, 2, none⟩ v2).setCell ⟨B, 3, none⟩ v3).setCell ⟨B, 4, none⟩ v4).setCell ⟨B, 5, none⟩ v5
theorem set6_row {w : World} {B : Nat} {t : TypeId} {c0 c1 c2 c3 c4 c5 : Value} (h : w.heap[B]? = some (.cells #[c0, c1, c2, c3, c4, c5] t (0, 0))) (v0 v1 v2 v3 v4 v5 : Value) : (set6 w B v0 v1 v2 v3 v4 v5).heap[B]? = some (.cells #[v0, v1, v2, v3, v4, v5] t (0, 0)) := by
  have h0 : (w.setCell ⟨B, 0, none⟩ v0).heap[B]? = some (.cells #[v0, c1, c2, c3, c4, c5] t (0, 0)) := by rw [heap_setCell_same _ _ _ _ _ _ h]; rfl
  have h1 : ((w.setCell ⟨B, 0, none⟩ v0).setCell ⟨B, 1, none⟩ v1).heap[B]? = some (.cells #[v0, v1, c2, c3, c4, c5] t (0, 0)) := by rw [heap_setCell_same _ _ _ _ _ _ h0]; rfl
  have h2 : (((w.setCell ⟨B, 0, none⟩ v0).setCell ⟨B, 1, none⟩ v1).setCell ⟨B, 2, none⟩ v2).heap[B]? = some (.cells #[v0, v1, v2, c3, c4, c5] t (0, 0)) := by rw [heap_setCell_same _ _ _ _ _ _ h1]; rfl
  have h3 : ((((w.setCell ⟨B, 0, none⟩ v0).setCell ⟨B, 1, none⟩ v1).setCell ⟨B, 2, none⟩ v2).setCell ⟨B, 3, none⟩ v3).heap[B]? = some (.cells #[v0, v1, v2, v3, c4, c5] t (0, 0)) := by rw [heap_setCell_same _ _ _ _ _ _ h2]; rfl
  have h4 : (((((w.setCell ⟨B, 0, none⟩ v0).setCell ⟨B, 1, none⟩ v1).setCell ⟨B, 2, none⟩ v2).setCell ⟨B, 3, none⟩ v3).setCell ⟨B, 4, none⟩ v4).heap[B]? = some (.cells #[v0, v1, v2, v3, v4, c5] t (0, 0)) := by rw [heap_setCell_same _ _ _ _ _ _ h3]; rfl
  unfold set6
  rw [heap_setCell_same _ _ _ _ _ _ h4]; rfl
theorem set6_below {w w0 : World} {B : Nat} (h : Below B w0 w) (v0 v1 v2 v3 v4 v5 : Value) : Below B w0 (set6 w B v0 v1 v2 v3 v4 v5) :=
  (((((h.setCell (Nat.le_refl _) _).setCell (Nat.le_refl _) _).setCell (Nat.le_refl _) _).setCell (Nat.le_refl _) _).setCell (Nat.le_refl _) _).setCell (Nat.le_refl _) _
theorem infoClk : (Tryd.prog.info? 33).map (·.size) = some 6 := by kernel_rfl

set_option maxRecDepth 100000 in
set_option maxHeartbeats 4000000 in
theorem clock_t (t : Nat) (w : World) (ht : t ≤ 1099511627776) (hM : Months w) :
    Calls Tryd.prog 23 #[.int .i64 t] w fun e w' => e = .returned (clkV (clkAt t)) ∧ Below w.heap.size w w' := by
  obtain ⟨d, hd⟩ : ∃ d, t / 1440 = d := ⟨_, rfl⟩
  obtain ⟨mi, hm⟩ : ∃ d, t % 1440 = d := ⟨_, rfl⟩
  obtain ⟨m60, hm60⟩ : ∃ d, mi % 60 = d := ⟨_, rfl⟩
  obtain ⟨h60, hh60⟩ : ∃ d, mi / 60 = d := ⟨_, rfl⟩
  obtain ⟨d7, hd7⟩ : ∃ x, (d + 4) % 7 = x := ⟨_, rfl⟩
  have e1 : (t : Int) / 1440 = (d : Int) := by omega
  have e2 : (t : Int) % 1440 = (mi : Int) := by omega
  have e3 : (mi : Int) % 60 = (m60 : Int) := by omega
  have e4 : (mi : Int) / 60 = (h60 : Int) := by omega
  have e5 : ((d : Int) + 4) % 7 = (d7 : Int) := by omega
  have k1 : d ≤ 763549742 := by omega
  have k2 : mi < 1440 := by omega
  have e6 : (d : Int) + 134774 = ((d + 134774 : Nat) : Int) := by omega
  have HB := Lib.hid (below_new w (.cells #[.int .i64 0, .int .i64 0, .int .i64 0, .int .i64 0, .int .i64 0, .int .i64 0] 33))
  have Y1 := Lib.hid (fun w1 => yearOf_t (d + 134774) w1 (by omega))
  have M1 := Lib.hid (fun (Y b : Nat) w1 h1 h2 h3 => monthOf_t Y b w1 h1 h2 h3)
  have HM := Lib.hid (hM.keep HB.out)
  have HA := Lib.hid (fun (Y b m : Nat) h1 h2 h3 h4 h5 h6 h7 => (at_is (Y := Y) (b := b) (m := m) hd hm h1 h2 h3 h4 h5 h6 h7).eq)
  rw [hm60, hh60, hd7] at HA
  obtain ⟨d', hd'⟩ : ∃ x, d + 134774 = x := ⟨_, rfl⟩
  rw [hd'] at e6 Y1 HA
  have HD := Lib.hid hd'
  clear hd hm hm60 hh60 hd7 hM hd'
  go_enter Tryd.func23, Tryd.ntmps23
  go_wp2_with fail
  refine (Y1.out _).mono ?_
  rintro e w1 ⟨⟨Y, b, h1, h2, h3, h4, rfl⟩, hw1⟩
  subst hw1
  have H1 := Lib.hid h1
  have H2 := Lib.hid h2
  clear h1 h2
  go_wp2_with fail
  refine (M1.out Y b _ (by omega) H2.out HM.out).mono ?_
  rintro e w1 ⟨⟨m, j1, j2, j3, j4, rfl⟩, hw1⟩
  subst hw1
  have HC := Lib.hid (HA.out Y b m H1.out h3 H2.out j1 j2 j3 j4)
  obtain ⟨x, hx⟩ : ∃ x, b - aheadM Y m + 1 = x := ⟨_, rfl⟩
  rw [hx] at HC ⊢
  clear j3 j4 hx
  go_wp2_with fail
  exact bodyPost_ret (results_cell_row (p := 2) rfl _ _ w.heap.size 33 _ (0, 0) _ rfl (heap_alloc_new w _) Tryd.underlying33 rfl infoClk) rfl ⟨by rw [← HC.out]; rfl, below_new w _⟩


/-- What At answers. -/
noncomputable def atOut (t : Int) : Value := if tickB t then .tuple #[clkV (clkAt t.toNat), .int .i64 0] else .tuple #[clkV ⟨0, 0, 0, 0, 0, 0⟩, .int .i64 1]
theorem tickB_true {t : Int} (h : tickB t = true) : ∃ n : Nat, t = (n : Int) ∧ n ≤ 1099511627776 := by
  unfold tickB at h
  simp only [Bool.and_eq_true, decide_eq_true_eq] at h
  exact ⟨t.toNat, by omega, by omega⟩
theorem tickB_nat {n : Nat} (h : n ≤ 1099511627776) : tickB n = true := by unfold tickB; simp; omega

set_option maxRecDepth 100000 in
set_option maxHeartbeats 4000000 in
theorem At_t (t : Int) (w : World) (hM : Months w) :
    Calls Tryd.prog 12 #[.int .i64 t] w fun e w' => e = .returned (atOut t) ∧ Below w.heap.size w w' := by
  have I := Lib.hid (fun w1 => isTick_t t w1)
  have HB := Lib.hid (below_new w (.cells #[.int .i64 0, .int .i64 0, .int .i64 0, .int .i64 0, .int .i64 0, .int .i64 0] 33))
  have HN := Lib.hid (heap_alloc_new w (.cells #[.int .i64 0, .int .i64 0, .int .i64 0, .int .i64 0, .int .i64 0, .int .i64 0] 33))
  have HO := Lib.hid (show atOut t = if tickB t then .tuple #[clkV (clkAt t.toNat), .int .i64 0] else .tuple #[clkV ⟨0, 0, 0, 0, 0, 0⟩, .int .i64 1] from rfl)
  cases hb : tickB t with
  | true =>
    obtain ⟨n, rfl, hn⟩ := tickB_true hb
    have C := Lib.hid (clock_t n (w.alloc (.cells #[.int .i64 0, .int .i64 0, .int .i64 0, .int .i64 0, .int .i64 0, .int .i64 0] 33)) hn (hM.keep HB.out))
    rw [hb, if_pos rfl, Int.toNat_natCast] at HO
    rw [hb] at I
    obtain ⟨c, hc⟩ : ∃ c, clkAt n = c := ⟨_, rfl⟩
    rw [hc] at C HO
    unfold clkV at C HO
    clear hb hc hM
    go_enter Tryd.func12, Tryd.ntmps12
    go_wp2_with fail
    refine (I.out _).mono ?_
    rintro e w1 ⟨rfl, hw1⟩
    subst hw1
    go_wp2_with fail
    refine C.out.mono ?_
    rintro e w1 ⟨rfl, hb1⟩
    have HN1 := Lib.hid ((hb1.block w.heap.size (Array.getElem?_eq_some_iff.1 HN.out).1).trans HN.out)
    have HB1 := Lib.hid (Below.then HB.out hb1)
    obtain ⟨⟨g0, g1, g2, g3, g4, g5⟩, z0, z1, z2, z3, z4, z5⟩ : (w1.cell? ⟨w.heap.size, 0, none⟩ = some (.int .i64 0) ∧ w1.cell? ⟨w.heap.size, 1, none⟩ = some (.int .i64 0) ∧ w1.cell? ⟨w.heap.size, 2, none⟩ = some (.int .i64 0) ∧ w1.cell? ⟨w.heap.size, 3, none⟩ = some (.int .i64 0) ∧ w1.cell? ⟨w.heap.size, 4, none⟩ = some (.int .i64 0) ∧ w1.cell? ⟨w.heap.size, 5, none⟩ = some (.int .i64 0)) ∧ w1.frozen? ⟨w.heap.size, 0, none⟩ = false ∧ w1.frozen? ⟨w.heap.size, 1, none⟩ = false ∧ w1.frozen? ⟨w.heap.size, 2, none⟩ = false ∧ w1.frozen? ⟨w.heap.size, 3, none⟩ = false ∧ w1.frozen? ⟨w.heap.size, 4, none⟩ = false ∧ w1.frozen? ⟨w.heap.size, 5, none⟩ = false := by
      simp [World.cell?, World.frozen?, HN1.out]
    clear hb1
    go_wp2_with fail
    exact bodyPost_ret (results_two (p := 2) (u := 3) rfl _ _ w.heap.size 33 _ (0, 0) _ rfl (set6_row HN1.out _ _ _ _ _ _) Tryd.underlying33 rfl infoClk) rfl ⟨by rw [HO.out]; rfl, set6_below HB1.out _ _ _ _ _ _⟩
  | false =>
    rw [hb, if_neg (by decide)] at HO
    rw [hb] at I
    unfold clkV at HO
    clear hb hM
    go_enter Tryd.func12, Tryd.ntmps12
    go_wp2_with fail
    refine (I.out _).mono ?_
    rintro e w1 ⟨rfl, hw1⟩
    subst hw1
    go_wp2_with fail
    exact bodyPost_ret (results_two (p := 2) (u := 3) rfl _ _ w.heap.size 33 _ (0, 0) _ rfl (heap_alloc_new w _) Tryd.underlying33 rfl infoClk) rfl ⟨by rw [HO.out]; rfl, below_new w _⟩

set_option maxRecDepth 100000 in
set_option maxHeartbeats 4000000 in
theorem Fires_t (c : Crn) (t : Int) (w : World) (hc : c.Bits) (hM : Months w) :
    Calls Tryd.prog 16 #[crnV c, .int .i64 t] w fun e w' => e = .returned (.bool (tickB t && firesT c t.toNat)) ∧ Below w.heap.size w w' := by
  have I := Lib.hid (fun w1 => isTick_t t w1)
  obtain ⟨W, hW⟩ : ∃ W, w.alloc (.cells #[.int .u64 c.minutes, .int .u64 c.hours, .int .u64 c.days, .int .u64 c.months, .int .u64 c.week, .bool c.anyDay, .bool c.anyWeek] 24) = W := ⟨_, rfl⟩
  have hB := below_new w (.cells #[.int .u64 c.minutes, .int .u64 c.hours, .int .u64 c.days, .int .u64 c.months, .int .u64 c.week, .bool c.anyDay, .bool c.anyWeek] 24)
  have hC := Crn7.new w c
  rw [hW] at hB hC
  have HB := Lib.hid hB
  have HW := Lib.hid hW
  cases hb : tickB t with
  | false =>
    rw [hb] at I
    clear hW hC hB hb hM
    unfold crnV
    go_enter Tryd.func16, Tryd.ntmps16
    go_upto_region 1 with fail
    rw [HW.out]
    go_quiet ((go_at_call 22; exact Calls.quiet_of_same ((I.out _).mono fun _ _ ⟨h1, h2⟩ => ⟨h1, h2.symm⟩)))
    go_wp2_with fail
    go_ret
    exact ⟨by first | rfl | simp, below_drewN HB.out nq⟩
  | true =>
    obtain ⟨n, rfl, hn⟩ := tickB_true hb
    rw [hb] at I
    rw [Int.toNat_natCast]
    have CK := Lib.hid (show ∀ w', Below W.heap.size W w' → Calls Tryd.prog 23 #[.int .i64 n] w' fun e w2 => e = .returned (clkV (clkAt n)) ∧ Below W.heap.size W w2 ∧ (w2.cell? ⟨w.heap.size, 0, none⟩ = some (.int .u64 c.minutes) ∧ w2.cell? ⟨w.heap.size, 1, none⟩ = some (.int .u64 c.hours) ∧ w2.cell? ⟨w.heap.size, 2, none⟩ = some (.int .u64 c.days) ∧ w2.cell? ⟨w.heap.size, 3, none⟩ = some (.int .u64 c.months) ∧ w2.cell? ⟨w.heap.size, 4, none⟩ = some (.int .u64 c.week) ∧ w2.cell? ⟨w.heap.size, 5, none⟩ = some (.bool c.anyDay) ∧ w2.cell? ⟨w.heap.size, 6, none⟩ = some (.bool c.anyWeek)) from fun w' h =>
      (clock_t n w' hn ((hM.keep HB.out).keep h)).mono fun e w2 h2 => ⟨h2.1, Below.then h h2.2, (hC.keep (Below.then h h2.2)).cells⟩)
    have FA := Lib.hid (show ∀ w', Below W.heap.size W w' → Calls Tryd.prog 25 #[crnV c, clkV (clkAt n)] w' fun e w2 => e = .returned (.bool (firesB c (clkAt n))) ∧ Below W.heap.size W w2 ∧ (w2.cell? ⟨w.heap.size, 0, none⟩ = some (.int .u64 c.minutes) ∧ w2.cell? ⟨w.heap.size, 1, none⟩ = some (.int .u64 c.hours) ∧ w2.cell? ⟨w.heap.size, 2, none⟩ = some (.int .u64 c.days) ∧ w2.cell? ⟨w.heap.size, 3, none⟩ = some (.int .u64 c.months) ∧ w2.cell? ⟨w.heap.size, 4, none⟩ = some (.int .u64 c.week) ∧ w2.cell? ⟨w.heap.size, 5, none⟩ = some (.bool c.anyDay) ∧ w2.cell? ⟨w.heap.size, 6, none⟩ = some (.bool c.anyWeek)) from fun w' h =>
      (firesAt_t c (clkAt n) w' hc (clkAt_lt n)).mono fun e w2 h2 => ⟨h2.1, Below.then h h2.2, (hC.keep (Below.then h h2.2)).cells⟩)
    obtain ⟨k0, k1, k2, k3, k4, k5, k6⟩ := hC.cells
    have hbw := Below.refl W.heap.size W
    have HO := Lib.hid (show firesT c n = firesB c (clkAt n) from rfl)
    obtain ⟨k, hk⟩ : ∃ k, clkAt n = k := ⟨_, rfl⟩
    rw [hk] at CK FA HO
    unfold clkV at CK FA
    clear hW hC hB hb hM hk hc
    unfold crnV at *
    obtain ⟨c1, c2, c3, c4, c5, ad, aw⟩ := c
    simp only at k0 k1 k2 k3 k4 k5 k6 CK FA HW ⊢
    go_enter Tryd.func16, Tryd.ntmps16
    go_upto_region 1 with fail
    rw [HW.out]
    go_region_held (fun w' => w'.cell? ⟨w.heap.size, 0, none⟩ = some (.int .u64 c1) ∧ w'.cell? ⟨w.heap.size, 1, none⟩ = some (.int .u64 c2) ∧ w'.cell? ⟨w.heap.size, 2, none⟩ = some (.int .u64 c3) ∧ w'.cell? ⟨w.heap.size, 3, none⟩ = some (.int .u64 c4) ∧ w'.cell? ⟨w.heap.size, 4, none⟩ = some (.int .u64 c5) ∧ w'.cell? ⟨w.heap.size, 5, none⟩ = some (.bool ad) ∧ w'.cell? ⟨w.heap.size, 6, none⟩ = some (.bool aw)) (first | exact ⟨k0, k1, k2, k3, k4, k5, k6⟩ | exact ⟨p0, p1, p2, p3, p4, p5, p6⟩ | go_keep) (first
      | (go_simp; go_at_call 22; refine (I.out _).mono ?_; rintro e w1 ⟨rfl, hw1⟩; subst hw1)
      | (go_simp; go_at_call 23; refine (CK.out _ (by first | exact hbw | exact hbw.drew)).mono ?_; rintro e w3 ⟨rfl, hb3, ⟨p0, p1, p2, p3, p4, p5, p6⟩⟩)
      | (go_simp; go_at_call 25; refine (FA.out _ (by first | exact hb3 | exact hb3.drew)).mono ?_; rintro e w4 ⟨rfl, hb4, ⟨p0, p1, p2, p3, p4, p5, p6⟩⟩))
    all_goals
      go_wp2_with fail
      go_ret
      exact ⟨by rw [HO.out]; first | rfl | simp, HB.out.trans (hb4.mono HB.out.size)⟩
end Go.Proofs.YtccobaohmbilpaaDoor
