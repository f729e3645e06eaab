/-
  CronTimes, the law's function, returns true at every input: its walk. Conditions: the package-level variables as CEnv says.
-/
import Derived.Test.YtccobaohmbilpaaDoorLawCAlive
import Derived.Deep.RegionHeld
namespace Go.Proofs.YtccobaohmbilpaaDoor
open Go.RowKit

set_option maxRecDepth 100000 in
set_option maxHeartbeats 8000000 in
theorem times_walk (tick : Int) (w : World) {aA aN aO : Addr} (he : CEnv w aA aN aO) :
    Calls Tryd.prog 4 #[.int .i64 tick] w fun e w' => e = .returned (.bool true) ∧ Below w.heap.size w w' := by
  have T := Lib.hid (At_t tick w he.months)
  have AL := Lib.hid (fun w1 (h : CEnv w1 aA aN aO) => alive_t w1 h)
  have HE := Lib.hid he
  clear he
  cases hb : tickB tick with
  | false =>
    have hT : atOut tick = .tuple #[.agg #[.int .i64 0, .int .i64 0, .int .i64 0, .int .i64 0, .int .i64 0, .int .i64 0], .int .i64 1] := by
      unfold atOut; rw [hb, if_neg (by decide)]; rfl
    rw [hT] at T
    have hor : tick < 0 ∨ 1099511627776 < tick := by
      by_cases h : tick < 0
      · exact Or.inl h
      · by_cases h2 : 1099511627776 < tick
        · exact Or.inr h2
        · exfalso
          have : tickB tick = true := by unfold tickB; rw [decide_eq_true (show 0 ≤ tick by omega), decide_eq_true (show tick ≤ 1099511627776 by omega)]; rfl
          rw [hb] at this; cases this
    have h1 : ¬ tick < 0 → 1099511627776 < tick := fun h => hor.resolve_left h
    have H1 := Lib.hid h1
    clear hT hb hor h1
    have body : ∀ (q : tick < 0 ∨ ¬ tick < 0), Calls Tryd.prog 4 #[.int .i64 tick] w fun e w' => e = .returned (.bool true) ∧ Below w.heap.size w w' := by
      intro q
      rcases q with q | q
      · go_enter Tryd.func4, Tryd.ntmps4
        go_wp2_with fail
        refine T.out.mono ?_
        rintro e w1 ⟨rfl, hb1⟩
        have HB1 := Lib.hid (Below.then hb1 (below_new w1 (.cells #[.int .i64 0, .int .i64 0, .int .i64 0, .int .i64 0, .int .i64 0, .int .i64 0] 33)))
        have HN := Lib.hid (Clk6.new w1 ⟨0, 0, 0, 0, 0, 0⟩)
        have A := Lib.hid (AL.out _ (HE.out.keep HB1.out))
        clear hb1
        go_wp2_with fail
        refine A.out.mono ?_
        rintro e w2 ⟨rfl, hb2⟩
        have HB2 := Lib.hid (HB1.out.trans (hb2.mono HB1.out.size))
        obtain ⟨y0, y1, y2, y3, y4, y5⟩ := (HN.out.keep hb2).cells
        simp only [Int.natCast_zero] at y0 y1 y2 y3 y4 y5
        clear hb2
        go_wp2_with fail
        go_ret
        exact ⟨by first | rfl | simp, HB2.out⟩
      · have q2 := H1.out q
        go_enter Tryd.func4, Tryd.ntmps4
        go_wp2_with fail
        refine T.out.mono ?_
        rintro e w1 ⟨rfl, hb1⟩
        have HB1 := Lib.hid (Below.then hb1 (below_new w1 (.cells #[.int .i64 0, .int .i64 0, .int .i64 0, .int .i64 0, .int .i64 0, .int .i64 0] 33)))
        have HN := Lib.hid (Clk6.new w1 ⟨0, 0, 0, 0, 0, 0⟩)
        have A := Lib.hid (AL.out _ (HE.out.keep HB1.out))
        clear hb1
        go_wp2_with fail
        refine A.out.mono ?_
        rintro e w2 ⟨rfl, hb2⟩
        have HB2 := Lib.hid (HB1.out.trans (hb2.mono HB1.out.size))
        obtain ⟨y0, y1, y2, y3, y4, y5⟩ := (HN.out.keep hb2).cells
        simp only [Int.natCast_zero] at y0 y1 y2 y3 y4 y5
        clear hb2
        go_wp2_with fail
        go_ret
        exact ⟨by first | rfl | simp, HB2.out⟩
    exact body (Decidable.em _)
  | true =>
    obtain ⟨t, rfl, ht⟩ := tickB_true hb
    rw [atOut_nat ht] at T
    have r := (clkAt_is t).right
    have hti := (clkAt_is t).tick
    have hwk : (clkAt t).week = (t / 1440 + 4) % 7 := (clkAt_is t).week
    have hye := clkAt_year t ht
    obtain ⟨c, hc⟩ : ∃ c, clkAt t = c := ⟨_, rfl⟩
    rw [hc] at T r hti hwk hye
    clear hb hc
    have RT := Lib.hid (fun w1 => refTick_t c w1 r hye)
    have DT := Lib.hid (fun w1 => refDays_t c.month c.year w1 ⟨r.month1, r.month2⟩ (by omega))
    rw [hti] at RT
    have g0 := r.minute
    have g1 := r.hour
    have g2 := r.day1
    have g3 := r.day2
    have g4 := r.month1
    have g5 := r.month2
    have g6 := r.year
    obtain ⟨mi, ho, d, mo, y, we⟩ := c
    simp only at g0 g1 g2 g3 g4 g5 g6 hwk hye DT
    obtain ⟨dm, hdm⟩ : ∃ x, daysM mo y = x := ⟨_, rfl⟩
    rw [hdm] at g3 DT
    obtain ⟨t1, ht1⟩ : ∃ x, t / 1440 = x := ⟨_, rfl⟩
    rw [ht1] at hwk
    have e1 : (t : Int) / 1440 = (t1 : Int) := by omega
    have e2 : ((t1 : Int) + 4) % 7 = (we : Int) := by omega
    have b1 : t1 ≤ 763549742 := by omega
    unfold clkV at T RT
    simp only at T RT
    clear r hti hdm ht1 hwk
    go_enter Tryd.func4, Tryd.ntmps4
    go_wp2_with fail
    refine T.out.mono ?_
    rintro e w1 ⟨rfl, hb1⟩
    obtain ⟨W, hW⟩ : ∃ W, w1.alloc (.cells #[.int .i64 mi, .int .i64 ho, .int .i64 d, .int .i64 mo, .int .i64 y, .int .i64 we] 33) = W := ⟨_, rfl⟩
    have hN : Clk6 W w1.heap.size ⟨mi, ho, d, mo, y, we⟩ := hW ▸ Clk6.new w1 ⟨mi, ho, d, mo, y, we⟩
    have hB : Below w.heap.size w W := hW ▸ Below.then hb1 (below_new w1 _)
    have HW := Lib.hid hW
    have HN := Lib.hid hN
    have HB := Lib.hid hB
    obtain ⟨k0, k1, k2, k3, k4, k5⟩ := hN.cells
    have hbw := Below.refl W.heap.size W
    have DC := Lib.hid (show ∀ w', Below W.heap.size W w' → Calls Tryd.prog 13 #[.int .i64 mo, .int .i64 y] w' fun e w2 => e = .returned (.int .i64 (dm : Nat)) ∧ Below W.heap.size W w2 ∧ (w2.cell? ⟨w1.heap.size, 0, none⟩ = some (.int .i64 mi) ∧ w2.cell? ⟨w1.heap.size, 1, none⟩ = some (.int .i64 ho) ∧ w2.cell? ⟨w1.heap.size, 2, none⟩ = some (.int .i64 d) ∧ w2.cell? ⟨w1.heap.size, 3, none⟩ = some (.int .i64 mo) ∧ w2.cell? ⟨w1.heap.size, 4, none⟩ = some (.int .i64 y) ∧ w2.cell? ⟨w1.heap.size, 5, none⟩ = some (.int .i64 we)) from fun w' h =>
      (DT.out w').mono fun e w2 h2 => ⟨h2.1, Below.then h h2.2, (HN.out.keep (Below.then h h2.2)).cells⟩)
    have d9 : decide ((mi : Int) < 0) = false := decide_eq_false (by omega)
    have d10 : decide ((ho : Int) < 0) = false := decide_eq_false (by omega)
    have d1 : decide ((59 : Int) < mi) = false := decide_eq_false (by omega)
    have d2 : decide ((23 : Int) < ho) = false := decide_eq_false (by omega)
    have d3 : decide ((mo : Int) < 1) = false := decide_eq_false (by omega)
    have d4 : decide ((12 : Int) < mo) = false := decide_eq_false (by omega)
    have d5 : decide ((y : Int) < 1970) = false := decide_eq_false (by omega)
    have d6 : decide ((3000000 : Int) < y) = false := decide_eq_false (by omega)
    have d7 : decide ((d : Int) < 1) = false := decide_eq_false (by omega)
    have d8 : decide (dm < d) = false := decide_eq_false (by omega)
    clear hW hN hB hb1 DT T hye g0 g1 g2 g3 g4 g5 g6
    go_upto_region 4 with fail
    rw [HW.out]
    go_wp2_with fail
    -- REGION 4
    refine wp_region_held_drew (S := fun w' => w'.cell? ⟨w1.heap.size, 0, none⟩ = some (.int .i64 mi) ∧ w'.cell? ⟨w1.heap.size, 1, none⟩ = some (.int .i64 ho) ∧ w'.cell? ⟨w1.heap.size, 2, none⟩ = some (.int .i64 d) ∧ w'.cell? ⟨w1.heap.size, 3, none⟩ = some (.int .i64 mo) ∧ w'.cell? ⟨w1.heap.size, 4, none⟩ = some (.int .i64 y) ∧ w'.cell? ⟨w1.heap.size, 5, none⟩ = some (.int .i64 we)) (by kernel_rfl) ?hS (fun hHeld => ?hR)
    case hS => exact ⟨k0, k1, k2, k3, k4, k5⟩
    refine wpAnyH_take (i := 0) (oi := { dst := some 26, op := Op.move (Operand.tmp 4), type := 25, pos := "law.go:31", after := #[], guard := none }) (v := ?gv0) rfl (by kernel_rfl) (by kernel_rfl) (by kernel_rfl) (fun _ _ _ h => h) (Or.inl ⟨by rfl, ?gy0⟩) (by assumption) ?gr0
    case gy0 => (intro w hSw; (try dsimp only at hSw); go_simp; try with_reducible rfl)
    simp only [Act.put, List.setIfInBounds_toArray, List.set_cons_zero, List.set_cons_succ]
    refine wpAnyH_take (i := 1) (oi := { dst := some 27, op := Op.binOp BinOp.neq 25 (Operand.tmp 26) (Operand.const (Value.int IntKind.i64 0)) 25, type := 4, pos := "law.go:31", after := #[{ on := 0, ground := Ground.data }], guard := none }) (v := ?gv1) rfl (by kernel_rfl) (by kernel_rfl) (by kernel_rfl) (fun _ _ _ h => h) (Or.inl ⟨by rfl, ?gy1⟩) (by assumption) ?gr1
    case gy1 => (intro w hSw; (try dsimp only at hSw); go_simp; try with_reducible rfl)
    simp only [Act.put, List.setIfInBounds_toArray, List.set_cons_zero, List.set_cons_succ]
    refine wpAnyH_take (i := 2) (oi := { dst := some 28, op := Op.move (Operand.tmp 27), type := 4, pos := "law.go:31", after := #[{ on := 1, ground := Ground.data }], guard := none }) (v := ?gv2) rfl (by kernel_rfl) (by kernel_rfl) (by kernel_rfl) (fun _ _ _ h => h) (Or.inl ⟨by rfl, ?gy2⟩) (by assumption) ?gr2
    case gy2 => (intro w hSw; (try dsimp only at hSw); go_simp; try with_reducible rfl)
    simp only [Act.put, List.setIfInBounds_toArray, List.set_cons_zero, List.set_cons_succ]
    refine wpAnyH_take (i := 3) (oi := { dst := some 29, op := Op.fieldAddr 33 (Operand.tmp 3) 0, type := 0, pos := "law.go:31", after := #[{ on := 2, ground := Ground.guard }], guard := some (2, false) }) (v := ?gv3) rfl (by kernel_rfl) (by kernel_rfl) (by kernel_rfl) (fun _ _ _ h => h) (Or.inl ⟨by rfl, ?gy3⟩) (by assumption) ?gr3
    case gy3 => (intro w hSw; (try dsimp only at hSw); go_simp; try with_reducible rfl)
    simp only [Act.put, List.setIfInBounds_toArray, List.set_cons_zero, List.set_cons_succ]
    refine wpAnyH_take (i := 4) (oi := { dst := some 30, op := Op.load 3 (Operand.tmp 29), type := 3, pos := "law.go:31", after := #[{ on := 3, ground := Ground.data }, { on := 2, ground := Ground.guard }], guard := some (2, false) }) (v := ?gv4) rfl (by kernel_rfl) (by kernel_rfl) (by kernel_rfl) (fun _ _ _ h => h) (Or.inl ⟨by rfl, ?gy4⟩) (by assumption) ?gr4
    case gy4 => (intro w hSw; (try dsimp only at hSw); go_simp; try with_reducible rfl)
    simp only [Act.put, List.setIfInBounds_toArray, List.set_cons_zero, List.set_cons_succ]
    refine wpAnyH_take (i := 5) (oi := { dst := some 31, op := Op.binOp BinOp.lss 3 (Operand.tmp 30) (Operand.const (Value.int IntKind.i64 0)) 3, type := 4, pos := "law.go:31", after := #[{ on := 4, ground := Ground.data }, { on := 2, ground := Ground.guard }], guard := some (2, false) }) (v := ?gv5) rfl (by kernel_rfl) (by kernel_rfl) (by kernel_rfl) (fun _ _ _ h => h) (Or.inl ⟨by rfl, ?gy5⟩) (by assumption) ?gr5
    case gy5 => (intro w hSw; (try dsimp only at hSw); go_simp; try with_reducible rfl)
    simp only [Act.put, List.setIfInBounds_toArray, List.set_cons_zero, List.set_cons_succ]
    refine wpAnyH_take (i := 6) (oi := { dst := some 32, op := Op.pick (Operand.tmp 28) (Operand.const (Value.bool true)) (Operand.tmp 31), type := 4, pos := "law.go:31", after := #[{ on := 2, ground := Ground.data }, { on := 5, ground := Ground.data }], guard := none }) (v := ?gv6) rfl (by kernel_rfl) (by kernel_rfl) (by kernel_rfl) (fun _ _ _ h => h) (Or.inl ⟨by rfl, ?gy6⟩) (by assumption) ?gr6
    case gy6 => (intro w hSw; (try dsimp only at hSw); go_simp; try with_reducible rfl)
    simp only [Act.put, List.setIfInBounds_toArray, List.set_cons_zero, List.set_cons_succ]
    refine wpAnyH_take (i := 7) (oi := { dst := some 33, op := Op.move (Operand.tmp 32), type := 4, pos := "law.go:31", after := #[{ on := 6, ground := Ground.data }, { on := 2, ground := Ground.chain }], guard := none }) (v := ?gv7) rfl (by kernel_rfl) (by kernel_rfl) (by kernel_rfl) (fun _ _ _ h => h) (Or.inl ⟨by rfl, ?gy7⟩) (by assumption) ?gr7
    case gy7 => (intro w hSw; (try dsimp only at hSw); go_simp; try with_reducible rfl)
    simp only [Act.put, List.setIfInBounds_toArray, List.set_cons_zero, List.set_cons_succ]
    refine wpAnyH_take (i := 8) (oi := { dst := some 34, op := Op.fieldAddr 33 (Operand.tmp 3) 0, type := 0, pos := "law.go:31", after := #[{ on := 7, ground := Ground.guard }], guard := some (7, false) }) (v := ?gv8) rfl (by kernel_rfl) (by kernel_rfl) (by kernel_rfl) (fun _ _ _ h => h) (Or.inl ⟨by rfl, ?gy8⟩) (by assumption) ?gr8
    case gy8 => (intro w hSw; (try dsimp only at hSw); go_simp; try with_reducible rfl)
    simp only [Act.put, List.setIfInBounds_toArray, List.set_cons_zero, List.set_cons_succ]
    refine wpAnyH_take (i := 9) (oi := { dst := some 35, op := Op.load 3 (Operand.tmp 34), type := 3, pos := "law.go:31", after := #[{ on := 8, ground := Ground.data }, { on := 7, ground := Ground.guard }], guard := some (7, false) }) (v := ?gv9) rfl (by kernel_rfl) (by kernel_rfl) (by kernel_rfl) (fun _ _ _ h => h) (Or.inl ⟨by rfl, ?gy9⟩) (by assumption) ?gr9
    case gy9 => (intro w hSw; (try dsimp only at hSw); go_simp; try with_reducible rfl)
    simp only [Act.put, List.setIfInBounds_toArray, List.set_cons_zero, List.set_cons_succ]
    refine wpAnyH_take (i := 10) (oi := { dst := some 36, op := Op.binOp BinOp.gtr 3 (Operand.tmp 35) (Operand.const (Value.int IntKind.i64 59)) 3, type := 4, pos := "law.go:31", after := #[{ on := 9, ground := Ground.data }, { on := 7, ground := Ground.guard }], guard := some (7, false) }) (v := ?gv10) rfl (by kernel_rfl) (by kernel_rfl) (by kernel_rfl) (fun _ _ _ h => h) (Or.inl ⟨by rfl, ?gy10⟩) (by assumption) ?gr10
    case gy10 => (intro w hSw; (try dsimp only at hSw); go_simp; try with_reducible rfl)
    simp only [Act.put, List.setIfInBounds_toArray, List.set_cons_zero, List.set_cons_succ]
    refine wpAnyH_take (i := 11) (oi := { dst := some 37, op := Op.pick (Operand.tmp 33) (Operand.const (Value.bool true)) (Operand.tmp 36), type := 4, pos := "law.go:31", after := #[{ on := 7, ground := Ground.data }, { on := 10, ground := Ground.data }], guard := none }) (v := ?gv11) rfl (by kernel_rfl) (by kernel_rfl) (by kernel_rfl) (fun _ _ _ h => h) (Or.inl ⟨by rfl, ?gy11⟩) (by assumption) ?gr11
    case gy11 => (intro w hSw; (try dsimp only at hSw); go_simp; try with_reducible rfl)
    simp only [Act.put, List.setIfInBounds_toArray, List.set_cons_zero, List.set_cons_succ]
    refine wpAnyH_take (i := 12) (oi := { dst := some 38, op := Op.move (Operand.tmp 37), type := 4, pos := "law.go:31", after := #[{ on := 11, ground := Ground.data }, { on := 7, ground := Ground.chain }], guard := none }) (v := ?gv12) rfl (by kernel_rfl) (by kernel_rfl) (by kernel_rfl) (fun _ _ _ h => h) (Or.inl ⟨by rfl, ?gy12⟩) (by assumption) ?gr12
    case gy12 => (intro w hSw; (try dsimp only at hSw); go_simp; try with_reducible rfl)
    simp only [Act.put, List.setIfInBounds_toArray, List.set_cons_zero, List.set_cons_succ]
    refine wpAnyH_take (i := 13) (oi := { dst := some 39, op := Op.fieldAddr 33 (Operand.tmp 3) 1, type := 0, pos := "law.go:31", after := #[{ on := 12, ground := Ground.guard }], guard := some (12, false) }) (v := ?gv13) rfl (by kernel_rfl) (by kernel_rfl) (by kernel_rfl) (fun _ _ _ h => h) (Or.inl ⟨by rfl, ?gy13⟩) (by assumption) ?gr13
    case gy13 => (intro w hSw; (try dsimp only at hSw); go_simp; try with_reducible rfl)
    simp only [Act.put, List.setIfInBounds_toArray, List.set_cons_zero, List.set_cons_succ]
    refine wpAnyH_take (i := 14) (oi := { dst := some 40, op := Op.load 3 (Operand.tmp 39), type := 3, pos := "law.go:31", after := #[{ on := 13, ground := Ground.data }, { on := 12, ground := Ground.guard }], guard := some (12, false) }) (v := ?gv14) rfl (by kernel_rfl) (by kernel_rfl) (by kernel_rfl) (fun _ _ _ h => h) (Or.inl ⟨by rfl, ?gy14⟩) (by assumption) ?gr14
    case gy14 => (intro w hSw; (try dsimp only at hSw); go_simp; try with_reducible rfl)
    simp only [Act.put, List.setIfInBounds_toArray, List.set_cons_zero, List.set_cons_succ]
    refine wpAnyH_take (i := 15) (oi := { dst := some 41, op := Op.binOp BinOp.lss 3 (Operand.tmp 40) (Operand.const (Value.int IntKind.i64 0)) 3, type := 4, pos := "law.go:31", after := #[{ on := 14, ground := Ground.data }, { on := 12, ground := Ground.guard }], guard := some (12, false) }) (v := ?gv15) rfl (by kernel_rfl) (by kernel_rfl) (by kernel_rfl) (fun _ _ _ h => h) (Or.inl ⟨by rfl, ?gy15⟩) (by assumption) ?gr15
    case gy15 => (intro w hSw; (try dsimp only at hSw); go_simp; try with_reducible rfl)
    simp only [Act.put, List.setIfInBounds_toArray, List.set_cons_zero, List.set_cons_succ]
    refine wpAnyH_take (i := 16) (oi := { dst := some 42, op := Op.pick (Operand.tmp 38) (Operand.const (Value.bool true)) (Operand.tmp 41), type := 4, pos := "law.go:31", after := #[{ on := 12, ground := Ground.data }, { on := 15, ground := Ground.data }], guard := none }) (v := ?gv16) rfl (by kernel_rfl) (by kernel_rfl) (by kernel_rfl) (fun _ _ _ h => h) (Or.inl ⟨by rfl, ?gy16⟩) (by assumption) ?gr16
    case gy16 => (intro w hSw; (try dsimp only at hSw); go_simp; try with_reducible rfl)
    simp only [Act.put, List.setIfInBounds_toArray, List.set_cons_zero, List.set_cons_succ]
    refine wpAnyH_take (i := 17) (oi := { dst := some 43, op := Op.move (Operand.tmp 42), type := 4, pos := "law.go:31", after := #[{ on := 16, ground := Ground.data }, { on := 12, ground := Ground.chain }], guard := none }) (v := ?gv17) rfl (by kernel_rfl) (by kernel_rfl) (by kernel_rfl) (fun _ _ _ h => h) (Or.inl ⟨by rfl, ?gy17⟩) (by assumption) ?gr17
    case gy17 => (intro w hSw; (try dsimp only at hSw); go_simp; try with_reducible rfl)
    simp only [Act.put, List.setIfInBounds_toArray, List.set_cons_zero, List.set_cons_succ]
    refine wpAnyH_take (i := 18) (oi := { dst := some 44, op := Op.fieldAddr 33 (Operand.tmp 3) 1, type := 0, pos := "law.go:31", after := #[{ on := 17, ground := Ground.guard }], guard := some (17, false) }) (v := ?gv18) rfl (by kernel_rfl) (by kernel_rfl) (by kernel_rfl) (fun _ _ _ h => h) (Or.inl ⟨by rfl, ?gy18⟩) (by assumption) ?gr18
    case gy18 => (intro w hSw; (try dsimp only at hSw); go_simp; try with_reducible rfl)
    simp only [Act.put, List.setIfInBounds_toArray, List.set_cons_zero, List.set_cons_succ]
    refine wpAnyH_take (i := 19) (oi := { dst := some 45, op := Op.load 3 (Operand.tmp 44), type := 3, pos := "law.go:31", after := #[{ on := 18, ground := Ground.data }, { on := 17, ground := Ground.guard }], guard := some (17, false) }) (v := ?gv19) rfl (by kernel_rfl) (by kernel_rfl) (by kernel_rfl) (fun _ _ _ h => h) (Or.inl ⟨by rfl, ?gy19⟩) (by assumption) ?gr19
    case gy19 => (intro w hSw; (try dsimp only at hSw); go_simp; try with_reducible rfl)
    simp only [Act.put, List.setIfInBounds_toArray, List.set_cons_zero, List.set_cons_succ]
    refine wpAnyH_take (i := 20) (oi := { dst := some 46, op := Op.binOp BinOp.gtr 3 (Operand.tmp 45) (Operand.const (Value.int IntKind.i64 23)) 3, type := 4, pos := "law.go:31", after := #[{ on := 19, ground := Ground.data }, { on := 17, ground := Ground.guard }], guard := some (17, false) }) (v := ?gv20) rfl (by kernel_rfl) (by kernel_rfl) (by kernel_rfl) (fun _ _ _ h => h) (Or.inl ⟨by rfl, ?gy20⟩) (by assumption) ?gr20
    case gy20 => (intro w hSw; (try dsimp only at hSw); go_simp; try with_reducible rfl)
    simp only [Act.put, List.setIfInBounds_toArray, List.set_cons_zero, List.set_cons_succ]
    refine wpAnyH_take (i := 21) (oi := { dst := some 47, op := Op.pick (Operand.tmp 43) (Operand.const (Value.bool true)) (Operand.tmp 46), type := 4, pos := "law.go:31", after := #[{ on := 17, ground := Ground.data }, { on := 20, ground := Ground.data }], guard := none }) (v := ?gv21) rfl (by kernel_rfl) (by kernel_rfl) (by kernel_rfl) (fun _ _ _ h => h) (Or.inl ⟨by rfl, ?gy21⟩) (by assumption) ?gr21
    case gy21 => (intro w hSw; (try dsimp only at hSw); go_simp; try with_reducible rfl)
    simp only [Act.put, List.setIfInBounds_toArray, List.set_cons_zero, List.set_cons_succ]
    refine wpAnyH_take (i := 22) (oi := { dst := some 48, op := Op.move (Operand.tmp 47), type := 4, pos := "law.go:31", after := #[{ on := 21, ground := Ground.data }, { on := 17, ground := Ground.chain }], guard := none }) (v := ?gv22) rfl (by kernel_rfl) (by kernel_rfl) (by kernel_rfl) (fun _ _ _ h => h) (Or.inl ⟨by rfl, ?gy22⟩) (by assumption) ?gr22
    case gy22 => (intro w hSw; (try dsimp only at hSw); go_simp; try with_reducible rfl)
    simp only [Act.put, List.setIfInBounds_toArray, List.set_cons_zero, List.set_cons_succ]
    refine wpAnyH_take (i := 23) (oi := { dst := some 49, op := Op.fieldAddr 33 (Operand.tmp 3) 3, type := 0, pos := "law.go:31", after := #[{ on := 22, ground := Ground.guard }], guard := some (22, false) }) (v := ?gv23) rfl (by kernel_rfl) (by kernel_rfl) (by kernel_rfl) (fun _ _ _ h => h) (Or.inl ⟨by rfl, ?gy23⟩) (by assumption) ?gr23
    case gy23 => (intro w hSw; (try dsimp only at hSw); go_simp; try with_reducible rfl)
    simp only [Act.put, List.setIfInBounds_toArray, List.set_cons_zero, List.set_cons_succ]
    refine wpAnyH_take (i := 24) (oi := { dst := some 50, op := Op.load 3 (Operand.tmp 49), type := 3, pos := "law.go:31", after := #[{ on := 23, ground := Ground.data }, { on := 22, ground := Ground.guard }], guard := some (22, false) }) (v := ?gv24) rfl (by kernel_rfl) (by kernel_rfl) (by kernel_rfl) (fun _ _ _ h => h) (Or.inl ⟨by rfl, ?gy24⟩) (by assumption) ?gr24
    case gy24 => (intro w hSw; (try dsimp only at hSw); go_simp; try with_reducible rfl)
    simp only [Act.put, List.setIfInBounds_toArray, List.set_cons_zero, List.set_cons_succ]
    refine wpAnyH_take (i := 25) (oi := { dst := some 51, op := Op.binOp BinOp.lss 3 (Operand.tmp 50) (Operand.const (Value.int IntKind.i64 1)) 3, type := 4, pos := "law.go:31", after := #[{ on := 24, ground := Ground.data }, { on := 22, ground := Ground.guard }], guard := some (22, false) }) (v := ?gv25) rfl (by kernel_rfl) (by kernel_rfl) (by kernel_rfl) (fun _ _ _ h => h) (Or.inl ⟨by rfl, ?gy25⟩) (by assumption) ?gr25
    case gy25 => (intro w hSw; (try dsimp only at hSw); go_simp; try with_reducible rfl)
    simp only [Act.put, List.setIfInBounds_toArray, List.set_cons_zero, List.set_cons_succ]
    refine wpAnyH_take (i := 26) (oi := { dst := some 52, op := Op.pick (Operand.tmp 48) (Operand.const (Value.bool true)) (Operand.tmp 51), type := 4, pos := "law.go:31", after := #[{ on := 22, ground := Ground.data }, { on := 25, ground := Ground.data }], guard := none }) (v := ?gv26) rfl (by kernel_rfl) (by kernel_rfl) (by kernel_rfl) (fun _ _ _ h => h) (Or.inl ⟨by rfl, ?gy26⟩) (by assumption) ?gr26
    case gy26 => (intro w hSw; (try dsimp only at hSw); go_simp; try with_reducible rfl)
    simp only [Act.put, List.setIfInBounds_toArray, List.set_cons_zero, List.set_cons_succ]
    refine wpAnyH_take (i := 27) (oi := { dst := some 53, op := Op.move (Operand.tmp 52), type := 4, pos := "law.go:31", after := #[{ on := 26, ground := Ground.data }, { on := 22, ground := Ground.chain }], guard := none }) (v := ?gv27) rfl (by kernel_rfl) (by kernel_rfl) (by kernel_rfl) (fun _ _ _ h => h) (Or.inl ⟨by rfl, ?gy27⟩) (by assumption) ?gr27
    case gy27 => (intro w hSw; (try dsimp only at hSw); go_simp; try with_reducible rfl)
    simp only [Act.put, List.setIfInBounds_toArray, List.set_cons_zero, List.set_cons_succ]
    refine wpAnyH_take (i := 28) (oi := { dst := some 54, op := Op.fieldAddr 33 (Operand.tmp 3) 3, type := 0, pos := "law.go:31", after := #[{ on := 27, ground := Ground.guard }], guard := some (27, false) }) (v := ?gv28) rfl (by kernel_rfl) (by kernel_rfl) (by kernel_rfl) (fun _ _ _ h => h) (Or.inl ⟨by rfl, ?gy28⟩) (by assumption) ?gr28
    case gy28 => (intro w hSw; (try dsimp only at hSw); go_simp; try with_reducible rfl)
    simp only [Act.put, List.setIfInBounds_toArray, List.set_cons_zero, List.set_cons_succ]
    refine wpAnyH_take (i := 29) (oi := { dst := some 55, op := Op.load 3 (Operand.tmp 54), type := 3, pos := "law.go:31", after := #[{ on := 28, ground := Ground.data }, { on := 27, ground := Ground.guard }], guard := some (27, false) }) (v := ?gv29) rfl (by kernel_rfl) (by kernel_rfl) (by kernel_rfl) (fun _ _ _ h => h) (Or.inl ⟨by rfl, ?gy29⟩) (by assumption) ?gr29
    case gy29 => (intro w hSw; (try dsimp only at hSw); go_simp; try with_reducible rfl)
    simp only [Act.put, List.setIfInBounds_toArray, List.set_cons_zero, List.set_cons_succ]
    refine wpAnyH_take (i := 30) (oi := { dst := some 56, op := Op.binOp BinOp.gtr 3 (Operand.tmp 55) (Operand.const (Value.int IntKind.i64 12)) 3, type := 4, pos := "law.go:31", after := #[{ on := 29, ground := Ground.data }, { on := 27, ground := Ground.guard }], guard := some (27, false) }) (v := ?gv30) rfl (by kernel_rfl) (by kernel_rfl) (by kernel_rfl) (fun _ _ _ h => h) (Or.inl ⟨by rfl, ?gy30⟩) (by assumption) ?gr30
    case gy30 => (intro w hSw; (try dsimp only at hSw); go_simp; try with_reducible rfl)
    simp only [Act.put, List.setIfInBounds_toArray, List.set_cons_zero, List.set_cons_succ]
    refine wpAnyH_take (i := 31) (oi := { dst := some 57, op := Op.pick (Operand.tmp 53) (Operand.const (Value.bool true)) (Operand.tmp 56), type := 4, pos := "law.go:31", after := #[{ on := 27, ground := Ground.data }, { on := 30, ground := Ground.data }], guard := none }) (v := ?gv31) rfl (by kernel_rfl) (by kernel_rfl) (by kernel_rfl) (fun _ _ _ h => h) (Or.inl ⟨by rfl, ?gy31⟩) (by assumption) ?gr31
    case gy31 => (intro w hSw; (try dsimp only at hSw); go_simp; try with_reducible rfl)
    simp only [Act.put, List.setIfInBounds_toArray, List.set_cons_zero, List.set_cons_succ]
    refine wpAnyH_take (i := 32) (oi := { dst := some 58, op := Op.move (Operand.tmp 57), type := 4, pos := "law.go:31", after := #[{ on := 31, ground := Ground.data }, { on := 27, ground := Ground.chain }], guard := none }) (v := ?gv32) rfl (by kernel_rfl) (by kernel_rfl) (by kernel_rfl) (fun _ _ _ h => h) (Or.inl ⟨by rfl, ?gy32⟩) (by assumption) ?gr32
    case gy32 => (intro w hSw; (try dsimp only at hSw); go_simp; try with_reducible rfl)
    simp only [Act.put, List.setIfInBounds_toArray, List.set_cons_zero, List.set_cons_succ]
    refine wpAnyH_take (i := 33) (oi := { dst := some 59, op := Op.fieldAddr 33 (Operand.tmp 3) 4, type := 0, pos := "law.go:31", after := #[{ on := 32, ground := Ground.guard }], guard := some (32, false) }) (v := ?gv33) rfl (by kernel_rfl) (by kernel_rfl) (by kernel_rfl) (fun _ _ _ h => h) (Or.inl ⟨by rfl, ?gy33⟩) (by assumption) ?gr33
    case gy33 => (intro w hSw; (try dsimp only at hSw); go_simp; try with_reducible rfl)
    simp only [Act.put, List.setIfInBounds_toArray, List.set_cons_zero, List.set_cons_succ]
    refine wpAnyH_take (i := 34) (oi := { dst := some 60, op := Op.load 3 (Operand.tmp 59), type := 3, pos := "law.go:31", after := #[{ on := 33, ground := Ground.data }, { on := 32, ground := Ground.guard }], guard := some (32, false) }) (v := ?gv34) rfl (by kernel_rfl) (by kernel_rfl) (by kernel_rfl) (fun _ _ _ h => h) (Or.inl ⟨by rfl, ?gy34⟩) (by assumption) ?gr34
    case gy34 => (intro w hSw; (try dsimp only at hSw); go_simp; try with_reducible rfl)
    simp only [Act.put, List.setIfInBounds_toArray, List.set_cons_zero, List.set_cons_succ]
    refine wpAnyH_take (i := 35) (oi := { dst := some 61, op := Op.binOp BinOp.lss 3 (Operand.tmp 60) (Operand.const (Value.int IntKind.i64 1970)) 3, type := 4, pos := "law.go:31", after := #[{ on := 34, ground := Ground.data }, { on := 32, ground := Ground.guard }], guard := some (32, false) }) (v := ?gv35) rfl (by kernel_rfl) (by kernel_rfl) (by kernel_rfl) (fun _ _ _ h => h) (Or.inl ⟨by rfl, ?gy35⟩) (by assumption) ?gr35
    case gy35 => (intro w hSw; (try dsimp only at hSw); go_simp; try with_reducible rfl)
    simp only [Act.put, List.setIfInBounds_toArray, List.set_cons_zero, List.set_cons_succ]
    refine wpAnyH_take (i := 36) (oi := { dst := some 62, op := Op.pick (Operand.tmp 58) (Operand.const (Value.bool true)) (Operand.tmp 61), type := 4, pos := "law.go:31", after := #[{ on := 32, ground := Ground.data }, { on := 35, ground := Ground.data }], guard := none }) (v := ?gv36) rfl (by kernel_rfl) (by kernel_rfl) (by kernel_rfl) (fun _ _ _ h => h) (Or.inl ⟨by rfl, ?gy36⟩) (by assumption) ?gr36
    case gy36 => (intro w hSw; (try dsimp only at hSw); go_simp; try with_reducible rfl)
    simp only [Act.put, List.setIfInBounds_toArray, List.set_cons_zero, List.set_cons_succ]
    refine wpAnyH_take (i := 37) (oi := { dst := some 63, op := Op.move (Operand.tmp 62), type := 4, pos := "law.go:31", after := #[{ on := 36, ground := Ground.data }, { on := 32, ground := Ground.chain }], guard := none }) (v := ?gv37) rfl (by kernel_rfl) (by kernel_rfl) (by kernel_rfl) (fun _ _ _ h => h) (Or.inl ⟨by rfl, ?gy37⟩) (by assumption) ?gr37
    case gy37 => (intro w hSw; (try dsimp only at hSw); go_simp; try with_reducible rfl)
    simp only [Act.put, List.setIfInBounds_toArray, List.set_cons_zero, List.set_cons_succ]
    refine wpAnyH_take (i := 38) (oi := { dst := some 64, op := Op.fieldAddr 33 (Operand.tmp 3) 4, type := 0, pos := "law.go:31", after := #[{ on := 37, ground := Ground.guard }], guard := some (37, false) }) (v := ?gv38) rfl (by kernel_rfl) (by kernel_rfl) (by kernel_rfl) (fun _ _ _ h => h) (Or.inl ⟨by rfl, ?gy38⟩) (by assumption) ?gr38
    case gy38 => (intro w hSw; (try dsimp only at hSw); go_simp; try with_reducible rfl)
    simp only [Act.put, List.setIfInBounds_toArray, List.set_cons_zero, List.set_cons_succ]
    refine wpAnyH_take (i := 39) (oi := { dst := some 65, op := Op.load 3 (Operand.tmp 64), type := 3, pos := "law.go:31", after := #[{ on := 38, ground := Ground.data }, { on := 37, ground := Ground.guard }], guard := some (37, false) }) (v := ?gv39) rfl (by kernel_rfl) (by kernel_rfl) (by kernel_rfl) (fun _ _ _ h => h) (Or.inl ⟨by rfl, ?gy39⟩) (by assumption) ?gr39
    case gy39 => (intro w hSw; (try dsimp only at hSw); go_simp; try with_reducible rfl)
    simp only [Act.put, List.setIfInBounds_toArray, List.set_cons_zero, List.set_cons_succ]
    refine wpAnyH_take (i := 40) (oi := { dst := some 66, op := Op.binOp BinOp.gtr 3 (Operand.tmp 65) (Operand.const (Value.int IntKind.i64 3000000)) 3, type := 4, pos := "law.go:31", after := #[{ on := 39, ground := Ground.data }, { on := 37, ground := Ground.guard }], guard := some (37, false) }) (v := ?gv40) rfl (by kernel_rfl) (by kernel_rfl) (by kernel_rfl) (fun _ _ _ h => h) (Or.inl ⟨by rfl, ?gy40⟩) (by assumption) ?gr40
    case gy40 => (intro w hSw; (try dsimp only at hSw); go_simp; try with_reducible rfl)
    simp only [Act.put, List.setIfInBounds_toArray, List.set_cons_zero, List.set_cons_succ]
    refine wpAnyH_take (i := 41) (oi := { dst := some 67, op := Op.pick (Operand.tmp 63) (Operand.const (Value.bool true)) (Operand.tmp 66), type := 4, pos := "law.go:31", after := #[{ on := 37, ground := Ground.data }, { on := 40, ground := Ground.data }], guard := none }) (v := ?gv41) rfl (by kernel_rfl) (by kernel_rfl) (by kernel_rfl) (fun _ _ _ h => h) (Or.inl ⟨by rfl, ?gy41⟩) (by assumption) ?gr41
    case gy41 => (intro w hSw; (try dsimp only at hSw); go_simp; try with_reducible rfl)
    simp only [Act.put, List.setIfInBounds_toArray, List.set_cons_zero, List.set_cons_succ]
    refine wpAnyH_take (i := 42) (oi := { dst := some 68, op := Op.move (Operand.tmp 67), type := 4, pos := "law.go:31", after := #[{ on := 41, ground := Ground.data }, { on := 37, ground := Ground.chain }], guard := none }) (v := ?gv42) rfl (by kernel_rfl) (by kernel_rfl) (by kernel_rfl) (fun _ _ _ h => h) (Or.inl ⟨by rfl, ?gy42⟩) (by assumption) ?gr42
    case gy42 => (intro w hSw; (try dsimp only at hSw); go_simp; try with_reducible rfl)
    simp only [Act.put, List.setIfInBounds_toArray, List.set_cons_zero, List.set_cons_succ]
    refine wpAnyH_take (i := 43) (oi := { dst := some 69, op := Op.fieldAddr 33 (Operand.tmp 3) 2, type := 0, pos := "law.go:31", after := #[{ on := 42, ground := Ground.guard }], guard := some (42, false) }) (v := ?gv43) rfl (by kernel_rfl) (by kernel_rfl) (by kernel_rfl) (fun _ _ _ h => h) (Or.inl ⟨by rfl, ?gy43⟩) (by assumption) ?gr43
    case gy43 => (intro w hSw; (try dsimp only at hSw); go_simp; try with_reducible rfl)
    simp only [Act.put, List.setIfInBounds_toArray, List.set_cons_zero, List.set_cons_succ]
    refine wpAnyH_take (i := 44) (oi := { dst := some 70, op := Op.load 3 (Operand.tmp 69), type := 3, pos := "law.go:31", after := #[{ on := 43, ground := Ground.data }, { on := 42, ground := Ground.guard }], guard := some (42, false) }) (v := ?gv44) rfl (by kernel_rfl) (by kernel_rfl) (by kernel_rfl) (fun _ _ _ h => h) (Or.inl ⟨by rfl, ?gy44⟩) (by assumption) ?gr44
    case gy44 => (intro w hSw; (try dsimp only at hSw); go_simp; try with_reducible rfl)
    simp only [Act.put, List.setIfInBounds_toArray, List.set_cons_zero, List.set_cons_succ]
    refine wpAnyH_take (i := 45) (oi := { dst := some 71, op := Op.binOp BinOp.lss 3 (Operand.tmp 70) (Operand.const (Value.int IntKind.i64 1)) 3, type := 4, pos := "law.go:31", after := #[{ on := 44, ground := Ground.data }, { on := 42, ground := Ground.guard }], guard := some (42, false) }) (v := ?gv45) rfl (by kernel_rfl) (by kernel_rfl) (by kernel_rfl) (fun _ _ _ h => h) (Or.inl ⟨by rfl, ?gy45⟩) (by assumption) ?gr45
    case gy45 => (intro w hSw; (try dsimp only at hSw); go_simp; try with_reducible rfl)
    simp only [Act.put, List.setIfInBounds_toArray, List.set_cons_zero, List.set_cons_succ]
    refine wpAnyH_take (i := 46) (oi := { dst := some 72, op := Op.pick (Operand.tmp 68) (Operand.const (Value.bool true)) (Operand.tmp 71), type := 4, pos := "law.go:31", after := #[{ on := 42, ground := Ground.data }, { on := 45, ground := Ground.data }], guard := none }) (v := ?gv46) rfl (by kernel_rfl) (by kernel_rfl) (by kernel_rfl) (fun _ _ _ h => h) (Or.inl ⟨by rfl, ?gy46⟩) (by assumption) ?gr46
    case gy46 => (intro w hSw; (try dsimp only at hSw); go_simp; try with_reducible rfl)
    simp only [Act.put, List.setIfInBounds_toArray, List.set_cons_zero, List.set_cons_succ]
    refine wpAnyH_take (i := 47) (oi := { dst := some 73, op := Op.move (Operand.tmp 72), type := 4, pos := "law.go:31", after := #[{ on := 46, ground := Ground.data }, { on := 42, ground := Ground.chain }], guard := none }) (v := ?gv47) rfl (by kernel_rfl) (by kernel_rfl) (by kernel_rfl) (fun _ _ _ h => h) (Or.inl ⟨by rfl, ?gy47⟩) (by assumption) ?gr47
    case gy47 => (intro w hSw; (try dsimp only at hSw); go_simp; try with_reducible rfl)
    simp only [Act.put, List.setIfInBounds_toArray, List.set_cons_zero, List.set_cons_succ]
    refine wpAnyH_take (i := 48) (oi := { dst := some 74, op := Op.fieldAddr 33 (Operand.tmp 3) 2, type := 0, pos := "law.go:31", after := #[{ on := 47, ground := Ground.guard }], guard := some (47, false) }) (v := ?gv48) rfl (by kernel_rfl) (by kernel_rfl) (by kernel_rfl) (fun _ _ _ h => h) (Or.inl ⟨by rfl, ?gy48⟩) (by assumption) ?gr48
    case gy48 => (intro w hSw; (try dsimp only at hSw); go_simp; try with_reducible rfl)
    simp only [Act.put, List.setIfInBounds_toArray, List.set_cons_zero, List.set_cons_succ]
    refine wpAnyH_take (i := 49) (oi := { dst := some 75, op := Op.load 3 (Operand.tmp 74), type := 3, pos := "law.go:31", after := #[{ on := 48, ground := Ground.data }, { on := 47, ground := Ground.guard }], guard := some (47, false) }) (v := ?gv49) rfl (by kernel_rfl) (by kernel_rfl) (by kernel_rfl) (fun _ _ _ h => h) (Or.inl ⟨by rfl, ?gy49⟩) (by assumption) ?gr49
    case gy49 => (intro w hSw; (try dsimp only at hSw); go_simp; try with_reducible rfl)
    simp only [Act.put, List.setIfInBounds_toArray, List.set_cons_zero, List.set_cons_succ]
    refine wpAnyH_take (i := 50) (oi := { dst := some 76, op := Op.fieldAddr 33 (Operand.tmp 3) 3, type := 0, pos := "law.go:31", after := #[{ on := 47, ground := Ground.guard }], guard := some (47, false) }) (v := ?gv50) rfl (by kernel_rfl) (by kernel_rfl) (by kernel_rfl) (fun _ _ _ h => h) (Or.inl ⟨by rfl, ?gy50⟩) (by assumption) ?gr50
    case gy50 => (intro w hSw; (try dsimp only at hSw); go_simp; try with_reducible rfl)
    simp only [Act.put, List.setIfInBounds_toArray, List.set_cons_zero, List.set_cons_succ]
    refine wpAnyH_take (i := 51) (oi := { dst := some 77, op := Op.load 3 (Operand.tmp 76), type := 3, pos := "law.go:31", after := #[{ on := 50, ground := Ground.data }, { on := 47, ground := Ground.guard }], guard := some (47, false) }) (v := ?gv51) rfl (by kernel_rfl) (by kernel_rfl) (by kernel_rfl) (fun _ _ _ h => h) (Or.inl ⟨by rfl, ?gy51⟩) (by assumption) ?gr51
    case gy51 => (intro w hSw; (try dsimp only at hSw); go_simp; try with_reducible rfl)
    simp only [Act.put, List.setIfInBounds_toArray, List.set_cons_zero, List.set_cons_succ]
    refine wpAnyH_take (i := 52) (oi := { dst := some 78, op := Op.fieldAddr 33 (Operand.tmp 3) 4, type := 0, pos := "law.go:31", after := #[{ on := 47, ground := Ground.guard }], guard := some (47, false) }) (v := ?gv52) rfl (by kernel_rfl) (by kernel_rfl) (by kernel_rfl) (fun _ _ _ h => h) (Or.inl ⟨by rfl, ?gy52⟩) (by assumption) ?gr52
    case gy52 => (intro w hSw; (try dsimp only at hSw); go_simp; try with_reducible rfl)
    simp only [Act.put, List.setIfInBounds_toArray, List.set_cons_zero, List.set_cons_succ]
    refine wpAnyH_take (i := 53) (oi := { dst := some 79, op := Op.load 3 (Operand.tmp 78), type := 3, pos := "law.go:31", after := #[{ on := 52, ground := Ground.data }, { on := 47, ground := Ground.guard }], guard := some (47, false) }) (v := ?gv53) rfl (by kernel_rfl) (by kernel_rfl) (by kernel_rfl) (fun _ _ _ h => h) (Or.inl ⟨by rfl, ?gy53⟩) (by assumption) ?gr53
    case gy53 => (intro w hSw; (try dsimp only at hSw); go_simp; try with_reducible rfl)
    simp only [Act.put, List.setIfInBounds_toArray, List.set_cons_zero, List.set_cons_succ]
    refine wpAnyH_ready (rs := [54]) (by kernel_rfl) (by simp) ?_
    refine AllReadyH.cons (o := { dst := some 80, op := Op.call { callee := Callee.value (Operand.func 13), args := #[Operand.tmp 77, Operand.tmp 79], argTypes := #[3, 3] }, type := 3, pos := "law.go:31", after := #[{ on := 51, ground := Ground.data }, { on := 53, ground := Ground.data }, { on := 47, ground := Ground.chain }, { on := 47, ground := Ground.guard }], guard := some (47, false) }) rfl (fun K hK => ?_) AllReadyH.nil
    rw [if_pos (by kernel_rfl)]
    go_simp
    go_wp2_with (go_at_call 13; refine (DC.out _ (by first | exact hbw | exact hbw.drew)).mono ?_; rintro e w2 ⟨rfl, hb2, ⟨p0, p1, p2, p3, p4, p5⟩⟩)
    refine hK.out _ _ ?hS2 (fun hHeld2 => ?hR2)
    case hS2 => exact ⟨p0, p1, p2, p3, p4, p5⟩
    clear hK K
    refine wpAnyH_take (i := 55) (oi := { dst := some 81, op := Op.binOp BinOp.gtr 3 (Operand.tmp 75) (Operand.tmp 80) 3, type := 4, pos := "law.go:31", after := #[{ on := 49, ground := Ground.data }, { on := 54, ground := Ground.data }, { on := 47, ground := Ground.guard }], guard := some (47, false) }) (v := ?gv55) rfl (by kernel_rfl) (by kernel_rfl) (by kernel_rfl) (fun _ _ _ h => h) (Or.inl ⟨by rfl, ?gy55⟩) (by assumption) ?gr55
    case gy55 => (intro w hSw; (try dsimp only at hSw); go_simp; try with_reducible rfl)
    simp only [Act.put, List.setIfInBounds_toArray, List.set_cons_zero, List.set_cons_succ]
    refine wpAnyH_take (i := 56) (oi := { dst := some 82, op := Op.pick (Operand.tmp 73) (Operand.const (Value.bool true)) (Operand.tmp 81), type := 4, pos := "law.go:31", after := #[{ on := 47, ground := Ground.data }, { on := 55, ground := Ground.data }], guard := none }) (v := ?gv56) rfl (by kernel_rfl) (by kernel_rfl) (by kernel_rfl) (fun _ _ _ h => h) (Or.inl ⟨by rfl, ?gy56⟩) (by assumption) ?gr56
    case gy56 => (intro w hSw; (try dsimp only at hSw); go_simp; try with_reducible rfl)
    simp only [Act.put, List.setIfInBounds_toArray, List.set_cons_zero, List.set_cons_succ]
    refine wpAnyH_done (by kernel_rfl) ?_ _
    have HB2 := Lib.hid (HB.out.trans (hb2.mono HB.out.size))
    have HE2 := Lib.hid (HE.out.keep HB2.out)
    have A2 := Lib.hid (AL.out _ HE2.out)
    have HN2 := Lib.hid (HN.out.keep hb2)
    clear hb2 p0 p1 p2 p3 p4 p5 k0 k1 k2 k3 k4 k5 hHeld hHeld2
    go_wp2_with fail
    refine A2.out.mono ?_
    rintro e w3 ⟨rfl, hb3⟩
    have HB3 := Lib.hid (HB2.out.trans (hb3.mono HB2.out.size))
    have hN3 := HN2.out.keep hb3
    obtain ⟨k0, k1, k2, k3, k4, k5⟩ := hN3.cells
    clear hb3
    go_wp2_with fail
    refine (RT.out _).mono ?_
    rintro e w4 ⟨rfl, hb4⟩
    have HB4 := Lib.hid (HB3.out.trans (hb4.mono HB3.out.size))
    have HN4 := Lib.hid (hN3.keep hb4)
    obtain ⟨y0, y1, y2, y3, y4, y5⟩ := HN4.out.cells
    clear hb4 hN3 k0 k1 k2 k3 k4 k5
    go_wp2_with fail
    go_ret
    exact ⟨by first | rfl | simp, HB4.out⟩
end Go.Proofs.YtccobaohmbilpaaDoor
