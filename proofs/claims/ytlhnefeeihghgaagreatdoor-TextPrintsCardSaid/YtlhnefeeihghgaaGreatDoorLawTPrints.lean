/-
  TextPrints' walk: it answers true. Conditions: what comes in reads as a tree; the package-level variables as TEnv says.
-/
import Derived.Test.YtlhnefeeihghgaaGreatDoorLawTOne
import Derived.Test.YtlhnefeeihghgaaGreatDoorMany
import Derived.Test.YtlhnefeeihghgaaGreatDoorLikeP
import Derived.Test.YtlhnefeeihghgaaGreatDoorRefText
import Derived.Deep.RegionHeld3
namespace Go.Proofs.YtlhnefeeihghgaaGreatDoor
open Go.RowKit

theorem itoaOk_of (w : World) (he : TEnv w) : ItoaOk w := fun n w' h0 h1 hb => itoa_any n (by omega) (by omega) w' (he.below hb)

set_option maxRecDepth 100000 in
set_option maxHeartbeats 16000000 in
theorem tprints_walk (T U : Val) (v u : Value) (w : World) (he : TEnv w) (hv : IsVal w v T) (hu : IsVal w u U) :
    Calls Tryz.prog 3 #[v, u] w fun e w' => e = .returned (.bool true) ∧ Below w.heap.size w w' := by
  obtain ⟨vk, vn, vs, via, vna, vli, vic, vnn, vnc, rfl⟩ := hv.shape
  obtain ⟨uk, un, us, uia, una, uli, uic, unn, unc, rfl⟩ := hu.shape
  obtain ⟨W0, hW0⟩ : ∃ W0, (w.alloc (.cells #[.int .i64 vk, .int .i64 vn, .string vs, .slice via vli vic, .slice vna vnn vnc] 25)).alloc (.cells #[.int .i64 uk, .int .i64 un, .string us, .slice uia uli uic, .slice una unn unc] 25) = W0 := ⟨_, rfl⟩
  have hb0 : Below w.heap.size w W0 := by rw [← hW0]; exact Below.then (below_new _ _) (below_new _ _)
  have hs0 : W0.heap.size = w.heap.size + 2 := by rw [← hW0]; simp
  have hA0 : At5 W0 w.heap.size (.int .i64 vk) (.int .i64 vn) (.string vs) (.slice via vli vic) (.slice vna vnn vnc) := by rw [← hW0]; exact (At5.new _ _ _ _ _ _).keep (below_new _ _)
  have hB0 : At5 W0 (w.heap.size + 1) (.int .i64 uk) (.int .i64 un) (.string us) (.slice uia uli uic) (.slice una unn unc) := by
    rw [← hW0]
    have e := At5.new (w.alloc (.cells #[.int .i64 vk, .int .i64 vn, .string vs, .slice via vli vic, .slice vna vnn vnc] 25)) (.int .i64 uk) (.int .i64 un) (.string us) (.slice uia uli uic) (.slice una unn unc)
    rwa [show (w.alloc (.cells #[.int .i64 vk, .int .i64 vn, .string vs, .slice via vli vic, .slice vna vnn vnc] 25)).heap.size = w.heap.size + 1 by simp] at e
  have CF : ∀ x X, ((x = .agg #[.int .i64 vk, .int .i64 vn, .string vs, .slice via vli vic, .slice vna vnn vnc] ∧ X = T) ∨ (x = .agg #[.int .i64 uk, .int .i64 un, .string us, .slice uia uli uic, .slice una unn unc] ∧ X = U)) →
      ∀ w', Below W0.heap.size W0 w' → Calls Tryz.prog 11 #[x, .int .i64 7] w' fun e w2 => ∃ yk yn ys yia yli yic yna ynn ync, e = .returned (.agg #[.int .i64 yk, .int .i64 yn, .string ys, .slice yia yli yic, .slice yna ynn ync]) ∧ Below W0.heap.size W0 w2 ∧ Below w'.heap.size w' w2 ∧
        ValIn (fun k => k < w.heap.size ∨ w.heap.size + 2 ≤ k) w2 (.agg #[.int .i64 yk, .int .i64 yn, .string ys, .slice yia yli yic, .slice yna ynn ync]) (fewV 7 X) ∧
        (w2.cell? ⟨w.heap.size, 0, none⟩ = some (.int .i64 vk) ∧ w2.cell? ⟨w.heap.size, 1, none⟩ = some (.int .i64 vn) ∧ w2.cell? ⟨w.heap.size, 2, none⟩ = some (.string vs) ∧ w2.cell? ⟨w.heap.size, 3, none⟩ = some (.slice via vli vic) ∧ w2.cell? ⟨w.heap.size, 4, none⟩ = some (.slice vna vnn vnc)) ∧
        (w2.cell? ⟨w.heap.size + 1, 0, none⟩ = some (.int .i64 uk) ∧ w2.cell? ⟨w.heap.size + 1, 1, none⟩ = some (.int .i64 un) ∧ w2.cell? ⟨w.heap.size + 1, 2, none⟩ = some (.string us) ∧ w2.cell? ⟨w.heap.size + 1, 3, none⟩ = some (.slice uia uli uic) ∧ w2.cell? ⟨w.heap.size + 1, 4, none⟩ = some (.slice una unn unc)) := by
    intro x X hx w' hb
    have hxv : ValIn (fun k => k < w.heap.size) w' x X := by
      have hin : ∀ {x X}, IsVal w x X → ValIn (fun k => k < w.heap.size) w' x X := fun h => h.inside.keep fun k hS hl => ⟨(hb.block k (by omega)).trans (hb0.block k hl), hS⟩
      rcases hx with ⟨rfl, rfl⟩ | ⟨rfl, rfl⟩
      · exact hin hv
      · exact hin hu
    have hsz := hb.size
    refine (few_go 7 (by decide) 7 rfl w.heap.size X x w' (by omega) hxv).mono fun e w2 h => ?_
    obtain ⟨y, rfl, hy⟩ := h.is
    obtain ⟨yk, yn, ys, yia, yna, yli, yic, ynn, ync, rfl⟩ := hy.isVal.shape
    have hbb := Below.then hb h.below
    exact ⟨_, _, _, _, _, _, _, _, _, rfl, hbb, h.below, hy.keep fun k hS _ => ⟨rfl, by omega⟩, (hA0.keep hbb).cells, (hB0.keep hbb).cells⟩
  have HCF := Lib.hid CF
  have HB00 := Lib.hid (Below.refl W0.heap.size W0)
  have HA0 := Lib.hid hA0
  have HB0 := Lib.hid hB0
  have HBW := Lib.hid hb0
  have HS0 := Lib.hid hs0
  have HE := Lib.hid he
  have HW0 := Lib.hid hW0
  have hbw := Below.refl W0.heap.size W0
  have HFZ := Lib.hid (show ∀ w', Below W0.heap.size W0 w' → w'.frozen? ⟨w.heap.size, 0, none⟩ = false ∧ w'.frozen? ⟨w.heap.size, 1, none⟩ = false ∧ w'.frozen? ⟨w.heap.size, 2, none⟩ = false ∧ w'.frozen? ⟨w.heap.size, 3, none⟩ = false ∧ w'.frozen? ⟨w.heap.size, 4, none⟩ = false ∧ w'.frozen? ⟨w.heap.size + 1, 0, none⟩ = false ∧ w'.frozen? ⟨w.heap.size + 1, 1, none⟩ = false ∧ w'.frozen? ⟨w.heap.size + 1, 2, none⟩ = false ∧ w'.frozen? ⟨w.heap.size + 1, 3, none⟩ = false ∧ w'.frozen? ⟨w.heap.size + 1, 4, none⟩ = false from fun w' h =>
    have g := hA0.keep h
    have k := hB0.keep h
    ⟨g.frozen 0, g.frozen 1, g.frozen 2, g.frozen 3, g.frozen 4, k.frozen 0, k.frozen 1, k.frozen 2, k.frozen 3, k.frozen 4⟩)
  obtain ⟨a0, a1, a2, a3, a4⟩ := hA0.cells
  obtain ⟨b0, b1, b2, b3, b4⟩ := hB0.cells
  have PR := Lib.hid (fun T v w hv he => Print_t T v w hv he)
  have AL := Lib.hid (fun w he => alive_t w he)
  have HVV := Lib.hid (fun w' (h : Below W0.heap.size W0 w') => And.intro ((hv.keep hb0).keep h) (And.intro ((hu.keep hb0).keep h) (And.intro (he.below (Below.then hb0 h)) (And.intro (Below.then hb0 h) (And.intro (hA0.keep h) (hB0.keep h))))))
  have MN := Lib.hid (fun T v w hv => many_any T v 400 w hv (by decide) (by decide))
  have M1 := Lib.hid (MN.out T _ W0 (HVV.out W0 hbw).1)
  clear CF hb0 hs0 hA0 hB0 he hW0 hv hu
  go_enter Tryz.func3, Tryz.ntmps3
  go_upto_region 1 with fail
  rw [HW0.out]
  go_wp2_with fail
  refine M1.out.mono ?_
  rintro e wm ⟨n1, hn1, hn1', rfl, hbm⟩
  have HBM := Lib.hid hbm
  obtain ⟨-, hum, hem, -, -, g52⟩ := HVV.out wm hbm
  have A1 := Lib.hid (AL.out wm hem)
  clear hbm hem a0 a1 a2 a3 a4 b0 b1 b2 b3 b4 hbw
  by_cases hq1 : 400 < n1
  · clear g52 hum
    go_wp2_with fail
    refine A1.out.mono ?_
    rintro e w4 ⟨rfl, hb4⟩
    have HB4 := Lib.hid (HVV.out w4 (Below.then HBM.out hb4)).2.2.2.1
    clear hb4
    go_wp2_with fail
    go_ret
    exact ⟨rfl, HB4.out⟩
  have M2 := Lib.hid (MN.out U _ wm hum)
  obtain ⟨b0, b1, b2, b3, b4⟩ := g52.cells
  clear g52 hum
  go_wp2_with fail
  refine M2.out.mono ?_
  rintro e wn ⟨n2, hn2, hn2', rfl, hbn⟩
  have HBN := Lib.hid (Below.then HBM.out hbn)
  obtain ⟨-, -, hen, -, g51, g52⟩ := HVV.out wn HBN.out
  have A2 := Lib.hid (AL.out wn hen)
  have hbw := HBN.out
  clear hbn b0 b1 b2 b3 b4
  by_cases hq2 : 400 < n2
  · clear hen g51 g52
    go_wp2_with fail
    refine A2.out.mono ?_
    rintro e w4 ⟨rfl, hb4⟩
    have HB4 := Lib.hid (HVV.out w4 (Below.then HBN.out hb4)).2.2.2.1
    clear hb4
    go_wp2_with fail
    go_ret
    exact ⟨rfl, HB4.out⟩
  obtain ⟨a0, a1, a2, a3, a4⟩ := g51.cells
  obtain ⟨b0, b1, b2, b3, b4⟩ := g52.cells
  clear hen g51 g52
  go_upto_region 3 with fail
  go_cut [18] from 17 to 20 (fun x wx => TwoFew w.heap.size (w.heap.size + 1) (fewV 7 T) (fewV 7 U) w wx)
  case first =>
    go_region_with (go_simp; go_at_call 11; first
      | (have _h := hY1; refine (HCF.out _ _ (by first | exact Or.inl ⟨rfl, rfl⟩ | exact Or.inr ⟨rfl, rfl⟩) _ (by first | exact hbw | exact hbw.drew)).mono ?_; rintro e w5 ⟨yk, yn, ys, yia, yli, yic, yna, ynn, ync, rfl, hbw5, hbd5, hY5, ⟨p0, p1, p2, p3, p4⟩, ⟨q0, q1, q2, q3, q4⟩⟩; obtain ⟨f0, f1, f2, f3, f4, r0, r1, r2, r3, r4⟩ := HFZ.out _ hbw5)
      | (refine (HCF.out _ _ (by first | exact Or.inl ⟨rfl, rfl⟩ | exact Or.inr ⟨rfl, rfl⟩) _ (by first | exact hbw | exact hbw.drew)).mono ?_; rintro e w4 ⟨xk, xn, xs, xia, xli, xic, xna, xnn, xnc, rfl, hbw, hbd, hY1, ⟨p0, p1, p2, p3, p4⟩, ⟨q0, q1, q2, q3, q4⟩⟩))
    all_goals
      go_wp2_with fail
      go_meet
      first
        | exact TwoFew.mk2 rfl rfl (Below.then HBW.out (hbw5.mono (Nat.le_refl _))) (HA0.out.keep hbw5) (HB0.out.keep hbw5) (hY1.keep fun k hS hl => ⟨hbd5.block k hl, hS⟩) hY5
        | exact TwoFew.mk2 rfl rfl (Below.then HBW.out (hbw5.mono (Nat.le_refl _))) (HA0.out.keep hbw5) (HB0.out.keep hbw5) hY5 (hY1.keep fun k hS hl => ⟨hbd5.block k hl, hS⟩)
  case rest =>
    have hbw1 := hcut.below
    obtain ⟨c0, c1, c2, c3, c4, h51, hv1⟩ := hcut.one
    obtain ⟨d0, d1, d2, d3, d4, h52, hv2⟩ := hcut.two
    obtain ⟨xk, xn, xs, xia, xna, xli, xic, xnn, xnc, hsh⟩ := hv1.shape
    simp only [Value.agg.injEq, Array.mk.injEq, List.cons.injEq, and_true] at hsh
    obtain ⟨rfl, rfl, rfl, rfl, rfl⟩ := hsh
    obtain ⟨yk, yn, ys, yia, yna, yli, yic, ynn, ync, hsh⟩ := hv2.shape
    simp only [Value.agg.injEq, Array.mk.injEq, List.cons.injEq, and_true] at hsh
    obtain ⟨rfl, rfl, rfl, rfl, rfl⟩ := hsh
    obtain ⟨T1, hT1⟩ : ∃ T1, fewV 7 T = T1 := ⟨_, rfl⟩
    obtain ⟨U1, hU1⟩ : ∃ U1, fewV 7 U = U1 := ⟨_, rfl⟩
    rw [hT1] at hv1
    rw [hU1] at hv2
    have HK := Lib.hid (show ∀ w3, Below wc.heap.size wc w3 → Below w.heap.size w w3 ∧ TEnv w3 ∧ At5 w3 w.heap.size (.int .i64 xk) (.int .i64 xn) (.string xs) (.slice xia xli xic) (.slice xna xnn xnc) ∧ At5 w3 (w.heap.size + 1) (.int .i64 yk) (.int .i64 yn) (.string ys) (.slice yia yli yic) (.slice yna ynn ync) ∧
        IsVal w3 (.agg #[.int .i64 xk, .int .i64 xn, .string xs, .slice xia xli xic, .slice xna xnn xnc]) T1 ∧ IsVal w3 (.agg #[.int .i64 yk, .int .i64 yn, .string ys, .slice yia yli yic, .slice yna ynn ync]) U1 from fun w3 h =>
      ⟨Below.then hbw1 h, HE.out.below (Below.then hbw1 h), h51.keep h, h52.keep h, hv1.keep h, hv2.keep h⟩)
    obtain ⟨a0, a1, a2, a3, a4⟩ := h51.cells
    have P1 := Lib.hid (PR.out T1 _ wc hv1 (HE.out.below hbw1))
    obtain ⟨s1, k1, hp1⟩ : ∃ s k, printOut T1 = (s, k) := ⟨_, _, rfl⟩
    rw [hp1] at P1
    have HP1 := Lib.hid hp1
    clear hcut hbw1 h51 h52 hv1 hv2 hT1 hU1 hp1 HCF HA0 HB0 HBW HS0 HB00 HFZ hbw b0 b1 b2 b3 b4
    go_wp2_with fail
    refine P1.out.mono ?_
    rintro e w2 ⟨rfl, hb2⟩
    have HB2 := Lib.hid hb2
    have HS := Lib.hid (show ∀ w3, Below wc.heap.size wc w3 → w3.cell? ⟨w.heap.size, 0, none⟩ = some (.int .i64 xk) ∧ w3.cell? ⟨w.heap.size, 1, none⟩ = some (.int .i64 xn) ∧ w3.cell? ⟨w.heap.size, 2, none⟩ = some (.string xs) ∧ w3.cell? ⟨w.heap.size, 3, none⟩ = some (.slice xia xli xic) ∧ w3.cell? ⟨w.heap.size, 4, none⟩ = some (.slice xna xnn xnc) ∧ w3.cell? ⟨w.heap.size + 1, 0, none⟩ = some (.int .i64 yk) ∧ w3.cell? ⟨w.heap.size + 1, 1, none⟩ = some (.int .i64 yn) ∧ w3.cell? ⟨w.heap.size + 1, 2, none⟩ = some (.string ys) ∧ w3.cell? ⟨w.heap.size + 1, 3, none⟩ = some (.slice yia yli yic) ∧ w3.cell? ⟨w.heap.size + 1, 4, none⟩ = some (.slice yna ynn ync) from fun w3 h => by
      obtain ⟨-, -, g51, g52, -, -⟩ := HK.out w3 h
      obtain ⟨a0, a1, a2, a3, a4⟩ := g51.cells
      obtain ⟨b0, b1, b2, b3, b4⟩ := g52.cells
      exact ⟨a0, a1, a2, a3, a4, b0, b1, b2, b3, b4⟩)
    obtain ⟨m, hm⟩ : ∃ m, mayV 6 T1 = m := ⟨_, rfl⟩
    obtain ⟨lk, hlk⟩ : ∃ m, likeV T1 U1 = m := ⟨_, rfl⟩
    have HM := Lib.hid hm
    have HLK := Lib.hid hlk
    have C1 := Lib.hid (show ∀ w3, Below wc.heap.size wc w3 → Calls Tryz.prog 13 #[.agg #[.int .i64 xk, .int .i64 xn, .string xs, .slice xia xli xic, .slice xna xnn xnc]] w3 fun e w4 => e = .returned (.bool m) ∧ Below wc.heap.size wc w4 ∧ w4.cell? ⟨w.heap.size, 0, none⟩ = some (.int .i64 xk) ∧ w4.cell? ⟨w.heap.size, 1, none⟩ = some (.int .i64 xn) ∧ w4.cell? ⟨w.heap.size, 2, none⟩ = some (.string xs) ∧ w4.cell? ⟨w.heap.size, 3, none⟩ = some (.slice xia xli xic) ∧ w4.cell? ⟨w.heap.size, 4, none⟩ = some (.slice xna xnn xnc) ∧ w4.cell? ⟨w.heap.size + 1, 0, none⟩ = some (.int .i64 yk) ∧ w4.cell? ⟨w.heap.size + 1, 1, none⟩ = some (.int .i64 yn) ∧ w4.cell? ⟨w.heap.size + 1, 2, none⟩ = some (.string ys) ∧ w4.cell? ⟨w.heap.size + 1, 3, none⟩ = some (.slice yia yli yic) ∧ w4.cell? ⟨w.heap.size + 1, 4, none⟩ = some (.slice yna ynn ync) from fun w3 h =>
      (rightT_any T1 _ w3 (HK.out w3 h).2.2.2.2.1).mono fun e w4 h4 => ⟨by rw [h4.1, HM.out], Below.then h h4.2, HS.out w4 (Below.then h h4.2)⟩)
    have C2 := Lib.hid (show ∀ w3, Below wc.heap.size wc w3 → Calls Tryz.prog 14 #[.agg #[.int .i64 xk, .int .i64 xn, .string xs, .slice xia xli xic, .slice xna xnn xnc]] w3 fun e w4 => e = .returned (.bool m) ∧ Below wc.heap.size wc w4 ∧ w4.cell? ⟨w.heap.size, 0, none⟩ = some (.int .i64 xk) ∧ w4.cell? ⟨w.heap.size, 1, none⟩ = some (.int .i64 xn) ∧ w4.cell? ⟨w.heap.size, 2, none⟩ = some (.string xs) ∧ w4.cell? ⟨w.heap.size, 3, none⟩ = some (.slice xia xli xic) ∧ w4.cell? ⟨w.heap.size, 4, none⟩ = some (.slice xna xnn xnc) ∧ w4.cell? ⟨w.heap.size + 1, 0, none⟩ = some (.int .i64 yk) ∧ w4.cell? ⟨w.heap.size + 1, 1, none⟩ = some (.int .i64 yn) ∧ w4.cell? ⟨w.heap.size + 1, 2, none⟩ = some (.string ys) ∧ w4.cell? ⟨w.heap.size + 1, 3, none⟩ = some (.slice yia yli yic) ∧ w4.cell? ⟨w.heap.size + 1, 4, none⟩ = some (.slice yna ynn ync) from fun w3 h =>
      (right_any T1 _ w3 (HK.out w3 h).2.2.2.2.1).mono fun e w4 h4 => ⟨by rw [h4.1, HM.out], Below.then h h4.2, HS.out w4 (Below.then h h4.2)⟩)
    have C3 := Lib.hid (show ∀ (y : Value) (b : Bool), ((y = .agg #[.int .i64 yk, .int .i64 yn, .string ys, .slice yia yli yic, .slice yna ynn ync] ∧ b = lk) ∨ (y = .agg #[.int .i64 xk, .int .i64 xn, .string xs, .slice xia xli xic, .slice xna xnn xnc] ∧ b = true)) → ∀ w3, Below wc.heap.size wc w3 → Calls Tryz.prog 15 #[.agg #[.int .i64 xk, .int .i64 xn, .string xs, .slice xia xli xic, .slice xna xnn xnc], y] w3 fun e w4 => e = .returned (.bool b) ∧ Below wc.heap.size wc w4 ∧ w4.cell? ⟨w.heap.size, 0, none⟩ = some (.int .i64 xk) ∧ w4.cell? ⟨w.heap.size, 1, none⟩ = some (.int .i64 xn) ∧ w4.cell? ⟨w.heap.size, 2, none⟩ = some (.string xs) ∧ w4.cell? ⟨w.heap.size, 3, none⟩ = some (.slice xia xli xic) ∧ w4.cell? ⟨w.heap.size, 4, none⟩ = some (.slice xna xnn xnc) ∧ w4.cell? ⟨w.heap.size + 1, 0, none⟩ = some (.int .i64 yk) ∧ w4.cell? ⟨w.heap.size + 1, 1, none⟩ = some (.int .i64 yn) ∧ w4.cell? ⟨w.heap.size + 1, 2, none⟩ = some (.string ys) ∧ w4.cell? ⟨w.heap.size + 1, 3, none⟩ = some (.slice yia yli yic) ∧ w4.cell? ⟨w.heap.size + 1, 4, none⟩ = some (.slice yna ynn ync) from fun y b hy w3 h => by
      obtain ⟨-, -, -, -, gv, gu⟩ := HK.out w3 h
      rcases hy with ⟨rfl, rfl⟩ | ⟨rfl, rfl⟩
      · exact (likeP_any T1 U1 _ _ w3 gv gu).mono fun e w4 h4 => ⟨by rw [h4.1, HLK.out], Below.then h h4.2, HS.out w4 (Below.then h h4.2)⟩
      · exact (likeP_any T1 T1 _ _ w3 gv gv).mono fun e w4 h4 => ⟨by rw [h4.1, likeV_refl], Below.then h h4.2, HS.out w4 (Below.then h h4.2)⟩)
    have C4 := Lib.hid (show ∀ w3, Below wc.heap.size wc w3 → Calls Tryz.prog 16 #[.agg #[.int .i64 xk, .int .i64 xn, .string xs, .slice xia xli xic, .slice xna xnn xnc], .agg #[.int .i64 yk, .int .i64 yn, .string ys, .slice yia yli yic, .slice yna ynn ync]] w3 fun e w4 => e = .returned (.bool lk) ∧ Below wc.heap.size wc w4 ∧ w4.cell? ⟨w.heap.size, 0, none⟩ = some (.int .i64 xk) ∧ w4.cell? ⟨w.heap.size, 1, none⟩ = some (.int .i64 xn) ∧ w4.cell? ⟨w.heap.size, 2, none⟩ = some (.string xs) ∧ w4.cell? ⟨w.heap.size, 3, none⟩ = some (.slice xia xli xic) ∧ w4.cell? ⟨w.heap.size, 4, none⟩ = some (.slice xna xnn xnc) ∧ w4.cell? ⟨w.heap.size + 1, 0, none⟩ = some (.int .i64 yk) ∧ w4.cell? ⟨w.heap.size + 1, 1, none⟩ = some (.int .i64 yn) ∧ w4.cell? ⟨w.heap.size + 1, 2, none⟩ = some (.string ys) ∧ w4.cell? ⟨w.heap.size + 1, 3, none⟩ = some (.slice yia yli yic) ∧ w4.cell? ⟨w.heap.size + 1, 4, none⟩ = some (.slice yna ynn ync) from fun w3 h => by
      obtain ⟨-, -, -, -, gv, gu⟩ := HK.out w3 h
      exact (like_any T1 U1 _ _ w3 gv gu).mono fun e w4 h4 => ⟨by rw [h4.1, HLK.out], Below.then h h4.2, HS.out w4 (Below.then h h4.2)⟩)
    have C5 := Lib.hid (show ∀ w3, Below wc.heap.size wc w3 → Calls Tryz.prog 10 #[] w3 fun e w4 => e = .returned (.bool true) ∧ Below wc.heap.size wc w4 ∧ w4.cell? ⟨w.heap.size, 0, none⟩ = some (.int .i64 xk) ∧ w4.cell? ⟨w.heap.size, 1, none⟩ = some (.int .i64 xn) ∧ w4.cell? ⟨w.heap.size, 2, none⟩ = some (.string xs) ∧ w4.cell? ⟨w.heap.size, 3, none⟩ = some (.slice xia xli xic) ∧ w4.cell? ⟨w.heap.size, 4, none⟩ = some (.slice xna xnn xnc) ∧ w4.cell? ⟨w.heap.size + 1, 0, none⟩ = some (.int .i64 yk) ∧ w4.cell? ⟨w.heap.size + 1, 1, none⟩ = some (.int .i64 yn) ∧ w4.cell? ⟨w.heap.size + 1, 2, none⟩ = some (.string ys) ∧ w4.cell? ⟨w.heap.size + 1, 3, none⟩ = some (.slice yia yli yic) ∧ w4.cell? ⟨w.heap.size + 1, 4, none⟩ = some (.slice yna ynn ync) from fun w3 h =>
      (alive_t w3 (HK.out w3 h).2.1).mono fun e w4 h4 => ⟨h4.1, Below.then h h4.2, HS.out w4 (Below.then h h4.2)⟩)
    have hbr := hb2
    obtain ⟨p0, p1, p2, p3, p4, q0, q1, q2, q3, q4⟩ := HS.out w2 hb2
    clear hb2 a0 a1 a2 a3 a4 hm hlk
    go_upto_region 5 with fail
    go_cut [49] from 26 to 49 (fun x wx => x = .bool false ∧ Below wc.heap.size wc wx)
    case first =>
      go_region_held3 (fun w' => w'.cell? ⟨w.heap.size, 0, none⟩ = some (.int .i64 xk) ∧ w'.cell? ⟨w.heap.size, 1, none⟩ = some (.int .i64 xn) ∧ w'.cell? ⟨w.heap.size, 2, none⟩ = some (.string xs) ∧ w'.cell? ⟨w.heap.size, 3, none⟩ = some (.slice xia xli xic) ∧ w'.cell? ⟨w.heap.size, 4, none⟩ = some (.slice xna xnn xnc) ∧ w'.cell? ⟨w.heap.size + 1, 0, none⟩ = some (.int .i64 yk) ∧ w'.cell? ⟨w.heap.size + 1, 1, none⟩ = some (.int .i64 yn) ∧ w'.cell? ⟨w.heap.size + 1, 2, none⟩ = some (.string ys) ∧ w'.cell? ⟨w.heap.size + 1, 3, none⟩ = some (.slice yia yli yic) ∧ w'.cell? ⟨w.heap.size + 1, 4, none⟩ = some (.slice yna ynn ync)) (first | exact ⟨p0, p1, p2, p3, p4, q0, q1, q2, q3, q4⟩ | go_keep)
        (first
          | (go_simp; go_at_call 13; refine (C1.out _ (by first | exact hbr | exact hbr.drew)).mono ?_; rintro e wr ⟨rfl, hbr, ⟨p0, p1, p2, p3, p4, q0, q1, q2, q3, q4⟩⟩)
          | (go_simp; go_at_call 14; refine (C2.out _ (by first | exact hbr | exact hbr.drew)).mono ?_; rintro e wr ⟨rfl, hbr, ⟨p0, p1, p2, p3, p4, q0, q1, q2, q3, q4⟩⟩)
          | (go_simp; go_at_call 15; refine (C3.out _ _ (by first | exact Or.inl ⟨rfl, rfl⟩ | exact Or.inr ⟨rfl, rfl⟩) _ (by first | exact hbr | exact hbr.drew)).mono ?_; rintro e wr ⟨rfl, hbr, ⟨p0, p1, p2, p3, p4, q0, q1, q2, q3, q4⟩⟩)
          | (go_simp; go_at_call 16; refine (C4.out _ (by first | exact hbr | exact hbr.drew)).mono ?_; rintro e wr ⟨rfl, hbr, ⟨p0, p1, p2, p3, p4, q0, q1, q2, q3, q4⟩⟩)
          | (go_simp; go_at_call 10; refine (C5.out _ (by first | exact hbr | exact hbr.drew)).mono ?_; rintro e wr ⟨rfl, hbr, ⟨p0, p1, p2, p3, p4, q0, q1, q2, q3, q4⟩⟩))
      all_goals
        go_wp2_with fail
        go_meet
        exact ⟨rfl, hbr⟩
    case rest =>
      obtain ⟨rfl, hbx⟩ := hcut
      have R7 := Lib.hid (C2.out wc hbx)
      obtain ⟨p0, p1, p2, p3, p4, -, -, -, -, -⟩ := HS.out wc hbx
      clear hbx hbr q0 q1 q2 q3 q4
      go_wp2_with fail
      refine R7.out.mono ?_
      rintro e w7 ⟨rfl, hb7, p0, p1, p2, p3, p4, -, -, -, -, -⟩
      have HB7 := Lib.hid hb7
      obtain ⟨hbb7, he7, -, -, hv7, -⟩ := HK.out w7 hb7
      have HBB7 := Lib.hid hbb7
      clear hb7 hbb7
      cases m with
      | false =>
        have hq := HP1.out
        unfold printOut at hq
        rw [HM.out, if_neg (by decide)] at hq
        simp only [Prod.mk.injEq] at hq
        obtain ⟨rfl, rfl⟩ := hq
        clear he7 hv7
        go_wp2_with fail
        go_ret
        exact ⟨rfl, HBB7.out⟩
      | true =>
        have TX := Lib.hid (text_go 6 (Nat.le_refl _) T1 _ w7 HM.out (itoaOk_of w7 he7) hv7)
        obtain ⟨Yt, hYt⟩ : ∃ Yt : ByteArray, (⟨(textL T1).toArray⟩ : ByteArray) = Yt := ⟨_, rfl⟩
        have hYl : Yt.size = (textL T1).length := by rw [← hYt, Lib.size_eq]
        have hYm := textL_le 6 T1 HM.out
        rw [hYt] at TX
        by_cases hl : (textL T1).length ≤ 4096
        · have hq := HP1.out
          rw [printOut_ok T1 HM.out hl, hYt] at hq
          simp only [Prod.mk.injEq] at hq
          obtain ⟨rfl, rfl⟩ := hq
          have hsz : ¬ (4096 : Int) < (Yt.size : Int) := by omega
          have hse : (Yt.toList == Yt.toList) = true := beq_self_eq_true _
          clear he7 hv7 hYt hYl hYm hl
          go_wp2_with fail
          refine TX.out.mono ?_
          rintro e w8 ⟨rfl, hb8⟩
          have HB8 := Lib.hid (Below.then HBB7.out hb8)
          clear hb8
          go_wp2_with fail
          go_ret
          exact ⟨rfl, HB8.out⟩
        · have hq := HP1.out
          unfold printOut at hq
          rw [HM.out, if_pos rfl, if_neg hl] at hq
          simp only [Prod.mk.injEq] at hq
          obtain ⟨rfl, rfl⟩ := hq
          have hsz : (4096 : Int) < (Yt.size : Int) := by omega
          have hsx : (Yt.size : Int) ≤ 96550276000 := by
            have : 4000 * 17 ^ 6 = 96550276000 := by decide
            omega
          clear he7 hv7 hYt hYl hYm hl
          go_wp2_with fail
          refine TX.out.mono ?_
          rintro e w8 ⟨rfl, hb8⟩
          have HB8 := Lib.hid (Below.then HBB7.out hb8)
          clear hb8
          go_wp2_with fail
          go_ret
          exact ⟨rfl, HB8.out⟩
end Go.Proofs.YtlhnefeeihghgaaGreatDoor
