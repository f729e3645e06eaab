/-
  TextOne's walk: it answers true. Conditions: what comes in reads as a tree; the package-level variables as TEnv says.
-/
import Derived.Test.YtlhnefeeihghgaaDoorFew2
import Derived.Test.YtlhnefeeihghgaaDoorPrint
import Derived.Test.YtlhnefeeihghgaaDoorTextLaws
import Derived.Deep.DeepCutAuto
import Derived.Deep.RegionLaw
namespace Go.Proofs.YtlhnefeeihghgaaDoor
open Go.RowKit

theorem printOut_ok (T : Val) (h : mayV 6 T = true) (hl : (textL T).length ≤ 4096) : printOut T = (⟨(textL T).toArray⟩, 0) := by
  unfold printOut
  rw [if_pos h, if_pos hl]
theorem printOut_cases (T : Val) : (mayV 6 T = true ∧ (textL T).length ≤ 4096 ∧ printOut T = (⟨(textL T).toArray⟩, 0)) ∨ ∃ k : Int, (k == 0) = false ∧ ¬ (mayV 6 T = true ∧ (textL T).length ≤ 4096) ∧ printOut T = (⟨#[]⟩, k) := by
  unfold printOut
  cases h : mayV 6 T with
  | false => exact Or.inr ⟨1, rfl, (fun h => by cases h.1), rfl⟩
  | true =>
    by_cases hl : (textL T).length ≤ 4096
    · exact Or.inl ⟨rfl, hl, by rw [if_pos rfl, if_pos hl]⟩
    · exact Or.inr ⟨2, rfl, (fun h => hl h.2), by rw [if_pos rfl, if_neg hl]⟩
/-- A row of two, each where it was laid. -/
theorem row_two (w : World) (R : Nat) (T U : Val) (c0 c1 c2 c3 c4 d0 d1 d2 d3 d4 : Value) (hT : IsVal w (.agg #[c0, c1, c2, c3, c4]) T) (hU : IsVal w (.agg #[d0, d1, d2, d3, d4]) U)
    (hR : w.heap[R]? = some (.cells #[c0, c1, c2, c3, c4, d0, d1, d2, d3, d4] 25 (0, 0))) :
    IsVal w (.agg #[.int .i64 3, .int .i64 0, .string ⟨#[]⟩, .slice (some ⟨R, 0, none⟩) 2 2, .slice none 0 0]) (.mk 3 0 ⟨#[]⟩ [T, U] []) := by
  refine .mk 3 0 ⟨#[]⟩ _ _ _ [] (fun i => if i = 0 then .agg #[c0, c1, c2, c3, c4] else .agg #[d0, d1, d2, d3, d4]) (by decide) (by decide) (by decide) (Or.inl ⟨rfl, Or.inl rfl⟩) (by simp) (Or.inr ⟨R, 0, 2, rfl, by simp, by simp, by decide, fun i hi => ?_⟩) (fun i hi => ?_)
  · have : i = 0 ∨ i = 1 := by simp at hi; omega
    rcases this with rfl | rfl <;> (refine ⟨_, _, _, _, _, rfl, ?_, ?_, ?_, ?_, ?_⟩ <;> simp [World.cell?, hR])
  · have : i = 0 ∨ i = 1 := by simp at hi; omega
    rcases this with rfl | rfl
    · exact hT
    · exact hU
theorem text_row2 (T U : Val) : textL (.mk 3 0 ⟨#[]⟩ [T, U] []) = [91] ++ textL T ++ [44] ++ textL U ++ [93] := by
  rw [textL_eq, if_neg (by decide), if_neg (by decide), if_neg (by decide), bodyL, bodyL, bodyL]
  simp
/-- Behind both calls of 'few': what came in lies, cut, where it lay. -/
structure TwoFew (V1 V2 : Nat) (T U : Val) (w0 w : World) : Prop where
  below : Below w0.heap.size w0 w
  one : ∃ c0 c1 c2 c3 c4, At5 w V1 c0 c1 c2 c3 c4 ∧ IsVal w (.agg #[c0, c1, c2, c3, c4]) T
  two : ∃ c0 c1 c2 c3 c4, At5 w V2 c0 c1 c2 c3 c4 ∧ IsVal w (.agg #[c0, c1, c2, c3, c4]) U
theorem TwoFew.mk2 {w w0 : World} {V1 V2 : Nat} {T U : Val} {a0 a1 a2 a3 a4 b0 b1 b2 b3 b4 c0 c1 c2 c3 c4 d0 d1 d2 d3 d4 : Value} (h1 : V1 = w0.heap.size) (h2 : V2 = w0.heap.size + 1) (hb : Below w0.heap.size w0 w)
    (hA : At5 w V1 a0 a1 a2 a3 a4) (hB : At5 w V2 b0 b1 b2 b3 b4) (hv : ValIn (fun k => k < w0.heap.size ∨ w0.heap.size + 2 ≤ k) w (.agg #[c0, c1, c2, c3, c4]) T) (hu : ValIn (fun k => k < w0.heap.size ∨ w0.heap.size + 2 ≤ k) w (.agg #[d0, d1, d2, d3, d4]) U) :
    TwoFew V1 V2 T U w0 (set5 (set5 w V1 0 c0 c1 c2 c3 c4) V2 0 d0 d1 d2 d3 d4) := by
  obtain ⟨s1, s2, s3⟩ := set5_rest w V1 0 c0 c1 c2 c3 c4
  obtain ⟨r1, r2, r3⟩ := set5_rest (set5 w V1 0 c0 c1 c2 c3 c4) V2 0 d0 d1 d2 d3 d4
  have hB1 := set5_five hB (g := V1) (by omega) 0 c0 c1 c2 c3 c4
  have hk : ∀ k, k ≠ V1 → k ≠ V2 → (set5 (set5 w V1 0 c0 c1 c2 c3 c4) V2 0 d0 d1 d2 d3 d4).heap[k]? = w.heap[k]? := fun k h h' => (set5_block _ _ _ _ _ _ _ _ k h').trans (set5_block _ _ _ _ _ _ _ _ k h)
  refine ⟨⟨r1.trans (s1.trans hb.os), r2.trans (s2.trans hb.tape), r3.trans (s3.trans hb.output), by rw [set5_size, set5_size]; exact hb.size, fun k hk' => (hk k (by omega) (by omega)).trans (hb.block k hk')⟩,
    ⟨_, _, _, _, _, set5_five (set5_five0 hA c0 c1 c2 c3 c4) (g := V2) (by omega) 0 d0 d1 d2 d3 d4, (hv.keep (S' := fun _ => True) fun k hS _ => ⟨hk k (by omega) (by omega), trivial⟩).isVal⟩,
    ⟨_, _, _, _, _, set5_five0 hB1 d0 d1 d2 d3 d4, (hu.keep (S' := fun _ => True) fun k hS _ => ⟨hk k (by omega) (by omega), trivial⟩).isVal⟩⟩

set_option maxRecDepth 100000 in
set_option maxHeartbeats 8000000 in
theorem tone_walk (T U : Val) (v u : Value) (w : World) (he : TEnv w) (hv : IsVal w v T) (hu : IsVal w u U) :
    Calls Tryd.prog 5 #[v, u] w fun e w' => e = .returned (.bool true) ∧ Below w.heap.size w w' := by
  obtain ⟨vk, vn, vs, via, vna, vli, vic, vnn, vnc, rfl⟩ := hv.shape
  obtain ⟨uk, un, us, uia, una, uli, uic, unn, unc, rfl⟩ := hu.shape
  obtain ⟨W0, hW0⟩ : ∃ W0, (w.alloc (.cells #[.int .i64 vk, .int .i64 vn, .string vs, .slice via vli vic, .slice vna vnn vnc] 25)).alloc (.cells #[.int .i64 uk, .int .i64 un, .string us, .slice uia uli uic, .slice una unn unc] 25) = W0 := ⟨_, rfl⟩
  have hb0 : Below w.heap.size w W0 := by rw [← hW0]; exact Below.then (below_new _ _) (below_new _ _)
  have hs0 : W0.heap.size = w.heap.size + 2 := by rw [← hW0]; simp
  have hA0 : At5 W0 w.heap.size (.int .i64 vk) (.int .i64 vn) (.string vs) (.slice via vli vic) (.slice vna vnn vnc) := by rw [← hW0]; exact (At5.new _ _ _ _ _ _).keep (below_new _ _)
  have hB0 : At5 W0 (w.heap.size + 1) (.int .i64 uk) (.int .i64 un) (.string us) (.slice uia uli uic) (.slice una unn unc) := by
    rw [← hW0]
    have e := At5.new (w.alloc (.cells #[.int .i64 vk, .int .i64 vn, .string vs, .slice via vli vic, .slice vna vnn vnc] 25)) (.int .i64 uk) (.int .i64 un) (.string us) (.slice uia uli uic) (.slice una unn unc)
    rwa [show (w.alloc (.cells #[.int .i64 vk, .int .i64 vn, .string vs, .slice via vli vic, .slice vna vnn vnc] 25)).heap.size = w.heap.size + 1 by simp] at e
  have CF : ∀ x X, ((x = .agg #[.int .i64 vk, .int .i64 vn, .string vs, .slice via vli vic, .slice vna vnn vnc] ∧ X = T) ∨ (x = .agg #[.int .i64 uk, .int .i64 un, .string us, .slice uia uli uic, .slice una unn unc] ∧ X = U)) →
      ∀ w', Below W0.heap.size W0 w' → Calls Tryd.prog 13 #[x, .int .i64 7] w' fun e w2 => ∃ yk yn ys yia yli yic yna ynn ync, e = .returned (.agg #[.int .i64 yk, .int .i64 yn, .string ys, .slice yia yli yic, .slice yna ynn ync]) ∧ Below W0.heap.size W0 w2 ∧ Below w'.heap.size w' w2 ∧
        ValIn (fun k => k < w.heap.size ∨ w.heap.size + 2 ≤ k) w2 (.agg #[.int .i64 yk, .int .i64 yn, .string ys, .slice yia yli yic, .slice yna ynn ync]) (fewV 7 X) ∧
        (w2.cell? ⟨w.heap.size, 0, none⟩ = some (.int .i64 vk) ∧ w2.cell? ⟨w.heap.size, 1, none⟩ = some (.int .i64 vn) ∧ w2.cell? ⟨w.heap.size, 2, none⟩ = some (.string vs) ∧ w2.cell? ⟨w.heap.size, 3, none⟩ = some (.slice via vli vic) ∧ w2.cell? ⟨w.heap.size, 4, none⟩ = some (.slice vna vnn vnc)) ∧
        (w2.cell? ⟨w.heap.size + 1, 0, none⟩ = some (.int .i64 uk) ∧ w2.cell? ⟨w.heap.size + 1, 1, none⟩ = some (.int .i64 un) ∧ w2.cell? ⟨w.heap.size + 1, 2, none⟩ = some (.string us) ∧ w2.cell? ⟨w.heap.size + 1, 3, none⟩ = some (.slice uia uli uic) ∧ w2.cell? ⟨w.heap.size + 1, 4, none⟩ = some (.slice una unn unc)) := by
    intro x X hx w' hb
    have hxv : ValIn (fun k => k < w.heap.size) w' x X := by
      have hin : ∀ {x X}, IsVal w x X → ValIn (fun k => k < w.heap.size) w' x X := fun h => h.inside.keep fun k hS hl => ⟨(hb.block k (by omega)).trans (hb0.block k hl), hS⟩
      rcases hx with ⟨rfl, rfl⟩ | ⟨rfl, rfl⟩
      · exact hin hv
      · exact hin hu
    have hsz := hb.size
    refine (few_go 7 (by decide) 7 rfl w.heap.size X x w' (by omega) hxv).mono fun e w2 h => ?_
    obtain ⟨y, rfl, hy⟩ := h.is
    obtain ⟨yk, yn, ys, yia, yna, yli, yic, ynn, ync, rfl⟩ := hy.isVal.shape
    have hbb := Below.then hb h.below
    exact ⟨_, _, _, _, _, _, _, _, _, rfl, hbb, h.below, hy.keep fun k hS _ => ⟨rfl, by omega⟩, (hA0.keep hbb).cells, (hB0.keep hbb).cells⟩
  have HCF := Lib.hid CF
  have HB00 := Lib.hid (Below.refl W0.heap.size W0)
  have HA0 := Lib.hid hA0
  have HB0 := Lib.hid hB0
  have HBW := Lib.hid hb0
  have HS0 := Lib.hid hs0
  have HE := Lib.hid he
  have HW0 := Lib.hid hW0
  have hbw := Below.refl W0.heap.size W0
  have HFZ := Lib.hid (show ∀ w', Below W0.heap.size W0 w' → w'.frozen? ⟨w.heap.size, 0, none⟩ = false ∧ w'.frozen? ⟨w.heap.size, 1, none⟩ = false ∧ w'.frozen? ⟨w.heap.size, 2, none⟩ = false ∧ w'.frozen? ⟨w.heap.size, 3, none⟩ = false ∧ w'.frozen? ⟨w.heap.size, 4, none⟩ = false ∧ w'.frozen? ⟨w.heap.size + 1, 0, none⟩ = false ∧ w'.frozen? ⟨w.heap.size + 1, 1, none⟩ = false ∧ w'.frozen? ⟨w.heap.size + 1, 2, none⟩ = false ∧ w'.frozen? ⟨w.heap.size + 1, 3, none⟩ = false ∧ w'.frozen? ⟨w.heap.size + 1, 4, none⟩ = false from fun w' h =>
    have g := hA0.keep h
    have k := hB0.keep h
    ⟨g.frozen 0, g.frozen 1, g.frozen 2, g.frozen 3, g.frozen 4, k.frozen 0, k.frozen 1, k.frozen 2, k.frozen 3, k.frozen 4⟩)
  obtain ⟨a0, a1, a2, a3, a4⟩ := hA0.cells
  obtain ⟨b0, b1, b2, b3, b4⟩ := hB0.cells
  have PR := Lib.hid (fun T v w hv he => Print_t T v w hv he)
  have AL := Lib.hid (fun w he => alive_t w he)
  clear CF hb0 hs0 hA0 hB0 he hW0 hv hu
  go_enter Tryd.func5, Tryd.ntmps5
  go_upto_region 1 with fail
  rw [HW0.out]
  go_cut [12] from 11 to 14 (fun x wx => TwoFew w.heap.size (w.heap.size + 1) (fewV 7 T) (fewV 7 U) w wx)
  case first =>
    go_region_with (go_simp; go_at_call 13; first
      | (have _h := hY1; refine (HCF.out _ _ (by first | exact Or.inl ⟨rfl, rfl⟩ | exact Or.inr ⟨rfl, rfl⟩) _ (by first | exact hbw | exact hbw.drew)).mono ?_; rintro e w5 ⟨yk, yn, ys, yia, yli, yic, yna, ynn, ync, rfl, hbw5, hbd5, hY5, ⟨p0, p1, p2, p3, p4⟩, ⟨q0, q1, q2, q3, q4⟩⟩; obtain ⟨f0, f1, f2, f3, f4, r0, r1, r2, r3, r4⟩ := HFZ.out _ hbw5)
      | (refine (HCF.out _ _ (by first | exact Or.inl ⟨rfl, rfl⟩ | exact Or.inr ⟨rfl, rfl⟩) _ (by first | exact hbw | exact hbw.drew)).mono ?_; rintro e w4 ⟨xk, xn, xs, xia, xli, xic, xna, xnn, xnc, rfl, hbw, hbd, hY1, ⟨p0, p1, p2, p3, p4⟩, ⟨q0, q1, q2, q3, q4⟩⟩))
    all_goals
      go_wp2_with fail
      go_meet
      first
        | exact TwoFew.mk2 rfl rfl (Below.then HBW.out (hbw5.mono (Nat.le_refl _))) (HA0.out.keep hbw5) (HB0.out.keep hbw5) (hY1.keep fun k hS hl => ⟨hbd5.block k hl, hS⟩) hY5
        | exact TwoFew.mk2 rfl rfl (Below.then HBW.out (hbw5.mono (Nat.le_refl _))) (HA0.out.keep hbw5) (HB0.out.keep hbw5) hY5 (hY1.keep fun k hS hl => ⟨hbd5.block k hl, hS⟩)
  case rest =>
    have hbw1 := hcut.below
    obtain ⟨c0, c1, c2, c3, c4, h51, hv1⟩ := hcut.one
    obtain ⟨d0, d1, d2, d3, d4, h52, hv2⟩ := hcut.two
    obtain ⟨xk, xn, xs, xia, xna, xli, xic, xnn, xnc, hsh⟩ := hv1.shape
    simp only [Value.agg.injEq, Array.mk.injEq, List.cons.injEq, and_true] at hsh
    obtain ⟨rfl, rfl, rfl, rfl, rfl⟩ := hsh
    obtain ⟨yk, yn, ys, yia, yna, yli, yic, ynn, ync, hsh⟩ := hv2.shape
    simp only [Value.agg.injEq, Array.mk.injEq, List.cons.injEq, and_true] at hsh
    obtain ⟨rfl, rfl, rfl, rfl, rfl⟩ := hsh
    obtain ⟨T1, hT1⟩ : ∃ T1, fewV 7 T = T1 := ⟨_, rfl⟩
    obtain ⟨U1, hU1⟩ : ∃ U1, fewV 7 U = U1 := ⟨_, rfl⟩
    rw [hT1] at hv1
    rw [hU1] at hv2
    have HK := Lib.hid (show ∀ w3, Below wc.heap.size wc w3 → Below w.heap.size w w3 ∧ TEnv w3 ∧ At5 w3 w.heap.size (.int .i64 xk) (.int .i64 xn) (.string xs) (.slice xia xli xic) (.slice xna xnn xnc) ∧ At5 w3 (w.heap.size + 1) (.int .i64 yk) (.int .i64 yn) (.string ys) (.slice yia yli yic) (.slice yna ynn ync) ∧
        IsVal w3 (.agg #[.int .i64 xk, .int .i64 xn, .string xs, .slice xia xli xic, .slice xna xnn xnc]) T1 ∧ IsVal w3 (.agg #[.int .i64 yk, .int .i64 yn, .string ys, .slice yia yli yic, .slice yna ynn ync]) U1 from fun w3 h =>
      ⟨Below.then hbw1 h, HE.out.below (Below.then hbw1 h), h51.keep h, h52.keep h, hv1.keep h, hv2.keep h⟩)
    obtain ⟨a0, a1, a2, a3, a4⟩ := h51.cells
    have P1 := Lib.hid (PR.out T1 _ wc hv1 (HE.out.below hbw1))
    obtain ⟨s1, k1, hp1⟩ : ∃ s k, printOut T1 = (s, k) := ⟨_, _, rfl⟩
    obtain ⟨s2, k2, hp2⟩ : ∃ s k, printOut U1 = (s, k) := ⟨_, _, rfl⟩
    rw [hp1] at P1
    have HP1 := Lib.hid hp1
    have HP2 := Lib.hid hp2
    clear hcut hbw1 h51 h52 hv1 hv2 hT1 hU1 hp1 hp2 HCF HA0 HB0 HBW HS0 HB00 HFZ hbw b0 b1 b2 b3 b4
    go_wp2_with fail
    refine P1.out.mono ?_
    rintro e w2 ⟨rfl, hb2⟩
    have HB2 := Lib.hid hb2
    obtain ⟨-, he2, -, g52, -, hu2⟩ := HK.out w2 hb2
    have P2 := Lib.hid (PR.out U1 _ w2 hu2 he2)
    rw [HP2.out] at P2
    obtain ⟨b0, b1, b2, b3, b4⟩ := g52.cells
    clear hb2 he2 g52 hu2
    go_wp2_with fail
    refine P2.out.mono ?_
    rintro e w3 ⟨rfl, hb3⟩
    have HB3 := Lib.hid (Below.then HB2.out hb3)
    have A3 := Lib.hid (AL.out w3 (HK.out w3 HB3.out).2.1)
    clear hb3 a0 a1 a2 a3 a4 b0 b1 b2 b3 b4
    rcases printOut_cases T1 with ⟨hm1, hl1, hq1⟩ | ⟨kk, hk1, -, hq1⟩
    rotate_left
    · rw [HP1.out] at hq1
      simp only [Prod.mk.injEq] at hq1
      obtain ⟨rfl, rfl⟩ := hq1
      have hk1' : (k1 != 0) = true := by rw [bne, hk1]; rfl
      go_wp2_with fail
      refine A3.out.mono ?_
      rintro e w4 ⟨rfl, hb4⟩
      have HB4 := Lib.hid (HK.out w4 (Below.then HB3.out hb4)).1
      clear hb4
      go_wp2_with fail
      go_ret
      exact ⟨rfl, HB4.out⟩
    rcases printOut_cases U1 with ⟨hm2, hl2, hq2⟩ | ⟨kk, hk2, -, hq2⟩
    rotate_left
    · rw [HP2.out] at hq2
      simp only [Prod.mk.injEq] at hq2
      obtain ⟨rfl, rfl⟩ := hq2
      rw [HP1.out] at hq1
      simp only [Prod.mk.injEq] at hq1
      obtain ⟨hq1, rfl⟩ := hq1
      have hk2' : (k2 != 0) = true := by rw [bne, hk2]; rfl
      clear hq1
      go_wp2_with fail
      refine A3.out.mono ?_
      rintro e w4 ⟨rfl, hb4⟩
      have HB4 := Lib.hid (HK.out w4 (Below.then HB3.out hb4)).1
      clear hb4
      go_wp2_with fail
      go_ret
      exact ⟨rfl, HB4.out⟩
    rw [HP1.out] at hq1
    rw [HP2.out] at hq2
    simp only [Prod.mk.injEq] at hq1 hq2
    obtain ⟨hs1, rfl⟩ := hq1
    obtain ⟨hs2, rfl⟩ := hq2
    have hz1 : s1.size ≤ 4096 := by rw [hs1, Lib.size_eq]; exact hl1
    have hz2 : s2.size ≤ 4096 := by rw [hs2, Lib.size_eq]; exact hl2
    have hst : (s1.toList == s2.toList) = likeV T1 U1 := by
      rw [beqB, Bool.eq_iff_iff, decide_eq_true_eq, likeV_iff, hs1, hs2]
      constructor
      · intro h
        have h' : textL T1 = textL U1 := congrArg (fun b : ByteArray => b.data.toList) h
        exact textL_inj T1 U1 hm1 hm2 h'
      · intro h; rw [h]
    have HROW := Lib.hid (fun (s3 : ByteArray) (h : printOut (.mk 3 0 ⟨#[]⟩ [T1, U1] []) = (s3, 0)) => show (s3.toList == (⟨#[91]⟩ ++ s1 ++ ⟨#[44]⟩ ++ s2 ++ ⟨#[93]⟩ : ByteArray).toList) = true by
      have h3 : s3 = ⟨(textL (.mk 3 0 ⟨#[]⟩ [T1, U1] [])).toArray⟩ := by
        rcases printOut_cases (.mk 3 0 ⟨#[]⟩ [T1, U1] []) with ⟨-, -, hq⟩ | ⟨k, hk, -, hq⟩
        · rw [hq] at h; simp only [Prod.mk.injEq] at h; exact h.1.symm
        · rw [hq] at h; simp only [Prod.mk.injEq] at h; rw [h.2] at hk; exact absurd hk (by decide)
      rw [beqB, decide_eq_true_eq, h3, text_row2, hs1, hs2]
      apply ByteArray.ext
      apply Array.ext'
      simp [ByteArray.data_append])
    obtain ⟨s3, k3, hp3⟩ : ∃ s k, printOut (.mk 3 0 ⟨#[]⟩ [T1, U1] []) = (s, k) := ⟨_, _, rfl⟩
    obtain ⟨-, -, g51, g52, hv3, hu3⟩ := HK.out w3 HB3.out
    obtain ⟨W4, hW4⟩ : ∃ W4, w3.alloc (.cells #[.int .i64 xk, .int .i64 xn, .string xs, .slice xia xli xic, .slice xna xnn xnc, .int .i64 yk, .int .i64 yn, .string ys, .slice yia yli yic, .slice yna ynn ync] 25) = W4 := ⟨_, rfl⟩
    have hb4 : Below w3.heap.size w3 W4 := by rw [← hW4]; exact below_new _ _
    have hR4 : W4.heap[w3.heap.size]? = some (.cells #[.int .i64 xk, .int .i64 xn, .string xs, .slice xia xli xic, .slice xna xnn xnc, .int .i64 yk, .int .i64 yn, .string ys, .slice yia yli yic, .slice yna ynn ync] 25 (0, 0)) := by rw [← hW4]; exact heap_alloc_new _ _
    have HB4 := Lib.hid (Below.then HB3.out hb4)
    have P3 := Lib.hid (PR.out _ _ W4 (row_two W4 w3.heap.size T1 U1 _ _ _ _ _ _ _ _ _ _ (hv3.keep hb4) (hu3.keep hb4) hR4) (HK.out W4 HB4.out).2.1)
    rw [hp3] at P3
    have HP3 := Lib.hid hp3
    have HW4 := Lib.hid hW4
    obtain ⟨a0, a1, a2, a3, a4⟩ := g51.cells
    obtain ⟨b0, b1, b2, b3, b4⟩ := g52.cells
    clear hs1 hs2 hl1 hl2 hm1 hm2 hp3 hW4 hb4 hR4 g51 g52 hv3 hu3
    go_wp2_with fail
    rw [HW4.out]
    refine P3.out.mono ?_
    rintro e w5 ⟨rfl, hb5⟩
    have HB5 := Lib.hid (Below.then HB4.out hb5)
    have A5 := Lib.hid (AL.out w5 (HK.out w5 HB5.out).2.1)
    clear hb5 a0 a1 a2 a3 a4 b0 b1 b2 b3 b4
    have hk3 : (k3 = 0 ∧ (s3.toList == (⟨#[91]⟩ ++ s1 ++ ⟨#[44]⟩ ++ s2 ++ ⟨#[93]⟩ : ByteArray).toList) = true) ∨ ((k3 == 0) = false ∧ (k3 != 0) = true) := by
      by_cases h : k3 = 0
      · exact Or.inl ⟨h, HROW.out s3 (by rw [HP3.out, h])⟩
      · exact Or.inr ⟨beq_eq_false_iff_ne.2 h, bne_iff_ne.2 h⟩
    have HK3 := Lib.hid hk3
    clear hk3
    obtain ⟨bl, hbl⟩ : ∃ b, likeV T1 U1 = b := ⟨_, rfl⟩
    rw [hbl] at hst
    have HBL := Lib.hid hbl
    clear hbl
    go_wp2_with fail
    refine A5.out.mono ?_
    rintro e w6 ⟨rfl, hb6⟩
    have HB6 := Lib.hid (Below.then HB5.out hb6)
    obtain ⟨-, -, g51, g52, hv6, hu6⟩ := HK.out w6 HB6.out
    have L6 := Lib.hid (like_any T1 U1 _ _ w6 hv6 hu6)
    rw [HBL.out] at L6
    obtain ⟨a0, a1, a2, a3, a4⟩ := g51.cells
    obtain ⟨b0, b1, b2, b3, b4⟩ := g52.cells
    clear hb6 g51 g52 hv6 hu6
    cases bl with
    | true =>
      rcases HK3.out with ⟨rfl, hk3⟩ | ⟨hk3, hk4⟩
      · go_wp2_with fail
        refine L6.out.mono ?_
        rintro e w7 ⟨rfl, hb7⟩
        have HB7 := Lib.hid (HK.out w7 (Below.then HB6.out hb7)).1
        clear hb7 a0 a1 a2 a3 a4 b0 b1 b2 b3 b4
        go_wp2_with fail
        go_ret
        exact ⟨rfl, HB7.out⟩
      · go_wp2_with fail
        refine L6.out.mono ?_
        rintro e w7 ⟨rfl, hb7⟩
        have HB7 := Lib.hid (HK.out w7 (Below.then HB6.out hb7)).1
        clear hb7 a0 a1 a2 a3 a4 b0 b1 b2 b3 b4
        go_wp2_with fail
        go_ret
        exact ⟨rfl, HB7.out⟩
    | false =>
      rcases HK3.out with ⟨rfl, hk3⟩ | ⟨hk3, hk4⟩
      · go_wp2_with fail
        refine L6.out.mono ?_
        rintro e w7 ⟨rfl, hb7⟩
        have HB7 := Lib.hid (HK.out w7 (Below.then HB6.out hb7)).1
        clear hb7 a0 a1 a2 a3 a4 b0 b1 b2 b3 b4
        go_wp2_with fail
        go_ret
        exact ⟨rfl, HB7.out⟩
      · go_wp2_with fail
        refine L6.out.mono ?_
        rintro e w7 ⟨rfl, hb7⟩
        have HB7 := Lib.hid (HK.out w7 (Below.then HB6.out hb7)).1
        clear hb7 a0 a1 a2 a3 a4 b0 b1 b2 b3 b4
        go_wp2_with fail
        go_ret
        exact ⟨rfl, HB7.out⟩
end Go.Proofs.YtlhnefeeihghgaaDoor
