/-
  TextParts' walk: it answers true. Conditions: what comes in reads as a tree; the package-level variables as TEnv says.
-/
import Derived.Test.YtlhnefeeihghgaaDoorLawTOne
import Derived.Test.YtlhnefeeihghgaaDoorMany
namespace Go.Proofs.YtlhnefeeihghgaaDoor
open Go.RowKit

theorem printOut_size (T : Val) : (printOut T).1.size ≤ 4096 := by
  rcases printOut_cases T with ⟨-, hl, hq⟩ | ⟨k, -, -, hq⟩
  · rw [hq, Lib.size_eq]; exact hl
  · rw [hq]; exact Nat.zero_le _
theorem printOut_zero (T : Val) (s : ByteArray) (h : printOut T = (s, 0)) : mayV 6 T = true ∧ (textL T).length ≤ 4096 ∧ s = ⟨(textL T).toArray⟩ := by
  rcases printOut_cases T with ⟨hm, hl, hq⟩ | ⟨k, hk, -, hq⟩
  · rw [hq] at h; simp only [Prod.mk.injEq] at h; exact ⟨hm, hl, h.1.symm⟩
  · rw [hq] at h; simp only [Prod.mk.injEq] at h; rw [h.2] at hk; exact absurd hk (by decide)
/-- Members by names, of one value, and of two. -/
theorem obj_one (w : World) (S R : Nat) (T : Val) (a : ByteArray) (c0 c1 c2 c3 c4 : Value) (ha : a.size ≤ maxLen) (hT : IsVal w (.agg #[c0, c1, c2, c3, c4]) T) (hS : w.heap[S]? = some (.cells #[.string a] 9 (0, 0)))
    (hR : w.heap[R]? = some (.cells #[c0, c1, c2, c3, c4] 25 (0, 0))) :
    IsVal w (.agg #[.int .i64 4, .int .i64 0, .string ⟨#[]⟩, .slice (some ⟨R, 0, none⟩) 1 1, .slice (some ⟨S, 0, none⟩) 1 1]) (.mk 4 0 ⟨#[]⟩ [T] [a]) := by
  refine .mk 4 0 ⟨#[]⟩ _ _ _ [a] (fun _ => .agg #[c0, c1, c2, c3, c4]) (by decide) (by decide) (by decide) (Or.inr ⟨S, 0, 1, rfl, by simp, by simp, by decide, fun i hi => ?_⟩) (by simpa using ha) (Or.inr ⟨R, 0, 1, rfl, by simp, by simp, by decide, fun i hi => ?_⟩) (fun i hi => ?_)
  · obtain rfl : i = 0 := by simp at hi; omega
    simp [World.cell?, hS]
  · obtain rfl : i = 0 := by simp at hi; omega
    refine ⟨_, _, _, _, _, rfl, ?_, ?_, ?_, ?_, ?_⟩ <;> simp [World.cell?, hR]
  · obtain rfl : i = 0 := by simp at hi; omega
    exact hT
theorem obj_two (w : World) (S R : Nat) (T U : Val) (a b : ByteArray) (c0 c1 c2 c3 c4 d0 d1 d2 d3 d4 : Value) (ha : a.size ≤ maxLen) (hb : b.size ≤ maxLen) (hT : IsVal w (.agg #[c0, c1, c2, c3, c4]) T) (hU : IsVal w (.agg #[d0, d1, d2, d3, d4]) U)
    (hS : w.heap[S]? = some (.cells #[.string a, .string b] 9 (0, 0))) (hR : w.heap[R]? = some (.cells #[c0, c1, c2, c3, c4, d0, d1, d2, d3, d4] 25 (0, 0))) :
    IsVal w (.agg #[.int .i64 4, .int .i64 0, .string ⟨#[]⟩, .slice (some ⟨R, 0, none⟩) 2 2, .slice (some ⟨S, 0, none⟩) 2 2]) (.mk 4 0 ⟨#[]⟩ [T, U] [a, b]) := by
  refine .mk 4 0 ⟨#[]⟩ _ _ _ [a, b] (fun i => if i = 0 then .agg #[c0, c1, c2, c3, c4] else .agg #[d0, d1, d2, d3, d4]) (by decide) (by decide) (by decide) (Or.inr ⟨S, 0, 2, rfl, by simp, by simp, by decide, fun i hi => ?_⟩) ?_ (Or.inr ⟨R, 0, 2, rfl, by simp, by simp, by decide, fun i hi => ?_⟩) (fun i hi => ?_)
  · have : i = 0 ∨ i = 1 := by simp at hi; omega
    rcases this with rfl | rfl <;> simp [World.cell?, hS]
  · intro x hx
    simp at hx
    rcases hx with rfl | rfl
    · exact ha
    · exact hb
  · have : i = 0 ∨ i = 1 := by simp at hi; omega
    rcases this with rfl | rfl <;> (refine ⟨_, _, _, _, _, rfl, ?_, ?_, ?_, ?_, ?_⟩ <;> simp [World.cell?, hR])
  · have : i = 0 ∨ i = 1 := by simp at hi; omega
    rcases this with rfl | rfl
    · exact hT
    · exact hU
theorem text_obj1 (T : Val) : textL (.mk 4 0 ⟨#[]⟩ [T] [⟨#[97]⟩]) = [123, 34, 97, 34, 58] ++ textL T ++ [125] := by
  rw [textL_eq, if_neg (by decide), if_neg (by decide), if_pos rfl, bodyL, bodyL]
  simp
theorem text_obj2 (T U : Val) : textL (.mk 4 0 ⟨#[]⟩ [T, U] [⟨#[97]⟩, ⟨#[98]⟩]) = [123, 34, 97, 34, 58] ++ textL T ++ [44, 34, 98, 34, 58] ++ textL U ++ [125] := by
  rw [textL_eq, if_neg (by decide), if_neg (by decide), if_pos rfl, bodyL, bodyL, bodyL]
  simp
theorem may_items (d : Nat) (k n : Int) (s : ByteArray) (l : List Val) (ns : List ByteArray) (h : mayV (d + 1) (.mk k n s l ns) = true) : ∀ x ∈ l, mayV d x = true := by
  rw [mayV, Bool.and_eq_true] at h
  exact List.all_eq_true.1 h.2
theorem may_ba (T U : Val) : mayV 6 (.mk 4 0 ⟨#[]⟩ [T, U] [⟨#[98]⟩, ⟨#[97]⟩]) = false := by
  cases h : mayV 6 (.mk 4 0 ⟨#[]⟩ [T, U] [⟨#[98]⟩, ⟨#[97]⟩]) with
  | false => rfl
  | true =>
    rw [mayV, Bool.and_eq_true, oneV_iff] at h
    exact absurd h.1.rises (by decide)
/-- What the five texts have to do with one another. -/
theorem parts_one (T : Val) (s1 s3 : ByteArray) (k1 : Int) (h1 : printOut T = (s1, k1)) (h3 : printOut (.mk 4 0 ⟨#[]⟩ [T] [⟨#[97]⟩]) = (s3, 0)) : k1 = 0 ∧ (s3.toList == (⟨#[123, 34, 97, 34, 58]⟩ ++ s1 ++ ⟨#[125]⟩ : ByteArray).toList) = true := by
  obtain ⟨hm, hl, hs⟩ := printOut_zero _ _ h3
  have hT := mayV_succ 5 T (may_items 5 _ _ _ _ _ hm T (by simp))
  rw [text_obj1] at hl hs
  have hlT : (textL T).length ≤ 4096 := by simp at hl; omega
  rw [printOut_ok T hT hlT] at h1
  simp only [Prod.mk.injEq] at h1
  refine ⟨h1.2.symm, ?_⟩
  rw [beqB, decide_eq_true_eq, hs, ← h1.1]
  apply ByteArray.ext
  apply Array.ext'
  simp [ByteArray.data_append]
theorem parts_two (T U : Val) (s1 s2 s3 s4 : ByteArray) (k1 k2 k3 : Int) (h1 : printOut T = (s1, k1)) (h2 : printOut U = (s2, k2)) (h3 : printOut (.mk 4 0 ⟨#[]⟩ [T] [⟨#[97]⟩]) = (s3, k3)) (h4 : printOut (.mk 4 0 ⟨#[]⟩ [T, U] [⟨#[97]⟩, ⟨#[98]⟩]) = (s4, 0)) :
    k2 = 0 ∧ k3 = 0 ∧ (s4.toList == (⟨#[123, 34, 97, 34, 58]⟩ ++ s1 ++ ⟨#[44, 34, 98, 34, 58]⟩ ++ s2 ++ ⟨#[125]⟩ : ByteArray).toList) = true := by
  obtain ⟨hm, hl, hs⟩ := printOut_zero _ _ h4
  have hT5 := may_items 5 _ _ _ _ _ hm T (by simp)
  have hT := mayV_succ 5 T hT5
  have hU := mayV_succ 5 U (may_items 5 _ _ _ _ _ hm U (by simp))
  rw [text_obj2] at hl hs
  have hlT : (textL T).length ≤ 4096 := by simp at hl; omega
  have hlU : (textL U).length ≤ 4096 := by simp at hl; omega
  have h31 : mayV 6 (.mk 4 0 ⟨#[]⟩ [T] [⟨#[97]⟩]) = true := by
    rw [mayV, (oneV_iff 4 0 ⟨#[]⟩ [T] [⟨#[97]⟩]).2 ⟨by decide, Or.inr rfl, Or.inr rfl, Or.inl (by decide), Or.inl rfl, by decide, by decide, by simp, fun _ => rfl, by decide⟩]
    simp [Val.items, hT5]
  rw [printOut_ok T hT hlT] at h1
  rw [printOut_ok U hU hlU] at h2
  rw [printOut_ok _ h31 (by rw [text_obj1]; simp at hl ⊢; omega)] at h3
  simp only [Prod.mk.injEq] at h1 h2 h3
  refine ⟨h2.2.symm, h3.2.symm, ?_⟩
  rw [beqB, decide_eq_true_eq, hs, ← h1.1, ← h2.1]
  apply ByteArray.ext
  apply Array.ext'
  simp [ByteArray.data_append]

set_option maxRecDepth 100000 in
set_option maxHeartbeats 8000000 in
theorem tparts_walk (T U : Val) (v u : Value) (w : World) (he : TEnv w) (hv : IsVal w v T) (hu : IsVal w u U) :
    Calls Tryd.prog 7 #[v, u] w fun e w' => e = .returned (.bool true) ∧ Below w.heap.size w w' := by
  obtain ⟨vk, vn, vs, via, vna, vli, vic, vnn, vnc, rfl⟩ := hv.shape
  obtain ⟨uk, un, us, uia, una, uli, uic, unn, unc, rfl⟩ := hu.shape
  obtain ⟨W0, hW0⟩ : ∃ W0, (w.alloc (.cells #[.int .i64 vk, .int .i64 vn, .string vs, .slice via vli vic, .slice vna vnn vnc] 25)).alloc (.cells #[.int .i64 uk, .int .i64 un, .string us, .slice uia uli uic, .slice una unn unc] 25) = W0 := ⟨_, rfl⟩
  have hb0 : Below w.heap.size w W0 := by rw [← hW0]; exact Below.then (below_new _ _) (below_new _ _)
  have hs0 : W0.heap.size = w.heap.size + 2 := by rw [← hW0]; simp
  have hA0 : At5 W0 w.heap.size (.int .i64 vk) (.int .i64 vn) (.string vs) (.slice via vli vic) (.slice vna vnn vnc) := by rw [← hW0]; exact (At5.new _ _ _ _ _ _).keep (below_new _ _)
  have hB0 : At5 W0 (w.heap.size + 1) (.int .i64 uk) (.int .i64 un) (.string us) (.slice uia uli uic) (.slice una unn unc) := by
    rw [← hW0]
    have e := At5.new (w.alloc (.cells #[.int .i64 vk, .int .i64 vn, .string vs, .slice via vli vic, .slice vna vnn vnc] 25)) (.int .i64 uk) (.int .i64 un) (.string us) (.slice uia uli uic) (.slice una unn unc)
    rwa [show (w.alloc (.cells #[.int .i64 vk, .int .i64 vn, .string vs, .slice via vli vic, .slice vna vnn vnc] 25)).heap.size = w.heap.size + 1 by simp] at e
  have CF : ∀ x X, ((x = .agg #[.int .i64 vk, .int .i64 vn, .string vs, .slice via vli vic, .slice vna vnn vnc] ∧ X = T) ∨ (x = .agg #[.int .i64 uk, .int .i64 un, .string us, .slice uia uli uic, .slice una unn unc] ∧ X = U)) →
      ∀ w', Below W0.heap.size W0 w' → Calls Tryd.prog 13 #[x, .int .i64 5] w' fun e w2 => ∃ yk yn ys yia yli yic yna ynn ync, e = .returned (.agg #[.int .i64 yk, .int .i64 yn, .string ys, .slice yia yli yic, .slice yna ynn ync]) ∧ Below W0.heap.size W0 w2 ∧ Below w'.heap.size w' w2 ∧
        ValIn (fun k => k < w.heap.size ∨ w.heap.size + 2 ≤ k) w2 (.agg #[.int .i64 yk, .int .i64 yn, .string ys, .slice yia yli yic, .slice yna ynn ync]) (fewV 5 X) ∧
        (w2.cell? ⟨w.heap.size, 0, none⟩ = some (.int .i64 vk) ∧ w2.cell? ⟨w.heap.size, 1, none⟩ = some (.int .i64 vn) ∧ w2.cell? ⟨w.heap.size, 2, none⟩ = some (.string vs) ∧ w2.cell? ⟨w.heap.size, 3, none⟩ = some (.slice via vli vic) ∧ w2.cell? ⟨w.heap.size, 4, none⟩ = some (.slice vna vnn vnc)) ∧
        (w2.cell? ⟨w.heap.size + 1, 0, none⟩ = some (.int .i64 uk) ∧ w2.cell? ⟨w.heap.size + 1, 1, none⟩ = some (.int .i64 un) ∧ w2.cell? ⟨w.heap.size + 1, 2, none⟩ = some (.string us) ∧ w2.cell? ⟨w.heap.size + 1, 3, none⟩ = some (.slice uia uli uic) ∧ w2.cell? ⟨w.heap.size + 1, 4, none⟩ = some (.slice una unn unc)) := by
    intro x X hx w' hb
    have hxv : ValIn (fun k => k < w.heap.size) w' x X := by
      have hin : ∀ {x X}, IsVal w x X → ValIn (fun k => k < w.heap.size) w' x X := fun h => h.inside.keep fun k hS hl => ⟨(hb.block k (by omega)).trans (hb0.block k hl), hS⟩
      rcases hx with ⟨rfl, rfl⟩ | ⟨rfl, rfl⟩
      · exact hin hv
      · exact hin hu
    have hsz := hb.size
    refine (few_go 5 (by decide) 5 rfl w.heap.size X x w' (by omega) hxv).mono fun e w2 h => ?_
    obtain ⟨y, rfl, hy⟩ := h.is
    obtain ⟨yk, yn, ys, yia, yna, yli, yic, ynn, ync, rfl⟩ := hy.isVal.shape
    have hbb := Below.then hb h.below
    exact ⟨_, _, _, _, _, _, _, _, _, rfl, hbb, h.below, hy.keep fun k hS _ => ⟨rfl, by omega⟩, (hA0.keep hbb).cells, (hB0.keep hbb).cells⟩
  have HCF := Lib.hid CF
  have HB00 := Lib.hid (Below.refl W0.heap.size W0)
  have HA0 := Lib.hid hA0
  have HB0 := Lib.hid hB0
  have HBW := Lib.hid hb0
  have HS0 := Lib.hid hs0
  have HE := Lib.hid he
  have HW0 := Lib.hid hW0
  have hbw := Below.refl W0.heap.size W0
  have HFZ := Lib.hid (show ∀ w', Below W0.heap.size W0 w' → w'.frozen? ⟨w.heap.size, 0, none⟩ = false ∧ w'.frozen? ⟨w.heap.size, 1, none⟩ = false ∧ w'.frozen? ⟨w.heap.size, 2, none⟩ = false ∧ w'.frozen? ⟨w.heap.size, 3, none⟩ = false ∧ w'.frozen? ⟨w.heap.size, 4, none⟩ = false ∧ w'.frozen? ⟨w.heap.size + 1, 0, none⟩ = false ∧ w'.frozen? ⟨w.heap.size + 1, 1, none⟩ = false ∧ w'.frozen? ⟨w.heap.size + 1, 2, none⟩ = false ∧ w'.frozen? ⟨w.heap.size + 1, 3, none⟩ = false ∧ w'.frozen? ⟨w.heap.size + 1, 4, none⟩ = false from fun w' h =>
    have g := hA0.keep h
    have k := hB0.keep h
    ⟨g.frozen 0, g.frozen 1, g.frozen 2, g.frozen 3, g.frozen 4, k.frozen 0, k.frozen 1, k.frozen 2, k.frozen 3, k.frozen 4⟩)
  obtain ⟨a0, a1, a2, a3, a4⟩ := hA0.cells
  obtain ⟨b0, b1, b2, b3, b4⟩ := hB0.cells
  have PR := Lib.hid (fun T v w hv he => Print_t T v w hv he)
  have AL := Lib.hid (fun w he => alive_t w he)
  clear CF hb0 hs0 hA0 hB0 he hW0 hv hu
  go_enter Tryd.func7, Tryd.ntmps7
  go_upto_region 1 with fail
  rw [HW0.out]
  go_cut [16] from 15 to 18 (fun x wx => TwoFew w.heap.size (w.heap.size + 1) (fewV 5 T) (fewV 5 U) w wx)
  case first =>
    go_region_with (go_simp; go_at_call 13; first
      | (have _h := hY1; refine (HCF.out _ _ (by first | exact Or.inl ⟨rfl, rfl⟩ | exact Or.inr ⟨rfl, rfl⟩) _ (by first | exact hbw | exact hbw.drew)).mono ?_; rintro e w5 ⟨yk, yn, ys, yia, yli, yic, yna, ynn, ync, rfl, hbw5, hbd5, hY5, ⟨p0, p1, p2, p3, p4⟩, ⟨q0, q1, q2, q3, q4⟩⟩; obtain ⟨f0, f1, f2, f3, f4, r0, r1, r2, r3, r4⟩ := HFZ.out _ hbw5)
      | (refine (HCF.out _ _ (by first | exact Or.inl ⟨rfl, rfl⟩ | exact Or.inr ⟨rfl, rfl⟩) _ (by first | exact hbw | exact hbw.drew)).mono ?_; rintro e w4 ⟨xk, xn, xs, xia, xli, xic, xna, xnn, xnc, rfl, hbw, hbd, hY1, ⟨p0, p1, p2, p3, p4⟩, ⟨q0, q1, q2, q3, q4⟩⟩))
    all_goals
      go_wp2_with fail
      go_meet
      first
        | exact TwoFew.mk2 rfl rfl (Below.then HBW.out (hbw5.mono (Nat.le_refl _))) (HA0.out.keep hbw5) (HB0.out.keep hbw5) (hY1.keep fun k hS hl => ⟨hbd5.block k hl, hS⟩) hY5
        | exact TwoFew.mk2 rfl rfl (Below.then HBW.out (hbw5.mono (Nat.le_refl _))) (HA0.out.keep hbw5) (HB0.out.keep hbw5) hY5 (hY1.keep fun k hS hl => ⟨hbd5.block k hl, hS⟩)
  case rest =>
    have hbw1 := hcut.below
    obtain ⟨c0, c1, c2, c3, c4, h51, hv1⟩ := hcut.one
    obtain ⟨d0, d1, d2, d3, d4, h52, hv2⟩ := hcut.two
    obtain ⟨xk, xn, xs, xia, xna, xli, xic, xnn, xnc, hsh⟩ := hv1.shape
    simp only [Value.agg.injEq, Array.mk.injEq, List.cons.injEq, and_true] at hsh
    obtain ⟨rfl, rfl, rfl, rfl, rfl⟩ := hsh
    obtain ⟨yk, yn, ys, yia, yna, yli, yic, ynn, ync, hsh⟩ := hv2.shape
    simp only [Value.agg.injEq, Array.mk.injEq, List.cons.injEq, and_true] at hsh
    obtain ⟨rfl, rfl, rfl, rfl, rfl⟩ := hsh
    obtain ⟨T1, hT1⟩ : ∃ T1, fewV 5 T = T1 := ⟨_, rfl⟩
    obtain ⟨U1, hU1⟩ : ∃ U1, fewV 5 U = U1 := ⟨_, rfl⟩
    rw [hT1] at hv1
    rw [hU1] at hv2
    have HK := Lib.hid (show ∀ w3, Below wc.heap.size wc w3 → Below w.heap.size w w3 ∧ TEnv w3 ∧ At5 w3 w.heap.size (.int .i64 xk) (.int .i64 xn) (.string xs) (.slice xia xli xic) (.slice xna xnn xnc) ∧ At5 w3 (w.heap.size + 1) (.int .i64 yk) (.int .i64 yn) (.string ys) (.slice yia yli yic) (.slice yna ynn ync) ∧
        IsVal w3 (.agg #[.int .i64 xk, .int .i64 xn, .string xs, .slice xia xli xic, .slice xna xnn xnc]) T1 ∧ IsVal w3 (.agg #[.int .i64 yk, .int .i64 yn, .string ys, .slice yia yli yic, .slice yna ynn ync]) U1 from fun w3 h =>
      ⟨Below.then hbw1 h, HE.out.below (Below.then hbw1 h), h51.keep h, h52.keep h, hv1.keep h, hv2.keep h⟩)
    obtain ⟨a0, a1, a2, a3, a4⟩ := h51.cells
    have MN := Lib.hid (fun T v w hv => many_any T v 100 w hv (by decide) (by decide))
    have M1 := Lib.hid (MN.out T1 _ wc hv1)
    clear hcut hbw1 h51 h52 hv1 hv2 hT1 hU1 HCF HA0 HB0 HBW HS0 HB00 HFZ hbw b0 b1 b2 b3 b4
    go_wp2_with fail
    refine M1.out.mono ?_
    rintro e wm ⟨n1, hn1, hn1', rfl, hbm⟩
    have HBM := Lib.hid hbm
    obtain ⟨-, hem, g51, g52, hvm, hum⟩ := HK.out wm hbm
    have A1 := Lib.hid (AL.out wm hem)
    clear hbm hem a0 a1 a2 a3 a4
    by_cases hq1 : 100 < n1
    · clear g51 g52 hvm hum
      go_wp2_with fail
      refine A1.out.mono ?_
      rintro e w4 ⟨rfl, hb4⟩
      have HB4 := Lib.hid (HK.out w4 (Below.then HBM.out hb4)).1
      clear hb4
      go_wp2_with fail
      go_ret
      exact ⟨rfl, HB4.out⟩
    have M2 := Lib.hid (MN.out U1 _ wm hum)
    obtain ⟨b0, b1, b2, b3, b4⟩ := g52.cells
    clear g51 g52 hvm hum
    go_wp2_with fail
    refine M2.out.mono ?_
    rintro e wn ⟨n2, hn2, hn2', rfl, hbn⟩
    have HBN := Lib.hid (Below.then HBM.out hbn)
    obtain ⟨-, hen, g51, -, hvn, -⟩ := HK.out wn HBN.out
    have A2 := Lib.hid (AL.out wn hen)
    clear hbn b0 b1 b2 b3 b4
    by_cases hq2 : 100 < n2
    · clear hen g51 hvn
      go_wp2_with fail
      refine A2.out.mono ?_
      rintro e w4 ⟨rfl, hb4⟩
      have HB4 := Lib.hid (HK.out w4 (Below.then HBN.out hb4)).1
      clear hb4
      go_wp2_with fail
      go_ret
      exact ⟨rfl, HB4.out⟩
    obtain ⟨s1, k1, hp1⟩ : ∃ s k, printOut T1 = (s, k) := ⟨_, _, rfl⟩
    obtain ⟨s2, k2, hp2⟩ : ∃ s k, printOut U1 = (s, k) := ⟨_, _, rfl⟩
    obtain ⟨s3, k3, hp3⟩ : ∃ s k, printOut (.mk 4 0 ⟨#[]⟩ [T1] [⟨#[97]⟩]) = (s, k) := ⟨_, _, rfl⟩
    obtain ⟨s4, k4, hp4⟩ : ∃ s k, printOut (.mk 4 0 ⟨#[]⟩ [T1, U1] [⟨#[97]⟩, ⟨#[98]⟩]) = (s, k) := ⟨_, _, rfl⟩
    obtain ⟨s5, k5, hp5⟩ : ∃ s k, printOut (.mk 4 0 ⟨#[]⟩ [T1, U1] [⟨#[98]⟩, ⟨#[97]⟩]) = (s, k) := ⟨_, _, rfl⟩
    have hz1 : s1.size ≤ 4096 := by have := printOut_size T1; rwa [hp1] at this
    have hz2 : s2.size ≤ 4096 := by have := printOut_size U1; rwa [hp2] at this
    have hk5 : (k5 == 0) = false := by
      rw [beq_eq_false_iff_ne]
      intro h
      rw [h] at hp5
      have := (printOut_zero _ _ hp5).1
      rw [may_ba] at this
      cases this
    have HF3 := Lib.hid (fun h : k3 = 0 => parts_one T1 s1 s3 k1 hp1 (by rw [hp3, h]))
    have HF4 := Lib.hid (fun h : k4 = 0 => parts_two T1 U1 s1 s2 s3 s4 k1 k2 k3 hp1 hp2 hp3 (by rw [hp4, h]))
    have P1 := Lib.hid (PR.out T1 _ wn hvn hen)
    rw [hp1] at P1
    have HP2 := Lib.hid hp2
    have HP3 := Lib.hid hp3
    have HP4 := Lib.hid hp4
    have HP5 := Lib.hid hp5
    obtain ⟨a0, a1, a2, a3, a4⟩ := g51.cells
    clear hen g51 hvn hp1 hp2 hp3 hp4 hp5
    go_wp2_with fail
    refine P1.out.mono ?_
    rintro e w2 ⟨rfl, hb2⟩
    have HB2 := Lib.hid (Below.then HBN.out hb2)
    obtain ⟨-, he2, -, g52, -, hu2⟩ := HK.out w2 HB2.out
    have P2 := Lib.hid (PR.out U1 _ w2 hu2 he2)
    rw [HP2.out] at P2
    obtain ⟨b0, b1, b2, b3, b4⟩ := g52.cells
    clear hb2 he2 g52 hu2 a0 a1 a2 a3 a4
    go_wp2_with fail
    refine P2.out.mono ?_
    rintro e w3 ⟨rfl, hb3⟩
    have HB3 := Lib.hid (Below.then HB2.out hb3)
    clear hb3 b0 b1 b2 b3 b4
    obtain ⟨-, -, g51, g52, hv3, -⟩ := HK.out w3 HB3.out
    obtain ⟨V3, hW4⟩ : ∃ V3, (w3.alloc (.cells #[.string ⟨#[97]⟩] 9)).alloc (.cells #[.int .i64 xk, .int .i64 xn, .string xs, .slice xia xli xic, .slice xna xnn xnc] 25) = V3 := ⟨_, rfl⟩
    have hb4 : Below w3.heap.size w3 V3 := by rw [← hW4]; exact Below.then (below_new _ _) (below_new _ _)
    have hS4 : V3.heap[w3.heap.size]? = some (.cells #[.string ⟨#[97]⟩] 9 (0, 0)) := by
      rw [← hW4]; exact (Below.heap_alloc _ _ _ (by simp)).trans (heap_alloc_new _ _)
    have hR4 : V3.heap[w3.heap.size + 1]? = some (.cells #[.int .i64 xk, .int .i64 xn, .string xs, .slice xia xli xic, .slice xna xnn xnc] 25 (0, 0)) := by
      rw [← hW4]
      have e := heap_alloc_new (w3.alloc (.cells #[.string ⟨#[97]⟩] 9)) (.cells #[.int .i64 xk, .int .i64 xn, .string xs, .slice xia xli xic, .slice xna xnn xnc] 25)
      rwa [show (w3.alloc (.cells #[.string ⟨#[97]⟩] 9)).heap.size = w3.heap.size + 1 by simp] at e
    have HBV3 := Lib.hid (Below.then HB3.out hb4)
    have Q3 := Lib.hid (PR.out _ _ V3 (obj_one V3 _ _ T1 ⟨#[97]⟩ _ _ _ _ _ (by decide) (hv3.keep hb4) hS4 hR4) (HK.out V3 HBV3.out).2.1)
    rw [HP3.out] at Q3
    have HW3 := Lib.hid hW4
    obtain ⟨a0, a1, a2, a3, a4⟩ := (g51.keep (below_new w3 (.cells #[.string ⟨#[97]⟩] 9))).cells

    clear hW4 hb4 hS4 hR4 g51 g52 hv3
    go_wp2_with fail
    rw [HW3.out]
    refine Q3.out.mono ?_
    rintro e w4 ⟨rfl, hb5⟩
    have HB4 := Lib.hid (Below.then HBV3.out hb5)
    clear hb5 a0 a1 a2 a3 a4
    obtain ⟨-, -, g51, g52, hv3, hu3⟩ := HK.out w4 HB4.out
    obtain ⟨V4, hW4⟩ : ∃ V4, (w4.alloc (.cells #[.string ⟨#[97]⟩, .string ⟨#[98]⟩] 9)).alloc (.cells #[.int .i64 xk, .int .i64 xn, .string xs, .slice xia xli xic, .slice xna xnn xnc, .int .i64 yk, .int .i64 yn, .string ys, .slice yia yli yic, .slice yna ynn ync] 25) = V4 := ⟨_, rfl⟩
    have hb4 : Below w4.heap.size w4 V4 := by rw [← hW4]; exact Below.then (below_new _ _) (below_new _ _)
    have hS4 : V4.heap[w4.heap.size]? = some (.cells #[.string ⟨#[97]⟩, .string ⟨#[98]⟩] 9 (0, 0)) := by
      rw [← hW4]; exact (Below.heap_alloc _ _ _ (by simp)).trans (heap_alloc_new _ _)
    have hR4 : V4.heap[w4.heap.size + 1]? = some (.cells #[.int .i64 xk, .int .i64 xn, .string xs, .slice xia xli xic, .slice xna xnn xnc, .int .i64 yk, .int .i64 yn, .string ys, .slice yia yli yic, .slice yna ynn ync] 25 (0, 0)) := by
      rw [← hW4]
      have e := heap_alloc_new (w4.alloc (.cells #[.string ⟨#[97]⟩, .string ⟨#[98]⟩] 9)) (.cells #[.int .i64 xk, .int .i64 xn, .string xs, .slice xia xli xic, .slice xna xnn xnc, .int .i64 yk, .int .i64 yn, .string ys, .slice yia yli yic, .slice yna ynn ync] 25)
      rwa [show (w4.alloc (.cells #[.string ⟨#[97]⟩, .string ⟨#[98]⟩] 9)).heap.size = w4.heap.size + 1 by simp] at e
    have HBV4 := Lib.hid (Below.then HB4.out hb4)
    have Q4 := Lib.hid (PR.out _ _ V4 (obj_two V4 _ _ T1 U1 ⟨#[97]⟩ ⟨#[98]⟩ _ _ _ _ _ _ _ _ _ _ (by decide) (by decide) ((hv3.keep hb4)) (hu3.keep hb4) hS4 hR4) (HK.out V4 HBV4.out).2.1)
    rw [HP4.out] at Q4
    have HW4 := Lib.hid hW4
    obtain ⟨a0, a1, a2, a3, a4⟩ := (g51.keep (below_new w4 (.cells #[.string ⟨#[97]⟩, .string ⟨#[98]⟩] 9))).cells
    obtain ⟨b0, b1, b2, b3, b4⟩ := (g52.keep (below_new w4 (.cells #[.string ⟨#[97]⟩, .string ⟨#[98]⟩] 9))).cells
    clear hW4 hb4 hS4 hR4 g51 g52 hv3 hu3
    go_wp2_with fail
    rw [HW4.out]
    refine Q4.out.mono ?_
    rintro e w5 ⟨rfl, hb5⟩
    have HB5 := Lib.hid (Below.then HBV4.out hb5)
    clear hb5 a0 a1 a2 a3 a4 b0 b1 b2 b3 b4
    obtain ⟨-, -, g51, g52, hv3, hu3⟩ := HK.out w5 HB5.out
    obtain ⟨V5, hW4⟩ : ∃ V5, (w5.alloc (.cells #[.string ⟨#[98]⟩, .string ⟨#[97]⟩] 9)).alloc (.cells #[.int .i64 xk, .int .i64 xn, .string xs, .slice xia xli xic, .slice xna xnn xnc, .int .i64 yk, .int .i64 yn, .string ys, .slice yia yli yic, .slice yna ynn ync] 25) = V5 := ⟨_, rfl⟩
    have hb4 : Below w5.heap.size w5 V5 := by rw [← hW4]; exact Below.then (below_new _ _) (below_new _ _)
    have hS4 : V5.heap[w5.heap.size]? = some (.cells #[.string ⟨#[98]⟩, .string ⟨#[97]⟩] 9 (0, 0)) := by
      rw [← hW4]; exact (Below.heap_alloc _ _ _ (by simp)).trans (heap_alloc_new _ _)
    have hR4 : V5.heap[w5.heap.size + 1]? = some (.cells #[.int .i64 xk, .int .i64 xn, .string xs, .slice xia xli xic, .slice xna xnn xnc, .int .i64 yk, .int .i64 yn, .string ys, .slice yia yli yic, .slice yna ynn ync] 25 (0, 0)) := by
      rw [← hW4]
      have e := heap_alloc_new (w5.alloc (.cells #[.string ⟨#[98]⟩, .string ⟨#[97]⟩] 9)) (.cells #[.int .i64 xk, .int .i64 xn, .string xs, .slice xia xli xic, .slice xna xnn xnc, .int .i64 yk, .int .i64 yn, .string ys, .slice yia yli yic, .slice yna ynn ync] 25)
      rwa [show (w5.alloc (.cells #[.string ⟨#[98]⟩, .string ⟨#[97]⟩] 9)).heap.size = w5.heap.size + 1 by simp] at e
    have HBV5 := Lib.hid (Below.then HB5.out hb4)
    have Q5 := Lib.hid (PR.out _ _ V5 (obj_two V5 _ _ T1 U1 ⟨#[98]⟩ ⟨#[97]⟩ _ _ _ _ _ _ _ _ _ _ (by decide) (by decide) ((hv3.keep hb4)) (hu3.keep hb4) hS4 hR4) (HK.out V5 HBV5.out).2.1)
    rw [HP5.out] at Q5
    have HW5 := Lib.hid hW4
    obtain ⟨a0, a1, a2, a3, a4⟩ := (g51.keep (below_new w5 (.cells #[.string ⟨#[98]⟩, .string ⟨#[97]⟩] 9))).cells
    obtain ⟨b0, b1, b2, b3, b4⟩ := (g52.keep (below_new w5 (.cells #[.string ⟨#[98]⟩, .string ⟨#[97]⟩] 9))).cells
    clear hW4 hb4 hS4 hR4 g51 g52 hv3 hu3
    go_wp2_with fail
    rw [HW5.out]
    refine Q5.out.mono ?_
    rintro e w6 ⟨rfl, hb5⟩
    have HB6 := Lib.hid (Below.then HBV5.out hb5)
    clear hb5 a0 a1 a2 a3 a4 b0 b1 b2 b3 b4
    have A6 := Lib.hid (AL.out w6 (HK.out w6 HB6.out).2.1)
    by_cases hk4 : k4 = 0
    · obtain ⟨rfl, rfl, hq4⟩ := HF4.out hk4
      obtain ⟨rfl, hq3⟩ := HF3.out rfl
      subst hk4
      have hq3' : (s3.toList != (⟨#[123, 34, 97, 34, 58]⟩ ++ s1 ++ ⟨#[125]⟩ : ByteArray).toList) = false := by rw [bne, hq3]; rfl
      go_wp2_with fail
      refine A6.out.mono ?_
      rintro e w7 ⟨rfl, hb7⟩
      have HB7 := Lib.hid (HK.out w7 (Below.then HB6.out hb7)).1
      clear hb7
      go_wp2_with fail
      go_ret
      exact ⟨rfl, HB7.out⟩
    · have hk4a : (k4 == 0) = false := beq_eq_false_iff_ne.2 hk4
      have hk4b : (k4 != 0) = true := bne_iff_ne.2 hk4
      clear hk4
      by_cases hk3 : k3 = 0
      · obtain ⟨rfl, hq3⟩ := HF3.out hk3
        subst hk3
        have hq3' : (s3.toList != (⟨#[123, 34, 97, 34, 58]⟩ ++ s1 ++ ⟨#[125]⟩ : ByteArray).toList) = false := by rw [bne, hq3]; rfl
        go_wp2_with fail
        refine A6.out.mono ?_
        rintro e w7 ⟨rfl, hb7⟩
        have HB7 := Lib.hid (HK.out w7 (Below.then HB6.out hb7)).1
        clear hb7
        go_wp2_with fail
        go_ret
        exact ⟨rfl, HB7.out⟩
      · have hk3a : (k3 == 0) = false := beq_eq_false_iff_ne.2 hk3
        clear hk3
        go_wp2_with fail
        refine A6.out.mono ?_
        rintro e w7 ⟨rfl, hb7⟩
        have HB7 := Lib.hid (HK.out w7 (Below.then HB6.out hb7)).1
        clear hb7
        go_wp2_with fail
        go_ret
        exact ⟨rfl, HB7.out⟩
end Go.Proofs.YtlhnefeeihghgaaDoor
