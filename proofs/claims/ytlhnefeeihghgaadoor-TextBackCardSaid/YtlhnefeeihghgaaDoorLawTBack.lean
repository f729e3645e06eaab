/-
  TextBack's walk: it answers true. Conditions: what comes in reads as a tree; the package-level variables as TEnv says.
-/
import Derived.Test.YtlhnefeeihghgaaDoorLawTParts
namespace Go.Proofs.YtlhnefeeihghgaaDoor
open Go.RowKit

/-- Behind the call of 'few': what came in lies, cut, where it lay. -/
structure OneFew (V : Nat) (T : Val) (w0 w : World) : Prop where
  below : Below w0.heap.size w0 w
  one : ∃ c0 c1 c2 c3 c4, At5 w V c0 c1 c2 c3 c4 ∧ IsVal w (.agg #[c0, c1, c2, c3, c4]) T
theorem OneFew.mk1 {w w0 : World} {V : Nat} {T : Val} {a0 a1 a2 a3 a4 c0 c1 c2 c3 c4 : Value} (h1 : V = w0.heap.size) (hb : Below w0.heap.size w0 w) (hA : At5 w V a0 a1 a2 a3 a4)
    (hv : ValIn (fun k => k < w0.heap.size ∨ w0.heap.size + 1 ≤ k) w (.agg #[c0, c1, c2, c3, c4]) T) : OneFew V T w0 (set5 w V 0 c0 c1 c2 c3 c4) := by
  obtain ⟨s1, s2, s3⟩ := set5_rest w V 0 c0 c1 c2 c3 c4
  have hk : ∀ k, k ≠ V → (set5 w V 0 c0 c1 c2 c3 c4).heap[k]? = w.heap[k]? := fun k h => set5_block _ _ _ _ _ _ _ _ k h
  exact ⟨⟨s1.trans hb.os, s2.trans hb.tape, s3.trans hb.output, by rw [set5_size]; exact hb.size, fun k hk' => (hk k (by omega)).trans (hb.block k hk')⟩,
    ⟨_, _, _, _, _, set5_five0 hA c0 c1 c2 c3 c4, (hv.keep (S' := fun _ => True) fun k hS _ => ⟨hk k (by omega), trivial⟩).isVal⟩⟩
/-- How Parse ends, in two ways. -/
theorem parse_cases {s : ByteArray} {w w' : World} {e : Ending} (h : ParseEnds s w e w') : (∃ T v, parseV s = some T ∧ s.size ≤ 4096 ∧ e = .returned (.tuple #[v, .int .i64 0]) ∧ IsVal w' v T) ∨
    ∃ k : Int, (k == 0) = false ∧ e = .returned (.tuple #[.agg #[.int .i64 0, .int .i64 0, .string ⟨#[]⟩, .slice none 0 0, .slice none 0 0], .int .i64 k]) := by
  have hi := h.is
  by_cases hl : 4096 < s.size
  · rw [if_pos hl] at hi
    exact Or.inr ⟨2, rfl, hi⟩
  · rw [if_neg hl] at hi
    cases hp : parseV s with
    | none => rw [hp] at hi; exact Or.inr ⟨6, rfl, hi⟩
    | some T => rw [hp] at hi; obtain ⟨v, he, hv⟩ := hi; exact Or.inl ⟨T, v, rfl, by omega, he, hv⟩

set_option maxRecDepth 100000 in
set_option maxHeartbeats 8000000 in
theorem tback_walk (T : Val) (v : Value) (s : ByteArray) (w : World) (he : TEnv w) (hv : IsVal w v T) (_hs : s.size ≤ maxLen) :
    Calls Tryd.prog 4 #[v, .string s] w fun e w' => e = .returned (.bool true) ∧ Below w.heap.size w w' := by
  obtain ⟨vk, vn, vs, via, vna, vli, vic, vnn, vnc, rfl⟩ := hv.shape
  obtain ⟨W0, hW0⟩ : ∃ W0, w.alloc (.cells #[.int .i64 vk, .int .i64 vn, .string vs, .slice via vli vic, .slice vna vnn vnc] 25) = W0 := ⟨_, rfl⟩
  have hb0 : Below w.heap.size w W0 := by rw [← hW0]; exact below_new _ _
  have hs0 : W0.heap.size = w.heap.size + 1 := by rw [← hW0]; simp
  have hA0 : At5 W0 w.heap.size (.int .i64 vk) (.int .i64 vn) (.string vs) (.slice via vli vic) (.slice vna vnn vnc) := by rw [← hW0]; exact At5.new _ _ _ _ _ _
  have CF : ∀ w', Below W0.heap.size W0 w' → Calls Tryd.prog 13 #[.agg #[.int .i64 vk, .int .i64 vn, .string vs, .slice via vli vic, .slice vna vnn vnc], .int .i64 7] w' fun e w2 => ∃ yk yn ys yia yli yic yna ynn ync, e = .returned (.agg #[.int .i64 yk, .int .i64 yn, .string ys, .slice yia yli yic, .slice yna ynn ync]) ∧ Below W0.heap.size W0 w2 ∧
        ValIn (fun k => k < w.heap.size ∨ w.heap.size + 1 ≤ k) w2 (.agg #[.int .i64 yk, .int .i64 yn, .string ys, .slice yia yli yic, .slice yna ynn ync]) (fewV 7 T) ∧
        (w2.cell? ⟨w.heap.size, 0, none⟩ = some (.int .i64 vk) ∧ w2.cell? ⟨w.heap.size, 1, none⟩ = some (.int .i64 vn) ∧ w2.cell? ⟨w.heap.size, 2, none⟩ = some (.string vs) ∧ w2.cell? ⟨w.heap.size, 3, none⟩ = some (.slice via vli vic) ∧ w2.cell? ⟨w.heap.size, 4, none⟩ = some (.slice vna vnn vnc)) ∧
        (w2.frozen? ⟨w.heap.size, 0, none⟩ = false ∧ w2.frozen? ⟨w.heap.size, 1, none⟩ = false ∧ w2.frozen? ⟨w.heap.size, 2, none⟩ = false ∧ w2.frozen? ⟨w.heap.size, 3, none⟩ = false ∧ w2.frozen? ⟨w.heap.size, 4, none⟩ = false) := by
    intro w' hb
    have hxv : ValIn (fun k => k < w.heap.size) w' (.agg #[.int .i64 vk, .int .i64 vn, .string vs, .slice via vli vic, .slice vna vnn vnc]) T := hv.inside.keep fun k hS hl => ⟨(hb.block k (by omega)).trans (hb0.block k hl), hS⟩
    have hsz := hb.size
    refine (few_go 7 (by decide) 7 rfl w.heap.size T _ w' (by omega) hxv).mono fun e w2 h => ?_
    obtain ⟨y, rfl, hy⟩ := h.is
    obtain ⟨yk, yn, ys, yia, yna, yli, yic, ynn, ync, rfl⟩ := hy.isVal.shape
    have hbb := Below.then hb h.below
    have g := hA0.keep hbb
    exact ⟨_, _, _, _, _, _, _, _, _, rfl, hbb, hy.keep fun k hS _ => ⟨rfl, by omega⟩, g.cells, g.frozen 0, g.frozen 1, g.frozen 2, g.frozen 3, g.frozen 4⟩
  have HCF := Lib.hid CF
  have HA0 := Lib.hid hA0
  have HBW := Lib.hid hb0
  have HE := Lib.hid he
  have HW0 := Lib.hid hW0
  have hbw := Below.refl W0.heap.size W0
  obtain ⟨a0, a1, a2, a3, a4⟩ := hA0.cells
  have PR := Lib.hid (fun T v w hv he => Print_t T v w hv he)
  have AL := Lib.hid (fun w he => alive_t w he)
  have RT := Lib.hid (fun T v w hv => rightT_any T v w hv)
  have PA := Lib.hid (fun s w he hs => Parse_t s w he hs)
  obtain ⟨p, hp⟩ : ∃ p, min s.size 4200 = p := ⟨_, rfl⟩
  have hp' : min ((s.size : Nat) : Int) 4200 = (p : Int) := by omega
  have hps : p ≤ s.size := by omega
  obtain ⟨s', hs'⟩ : ∃ s', s.extract 0 p = s' := ⟨_, rfl⟩
  have HS' := Lib.hid hs'
  have HSZ := Lib.hid (show s'.size ≤ maxLen by rw [← hs', ByteArray.size_extract]; unfold maxLen; omega)
  clear CF hb0 hs0 hA0 he hW0 hv hs' hp
  go_enter Tryd.func4, Tryd.ntmps4
  go_upto_region 1 with fail
  rw [HW0.out]
  go_cut [1] from 13 to 19 (fun x wx => x = .string s' ∧ OneFew w.heap.size (fewV 7 T) w wx)
  case first =>
    go_region_with (go_simp; go_at_call 13; refine (HCF.out _ (by first | exact hbw | exact hbw.drew)).mono ?_; rintro e w5 ⟨yk, yn, ys, yia, yli, yic, yna, ynn, ync, rfl, hbw5, hY5, ⟨p0, p1, p2, p3, p4⟩, ⟨f0, f1, f2, f3, f4⟩⟩)
    all_goals
      go_wp2_with fail
      go_meet
      exact ⟨by rw [HS'.out], OneFew.mk1 rfl (Below.then HBW.out (hbw5.mono (Nat.le_refl _))) (HA0.out.keep hbw5) hY5⟩
  case rest =>
    obtain ⟨rfl, hcut⟩ := hcut
    have hbw1 := hcut.below
    obtain ⟨c0, c1, c2, c3, c4, h51, hv1⟩ := hcut.one
    obtain ⟨xk, xn, xs, xia, xna, xli, xic, xnn, xnc, hsh⟩ := hv1.shape
    simp only [Value.agg.injEq, Array.mk.injEq, List.cons.injEq, and_true] at hsh
    obtain ⟨rfl, rfl, rfl, rfl, rfl⟩ := hsh
    obtain ⟨T1, hT1⟩ : ∃ T1, fewV 7 T = T1 := ⟨_, rfl⟩
    rw [hT1] at hv1
    have HK := Lib.hid (show ∀ w3, Below wc.heap.size wc w3 → Below w.heap.size w w3 ∧ TEnv w3 ∧ At5 w3 w.heap.size (.int .i64 xk) (.int .i64 xn) (.string xs) (.slice xia xli xic) (.slice xna xnn xnc) ∧ IsVal w3 (.agg #[.int .i64 xk, .int .i64 xn, .string xs, .slice xia xli xic, .slice xna xnn xnc]) T1 from fun w3 h =>
      ⟨Below.then hbw1 h, HE.out.below (Below.then hbw1 h), h51.keep h, hv1.keep h⟩)
    obtain ⟨a0, a1, a2, a3, a4⟩ := h51.cells
    have P1 := Lib.hid (PR.out T1 _ wc hv1 (HE.out.below hbw1))
    obtain ⟨s1, k1, hp1⟩ : ∃ s k, printOut T1 = (s, k) := ⟨_, _, rfl⟩
    rw [hp1] at P1
    have HP1 := Lib.hid hp1
    clear hcut hbw1 h51 hv1 hT1 hp1 HCF HA0 HBW hbw hp' hps
    go_wp2_with fail
    refine P1.out.mono ?_
    rintro e w2 ⟨rfl, hb2⟩
    have HB2 := Lib.hid hb2
    clear hb2 a0 a1 a2 a3 a4
    rcases printOut_cases T1 with ⟨hm1, hl1, hq1⟩ | ⟨kk, hk1, -, hq1⟩
    · rw [HP1.out] at hq1
      simp only [Prod.mk.injEq] at hq1
      obtain ⟨hs1, rfl⟩ := hq1
      have hz1 : s1.size ≤ 4096 := by rw [hs1, Lib.size_eq]; exact hl1
      have HPV := Lib.hid (show parseV s1 = some T1 from (parseV_iff _ _).2 ⟨hm1, by rw [hs1]⟩)
      have Q1 := Lib.hid (PA.out s1 w2 (HK.out w2 HB2.out).2.1 (by unfold maxLen; omega))
      clear hs1 hl1 hm1
      go_wp2_with fail
      refine Q1.out.mono ?_
      intro e w3 hx
      have HB3 := Lib.hid (Below.then HB2.out hx.below)
      have hi := hx.is
      rw [if_neg (by omega), HPV.out] at hi
      obtain ⟨v3, rfl, hv3⟩ := hi
      obtain ⟨yk, yn, ys, yia, yna, yli, yic, ynn, ync, rfl⟩ := hv3.shape
      obtain ⟨W4, hW4⟩ : ∃ W4, w3.alloc (.cells #[.int .i64 yk, .int .i64 yn, .string ys, .slice yia yli yic, .slice yna ynn ync] 25) = W4 := ⟨_, rfl⟩
      have hb4 : Below w3.heap.size w3 W4 := by rw [← hW4]; exact below_new _ _
      have h54 : At5 W4 w3.heap.size (.int .i64 yk) (.int .i64 yn) (.string ys) (.slice yia yli yic) (.slice yna ynn ync) := by rw [← hW4]; exact At5.new _ _ _ _ _ _
      have HB4 := Lib.hid (Below.then HB3.out hb4)
      obtain ⟨-, -, g51, gv⟩ := HK.out W4 HB4.out
      have L4 := Lib.hid (like_any T1 T1 _ _ W4 gv (hv3.keep hb4))
      rw [likeV_refl] at L4
      obtain ⟨a0, a1, a2, a3, a4⟩ := g51.cells
      obtain ⟨b0, b1, b2, b3, b4⟩ := h54.cells
      have HW4 := Lib.hid hW4
      clear hx hv3 hb4 h54 g51 gv hW4
      go_upto_region 5 with fail
      rw [HW4.out]
      go_wp2_with fail
      refine L4.out.mono ?_
      rintro e w5 ⟨rfl, hb5⟩
      have HB5 := Lib.hid (Below.then HB4.out hb5)
      have Q5 := Lib.hid (PA.out s' w5 (HK.out w5 HB5.out).2.1 HSZ.out)
      clear hb5 a0 a1 a2 a3 a4 b0 b1 b2 b3 b4
      go_wp2_with fail
      refine Q5.out.mono ?_
      intro e w6 hx
      have HB6 := Lib.hid (Below.then HB5.out hx.below)
      rcases parse_cases hx with ⟨T2, v2, hpv, hsz, rfl, hv2⟩ | ⟨k, hk, rfl⟩
      · obtain ⟨hm2, ht2⟩ := (parseV_iff _ _).1 hpv
        have HP2 := Lib.hid (show printOut T2 = (s', 0) by
          rw [printOut_ok T2 hm2 (by rw [ht2, ← Lib.size_eq]; exact hsz), ht2])
        have HM2 := Lib.hid hm2
        obtain ⟨zk, zn, zs, zia, zna, zli, zic, znn, znc, rfl⟩ := hv2.shape
        obtain ⟨W7, hW7⟩ : ∃ W7, w6.alloc (.cells #[.int .i64 zk, .int .i64 zn, .string zs, .slice zia zli zic, .slice zna znn znc] 25) = W7 := ⟨_, rfl⟩
        have hb7 : Below w6.heap.size w6 W7 := by rw [← hW7]; exact below_new _ _
        have h57 : At5 W7 w6.heap.size (.int .i64 zk) (.int .i64 zn) (.string zs) (.slice zia zli zic) (.slice zna znn znc) := by rw [← hW7]; exact At5.new _ _ _ _ _ _
        have HB7 := Lib.hid (Below.then HB6.out hb7)
        have HV7 := Lib.hid (hv2.keep hb7)
        have P7 := Lib.hid (PR.out T2 _ W7 HV7.out (HK.out W7 HB7.out).2.1)
        rw [HP2.out] at P7
        have H57 := Lib.hid h57
        have HW7 := Lib.hid hW7
        obtain ⟨a0, a1, a2, a3, a4⟩ := h57.cells
        clear hx hpv hsz hv2 hm2 ht2 hb7 h57 hW7
        go_upto_region 8 with fail
        rw [HW7.out]
        go_wp2_with fail
        refine P7.out.mono ?_
        rintro e w8 ⟨rfl, hb8⟩
        have HB8 := Lib.hid (Below.then HB7.out hb8)
        have HX8 := Lib.hid hb8
        have A8 := Lib.hid (AL.out w8 (HK.out w8 HB8.out).2.1)
        clear hb8 a0 a1 a2 a3 a4
        have hse : (s'.toList == s'.toList) = true := beq_self_eq_true _
        go_wp2_with fail
        refine A8.out.mono ?_
        rintro e w9 ⟨rfl, hb9⟩
        have HB9 := Lib.hid (Below.then HB8.out hb9)
        have hb79 := Below.then HX8.out hb9
        have R9 := Lib.hid (RT.out T2 _ w9 (HV7.out.keep hb79))
        rw [HM2.out] at R9
        obtain ⟨a0, a1, a2, a3, a4⟩ := (H57.out.keep hb79).cells
        clear hb9 hb79
        go_wp2_with fail
        refine R9.out.mono ?_
        rintro e w10 ⟨rfl, hb10⟩
        have HB10 := Lib.hid (HK.out w10 (Below.then HB9.out hb10)).1
        clear hb10 a0 a1 a2 a3 a4
        go_wp2_with fail
        go_ret
        exact ⟨rfl, HB10.out⟩
      · have hk' : (k != 0) = true := by rw [bne, hk]; rfl
        obtain ⟨W7, hW7⟩ : ∃ W7, w6.alloc (.cells #[.int .i64 0, .int .i64 0, .string ⟨#[]⟩, .slice none 0 0, .slice none 0 0] 25) = W7 := ⟨_, rfl⟩
        have hb7 : Below w6.heap.size w6 W7 := by rw [← hW7]; exact below_new _ _
        have h57 : At5 W7 w6.heap.size (.int .i64 0) (.int .i64 0) (.string ⟨#[]⟩) (.slice none 0 0) (.slice none 0 0) := by rw [← hW7]; exact At5.new _ _ _ _ _ _
        have HB7 := Lib.hid (Below.then HB6.out hb7)
        have A7 := Lib.hid (AL.out W7 (HK.out W7 HB7.out).2.1)
        have H57 := Lib.hid h57
        have HW7 := Lib.hid hW7
        clear hx hb7 h57 hW7
        go_upto_region 8 with fail
        rw [HW7.out]
        go_wp2_with fail
        refine A7.out.mono ?_
        rintro e w8 ⟨rfl, hb8⟩
        have HB8 := Lib.hid (HK.out w8 (Below.then HB7.out hb8)).1
        obtain ⟨a0, a1, a2, a3, a4⟩ := (H57.out.keep hb8).cells
        clear hb8
        go_wp2_with fail
        go_ret
        exact ⟨rfl, HB8.out⟩
    · rw [HP1.out] at hq1
      simp only [Prod.mk.injEq] at hq1
      obtain ⟨rfl, rfl⟩ := hq1
      have HB5 := HB2
      have Q5 := Lib.hid (PA.out s' w2 (HK.out w2 HB2.out).2.1 HSZ.out)
      go_wp2_with fail
      refine Q5.out.mono ?_
      intro e w6 hx
      have HB6 := Lib.hid (Below.then HB5.out hx.below)
      rcases parse_cases hx with ⟨T2, v2, hpv, hsz, rfl, hv2⟩ | ⟨k, hk, rfl⟩
      · obtain ⟨hm2, ht2⟩ := (parseV_iff _ _).1 hpv
        have HP2 := Lib.hid (show printOut T2 = (s', 0) by
          rw [printOut_ok T2 hm2 (by rw [ht2, ← Lib.size_eq]; exact hsz), ht2])
        have HM2 := Lib.hid hm2
        obtain ⟨zk, zn, zs, zia, zna, zli, zic, znn, znc, rfl⟩ := hv2.shape
        obtain ⟨W7, hW7⟩ : ∃ W7, w6.alloc (.cells #[.int .i64 zk, .int .i64 zn, .string zs, .slice zia zli zic, .slice zna znn znc] 25) = W7 := ⟨_, rfl⟩
        have hb7 : Below w6.heap.size w6 W7 := by rw [← hW7]; exact below_new _ _
        have h57 : At5 W7 w6.heap.size (.int .i64 zk) (.int .i64 zn) (.string zs) (.slice zia zli zic) (.slice zna znn znc) := by rw [← hW7]; exact At5.new _ _ _ _ _ _
        have HB7 := Lib.hid (Below.then HB6.out hb7)
        have HV7 := Lib.hid (hv2.keep hb7)
        have P7 := Lib.hid (PR.out T2 _ W7 HV7.out (HK.out W7 HB7.out).2.1)
        rw [HP2.out] at P7
        have H57 := Lib.hid h57
        have HW7 := Lib.hid hW7
        obtain ⟨a0, a1, a2, a3, a4⟩ := h57.cells
        clear hx hpv hsz hv2 hm2 ht2 hb7 h57 hW7
        go_upto_region 8 with fail
        rw [HW7.out]
        go_wp2_with fail
        refine P7.out.mono ?_
        rintro e w8 ⟨rfl, hb8⟩
        have HB8 := Lib.hid (Below.then HB7.out hb8)
        have HX8 := Lib.hid hb8
        have A8 := Lib.hid (AL.out w8 (HK.out w8 HB8.out).2.1)
        clear hb8 a0 a1 a2 a3 a4
        have hse : (s'.toList == s'.toList) = true := beq_self_eq_true _
        go_wp2_with fail
        refine A8.out.mono ?_
        rintro e w9 ⟨rfl, hb9⟩
        have HB9 := Lib.hid (Below.then HB8.out hb9)
        have hb79 := Below.then HX8.out hb9
        have R9 := Lib.hid (RT.out T2 _ w9 (HV7.out.keep hb79))
        rw [HM2.out] at R9
        obtain ⟨a0, a1, a2, a3, a4⟩ := (H57.out.keep hb79).cells
        clear hb9 hb79
        go_wp2_with fail
        refine R9.out.mono ?_
        rintro e w10 ⟨rfl, hb10⟩
        have HB10 := Lib.hid (HK.out w10 (Below.then HB9.out hb10)).1
        clear hb10 a0 a1 a2 a3 a4
        go_wp2_with fail
        go_ret
        exact ⟨rfl, HB10.out⟩
      · have hk' : (k != 0) = true := by rw [bne, hk]; rfl
        obtain ⟨W7, hW7⟩ : ∃ W7, w6.alloc (.cells #[.int .i64 0, .int .i64 0, .string ⟨#[]⟩, .slice none 0 0, .slice none 0 0] 25) = W7 := ⟨_, rfl⟩
        have hb7 : Below w6.heap.size w6 W7 := by rw [← hW7]; exact below_new _ _
        have h57 : At5 W7 w6.heap.size (.int .i64 0) (.int .i64 0) (.string ⟨#[]⟩) (.slice none 0 0) (.slice none 0 0) := by rw [← hW7]; exact At5.new _ _ _ _ _ _
        have HB7 := Lib.hid (Below.then HB6.out hb7)
        have A7 := Lib.hid (AL.out W7 (HK.out W7 HB7.out).2.1)
        have H57 := Lib.hid h57
        have HW7 := Lib.hid hW7
        clear hx hb7 h57 hW7
        go_upto_region 8 with fail
        rw [HW7.out]
        go_wp2_with fail
        refine A7.out.mono ?_
        rintro e w8 ⟨rfl, hb8⟩
        have HB8 := Lib.hid (HK.out w8 (Below.then HB7.out hb8)).1
        obtain ⟨a0, a1, a2, a3, a4⟩ := (H57.out.keep hb8).cells
        clear hb8
        go_wp2_with fail
        go_ret
        exact ⟨rfl, HB8.out⟩
end Go.Proofs.YtlhnefeeihghgaaDoor
