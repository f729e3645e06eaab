/-
  TextDeep's walk: it answers true. Conditions: what comes in reads as a tree; the package-level variables as TEnv says.
-/
import Derived.Test.YtlhnefeeihghgaaDoorFew2
import Derived.Test.YtlhnefeeihghgaaDoorTextLaws
import Derived.BigRegion
namespace Go.Proofs.YtlhnefeeihghgaaDoor
open Go.RowKit

set_option maxRecDepth 100000 in
theorem deep1_t (s : ByteArray) (hs : s.size ≤ maxLen) (w : World) :
    Calls Tryd.prog 16 #[.string s] w fun e w' => e = .returned (.bool (wordB s)) ∧ Below w.heap.size w w' := by
  have C := Lib.hid (fun w => rightT_any (.mk 2 0 s [] []) _ w (ValIn.plain (fun _ => True) w 2 0 s (by decide) (by decide) hs).isVal)
  rw [mayV_word] at C
  go_enter Tryd.func16, Tryd.ntmps16
  go_wp2_with fail
  refine (C.out w).mono ?_
  rintro e w1 ⟨rfl, hb⟩
  have HB := Lib.hid hb
  clear hb
  go_wp2_with fail
  go_ret
  exact ⟨rfl, HB.out⟩

/-- The loop's state: the value in its rows lies in block D. -/
structure StDeep (D : Nat) (T : Val) (w0 : World) (j : Nat) (w : World) : Prop where
  below : Below D w0 w
  low : D < w.heap.size
  val : ∃ c0 c1 c2 c3 c4, At5 w D c0 c1 c2 c3 c4 ∧ ValIn (fun k => k ≠ D) w (.agg #[c0, c1, c2, c3, c4]) (wrapV j T)
  was : 0 < j → mayV 6 T = true
/-- One row more around the value of block D. -/
theorem StDeep.step {D j : Nat} {T : Val} {w0 w w1 : World} {c0 c1 c2 c3 c4 : Value} (h : StDeep D T w0 j w) (h5 : At5 w1 D c0 c1 c2 c3 c4) (hb : Below w.heap.size w w1) (hv : ValIn (fun k => k ≠ D) w1 (.agg #[c0, c1, c2, c3, c4]) (wrapV j T)) (hm : mayV 6 (wrapV j T) = true) :
    StDeep D T w0 (j + 1) (set5 (w1.alloc (.cells #[c0, c1, c2, c3, c4] 25)) D 0 (.int .i64 3) (.int .i64 0) (.string ⟨#[]⟩) (.slice (some ⟨w1.heap.size, 0, none⟩) 1 1) (.slice none 0 0)) := by
  have hlt := h5.lt
  have hb1 := below_new w1 (.cells #[c0, c1, c2, c3, c4] 25)
  obtain ⟨s1, s2, s3⟩ := set5_rest (w1.alloc (.cells #[c0, c1, c2, c3, c4] 25)) D 0 (.int .i64 3) (.int .i64 0) (.string ⟨#[]⟩) (.slice (some ⟨w1.heap.size, 0, none⟩) 1 1) (.slice none 0 0)
  have hbd : Below D w0 (w1.alloc (.cells #[c0, c1, c2, c3, c4] 25)) := h.below.trans ((Below.then hb hb1).mono (Nat.le_of_lt h.low))
  refine ⟨⟨s1.trans hbd.os, s2.trans hbd.tape, s3.trans hbd.output, by rw [set5_size]; exact hbd.size, fun k hk => (set5_block _ _ _ _ _ _ _ _ k (by omega)).trans (hbd.block k hk)⟩, by rw [set5_size]; simp; omega, ?_, ?_⟩
  · refine ⟨_, _, _, _, _, set5_five0 (h5.keep hb1) _ _ _ _ _, ?_⟩
    have hne : w1.heap.size ≠ D := by omega
    have hx : ∀ k, k ≠ D → k < w1.heap.size → (set5 (w1.alloc (.cells #[c0, c1, c2, c3, c4] 25)) D 0 (.int .i64 3) (.int .i64 0) (.string ⟨#[]⟩) (.slice (some ⟨w1.heap.size, 0, none⟩) 1 1) (.slice none 0 0)).heap[k]? = w1.heap[k]? := fun k hk hl => (set5_block _ _ _ _ _ _ _ _ k hk).trans (hb1.block k hl)
    obtain ⟨q0, q1, q2, q3, q4⟩ := (At5.new w1 c0 c1 c2 c3 c4).cells
    have kc : ∀ {i : Nat} {v : Value}, (w1.alloc (.cells #[c0, c1, c2, c3, c4] 25)).cell? ⟨w1.heap.size, i, none⟩ = some v → (set5 (w1.alloc (.cells #[c0, c1, c2, c3, c4] 25)) D 0 (.int .i64 3) (.int .i64 0) (.string ⟨#[]⟩) (.slice (some ⟨w1.heap.size, 0, none⟩) 1 1) (.slice none 0 0)).cell? ⟨w1.heap.size, i, none⟩ = some v :=
      fun {i v} hc => (World.cell?_of_block (a := ⟨w1.heap.size, i, none⟩) (set5_block _ _ _ _ _ _ _ _ _ hne)).trans hc
    refine .mk 3 0 ⟨#[]⟩ _ _ [wrapV j T] [] (fun _ => .agg #[c0, c1, c2, c3, c4]) (by decide) (by decide) (by decide) (Or.inl ⟨rfl, Or.inl rfl⟩) (fun h => absurd h (by simp)) (by simp) (Or.inr ⟨w1.heap.size, 0, 1, rfl, by simp, by simp, by decide, fun i hi => ?_⟩) (fun _ => ⟨w1.heap.size, 0, 1, 1, rfl, hne⟩) (fun i hi => ?_)
    · obtain rfl : i = 0 := by simp at hi; omega
      exact ⟨c0, c1, c2, c3, c4, rfl, kc q0, kc q1, kc q2, kc q3, kc q4⟩
    · obtain rfl : i = 0 := by simp at hi; omega
      exact hv.keep fun k hS hl => ⟨hx k hS hl, hS⟩
  · intro _
    rcases Nat.eq_zero_or_pos j with rfl | hj
    · exact hm
    · exact h.was hj

/-- Two members of numbers, by names. -/
theorem two_val (w : World) (R S : Nat) (a b : ByteArray) (ha : a.size ≤ maxLen) (hb : b.size ≤ maxLen)
    (hR : w.heap[R]? = some (.cells #[.int .i64 1, .int .i64 1, .string ⟨#[]⟩, .slice none 0 0, .slice none 0 0, .int .i64 1, .int .i64 1, .string ⟨#[]⟩, .slice none 0 0, .slice none 0 0] 25 (0, 0)))
    (hS : w.heap[S]? = some (.cells #[.string a, .string b] 9 (0, 0))) :
    IsVal w (.agg #[.int .i64 4, .int .i64 0, .string ⟨#[]⟩, .slice (some ⟨R, 0, none⟩) 2 2, .slice (some ⟨S, 0, none⟩) 2 2]) (.mk 4 0 ⟨#[]⟩ [.mk 1 1 ⟨#[]⟩ [] [], .mk 1 1 ⟨#[]⟩ [] []] [a, b]) := by
  refine .mk 4 0 ⟨#[]⟩ _ _ _ [a, b] (fun _ => .agg #[.int .i64 1, .int .i64 1, .string ⟨#[]⟩, .slice none 0 0, .slice none 0 0]) (by decide) (by decide) (by decide) (Or.inr ⟨S, 0, 2, rfl, by simp, by simp, by decide, fun i hi => ?_⟩) ?_ (Or.inr ⟨R, 0, 2, rfl, by simp, by simp, by decide, fun i hi => ?_⟩) (fun i hi => ?_)
  · have : i = 0 ∨ i = 1 := by simp at hi; omega
    rcases this with rfl | rfl <;> simp [World.cell?, hS]
  · intro x hx
    simp at hx
    rcases hx with rfl | rfl
    · exact ha
    · exact hb
  · have : i = 0 ∨ i = 1 := by simp at hi; omega
    rcases this with rfl | rfl <;> (refine ⟨_, _, _, _, _, rfl, ?_, ?_, ?_, ?_, ?_⟩ <;> simp [World.cell?, hR])
  · have : i = 0 ∨ i = 1 := by simp at hi; omega
    rcases this with rfl | rfl <;> exact (ValIn.plain (fun _ => True) w 1 1 ⟨#[]⟩ (by decide) (by decide) (by decide)).isVal
theorem mayV_one : mayV 5 (.mk 1 1 ⟨#[]⟩ [] []) = true := by kernel_rfl

set_option maxRecDepth 100000 in
set_option maxHeartbeats 8000000 in
theorem tdeep_walk (T : Val) (v : Value) (a b : ByteArray) (w : World) (he : TEnv w) (hv : IsVal w v T) (_ha : a.size ≤ maxLen) (_hb : b.size ≤ maxLen) :
    Calls Tryd.prog 6 #[v, .string a, .string b] w fun e w' => e = .returned (.bool true) ∧ Below w.heap.size w w' := by
  obtain ⟨vk, vn, vs, via, vna, vli, vic, vnn, vnc, rfl⟩ := hv.shape
  obtain ⟨W0, hW0⟩ : ∃ W0, w.alloc (.cells #[.int .i64 vk, .int .i64 vn, .string vs, .slice via vli vic, .slice vna vnn vnc] 25) = W0 := ⟨_, rfl⟩
  have hb0 : Below w.heap.size w W0 := by rw [← hW0]; exact below_new _ _
  have hs0 : W0.heap.size = w.heap.size + 1 := by rw [← hW0]; simp
  have hV0 : At5 W0 w.heap.size (.int .i64 vk) (.int .i64 vn) (.string vs) (.slice via vli vic) (.slice vna vnn vnc) := by rw [← hW0]; exact At5.new _ _ _ _ _ _
  have CF := Lib.hid (few_go 7 (by decide) 7 rfl w.heap.size T _ W0 (by omega) (hv.inside.keep (S' := fun k => k < w.heap.size) fun k hS hl => ⟨hb0.block k hl, hS⟩))
  have HB0 := Lib.hid hb0
  have HS0 := Lib.hid hs0
  have HV0 := Lib.hid hV0
  have HE := Lib.hid he
  have HW0 := Lib.hid hW0
  obtain ⟨p, hp⟩ : ∃ p, min a.size 100 = p := ⟨_, rfl⟩
  obtain ⟨q, hq⟩ : ∃ q, min b.size 100 = q := ⟨_, rfl⟩
  obtain ⟨a', ha'⟩ : ∃ a', a.extract 0 p = a' := ⟨_, rfl⟩
  obtain ⟨b', hb'⟩ : ∃ b', b.extract 0 q = b' := ⟨_, rfl⟩
  have HA := Lib.hid ha'
  have HBB := Lib.hid hb'
  have HAZ := Lib.hid (show a'.size ≤ maxLen by rw [← ha', ByteArray.size_extract]; unfold maxLen; omega)
  have HBZ := Lib.hid (show b'.size ≤ maxLen by rw [← hb', ByteArray.size_extract]; unfold maxLen; omega)
  have hp' : min ((a.size : Nat) : Int) 100 = (p : Int) := by omega
  have hq' : min ((b.size : Nat) : Int) 100 = (q : Int) := by omega
  have hpa : p ≤ a.size := by omega
  have hqb : q ≤ b.size := by omega
  have RT := Lib.hid (fun T v w hv => rightT_any T v w hv)
  have AL := Lib.hid (fun w he => alive_t w he)
  have D1 := Lib.hid (fun s hs w => deep1_t s hs w)
  clear hW0 hb0 hs0 hV0 he hv hp hq ha' hb'
  go_enter Tryd.func6, Tryd.ntmps6
  go_wp2_with fail
  rw [HW0.out]
  refine CF.out.mono ?_
  intro e w1 hx
  obtain ⟨v', rfl, hv'⟩ := hx.is
  have hbx := hx.below
  clear hx
  obtain ⟨xk, xn, xs, xia, xna, xli, xic, xnn, xnc, rfl⟩ := hv'.isVal.shape
  have h5 := HV0.out.keep hbx
  obtain ⟨z0, z1, z2, z3, z4⟩ := h5.cells
  have f0 := h5.frozen 0
  have f1 := h5.frozen 1
  have f2 := h5.frozen 2
  have f3 := h5.frozen 3
  have f4 := h5.frozen 4
  obtain ⟨W1, hW1⟩ : ∃ W1, ((((w1.setCell ⟨w.heap.size, 0, none⟩ (.int .i64 xk)).setCell ⟨w.heap.size, 1, none⟩ (.int .i64 xn)).setCell ⟨w.heap.size, 2, none⟩ (.string xs)).setCell ⟨w.heap.size, 3, none⟩ (.slice xia xli xic)).setCell ⟨w.heap.size, 4, none⟩ (.slice xna xnn xnc) = W1 := ⟨_, rfl⟩
  have hW1' : W1 = set5 w1 w.heap.size 0 (.int .i64 xk) (.int .i64 xn) (.string xs) (.slice xia xli xic) (.slice xna xnn xnc) := hW1.symm
  have h51 : At5 W1 w.heap.size (.int .i64 xk) (.int .i64 xn) (.string xs) (.slice xia xli xic) (.slice xna xnn xnc) := by rw [hW1']; exact set5_five0 h5 _ _ _ _ _
  obtain ⟨s1, s2, s3⟩ := set5_rest w1 w.heap.size 0 (.int .i64 xk) (.int .i64 xn) (.string xs) (.slice xia xli xic) (.slice xna xnn xnc)
  rw [← hW1'] at s1 s2 s3
  have hsz1 : W1.heap.size = w1.heap.size := by rw [hW1', set5_size]
  have hb1 : Below w.heap.size w W1 := by
    have hb := Below.then HB0.out hbx
    exact ⟨s1.trans hb.os, s2.trans hb.tape, s3.trans hb.output, by rw [hsz1]; exact hb.size, fun k hk => by rw [hW1', set5_block _ _ _ _ _ _ _ _ k (by omega)]; exact hb.block k hk⟩
  have hv1 : IsVal W1 (.agg #[.int .i64 xk, .int .i64 xn, .string xs, .slice xia xli xic, .slice xna xnn xnc]) (fewV 7 T) :=
    (hv'.keep (S' := fun _ => True) fun k hS hl => ⟨by rw [hW1', set5_block _ _ _ _ _ _ _ _ k (by have := HS0.out; omega)], trivial⟩).isVal
  have HW1 := Lib.hid hW1
  have H51 := Lib.hid h51
  have HB1 := Lib.hid hb1
  have HV1 := Lib.hid hv1
  have HE1 := Lib.hid (HE.out.below hb1)
  clear hW1 hW1' h51 s1 s2 s3 hsz1 hb1 hv1 hbx h5 hv'
  obtain ⟨g0, g1, g2, g3, g4⟩ := H51.out.cells
  go_wp2_with fail
  go_region
  rw [HW1.out, HA.out, HBB.out]
  clear z0 z1 z2 z3 z4 f0 f1 f2 f3 f4 hp' hq' hpa hqb
  obtain ⟨W2, hW2⟩ : ∃ W2, (W1.alloc (.cells #[.int .i64 xk, .int .i64 xn, .string xs, .slice xia xli xic, .slice xna xnn xnc] 25)).drew = W2 := ⟨_, rfl⟩
  have hb2 : Below W1.heap.size W1 W2 := by rw [← hW2]; exact (below_new W1 _).drew
  have hz2 : W2.heap.size = W1.heap.size + 1 := by rw [← hW2]; simp
  have h52 : At5 W2 W1.heap.size (.int .i64 xk) (.int .i64 xn) (.string xs) (.slice xia xli xic) (.slice xna xnn xnc) := by rw [← hW2]; exact At5.new W1 _ _ _ _ _
  have HST0 := Lib.hid (show StDeep W1.heap.size (fewV 7 T) W2 0 W2 from ⟨Below.refl _ _, by omega, ⟨_, _, _, _, _, h52, HV1.out.inside.keep fun k hS hl => ⟨hb2.block k hl, by omega⟩⟩, fun h => absurd h (Nat.lt_irrefl 0)⟩)
  have HW2 := Lib.hid hW2
  have HVV := Lib.hid (show ∀ w3, Below W1.heap.size W2 w3 → Below w.heap.size w w3 ∧ At5 w3 w.heap.size (.int .i64 xk) (.int .i64 xn) (.string xs) (.slice xia xli xic) (.slice xna xnn xnc) ∧ IsVal w3 (.agg #[.int .i64 xk, .int .i64 xn, .string xs, .slice xia xli xic, .slice xna xnn xnc]) (fewV 7 T) from fun w3 h =>
    have h' : Below W1.heap.size W1 w3 := hb2.trans h
    ⟨Below.then HB1.out h', H51.out.keep h', HV1.out.keep h'⟩)
  clear hW2 hb2 hz2 h52
  go_wp2_with fail
  rw [HW2.out]
  go_loopw [8] (fun iv wr => ∃ j : Nat, j ≤ 6 ∧ iv = .int .i64 j ∧ StDeep W1.heap.size (fewV 7 T) W2 j wr) (fun i _ => 6 - (intOf i).toNat)
  case atStart => exact ⟨0, by decide, rfl, HST0.out⟩
  case round =>
    obtain ⟨j, hj, rfl, hst⟩ := hrel
    have HT := Lib.hid hst
    obtain ⟨c0, c1, c2, c3, c4, h5, hv⟩ := hst.val
    obtain ⟨yk, yn, ys, yia, yna, yli, yic, ynn, ync, hsh⟩ := hv.isVal.shape
    simp only [Value.agg.injEq, Array.mk.injEq, List.cons.injEq, and_true] at hsh
    obtain ⟨rfl, rfl, rfl, rfl, rfl⟩ := hsh
    have HV := Lib.hid hv
    have H5 := Lib.hid h5
    obtain ⟨d0, d1, d2, d3, d4⟩ := h5.cells
    obtain ⟨g0, g1, g2, g3, g4⟩ := (HVV.out _ hst.below).2.1.cells
    have hlow := Nat.le_of_lt hst.low
    have HLOW := Lib.hid hlow
    clear hst hv h5 hlow
    go_wp2_with fail
    refine (RT.out (wrapV j (fewV 7 T)) _ wr HV.out.isVal).mono ?_
    rintro e w3 ⟨rfl, hb3⟩
    have HB3 := Lib.hid hb3
    have h53 := H5.out.keep hb3
    have H53 := Lib.hid h53
    obtain ⟨k0, k1, k2, k3, k4⟩ := h53.cells
    have f0 := h53.frozen 0
    have f1 := h53.frozen 1
    have f2 := h53.frozen 2
    have f3 := h53.frozen 3
    have f4 := h53.frozen 4
    have HVV3 := Lib.hid (HVV.out _ (HT.out.below.trans (hb3.mono HLOW.out)))
    clear hb3 h53 d0 d1 d2 d3 d4
    cases hm : mayV 6 (wrapV j (fewV 7 T)) with
    | true =>
      have hj6 : j < 6 := by
        rcases Nat.lt_or_ge j 6 with h | h
        · exact h
        · obtain rfl : j = 6 := by omega
          rw [wrapV_six] at hm; cases hm
      have HS := Lib.hid (HT.out.step H53.out HB3.out (HV.out.keep fun k hS hl => ⟨HB3.out.block k hl, hS⟩) hm)
      clear hm
      have hz : ∀ (o : Obj), (w3.alloc o).frozen? ⟨W1.heap.size, 0, none⟩ = false ∧ (w3.alloc o).frozen? ⟨W1.heap.size, 1, none⟩ = false ∧ (w3.alloc o).frozen? ⟨W1.heap.size, 2, none⟩ = false ∧ (w3.alloc o).frozen? ⟨W1.heap.size, 3, none⟩ = false ∧ (w3.alloc o).frozen? ⟨W1.heap.size, 4, none⟩ = false := fun o =>
        have h := H53.out.keep (below_new w3 o)
        ⟨h.frozen 0, h.frozen 1, h.frozen 2, h.frozen 3, h.frozen 4⟩
      have hc : ∀ (o : Obj), _ := fun o => (H53.out.keep (below_new w3 o)).cells
      go_wp2_with fail
      go_roundw
      case rel => exact ⟨j + 1, by omega, by go_num, HS.out⟩
      case measure => simp [intOf]; omega
    | false =>
      have hwas : mayV 6 (fewV 7 T) = decide (0 < j) := by
        rcases Nat.eq_zero_or_pos j with rfl | h
        · exact hm
        · rw [HT.out.was h]; simp [h]
      have HWAS := Lib.hid hwas
      obtain ⟨hbw3, hv53, hvv3⟩ := HVV3.out
      have HBW3 := Lib.hid hbw3
      have HVI3 := Lib.hid hvv3
      obtain ⟨m0, m1, m2, m3, m4⟩ := hv53.cells
      have hj7 : ¬ (6 : Int) < (j : Int) := by omega
      clear hm hwas hbw3 hv53 hvv3
      go_wp2_with fail
      refine (RT.out (fewV 7 T) _ w3 HVI3.out).mono ?_
      rintro e w4 ⟨rfl, hb4⟩
      rw [HWAS.out]
      have HB4 := Lib.hid (Below.then HBW3.out hb4)
      have A4 := Lib.hid (AL.out w4 (HE.out.below HB4.out))
      clear hb4 k0 k1 k2 k3 k4 f0 f1 f2 f3 f4 m0 m1 m2 m3 m4
      by_cases hj0 : 0 < j
      · have hj1 : (0 : Int) < (j : Int) := by omega
        rw [decide_eq_true hj0]
        go_wp2_with fail
        refine A4.out.mono ?_
        rintro e w5 ⟨rfl, hb5⟩
        have HB5 := Lib.hid (Below.then HB4.out hb5)
        clear hb5
        obtain ⟨W6, hW6⟩ : ∃ W6, (((w5.alloc (.cells #[.int .i64 1, .int .i64 1, .string ⟨#[]⟩, .slice none 0 0, .slice none 0 0] 25)).alloc (.cells #[.string a', .string b'] 9)).alloc (.cells #[.int .i64 1, .int .i64 1, .string ⟨#[]⟩, .slice none 0 0, .slice none 0 0, .int .i64 1, .int .i64 1, .string ⟨#[]⟩, .slice none 0 0, .slice none 0 0] 25)).alloc (.cells #[.int .i64 4, .int .i64 0, .string ⟨#[]⟩, .slice (some ⟨w5.heap.size + 1 + 1, 0, none⟩) 2 2, .slice (some ⟨w5.heap.size + 1, 0, none⟩) 2 2] 25) = W6 := ⟨_, rfl⟩
        have hq : ∀ (u : World) o, (u.alloc o).heap.size = u.heap.size + 1 := fun u o => by simp
        have hb6 : Below w5.heap.size w5 W6 := by rw [← hW6]; exact Below.then (Below.then (Below.then (below_new _ _) (below_new _ _)) (below_new _ _)) (below_new _ _)
        have hR : W6.heap[w5.heap.size + 1 + 1]? = some (.cells #[.int .i64 1, .int .i64 1, .string ⟨#[]⟩, .slice none 0 0, .slice none 0 0, .int .i64 1, .int .i64 1, .string ⟨#[]⟩, .slice none 0 0, .slice none 0 0] 25 (0, 0)) := by
          rw [← hW6]
          have e := heap_alloc_new ((w5.alloc (.cells #[.int .i64 1, .int .i64 1, .string ⟨#[]⟩, .slice none 0 0, .slice none 0 0] 25)).alloc (.cells #[.string a', .string b'] 9)) (.cells #[.int .i64 1, .int .i64 1, .string ⟨#[]⟩, .slice none 0 0, .slice none 0 0, .int .i64 1, .int .i64 1, .string ⟨#[]⟩, .slice none 0 0, .slice none 0 0] 25)
          rw [hq, hq] at e
          exact (Below.heap_alloc _ _ _ (by rw [hq, hq, hq]; omega)).trans e
        have hS : W6.heap[w5.heap.size + 1]? = some (.cells #[.string a', .string b'] 9 (0, 0)) := by
          rw [← hW6]
          have e := heap_alloc_new (w5.alloc (.cells #[.int .i64 1, .int .i64 1, .string ⟨#[]⟩, .slice none 0 0, .slice none 0 0] 25)) (.cells #[.string a', .string b'] 9)
          rw [hq] at e
          exact (Below.heap_alloc _ _ _ (by rw [hq, hq, hq]; omega)).trans ((Below.heap_alloc _ _ _ (by rw [hq, hq]; omega)).trans e)
        have R2 := Lib.hid (RT.out _ _ W6 (two_val W6 _ _ a' b' HAZ.out HBZ.out hR hS))
        rw [mayV_two a' b' _ _ mayV_one mayV_one] at R2
        have HW6 := Lib.hid hW6
        have HB6 := Lib.hid (Below.then HB5.out hb6)
        clear hW6 hb6 hR hS hq
        go_wp2_with fail
        rw [HW6.out]
        refine R2.out.mono ?_
        rintro e w7 ⟨rfl, hb7⟩
        have HB7 := Lib.hid (Below.then HB6.out hb7)
        clear hb7
        have hls : Op.bytesLess a'.toList b'.toList = lessB a' b' := by rw [bytesLess_eq, Lib.toList_data, Lib.toList_data]; rfl
        have DA := Lib.hid (D1.out a' HAZ.out)
        have DB := Lib.hid (D1.out b' HBZ.out)
        obtain ⟨x, hx⟩ : ∃ x, wordB a' = x := ⟨_, rfl⟩
        obtain ⟨y, hy⟩ : ∃ y, wordB b' = y := ⟨_, rfl⟩
        obtain ⟨z, hz⟩ : ∃ z, lessB a' b' = z := ⟨_, rfl⟩
        rw [hx] at DA
        rw [hy] at DB
        rw [hz] at hls
        rw [hx, hy, hz]
        clear hx hy hz
        cases x with
        | false =>
          go_wp2_with fail
          refine (DA.out _).mono ?_
          rintro e w8 ⟨rfl, hb8⟩
          have HB8 := Lib.hid (Below.then HB7.out hb8)
          clear hb8
          go_wp2_with fail
          go_ret
          exact ⟨rfl, HB8.out⟩
        | true =>
          cases y with
          | false =>
            go_wp2_with fail
            refine (DA.out _).mono ?_
            rintro e w8 ⟨rfl, hb8⟩
            have HB8 := Lib.hid (Below.then HB7.out hb8)
            clear hb8
            go_wp2_with fail
            refine (DB.out _).mono ?_
            rintro e w9 ⟨rfl, hb9⟩
            have HB9 := Lib.hid (Below.then HB8.out hb9)
            clear hb9
            go_wp2_with fail
            go_ret
            exact ⟨rfl, HB9.out⟩
          | true =>
            go_wp2_with fail
            refine (DA.out _).mono ?_
            rintro e w8 ⟨rfl, hb8⟩
            have HB8 := Lib.hid (Below.then HB7.out hb8)
            clear hb8
            go_wp2_with fail
            refine (DB.out _).mono ?_
            rintro e w9 ⟨rfl, hb9⟩
            have HB9 := Lib.hid (Below.then HB8.out hb9)
            clear hb9
            cases z with
            | false =>
              go_wp2_with fail
              go_ret
              exact ⟨rfl, HB9.out⟩
            | true =>
              go_wp2_with fail
              go_ret
              exact ⟨rfl, HB9.out⟩
      · obtain rfl : j = 0 := by omega
        rw [decide_eq_false hj0]
        go_wp2_with fail
        refine A4.out.mono ?_
        rintro e w5 ⟨rfl, hb5⟩
        have HB5 := Lib.hid (Below.then HB4.out hb5)
        clear hb5
        obtain ⟨W6, hW6⟩ : ∃ W6, (((w5.alloc (.cells #[.int .i64 1, .int .i64 1, .string ⟨#[]⟩, .slice none 0 0, .slice none 0 0] 25)).alloc (.cells #[.string a', .string b'] 9)).alloc (.cells #[.int .i64 1, .int .i64 1, .string ⟨#[]⟩, .slice none 0 0, .slice none 0 0, .int .i64 1, .int .i64 1, .string ⟨#[]⟩, .slice none 0 0, .slice none 0 0] 25)).alloc (.cells #[.int .i64 4, .int .i64 0, .string ⟨#[]⟩, .slice (some ⟨w5.heap.size + 1 + 1, 0, none⟩) 2 2, .slice (some ⟨w5.heap.size + 1, 0, none⟩) 2 2] 25) = W6 := ⟨_, rfl⟩
        have hq : ∀ (u : World) o, (u.alloc o).heap.size = u.heap.size + 1 := fun u o => by simp
        have hb6 : Below w5.heap.size w5 W6 := by rw [← hW6]; exact Below.then (Below.then (Below.then (below_new _ _) (below_new _ _)) (below_new _ _)) (below_new _ _)
        have hR : W6.heap[w5.heap.size + 1 + 1]? = some (.cells #[.int .i64 1, .int .i64 1, .string ⟨#[]⟩, .slice none 0 0, .slice none 0 0, .int .i64 1, .int .i64 1, .string ⟨#[]⟩, .slice none 0 0, .slice none 0 0] 25 (0, 0)) := by
          rw [← hW6]
          have e := heap_alloc_new ((w5.alloc (.cells #[.int .i64 1, .int .i64 1, .string ⟨#[]⟩, .slice none 0 0, .slice none 0 0] 25)).alloc (.cells #[.string a', .string b'] 9)) (.cells #[.int .i64 1, .int .i64 1, .string ⟨#[]⟩, .slice none 0 0, .slice none 0 0, .int .i64 1, .int .i64 1, .string ⟨#[]⟩, .slice none 0 0, .slice none 0 0] 25)
          rw [hq, hq] at e
          exact (Below.heap_alloc _ _ _ (by rw [hq, hq, hq]; omega)).trans e
        have hS : W6.heap[w5.heap.size + 1]? = some (.cells #[.string a', .string b'] 9 (0, 0)) := by
          rw [← hW6]
          have e := heap_alloc_new (w5.alloc (.cells #[.int .i64 1, .int .i64 1, .string ⟨#[]⟩, .slice none 0 0, .slice none 0 0] 25)) (.cells #[.string a', .string b'] 9)
          rw [hq] at e
          exact (Below.heap_alloc _ _ _ (by rw [hq, hq, hq]; omega)).trans ((Below.heap_alloc _ _ _ (by rw [hq, hq]; omega)).trans e)
        have R2 := Lib.hid (RT.out _ _ W6 (two_val W6 _ _ a' b' HAZ.out HBZ.out hR hS))
        rw [mayV_two a' b' _ _ mayV_one mayV_one] at R2
        have HW6 := Lib.hid hW6
        have HB6 := Lib.hid (Below.then HB5.out hb6)
        clear hW6 hb6 hR hS hq
        go_wp2_with fail
        rw [HW6.out]
        refine R2.out.mono ?_
        rintro e w7 ⟨rfl, hb7⟩
        have HB7 := Lib.hid (Below.then HB6.out hb7)
        clear hb7
        have hls : Op.bytesLess a'.toList b'.toList = lessB a' b' := by rw [bytesLess_eq, Lib.toList_data, Lib.toList_data]; rfl
        have DA := Lib.hid (D1.out a' HAZ.out)
        have DB := Lib.hid (D1.out b' HBZ.out)
        obtain ⟨x, hx⟩ : ∃ x, wordB a' = x := ⟨_, rfl⟩
        obtain ⟨y, hy⟩ : ∃ y, wordB b' = y := ⟨_, rfl⟩
        obtain ⟨z, hz⟩ : ∃ z, lessB a' b' = z := ⟨_, rfl⟩
        rw [hx] at DA
        rw [hy] at DB
        rw [hz] at hls
        rw [hx, hy, hz]
        clear hx hy hz
        cases x with
        | false =>
          go_wp2_with fail
          refine (DA.out _).mono ?_
          rintro e w8 ⟨rfl, hb8⟩
          have HB8 := Lib.hid (Below.then HB7.out hb8)
          clear hb8
          go_wp2_with fail
          go_ret
          exact ⟨rfl, HB8.out⟩
        | true =>
          cases y with
          | false =>
            go_wp2_with fail
            refine (DA.out _).mono ?_
            rintro e w8 ⟨rfl, hb8⟩
            have HB8 := Lib.hid (Below.then HB7.out hb8)
            clear hb8
            go_wp2_with fail
            refine (DB.out _).mono ?_
            rintro e w9 ⟨rfl, hb9⟩
            have HB9 := Lib.hid (Below.then HB8.out hb9)
            clear hb9
            go_wp2_with fail
            go_ret
            exact ⟨rfl, HB9.out⟩
          | true =>
            go_wp2_with fail
            refine (DA.out _).mono ?_
            rintro e w8 ⟨rfl, hb8⟩
            have HB8 := Lib.hid (Below.then HB7.out hb8)
            clear hb8
            go_wp2_with fail
            refine (DB.out _).mono ?_
            rintro e w9 ⟨rfl, hb9⟩
            have HB9 := Lib.hid (Below.then HB8.out hb9)
            clear hb9
            cases z with
            | false =>
              go_wp2_with fail
              go_ret
              exact ⟨rfl, HB9.out⟩
            | true =>
              go_wp2_with fail
              go_ret
              exact ⟨rfl, HB9.out⟩
end Go.Proofs.YtlhnefeeihghgaaDoor
