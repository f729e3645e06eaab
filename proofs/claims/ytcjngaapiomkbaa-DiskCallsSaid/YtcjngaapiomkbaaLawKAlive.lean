/-
  The laws' alive of a disk, by a contract. Conditions: none.
-/
import Derived.Test.YtcjngaapiomkbaaLawKFew
import Derived.Test.YtcjngaapiomkbaaPrgDskK
import Derived.Test.YtcjngaapiomkbaaRefDskK
namespace Go.Proofs.Ytcjngaapiomkbaa
open Go.RowKit Go.WideShapes

/-! ### Plain -/
def dA : Dsk := ⟨List.replicate 4 (secB 0), []⟩
def dB : Dsk := ⟨List.replicate 4 (secB 0), [(1, secB 120)]⟩
def dC : Dsk := clean 4 (fun k => dB.left k [2])
theorem newD_4 : newD 4 = (dA, 0) := rfl
theorem dA_right : dA.right = true := by
  refine (right_iff dA).2 ⟨fun s hs => ?_, by decide, by decide, by decide, fun w hw => by cases hw⟩
  rw [List.eq_of_mem_replicate hs]; exact secB_size 0
theorem dB_right : dB.right = true := by
  refine (right_iff dB).2 ⟨fun s hs => ?_, by decide, by decide, by decide, fun w hw => ?_⟩
  · rw [List.eq_of_mem_replicate hs]; exact secB_size 0
  · rw [List.mem_singleton.1 hw]
    exact ⟨by decide, by decide, secB_size 120⟩
theorem saveD_A : saveD dA [(1, secB 120)] = (dB, 0) := by
  unfold saveD
  rw [dA_right, show wellB dA.secs.length [((1 : Int), secB 120)] = true from (well_iff _ _).2 (fun w hw => by
    rw [List.mem_singleton.1 hw]
    exact ⟨by decide, by decide, secB_size 120⟩)]
  rfl
theorem crashD_B : crashD dB [2] = (dC, 0) := by
  unfold crashD
  rw [dB_right]
  rfl
theorem dC_right : dC.right = true := by
  have hB := (right_iff dB).1 dB_right
  refine (right_iff dC).2 ⟨fun s hs => ?_, by decide, by decide, by decide, fun w hw => by cases hw⟩
  simp only [dC, clean, List.mem_map, List.mem_range] at hs
  obtain ⟨i, hi, rfl⟩ := hs
  exact dleft_size hB [2] (by exact hi)
def aliveS : ByteArray := (secB 120).extract 0 64 ++ (secB 0).extract 64 128
theorem loadD_C : loadD dC 1 = (aliveS, 0) := by
  unfold loadD
  rw [dC_right]
  rfl
theorem aliveS_size : aliveS.size = 128 := by
  simp [aliveS, ByteArray.size_append, ByteArray.size_extract, secB_size]
theorem sec0_size : (secB 0).size = 128 := secB_size 0
theorem sec120_size : (secB 120).size = 128 := secB_size 120

/-! ### A variable that holds a disk -/
def DskIn (w : World) (B : Nat) (d : Dsk) : Prop := ∃ a c a' c', At2 25 w B (.slice a d.secs.length c) (.slice a' d.dirty.length c') ∧ DskAt w (.agg #[.slice a d.secs.length c, .slice a' d.dirty.length c']) d
theorem DskIn.keep {w w' : World} {B : Nat} {d : Dsk} (h : DskIn w B d) (hb : Below w.heap.size w w') : DskIn w' B d := by
  obtain ⟨a, c, a', c', h1, h2⟩ := h
  exact ⟨a, c, a', c', h1.keep hb, h2.keep hb⟩
theorem DskIn.lt {w : World} {B : Nat} {d : Dsk} (h : DskIn w B d) : B < w.heap.size := by
  obtain ⟨a, c, a', c', h1, h2⟩ := h
  exact h1.lt
theorem DskIn.new {w : World} {v0 v1 : Value} {d : Dsk} (h : DskAt w (.agg #[v0, v1]) d) : DskIn (w.alloc (.cells #[v0, v1] 25)) w.heap.size d := by
  obtain ⟨a, c, a', c', e, -, -⟩ := h.shape
  simp only [Value.agg.injEq, Array.mk.injEq, List.cons.injEq, and_true] at e
  obtain ⟨rfl, rfl⟩ := e
  exact ⟨a, c, a', c', At2.new _ _ _ _, h.keep (below_new _ _)⟩
theorem DskIn.set {w : World} {B : Nat} {v0 v1 : Value} {d0 d : Dsk} (h0 : DskIn w B d0) (h : DskAt w (.agg #[v0, v1]) d) : DskIn (set2 w B v0 v1) B d := by
  obtain ⟨a, c, a', c', e, -, -⟩ := h.shape
  simp only [Value.agg.injEq, Array.mk.injEq, List.cons.injEq, and_true] at e
  obtain ⟨rfl, rfl⟩ := e
  obtain ⟨b, k, b', k', h1, -⟩ := h0
  exact ⟨a, c, a', c', h1.set _ _, h.ns (set2_ns h1 (isSl_mk _ _ _) (isSl_mk _ _ _) _ _)⟩
theorem DskIn.other {w : World} {B B' : Nat} {d d0 : Dsk} (h : DskIn w B d) (h0 : DskIn w B' d0) (hne : B ≠ B') (v0 v1 : Value) : DskIn (set2 w B' v0 v1) B d := by
  obtain ⟨a, c, a', c', h1, h2⟩ := h
  obtain ⟨b, k, b', k', h3, -⟩ := h0
  exact ⟨a, c, a', c', h1.other hne _ _, h2.ns (set2_ns h3 (isSl_mk _ _ _) (isSl_mk _ _ _) _ _)⟩

theorem sectorAny_t (k : Int) (c : UInt8) (h : (k = 120 ∧ c = 120) ∨ (k = 0 ∧ c = 0)) (w : World) : Calls Try.prog 14 #[.int .u8 k] w fun e w' => e = .returned (.string (secB c)) ∧ Below w.heap.size w w' := by
  rcases h with ⟨rfl, rfl⟩ | ⟨rfl, rfl⟩
  · exact sector_t 120 w
  · exact sector_t 0 w
theorem shape_A {w : World} {v : Value} (h : DskAt w v dA) : ∃ a c a' c', v = .agg #[.slice a 4 c, .slice a' 0 c'] := by
  obtain ⟨a, c, a', c', e, -, -⟩ := h.shape; exact ⟨a, c, a', c', e⟩
theorem shape_B {w : World} {v : Value} (h : DskAt w v dB) : ∃ a c a' c', v = .agg #[.slice a 4 c, .slice a' 1 c'] := by
  obtain ⟨a, c, a', c', e, -, -⟩ := h.shape; exact ⟨a, c, a', c', e⟩
theorem shape_C {w : World} {v : Value} (h : DskAt w v dC) : ∃ a c a' c', v = .agg #[.slice a 4 c, .slice a' 0 c'] := by
  obtain ⟨a, c, a', c', e, -, -⟩ := h.shape; exact ⟨a, c, a', c', e⟩

set_option maxRecDepth 100000 in
set_option maxHeartbeats 8000000 in
theorem alive_t (w : World) : Calls Try.prog 17 #[] w fun e w' => e = .returned (.bool true) ∧ Below w.heap.size w w' := by
  have N := New_t 4 w
  rw [newD_4] at N
  have N := Lib.hid N
  have SA := Lib.hid sectorAny_t
  go_enter Try.func17, Try.ntmps17
  go_upto_region 1 with fail
  go_wp2_with (go_at_call 8; refine N.out.mono ?_; rintro e w1 ⟨v, rfl, hd, hb⟩; obtain ⟨a1, c1, a1', c1', rfl⟩ := shape_A hd)
  obtain ⟨W1, hW1⟩ : ∃ W1, w1.alloc (.cells #[.slice a1 4 c1, .slice a1' 0 c1'] 25) = W1 := ⟨_, rfl⟩
  have hA : At2 25 W1 w1.heap.size (.slice a1 4 c1) (.slice a1' 0 c1') := by rw [← hW1]; exact At2.new _ _ _ _
  have hd1 : DskAt W1 (.agg #[.slice a1 4 c1, .slice a1' 0 c1']) dA := by rw [← hW1]; exact hd.keep (below_new _ _)
  have HB1 := Lib.hid (show Below w.heap.size w W1 by rw [← hW1]; exact Below.then hb (below_new _ _))
  rw [hW1]
  have HBB := Lib.hid (show w.heap.size ≤ w1.heap.size from hb.size)
  obtain ⟨B, hBe⟩ : ∃ B, w1.heap.size = B := ⟨_, rfl⟩
  rw [hBe] at hA HBB ⊢
  have SV := Lib.hid (show ∀ (w3 : World) (b : Nat), Below W1.heap.size W1 w3 → w3.cell? ⟨b, 0, none⟩ = some (.int .i64 1) → w3.cell? ⟨b, 0 + 1, none⟩ = some (.string (secB 120)) → Calls Try.prog 10 #[.agg #[.slice a1 4 c1, .slice a1' 0 c1'], .slice (some ⟨b, 0, none⟩) 1 1] w3 fun e w4 => ∃ a c a' c', e = .returned (.tuple #[.agg #[.slice a 4 c, .slice a' 1 c'], .int .i64 0]) ∧ DskAt w4 (.agg #[.slice a 4 c, .slice a' 1 c']) dB ∧ Below W1.heap.size W1 w4 ∧ At2 25 w4 B (.slice a1 4 c1) (.slice a1' 0 c1') from fun w3 b h3 e0 e1 => by
    have hl : PairsAt w3 (.slice (some ⟨b, 0, none⟩) 1 1) ([((1 : Int), secB 120)].map writeCell) := Or.inr ⟨b, 0, 1, rfl, by decide, by decide, by decide, fun i hi => by
      obtain rfl : i = 0 := by simpa using hi
      exact ⟨e0, e1⟩⟩
    have := Save_t _ _ dA _ w3 (hd1.keep h3) hl (fun x hx => by rw [List.mem_singleton.1 hx]; refine ⟨?_, by decide, by decide⟩; show (secB 120).size ≤ maxLen; rw [secB_size]; decide) (by decide)
    rw [saveD_A] at this
    refine this.mono ?_
    rintro e w4 ⟨v, rfl, hv, hb4⟩
    obtain ⟨a, c, a', c', rfl⟩ := shape_B hv
    exact ⟨a, c, a', c', rfl, hv, Below.then h3 hb4, hA.keep (Below.then h3 hb4)⟩)
  have HA := Lib.hid hA
  obtain ⟨a0, a1x⟩ := hA.cells
  have hbr := Below.refl W1.heap.size W1
  clear hW1 hA hd1 hd hb hBe N
  go_cut [3] from 11 to 18 (fun x wx => x = .int .i64 0 ∧ DskIn wx B dB ∧ Below w.heap.size w wx)
  case first =>
    go_region_law (first
      | (go_simp; go_at_call 14; refine (SA.out _ _ (by first | exact Or.inl ⟨rfl, rfl⟩ | exact Or.inr ⟨rfl, rfl⟩) _).mono ?_; rintro e wS ⟨rfl, hbS0⟩; have hbS : Below W1.heap.size W1 wS := Below.then hbr.drew hbS0; have hS1 : At2 25 wS B (.slice a1 4 c1) (.slice a1' 0 c1') := HA.out.keep hbS; obtain ⟨a0, a1x⟩ := hS1.cells; obtain ⟨a0n, a1n⟩ := (hS1.keep (below_new wS (.cells #[.int .i64 1, .string (secB 120)] 45))).cells)
      | (go_simp; go_at_call 10; refine (SV.out _ _ (by exact (Below.then hbS (below_new _ _))) (At2.new _ _ _ _).cells.1 (At2.new _ _ _ _).cells.2).mono ?_; rintro e w4 ⟨a4, c4, a4', c4', rfl, hd4, hb4, hA4⟩; obtain ⟨a0, a1x⟩ := hA4.cells; obtain ⟨f0, f1⟩ := hA4.free))
    all_goals
      go_wp2_with fail
      go_meet
      exact ⟨rfl, ⟨_, _, _, _, hA4.set _ _, hd4.ns (set2_ns hA4 (isSl_mk _ _ _) (isSl_mk _ _ _) _ _)⟩, set2_below (Below.then HB1.out hb4) HBB.out _ _⟩
  case rest =>
    obtain ⟨rfl, ⟨a5, c5, a5', c5', hA5, hd5⟩, hbx⟩ := hcut
    have hA5 : At2 25 wc B (.slice a5 4 c5) (.slice a5' 1 c5') := hA5
    have hd5 : DskAt wc (.agg #[.slice a5 4 c5, .slice a5' 1 c5']) dB := hd5
    have HBX := Lib.hid hbx
    obtain ⟨W2, hW2⟩ : ∃ W2, wc.alloc (.cells #[.int .i64 2] 3) = W2 := ⟨_, rfl⟩
    have hb2 : Below wc.heap.size wc W2 := by rw [← hW2]; exact below_new _ _
    have e0 : W2.cell? ⟨wc.heap.size, 0, none⟩ = some (.int .i64 2) := by rw [← hW2, World.cell?_alloc_at _ _ _ _ rfl]; rfl
    have CR := Lib.hid (show Calls Try.prog 12 #[.agg #[.slice a5 4 c5, .slice a5' 1 c5'], .slice (some ⟨wc.heap.size, 0, none⟩) 1 1] W2 fun e w4 => ∃ a c a' c', e = .returned (.tuple #[.agg #[.slice a 4 c, .slice a' 0 c'], .int .i64 0]) ∧ DskAt w4 (.agg #[.slice a 4 c, .slice a' 0 c']) dC ∧ Below w.heap.size w w4 ∧ At2 25 w4 B (.slice a5 4 c5) (.slice a5' 1 c5') from by
      have hl : IntsAt W2 (.slice (some ⟨wc.heap.size, 0, none⟩) 1 1) [2] := Or.inr ⟨wc.heap.size, 0, 1, rfl, by decide, by decide, by decide, fun i hi => by
        obtain rfl : i = 0 := by simpa using hi
        exact e0⟩
      have := Crash_t _ _ dB _ W2 (hd5.keep hb2) hl
      rw [crashD_B] at this
      refine this.mono ?_
      rintro e w4 ⟨v, rfl, hv, hb4⟩
      obtain ⟨a, c, a', c', rfl⟩ := shape_C hv
      exact ⟨a, c, a', c', rfl, hv, Below.then HBX.out (Below.then hb2 hb4), hA5.keep (Below.then hb2 hb4)⟩)
    obtain ⟨a0, a1x⟩ := hA5.cells
    have HW2 := Lib.hid hW2
    clear hW2 hb2 e0 hA5 hd5 hbx SV HB1 HA
    go_wp2_with (go_at_call 12; rw [HW2.out]; refine CR.out.mono ?_; rintro e w6 ⟨a6, c6, a6', c6', rfl, hd6, hb6, hA6⟩; obtain ⟨b0, b1⟩ := hA6.cells; obtain ⟨f0, f1⟩ := hA6.free)
    obtain ⟨W7, hW7⟩ : ∃ W7, (w6.setCell ⟨B, 0, none⟩ (.slice a6 4 c6)).setCell ⟨B, 1, none⟩ (.slice a6' 0 c6') = W7 := ⟨_, rfl⟩
    have hd7 : DskAt W7 (.agg #[.slice a6 4 c6, .slice a6' 0 c6']) dC := by rw [← hW7]; exact hd6.ns (set2_ns hA6 (isSl_mk _ _ _) (isSl_mk _ _ _) (.slice a6 4 c6) (.slice a6' 0 c6'))
    have HB7 := Lib.hid (show Below w.heap.size w W7 by rw [← hW7]; exact set2_below hb6 HBB.out _ _)
    have L := Load_t _ dC 1 W7 hd7
    rw [loadD_C] at L
    have L := Lib.hid L
    rw [hW7]
    clear hW7 hd7 hd6 hb6 hA6 b0 b1 f0 f1 a0 a1x CR
    refine L.out.mono ?_
    rintro e w8 ⟨rfl, hb8⟩
    have HB8 := Lib.hid (Below.then HB7.out hb8)
    have q1 : ((aliveS.size : Int) == 128) = true := by rw [aliveS_size]; rfl
    have q2 : (aliveS.toList == ((secB 120).extract 0 64 ++ (secB 0).extract 64 128).toList) = true := by rw [beqB]; exact decide_eq_true rfl
    have q3 := secB_size 120
    have q4 := secB_size 0
    clear hb8 L
    go_upto_region 5 with fail
    have hbw := HB8.out
    go_region_held3 (fun _ => True) (exact trivial) (first
      | (go_simp; go_at_call 14; refine (SA.out _ _ (by first | exact Or.inl ⟨rfl, rfl⟩ | exact Or.inr ⟨rfl, rfl⟩) _).mono ?_; rintro e wS ⟨rfl, hbS⟩; have hbw : Below w.heap.size w wS := (by first | exact Below.then hbw hbS | exact Below.then hbw.drew hbS)))
    all_goals
      go_wp2_with fail
      go_ret
      exact ⟨rfl, hbw⟩
end Go.Proofs.Ytcjngaapiomkbaa
