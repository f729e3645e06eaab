/-
  The laws' few of a disk, by a contract. Conditions: none.
-/
import Derived.Test.YtcjngaapiomkbaaPrgDskJ

import Derived.Lib.MinMax
namespace Go.Proofs.Ytcjngaapiomkbaa
open Go.RowKit Go.WideShapes

def fewD (d : Dsk) : Dsk := ⟨d.secs.take 66, d.dirty.take 202⟩
theorem StrsAt.shape2 {w : World} {v : Value} {l : List ByteArray} (h : StrsAt w v l) : ∃ a cap, v = .slice a l.length cap ∧ l.length ≤ cap ∧ cap ≤ maxLen := by
  rcases h with ⟨rfl, rfl | ⟨a, cap, rfl, hc⟩⟩ | ⟨b, o, cap, rfl, h2, h3, h4, -⟩
  · exact ⟨none, 0, rfl, Nat.le_refl _, by decide⟩
  · exact ⟨_, _, rfl, Nat.zero_le _, hc⟩
  · exact ⟨_, _, rfl, h3, h4⟩
theorem PairsAt.shape3 {w : World} {v : Value} {l : List (Value × Value)} (h : PairsAt w v l) : ∃ a cap, v = .slice a l.length cap ∧ l.length ≤ cap ∧ cap ≤ maxLen := by
  rcases h with ⟨rfl, rfl | ⟨a, cap, rfl, hc⟩⟩ | ⟨b, o, cap, rfl, h2, h3, h4, -⟩
  · exact ⟨none, 0, rfl, Nat.le_refl _, by decide⟩
  · exact ⟨_, _, rfl, Nat.zero_le _, hc⟩
  · exact ⟨_, _, rfl, h3, h4⟩
theorem StrsAt.take {w : World} {a : Option Addr} {n c : Nat} {l : List ByteArray} (h : StrsAt w (.slice a n c) l) (hn : l.length = n) (k : Nat) (hk : k ≤ n) (l' : List ByteArray) (hl : l' = l.take k) : StrsAt w (.slice a k c) l' := by
  subst hl
  subst hn
  rcases h with ⟨rfl, e⟩ | ⟨b, o, cap, e, h2, h3, h4, h5⟩
  · obtain rfl : k = 0 := by simpa using hk
    refine Or.inl ⟨rfl, ?_⟩
    rcases e with e | ⟨a2, cap, e, hc⟩
    · exact Or.inl (by simpa using e)
    · exact Or.inr ⟨a2, cap, by simpa using e, hc⟩
  · simp only [Value.slice.injEq] at e
    obtain ⟨rfl, -, rfl⟩ := e
    have hl : (l.take k).length = k := by rw [List.length_take]; omega
    rcases Nat.eq_zero_or_pos k with rfl | hp
    · exact Or.inl ⟨rfl, Or.inr ⟨_, _, rfl, h4⟩⟩
    · refine Or.inr ⟨b, o, c, by rw [hl], by omega, by omega, h4, fun i hi => ?_⟩
      rw [List.getElem_take]
      exact h5 i (by omega)
theorem PairsAt.take {w : World} {a : Option Addr} {n c : Nat} {l : List (Value × Value)} (h : PairsAt w (.slice a n c) l) (hn : l.length = n) (k : Nat) (hk : k ≤ n) (l' : List (Value × Value)) (hl : l' = l.take k) : PairsAt w (.slice a k c) l' := by
  subst hl
  subst hn
  rcases h with ⟨rfl, e⟩ | ⟨b, o, cap, e, h2, h3, h4, h5⟩
  · obtain rfl : k = 0 := by simpa using hk
    refine Or.inl ⟨rfl, ?_⟩
    rcases e with e | ⟨a2, cap, e, hc⟩
    · exact Or.inl (by simpa using e)
    · exact Or.inr ⟨a2, cap, by simpa using e, hc⟩
  · simp only [Value.slice.injEq] at e
    obtain ⟨rfl, -, rfl⟩ := e
    have hl : (l.take k).length = k := by rw [List.length_take]; omega
    rcases Nat.eq_zero_or_pos k with rfl | hp
    · exact Or.inl ⟨rfl, Or.inr ⟨_, _, rfl, h4⟩⟩
    · refine Or.inr ⟨b, o, c, by rw [hl], by omega, by omega, h4, fun i hi => ?_⟩
      simp only [List.getElem_take]
      exact h5 i (by omega)
set_option maxRecDepth 100000 in
set_option maxHeartbeats 2000000 in
theorem few_t (v : Value) (d : Dsk) (w : World) (h : DskAt w v d) : Calls Try.prog 7 #[v] w fun e w' => ∃ v', e = .returned v' ∧ DskAt w' v' (fewD d) ∧ Below w.heap.size w w' := by
  obtain ⟨⟨sv, dv, rfl, h1, h2⟩, hz, hy⟩ := h
  obtain ⟨a, c, rfl, k1, k2⟩ := h1.shape2
  obtain ⟨a', c', rfl, k3, k4⟩ := h2.shape3
  rw [List.length_map] at h2 k3 ⊢
  obtain ⟨n, hn⟩ : ∃ r, d.secs.length = r := ⟨_, rfl⟩
  obtain ⟨n', hn'⟩ : ∃ r, d.dirty.length = r := ⟨_, rfl⟩
  rw [hn] at h1 k1 ⊢
  rw [hn'] at h2 k3 ⊢
  obtain ⟨k, hk⟩ : ∃ k, min n 66 = k := ⟨_, rfl⟩
  obtain ⟨k', hk'⟩ : ∃ k, min n' 202 = k := ⟨_, rfl⟩
  have hkn : k ≤ n ∧ k' ≤ n' := by omega
  have HT := Lib.hid (show ∀ w5, NS w w5 → DskAt w5 (.agg #[.slice a k c, .slice a' k' c']) (fewD d) from fun w5 hns =>
    ⟨⟨_, _, rfl, (h1.ns hns).take hn k hkn.1 _ (by show d.secs.take 66 = _; rcases Nat.le_total n 66 with e | e
                                                   · rw [List.take_of_length_le (by omega), List.take_of_length_le (by omega)]
                                                   · rw [show k = 66 by omega]),
      (WritesAt.ns h2 hns).take (by rw [List.length_map]; exact hn') k' hkn.2 _ (by
        show (d.dirty.take 202).map writeCell = _
        rw [← List.map_take]
        rcases Nat.le_total n' 202 with e | e
        · rw [List.take_of_length_le (by omega), List.take_of_length_le (by omega)]
        · rw [show k' = 202 by omega])⟩, fun s hs => hz s (List.mem_of_mem_take hs), fun l hl => hy l (List.mem_of_mem_take hl)⟩)
  have q1 : min (n : Int) 66 = (k : Int) := by omega
  have q2 : min (n' : Int) 202 = (k' : Int) := by omega
  have q3 : (k : Int) ≤ (c : Int) := by omega
  have q4 : (k' : Int) ≤ (c' : Int) := by omega
  unfold maxLen at k2 k4
  obtain ⟨W, hW⟩ : ∃ W, (w.alloc (.cells #[.slice a n c, .slice a' n' c'] 25)).alloc (.cells #[nilV, nilV] 25) = W := ⟨_, rfl⟩
  have hsz : W.heap.size = w.heap.size + 1 + 1 := by rw [← hW]; simp
  have HB := Lib.hid (show Below w.heap.size w W by rw [← hW]; exact Below.then (below_new _ _) (below_new _ _))
  have HA := Lib.hid (show At2 25 W w.heap.size (.slice a n c) (.slice a' n' c') by rw [← hW]; exact (At2.new _ _ _ _).keep (below_new _ _))
  have HC := Lib.hid (show At2 25 W (w.heap.size + 1) nilV nilV by
    rw [← hW]
    have e := At2.new 25 (w.alloc (.cells #[.slice a n c, .slice a' n' c'] 25)) nilV nilV
    rwa [World.size_alloc] at e)
  have HW := Lib.hid hW
  clear hW h1 h2 hn hn' hk hk' hz hy
  go_enter Try.func7, Try.ntmps7
  go_upto_region 1 with fail
  rw [HW.out]
  obtain ⟨a0, a1⟩ := HA.out.cells
  obtain ⟨f0, f1⟩ := HA.out.free
  go_region
  obtain ⟨W2, hW2⟩ : ∃ W2, ((W.setCell ⟨w.heap.size, 0, none⟩ (.slice a k c)).setCell ⟨w.heap.size, 1, none⟩ (.slice a' k' c')).drew = W2 := ⟨_, rfl⟩
  have hA2 : At2 25 W2 w.heap.size (.slice a k c) (.slice a' k' c') := by rw [← hW2]; exact HA.out.set _ _
  have hC2 : At2 25 W2 (w.heap.size + 1) nilV nilV := by
    rw [← hW2]
    exact At2.other HC.out (by omega) (.slice a k c) (.slice a' k' c')
  have HB2 := Lib.hid (show Below w.heap.size w W2 by rw [← hW2]; exact (set2_below HB.out (Nat.le_refl _) (.slice a k c) (.slice a' k' c')).drew)
  have HNS := Lib.hid (show NS W W2 by rw [← hW2]; exact set2_ns HA.out (isSl_mk _ _ _) (isSl_mk _ _ _) (.slice a k c) (.slice a' k' c'))
  rw [hW2]
  have HC2 := Lib.hid hC2
  clear hW2 a0 a1 f0 f1
  obtain ⟨a0, a1⟩ := hA2.cells
  obtain ⟨b0, b1⟩ := hC2.cells
  obtain ⟨f0, f1⟩ := hC2.free
  clear hA2 hC2
  go_wp2_with fail
  exact bodyPost_ret (results_cell_row (p := 2) rfl _ _ (w.heap.size + 1) 25 _ (0, 0) _ rfl (HC2.out.set _ _) Try.underlying25 rfl infoDsk) rfl ⟨_, rfl, HT.out _ ((Below.ns HB.out).then (HNS.out.then (set2_ns HC2.out isSl_nil isSl_nil _ _))), set2_below HB2.out (by omega) _ _⟩
end Go.Proofs.Ytcjngaapiomkbaa
