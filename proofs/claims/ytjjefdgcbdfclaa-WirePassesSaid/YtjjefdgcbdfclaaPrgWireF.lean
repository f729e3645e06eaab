/-
  The program's Lose and Twice, by contracts. Conditions: none.
-/
import Derived.Test.YtjjefdgcbdfclaaPrgWireE
namespace Go.Proofs.Ytjjefdgcbdfclaa
open Go.RowKit Go.WideShapes

/-- What a net's value reads stays where no block of its own is touched. -/
theorem NtAt.past {w w' : World} {v : Value} {n : Nt} {P : Nat → Prop} (h : NtAt w v n) (hg : ∀ g, P g → NoStr3 w g) (hk : ∀ k, k < w.heap.size → ¬ P k → w'.heap[k]? = w.heap[k]?) : NtAt w' v n := by
  obtain ⟨⟨fv, e, h1⟩, h2, h3, h4⟩ := h
  refine ⟨⟨fv, e, ?_⟩, h2, h3, h4⟩
  rcases h1 with h | ⟨b, o, cap, rfl, k2, k3, k4, k5⟩
  · exact Or.inl h
  · have e2 := k5 0 k2 2 (.string (n.fl[0]'(by rw [List.length_map] at k2; exact k2)).body) (by rw [List.getElem_map]; rfl)
    have hlt := World.block_lt_of_cell? _ _ e2
    have hb : ¬ P b := by
      intro hp
      obtain ⟨x1, x2, x3, x4, x5, hg⟩ := hg b hp
      unfold At3 at hg
      generalize o + 0 * 4 + 2 = i at e2
      simp only [World.cell?, hg] at e2
      match i, e2 with
      | 0, e => simp at e
      | 1, e => simp at e
      | 2, e => simp at e
      | i + 3, e => simp at e
    exact Or.inr ⟨b, o, cap, rfl, k2, k3, k4, fun i hi j u hu => by rw [World.cell?_of_block (w := w) (hk b hlt hb)]; exact k5 i hi j u hu⟩
/-- Two blocks of nets. -/
theorem two_net (w : World) (a b c x y z : Value) (t : TypeId) : At3 t ((w.alloc (.cells #[a, b, c] t)).alloc (.cells #[x, y, z] t)) w.heap.size a b c ∧ At3 t ((w.alloc (.cells #[a, b, c] t)).alloc (.cells #[x, y, z] t)) (w.heap.size + 1) x y z ∧
    Below w.heap.size w ((w.alloc (.cells #[a, b, c] t)).alloc (.cells #[x, y, z] t)) := by
  have e := At3.new t (w.alloc (.cells #[a, b, c] t)) x y z
  rw [World.size_alloc] at e
  exact ⟨(At3.new t w a b c).keep (below_new _ _), e, Below.then (below_new _ _) (below_new _ _)⟩

set_option maxRecDepth 100000 in
set_option maxHeartbeats 8000000 in
theorem Lose_t (v : Value) (n : Nt) (p : Int) (w : World) (h : NtAt w v n) (hp : i64 p) :
    Calls Try.prog 11 #[v, .int .i64 p] w fun e w' => ∃ v', e = .returned (.tuple #[v', .int .i64 (loseA n p).2]) ∧ NtAt w' v' (loseA n p).1 ∧ Below w.heap.size w w' := by
  have HT := Lib.hid (fun w' (hb : Below w.heap.size w w') => Take_t v n p w' (h.keep hb) hp)
  unfold loseA
  obtain ⟨a, k, c, q, l, rfl⟩ := h.three
  obtain ⟨⟨n', ⟨x1, x2, x3, x4⟩, er⟩, hT⟩ : ∃ x, takeA n p = x := ⟨_, rfl⟩
  rw [hT] at HT ⊢
  unfold msV at HT
  simp only at HT ⊢
  obtain ⟨W, hW⟩ : ∃ W, (w.alloc (.cells #[.slice a k c, .int .i64 q, .int .i64 l] 24)).alloc (.cells #[nilV, .int .i64 0, .int .i64 0] 24) = W := ⟨_, rfl⟩
  have h2 := two_net w (.slice a k c) (.int .i64 q) (.int .i64 l) nilV (.int .i64 0) (.int .i64 0) 24
  rw [hW] at h2
  have HW := Lib.hid hW
  have HB := Lib.hid h2.2.2
  have HA := Lib.hid h2.1
  have HN := Lib.hid h2.2.1
  have HTW := Lib.hid (HT.out W h2.2.2)
  obtain ⟨a0, a1, a2⟩ := h2.1.cells
  clear h2 hW h HT hT hp
  go_enter Try.func11, Try.ntmps11
  go_upto_region 1 with fail
  rw [HW.out]
  go_wp2_with fail
  refine HTW.out.mono ?_
  rintro e w1 ⟨v', rfl, hv1, hb1⟩
  obtain ⟨a', k', c', q', l', rfl⟩ := hv1.three
  have HV1 := Lib.hid hv1
  have HA1 := Lib.hid (HA.out.keep hb1)
  have HN1 := Lib.hid (HN.out.keep hb1)
  have HB1 := Lib.hid (Below.then HB.out hb1)
  obtain ⟨w2, hw2⟩ : ∃ x, w1.alloc (.cells #[.int .i64 0, .int .i64 0, .string ⟨#[]⟩, .int .i64 0] 30) = x := ⟨_, rfl⟩
  have HB2 := Lib.hid (show Below w1.heap.size w1 w2 by rw [← hw2]; exact below_new _ _)
  obtain ⟨Bm, hBm⟩ : ∃ x, w1.heap.size = x := ⟨_, rfl⟩
  have HX2 := Lib.hid (show At4 30 w2 Bm (.int .i64 0) (.int .i64 0) (.string ⟨#[]⟩) (.int .i64 0) by rw [← hw2, ← hBm]; exact At4.new _ _ _ _ _ _)
  have hlt : w.heap.size + 1 < Bm := by rw [← hBm]; exact HN1.out.lt
  have HW2 := Lib.hid hw2
  have HBm := Lib.hid hBm
  have hne : w.heap.size ≠ Bm := by omega
  have hne2 : Bm ≠ w.heap.size := by omega
  have HA2 := Lib.hid (HA1.out.keep HB2.out)
  have HN2 := Lib.hid (HN1.out.keep HB2.out)
  clear hv1 hb1 a0 a1 a2
  obtain ⟨a0, a1, a2⟩ := HA2.out.cells
  obtain ⟨f0, f1, f2⟩ := HA2.out.free
  obtain ⟨c0, c1, c2, c3⟩ := HX2.out.cells
  obtain ⟨g0, g1, g2, g3⟩ := HX2.out.free
  go_upto_region 2 with fail
  obtain ⟨w4, hw4⟩ : ∃ x, setM4 (set3 w2 w.heap.size (.slice a' k' c') (.int .i64 q') (.int .i64 l')) Bm (.int .i64 x1) (.int .i64 x2) (.string x3) (.int .i64 x4) = x := ⟨_, rfl⟩
  have HA4 := Lib.hid (show At3 24 w4 w.heap.size (.slice a' k' c') (.int .i64 q') (.int .i64 l') by
    rw [← hw4]; exact (setM4_block _ _ _ _ _ _ _ hne).trans (HA2.out.set _ _ _))
  have HN4 := Lib.hid (show At3 24 w4 (w.heap.size + 1) nilV (.int .i64 0) (.int .i64 0) by
    rw [← hw4]; exact (setM4_block _ _ _ _ _ _ _ (by omega)).trans ((set3_block _ _ _ _ _ _ (by omega)).trans HN2.out))
  have HB4 := Lib.hid (show Below w.heap.size w w4 by
    rw [← hw4]; exact setM4_below (set3_below (Below.then HB1.out HB2.out) (Nat.le_refl _) _ _ _) (by omega) _ _ _ _)
  have HK4 := Lib.hid (show ∀ g, g < w1.heap.size → g ≠ w.heap.size → w4.heap[g]? = w1.heap[g]? from fun g h1 h2 => by
    rw [← hw4, setM4_block _ _ _ _ _ _ _ (by have := HBm.out; omega), set3_block _ _ _ _ _ _ h2]; exact HB2.out.block g h1)
  unfold setM4 set3 at hw4
  rw [hw4]
  clear hw4 hw2 hBm a0 a1 a2 f0 f1 f2 c0 c1 c2 c3 g0 g1 g2 g3
  obtain ⟨a0, a1, a2⟩ := HA4.out.cells
  obtain ⟨b0, b1, b2⟩ := HN4.out.cells
  obtain ⟨f0, f1, f2⟩ := HN4.out.free
  go_wp2_with fail
  exact bodyPost_ret (results_nt (p := 4) (u := 5) rfl _ _ (w.heap.size + 1) _ _ _ rfl (HN4.out.set _ _ _)) rfl
    ⟨_, rfl, HV1.out.past (P := fun g => g = w.heap.size ∨ g = w.heap.size + 1) (fun g hg => by
      rcases hg with rfl | rfl
      · exact ⟨_, _, _, _, _, HA1.out⟩
      · exact ⟨_, _, _, _, _, HN1.out⟩) (fun g h1 h2 => (set3_block _ _ _ _ _ _ (fun e => h2 (Or.inr e))).trans (HK4.out g h1 (fun e => h2 (Or.inl e)))), set3_below HB4.out (by omega) _ _ _⟩
end Go.Proofs.Ytjjefdgcbdfclaa
