/-
  The program's stands, isFull, with and without, by contracts. Conditions: few messages.
-/
import Derived.Test.YtjjefdgcbdfclaaPrgWireA
import Derived.Test.YtjjefdgcbdfclaaPrgWireB
import Derived.Test.YtjjefdgcbdfclaaNetCalls
namespace Go.Proofs.Ytjjefdgcbdfclaa
open Go.RowKit Go.WideShapes

set_option maxRecDepth 100000 in
theorem isFull_t (a : Option Addr) (k c : Nat) (q l : Int) (w : World) :
    Calls Try.prog 20 #[.agg #[.slice a k c, .int .i64 q, .int .i64 l]] w fun e w' => e = .returned (.bool (decide (k = 32))) ∧ Below w.heap.size w w' := by
  have HR := Lib.hid (show (Value.bool (decide (k = 32))) = .bool ((k : Int) == 32) by congr 1; rw [Bool.eq_iff_iff]; simp; omega)
  obtain ⟨W, hW⟩ : ∃ W, w.alloc (.cells #[.slice a k c, .int .i64 q, .int .i64 l] 24) = W := ⟨_, rfl⟩
  have HB := Lib.hid (show Below w.heap.size w W by rw [← hW]; exact below_new _ _)
  obtain ⟨a0, a1, a2⟩ := (show At3 24 W w.heap.size (.slice a k c) (.int .i64 q) (.int .i64 l) by rw [← hW]; exact At3.new _ _ _ _ _).cells
  have HW := Lib.hid hW
  clear hW
  go_enter Try.func20, Try.ntmps20
  go_upto_region 1 with fail
  rw [HW.out]
  go_wp2_with fail
  go_ret
  exact ⟨by rw [HR.out]; rfl, HB.out⟩

set_option maxRecDepth 100000 in
set_option maxHeartbeats 2000000 in
theorem stands_t (v : Value) (n : Nt) (p : Int) (w : World) (h : NtAt w v n) :
    Calls Try.prog 22 #[v, .int .i64 p] w fun e w' => e = .returned (.int .i64 (placeE n p)) ∧ Below w.heap.size w w' := by
  have HR := Lib.hid (fun w' (hb : Below w.heap.size w w') => WRight_t v n w' (h.keep hb))
  have HP := Lib.hid (show placeE n p = if n.right = false then 1 else if p < 0 ∨ (n.fl.length : Int) ≤ p then 9 else 0 from rfl)
  obtain ⟨a, c, rfl, hc, hcm, hra⟩ := h.shape
  unfold maxLen at hcm
  obtain ⟨pe, hpe⟩ : ∃ x, placeE n p = x := ⟨_, rfl⟩
  obtain ⟨r, hr⟩ : ∃ x, n.right = x := ⟨_, rfl⟩
  rw [hpe, hr] at HP
  rw [hr] at HR
  rw [hpe]
  obtain ⟨k, hk⟩ : ∃ x, n.fl.length = x := ⟨_, rfl⟩
  obtain ⟨q, hq⟩ : ∃ x, n.last = x := ⟨_, rfl⟩
  obtain ⟨l, hl⟩ : ∃ x, n.now = x := ⟨_, rfl⟩
  rw [hk] at HP hc
  rw [hk, hq, hl] at HR ⊢
  clear h hpe hr hk hq hl hra
  obtain ⟨W, hW⟩ : ∃ W, w.alloc (.cells #[.slice a k c, .int .i64 q, .int .i64 l] 24) = W := ⟨_, rfl⟩
  have hb : Below w.heap.size w W := by rw [← hW]; exact below_new _ _
  have HB := Lib.hid hb
  have HRW := Lib.hid (HR.out W hb)
  have HA := Lib.hid (show At3 24 W w.heap.size (.slice a k c) (.int .i64 q) (.int .i64 l) by rw [← hW]; exact At3.new _ _ _ _ _)
  obtain ⟨a0, a1, a2⟩ := HA.out.cells
  have HW := Lib.hid hW
  clear hW hb HR
  go_enter Try.func22, Try.ntmps22
  go_upto_region 1 with fail
  rw [HW.out]
  go_wp2_with fail
  refine HRW.out.mono ?_
  rintro e w1 ⟨rfl, hb1⟩
  have HB1 := Lib.hid (Below.then HB.out hb1)
  have HA1 := Lib.hid (HA.out.keep hb1)
  clear hb1 a0 a1 a2
  cases r
  · have HE := Lib.hid (show pe = 1 by rw [HP.out, if_pos rfl])
    go_wp2_with fail
    go_ret
    exact ⟨by rw [HE.out]; rfl, HB1.out⟩
  obtain ⟨a0, a1, a2⟩ := HA1.out.cells
  by_cases hp0 : p < 0
  · have HE := Lib.hid (show pe = 9 by rw [HP.out, if_neg (by decide), if_pos (Or.inl hp0)])
    go_wp2_with fail
    go_ret
    exact ⟨by rw [HE.out]; rfl, HB1.out⟩
  by_cases hp1 : (k : Int) ≤ p
  · have HE := Lib.hid (show pe = 9 by rw [HP.out, if_neg (by decide), if_pos (Or.inr hp1)])
    go_wp2_with fail
    go_ret
    exact ⟨by rw [HE.out]; rfl, HB1.out⟩
  · have HE := Lib.hid (show pe = 0 by rw [HP.out, if_neg (by decide), if_neg (by omega)])
    go_wp2_with fail
    go_ret
    exact ⟨by rw [HE.out]; rfl, HB1.out⟩

/-- Three blocks: a net, a message, a net. -/
theorem three_new (w : World) (a b c d e f g x y z : Value) (t u : TypeId) :
    At3 t (((w.alloc (.cells #[a, b, c] t)).alloc (.cells #[d, e, f, g] u)).alloc (.cells #[x, y, z] t)) w.heap.size a b c ∧
    At4 u (((w.alloc (.cells #[a, b, c] t)).alloc (.cells #[d, e, f, g] u)).alloc (.cells #[x, y, z] t)) (w.heap.size + 1) d e f g ∧
    At3 t (((w.alloc (.cells #[a, b, c] t)).alloc (.cells #[d, e, f, g] u)).alloc (.cells #[x, y, z] t)) (w.heap.size + 1 + 1) x y z ∧
    Below w.heap.size w (((w.alloc (.cells #[a, b, c] t)).alloc (.cells #[d, e, f, g] u)).alloc (.cells #[x, y, z] t)) := by
  obtain ⟨h1, h2, h3⟩ := three_four w a b c d e f g t u
  have e' := At3.new t ((w.alloc (.cells #[a, b, c] t)).alloc (.cells #[d, e, f, g] u)) x y z
  rw [World.size_alloc, World.size_alloc] at e'
  exact ⟨h1.keep (below_new _ _), h2.keep (below_new _ _), e', Below.then h3 (below_new _ _)⟩
theorem two_at {w : World} {B : Nat} {x y : Value} {t : TypeId} (h : w.heap[B]? = some (.cells #[x, y] t (0, 0))) : w.cell? ⟨B, 0, none⟩ = some x ∧ w.cell? ⟨B, 1, none⟩ = some y := by
  refine ⟨?_, ?_⟩ <;> simp [World.cell?, h]
/-- Two blocks: a message, a row of two. -/
theorem two_rows (W : World) (m : Ms) (x y : Value) (t : TypeId) :
    RwAt 4 ((W.alloc (.cells #[.int .i64 m.id, .int .i64 m.to, .string m.body, .int .i64 m.tm] 30)).alloc (.cells #[x, y] t)) (.slice (some ⟨W.heap.size, 0, none⟩) 1 1) ([m].map msCell) ∧
    ((W.alloc (.cells #[.int .i64 m.id, .int .i64 m.to, .string m.body, .int .i64 m.tm] 30)).alloc (.cells #[x, y] t)).cell? ⟨W.heap.size + 1, 0, none⟩ = some x ∧
    ((W.alloc (.cells #[.int .i64 m.id, .int .i64 m.to, .string m.body, .int .i64 m.tm] 30)).alloc (.cells #[x, y] t)).cell? ⟨W.heap.size + 1, 1, none⟩ = some y ∧
    Below W.heap.size W ((W.alloc (.cells #[.int .i64 m.id, .int .i64 m.to, .string m.body, .int .i64 m.tm] 30)).alloc (.cells #[x, y] t)) := by
  have e' := heap_alloc_new (W.alloc (.cells #[.int .i64 m.id, .int .i64 m.to, .string m.body, .int .i64 m.tm] 30)) (.cells #[x, y] t)
  rw [World.size_alloc] at e'
  obtain ⟨c0, c1, c2, c3⟩ := ((At4.new 30 W (.int .i64 m.id) (.int .i64 m.to) (.string m.body) (.int .i64 m.tm)).keep (below_new _ (.cells #[x, y] t))).cells
  refine ⟨Or.inr ⟨_, 0, 1, rfl, Nat.zero_lt_one, Nat.le_refl _, by decide, fun i hi j u hu => ?_⟩, (two_at e').1, (two_at e').2, Below.then (below_new _ _) (below_new _ _)⟩
  · obtain rfl : i = 0 := by simpa using hi
    have hu' : (msCell m)[j]? = some u := hu
    match j, hu' with
    | 0, hu => exact c0.trans hu
    | 1, hu => exact c1.trans hu
    | 2, hu => exact c2.trans hu
    | 3, hu => exact c3.trans hu
    | j + 4, hu => simp [msCell] at hu
theorem net_end {w : World} {base B k c : Nat} {s : Option Addr} {l : List Ms} {q t : Int} (ho : w.ownsRow base 30 4 (.slice s k c) k (cellsN l)) (hk : l.length = k) (hB : B < base) (hf : ∀ m ∈ l, m.fits) (hq : i64 q) (ht : i64 t) :
    NtAt (set3 w B (.slice s k c) (.int .i64 q) (.int .i64 t)) (.agg #[.slice s k c, .int .i64 q, .int .i64 t]) ⟨l, q, t⟩ :=
  ⟨⟨_, rfl, RwAt.of_own (own_same ho fun g hg => set3_block _ _ _ _ _ _ (show g ≠ B by omega)) (msWide _) (by rw [List.length_map]; exact hk)⟩, hf, hq, ht⟩
set_option maxRecDepth 100000 in
set_option maxHeartbeats 4000000 in
theorem with_t (a : Option Addr) (k c : Nat) (q l : Int) (n : Nt) (m : Ms) (w : World) (h : NtAt w (.agg #[.slice a k c, .int .i64 q, .int .i64 l]) n) (hm : m.fits) (hk : n.fl.length ≤ 300) :
    Calls Try.prog 21 #[.agg #[.slice a k c, .int .i64 q, .int .i64 l], msV m] w fun e w' => ∃ v', e = .returned v' ∧ NtAt w' v' ⟨n.fl ++ [m], n.last, n.now⟩ ∧ Below w.heap.size w w' := by
  obtain ⟨rfl, rfl, rfl, hc, hcm, hra⟩ := h.parts
  obtain ⟨x1, x2, x3, x4⟩ := m
  unfold msV
  simp only
  obtain ⟨W, hW⟩ : ∃ W, ((w.alloc (.cells #[.slice a n.fl.length c, .int .i64 n.last, .int .i64 n.now] 24)).alloc (.cells #[.int .i64 x1, .int .i64 x2, .string x3, .int .i64 x4] 30)).alloc (.cells #[nilV, .int .i64 0, .int .i64 0] 24) = W := ⟨_, rfl⟩
  have h34 := three_new w (.slice a n.fl.length c) (.int .i64 n.last) (.int .i64 n.now) (.int .i64 x1) (.int .i64 x2) (.string x3) (.int .i64 x4) nilV (.int .i64 0) (.int .i64 0) 24 30
  rw [hW] at h34
  obtain ⟨a0, a1, a2⟩ := h34.1.cells
  obtain ⟨c0, c1, c2, c3⟩ := h34.2.1.cells
  have HW := Lib.hid hW
  have HB := Lib.hid h34.2.2.2
  have HA := Lib.hid h34.1
  have HR := Lib.hid h34.2.2.1
  clear h34 hW
  have h2 := two_rows W ⟨x1, x2, x3, x4⟩ (.slice a n.fl.length c) (.slice (some ⟨W.heap.size, 0, none⟩) 1 1) 22
  simp only at h2
  obtain ⟨W2, hW2⟩ : ∃ W2, (W.alloc (.cells #[.int .i64 x1, .int .i64 x2, .string x3, .int .i64 x4] 30)).alloc (.cells #[.slice a n.fl.length c, .slice (some ⟨W.heap.size, 0, none⟩) 1 1] 22) = W2 := ⟨_, rfl⟩
  rw [hW2] at h2
  have hb2 : Below w.heap.size w W2 := Below.then HB.out h2.2.2.2
  have HC := Lib.hid (msConcat_t (W.heap.size + 1) 0 2 _ _ n.fl [⟨x1, x2, x3, x4⟩] W2 (hra.keep hb2) h2.1 (by rw [List.length_singleton]; omega) h2.2.1 h2.2.2.1)
  have HW2 := Lib.hid hW2
  have HB2 := Lib.hid hb2
  have HA2 := Lib.hid (HA.out.keep h2.2.2.2)
  have HR2 := Lib.hid (HR.out.keep h2.2.2.2)
  have HF := Lib.hid (show ∀ x ∈ n.fl ++ [⟨x1, x2, x3, x4⟩], x.fits from fun x hx => by
    rcases List.mem_append.1 hx with hx | hx
    · exact h.fits x hx
    · rw [List.mem_singleton.1 hx]; exact hm)
  have HQ := Lib.hid h.last
  have HT := Lib.hid h.now
  have hlt : w.heap.size + 1 + 1 < W2.heap.size := HR2.out.lt
  clear hW2 h2 hb2 hra hm h
  obtain ⟨L, hL⟩ : ∃ x, n.fl ++ [(⟨x1, x2, x3, x4⟩ : Ms)] = x := ⟨_, rfl⟩
  obtain ⟨q, hq⟩ : ∃ x, n.last = x := ⟨_, rfl⟩
  obtain ⟨l, hl⟩ : ∃ x, n.now = x := ⟨_, rfl⟩
  obtain ⟨k, hk⟩ : ∃ x, n.fl.length = x := ⟨_, rfl⟩
  rw [hL] at HC HF ⊢
  rw [hq] at HW HA HQ HA2 a1 ⊢
  rw [hl] at HW HA HT HA2 a2 ⊢
  rw [hk] at HW HA HA2 HW2 a0 hc ⊢
  obtain ⟨kk, hkk⟩ : ∃ x, L.length = x := ⟨_, rfl⟩
  rw [hkk] at HC
  have HK := Lib.hid hkk
  clear hL hq hl hk hkk
  go_enter Try.func21, Try.ntmps21
  go_upto_region 1 with fail
  rw [HW.out]
  go_wp2_with fail
  rw [HW2.out]
  refine HC.out.mono ?_
  rintro e w3 ⟨v, rfl, ho3, hb3⟩
  obtain ⟨s1, t1, rfl, -, -⟩ := own_shape ho3
  have hA3 := HA2.out.keep hb3
  obtain ⟨f0, f1, f2⟩ := hA3.free
  clear a0 a1 a2 c0 c1 c2 c3
  obtain ⟨a0, a1, a2⟩ := hA3.cells
  have HA3 := Lib.hid hA3
  have HO3 := Lib.hid ho3
  have HB3 := Lib.hid hb3
  clear hA3 ho3 hb3
  go_upto_region 2 with fail
  obtain ⟨w4, hw4⟩ : ∃ w4, w3.setCell ⟨w.heap.size, 0, none⟩ (.slice s1 kk t1) = w4 := ⟨_, rfl⟩
  have HA4 := Lib.hid (show At3 24 w4 w.heap.size (.slice s1 kk t1) (.int .i64 q) (.int .i64 l) by rw [← hw4]; exact HA3.out.at0 _)
  have HR4 := Lib.hid (show At3 24 w4 (w.heap.size + 1 + 1) nilV (.int .i64 0) (.int .i64 0) by
    rw [← hw4]; exact (Below.heap_setCell _ _ _ _ (show w.heap.size + 1 + 1 ≠ w.heap.size by omega)).trans (HR2.out.keep HB3.out))
  have HO4 := Lib.hid (show w4.ownsRow W2.heap.size 30 4 (.slice s1 kk t1) kk (cellsN L) by
    rw [← hw4]; exact own_same HO3.out fun g hg => Below.heap_setCell _ _ _ _ (show g ≠ w.heap.size by omega))
  have HB4 := Lib.hid (show Below w.heap.size w w4 by rw [← hw4]; exact (Below.then HB2.out HB3.out).setCell (p := ⟨w.heap.size, 0, none⟩) (Nat.le_refl _) _)
  rw [hw4]
  clear hw4 f0 f1 f2 a0 a1 a2
  obtain ⟨a0, a1, a2⟩ := HA4.out.cells
  obtain ⟨b0, b1, b2⟩ := HR4.out.cells
  obtain ⟨f0, f1, f2⟩ := HR4.out.free
  go_wp2_with fail
  exact bodyPost_ret (results_cell_row (p := 4) rfl _ _ (w.heap.size + 1 + 1) 24 _ (0, 0) _ rfl (HR4.out.set _ _ _) Try.underlying24 rfl infoNet) rfl ⟨_, rfl, net_end HO4.out HK.out hlt HF.out HQ.out HT.out, set3_below HB4.out (by omega) _ _ _⟩
end Go.Proofs.Ytjjefdgcbdfclaa
