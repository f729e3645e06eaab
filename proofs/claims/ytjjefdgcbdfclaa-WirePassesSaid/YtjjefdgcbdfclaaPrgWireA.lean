/-
  The program's Right of a net, with what it calls, by contracts. Conditions: none.
-/
import Derived.Test.YtjjefdgcbdfclaaNetInts
import Derived.Test.YtjjefdgcbdfclaaNetRight13
namespace Go.Proofs.Ytjjefdgcbdfclaa
open Go.RowKit Go.WideShapes

set_option maxRecDepth 100000 in
theorem isTick_t (n : Int) (w : World) : Calls Try.prog 25 #[.int .i64 n] w fun e w' => e = .returned (.bool (tickB n)) ∧ w' = w := by
  unfold tickB
  by_cases h0 : 0 ≤ n
  · by_cases h1 : n ≤ 1099511627776
    · rw [decide_eq_true h0, decide_eq_true h1]
      go_enter Try.func25, Try.ntmps25
      go_wp2_with fail
      go_ret
      exact ⟨rfl, rfl⟩
    · rw [decide_eq_true h0, decide_eq_false h1]
      go_enter Try.func25, Try.ntmps25
      go_wp2_with fail
      go_ret
      exact ⟨rfl, rfl⟩
  · rw [decide_eq_false h0]
    go_enter Try.func25, Try.ntmps25
    go_wp2_with fail
    go_ret
    exact ⟨rfl, rfl⟩
def toB (n : Int) : Bool := decide (0 ≤ n) && decide (n ≤ 63)
set_option maxRecDepth 100000 in
theorem isTo_t (n : Int) (w : World) : Calls Try.prog 18 #[.int .i64 n] w fun e w' => e = .returned (.bool (toB n)) ∧ w' = w := by
  unfold toB
  by_cases h0 : 0 ≤ n
  · by_cases h1 : n ≤ 63
    · rw [decide_eq_true h0, decide_eq_true h1]
      go_enter Try.func18, Try.ntmps18
      go_wp2_with fail
      go_ret
      exact ⟨rfl, rfl⟩
    · rw [decide_eq_true h0, decide_eq_false h1]
      go_enter Try.func18, Try.ntmps18
      go_wp2_with fail
      go_ret
      exact ⟨rfl, rfl⟩
  · rw [decide_eq_false h0]
    go_enter Try.func18, Try.ntmps18
    go_wp2_with fail
    go_ret
    exact ⟨rfl, rfl⟩
set_option maxRecDepth 100000 in
theorem isBody_t (b : ByteArray) (w : World) : Calls Try.prog 19 #[.string b] w fun e w' => e = .returned (.bool (decide (b.size ≤ 4096))) ∧ w' = w := by
  have HR := Lib.hid (show decide (b.size ≤ 4096) = decide ((b.size : Int) ≤ 4096) from decide_eq_decide.2 (by omega))
  go_enter Try.func19, Try.ntmps19
  go_wp2_with fail
  go_ret
  exact ⟨by rw [HR.out]; rfl, rfl⟩
theorem ok_parts (q l : Int) (m : Ms) : Ms.ok q l m = (decide (1 ≤ m.id) && decide (m.id ≤ q) && decide (0 ≤ m.tm) && decide (m.tm ≤ l) && toB m.to && decide (m.body.size ≤ 4096)) := by
  unfold Ms.ok toB
  rw [Bool.eq_iff_iff]
  simp only [Bool.and_eq_true, decide_eq_true_eq]
  omega
/-- A block of four beside one of three. -/
theorem three_four (w : World) (a b c d e f g : Value) (t u : TypeId) : At3 t ((w.alloc (.cells #[a, b, c] t)).alloc (.cells #[d, e, f, g] u)) w.heap.size a b c ∧
    At4 u ((w.alloc (.cells #[a, b, c] t)).alloc (.cells #[d, e, f, g] u)) (w.heap.size + 1) d e f g ∧ Below w.heap.size w ((w.alloc (.cells #[a, b, c] t)).alloc (.cells #[d, e, f, g] u)) := by
  have e' := At4.new u (w.alloc (.cells #[a, b, c] t)) d e f g
  rw [World.size_alloc] at e'
  exact ⟨(At3.new t w a b c).keep (below_new _ _), e', Below.then (below_new _ _) (below_new _ _)⟩

set_option maxRecDepth 100000 in
set_option maxHeartbeats 4000000 in
theorem mayFly_t (a : Option Addr) (k c : Nat) (q l : Int) (m : Ms) (w : World) :
    Calls Try.prog 26 #[.agg #[.slice a k c, .int .i64 q, .int .i64 l], msV m] w fun e w' => e = .returned (.bool (Ms.ok q l m)) ∧ Below w.heap.size w w' := by
  rw [ok_parts]
  obtain ⟨x1, x2, x3, x4⟩ := m
  unfold msV
  simp only
  obtain ⟨tb, htb⟩ : ∃ b, toB x2 = b := ⟨_, rfl⟩
  obtain ⟨bb, hbb⟩ : ∃ b, decide (x3.size ≤ 4096) = b := ⟨_, rfl⟩
  have T := Lib.hid (fun w => isTo_t x2 w)
  have B := Lib.hid (fun w => isBody_t x3 w)
  rw [htb] at T ⊢
  rw [hbb] at B ⊢
  clear htb hbb
  obtain ⟨r, hr⟩ : ∃ r, (decide (1 ≤ x1) && decide (x1 ≤ q) && decide (0 ≤ x4) && decide (x4 ≤ l) && tb && bb) = r := ⟨_, rfl⟩
  rw [hr]
  have HR := Lib.hid hr
  clear hr
  obtain ⟨W, hW⟩ : ∃ W, (w.alloc (.cells #[.slice a k c, .int .i64 q, .int .i64 l] 24)).alloc (.cells #[.int .i64 x1, .int .i64 x2, .string x3, .int .i64 x4] 30) = W := ⟨_, rfl⟩
  have h34 := three_four w (.slice a k c) (.int .i64 q) (.int .i64 l) (.int .i64 x1) (.int .i64 x2) (.string x3) (.int .i64 x4) 24 30
  rw [hW] at h34
  obtain ⟨a0, a1, a2⟩ := h34.1.cells
  obtain ⟨c0, c1, c2, c3⟩ := h34.2.1.cells
  have HB := Lib.hid h34.2.2
  have HW := Lib.hid hW
  clear h34 hW
  go_enter Try.func26, Try.ntmps26
  go_upto_region 1 with fail
  rw [HW.out]
  by_cases g0 : 1 ≤ x1
  rotate_left
  · have HE := Lib.hid (show r = false by rw [← HR.out, decide_eq_false g0]; simp)
    go_wp2_with fail
    go_ret
    exact ⟨by rw [HE.out]; rfl, HB.out⟩
  by_cases g1 : x1 ≤ q
  rotate_left
  · have HE := Lib.hid (show r = false by rw [← HR.out, decide_eq_true g0, decide_eq_false g1]; simp)
    go_wp2_with fail
    go_ret
    exact ⟨by rw [HE.out]; rfl, HB.out⟩
  by_cases g2 : 0 ≤ x4
  rotate_left
  · have HE := Lib.hid (show r = false by rw [← HR.out, decide_eq_true g0, decide_eq_true g1, decide_eq_false g2]; simp)
    go_wp2_with fail
    go_ret
    exact ⟨by rw [HE.out]; rfl, HB.out⟩
  by_cases g3 : x4 ≤ l
  rotate_left
  · have HE := Lib.hid (show r = false by rw [← HR.out, decide_eq_true g0, decide_eq_true g1, decide_eq_true g2, decide_eq_false g3]; simp)
    go_wp2_with fail
    go_ret
    exact ⟨by rw [HE.out]; rfl, HB.out⟩
  have HR2 := Lib.hid (show r = (tb && bb) by rw [← HR.out, decide_eq_true g0, decide_eq_true g1, decide_eq_true g2, decide_eq_true g3]; rfl)
  go_wp2_with fail
  refine (T.out W).mono ?_
  rintro e w1 ⟨rfl, rfl⟩
  cases tb
  · go_wp2_with fail
    go_ret
    exact ⟨by rw [HR2.out]; rfl, HB.out⟩
  · go_wp2_with fail
    refine (B.out w1).mono ?_
    rintro e w2 ⟨rfl, rfl⟩
    go_wp2_with fail
    go_ret
    exact ⟨by rw [HR2.out]; rfl, HB.out⟩

set_option maxRecDepth 100000 in
set_option maxHeartbeats 8000000 in
theorem WRight_t (v : Value) (n : Nt) (w : World) (h : NtAt w v n) : Calls Try.prog 14 #[v] w fun e w' => e = .returned (.bool n.right) ∧ Below w.heap.size w w' := by
  have HRT := Lib.hid (show n.right = (n.fl.all (Ms.ok n.last n.now) && decide (n.fl.length ≤ 32) && tickB n.last && tickB n.now) from rfl)
  have HST := Lib.hid (fun k hk => all_step (Ms.ok n.last n.now) n.fl k hk)
  have HEN := Lib.hid (fun k hk => all_end (Ms.ok n.last n.now) n.fl k hk)
  obtain ⟨p1, c1, rfl, h1, h1c, hra⟩ := h.shape
  unfold maxLen at h1c
  obtain ⟨os, q, l⟩ := n
  have MF := Lib.hid (fun k c m w => mayFly_t p1 k c q l m w)
  have TQ := Lib.hid (fun w => isTick_t q w)
  have TL := Lib.hid (fun w => isTick_t l w)
  obtain ⟨rb, hrb⟩ : ∃ b, (⟨os, q, l⟩ : Nt).right = b := ⟨_, rfl⟩
  rw [hrb] at HRT ⊢
  simp only at h1 hra HRT HST HEN ⊢
  obtain ⟨p, hp⟩ : ∃ p, Ms.ok q l = p := ⟨_, rfl⟩
  rw [hp] at HRT HST HEN MF
  obtain ⟨bq, hbq⟩ : ∃ b, tickB q = b := ⟨_, rfl⟩
  obtain ⟨bl, hbl⟩ : ∃ b, tickB l = b := ⟨_, rfl⟩
  rw [hbq] at HRT TQ
  rw [hbl] at HRT TL
  clear hp hrb h hbq hbl
  obtain ⟨n, hn⟩ : ∃ x, os.length = x := ⟨_, rfl⟩
  rw [hn] at hra h1 HRT ⊢
  have HN := Lib.hid hn
  obtain ⟨W, hW⟩ : ∃ W, w.alloc (.cells #[.slice p1 n c1, .int .i64 q, .int .i64 l] 24) = W := ⟨_, rfl⟩
  have hb0 : Below w.heap.size w W := by rw [← hW]; exact below_new _ _
  have HB0 := Lib.hid hb0
  have HA := Lib.hid (show At3 24 W w.heap.size (.slice p1 n c1) (.int .i64 q) (.int .i64 l) by rw [← hW]; exact At3.new _ _ _ _ _)
  have HO := Lib.hid (hra.keep hb0)
  have HW := Lib.hid hW
  obtain ⟨a0, a1, a2⟩ := HA.out.cells
  clear hW hra hb0 hn
  go_enter Try.func14, Try.ntmps14
  go_upto_region 1 with fail
  rw [HW.out]
  by_cases f0 : n ≤ 32
  rotate_left
  · have HE := Lib.hid (show rb = false by rw [HRT.out, decide_eq_false f0]; simp)
    go_wp2_with fail
    go_ret
    exact ⟨by rw [HE.out]; rfl, HB0.out⟩
  have HRT2 := Lib.hid (show rb = (os.all p && bq && bl) by rw [HRT.out, decide_eq_true f0]; simp)
  go_wp2_with fail
  refine (TQ.out W).mono ?_
  rintro e w1 ⟨rfl, hw1⟩
  subst hw1
  cases bq
  · go_wp2_with fail
    go_ret
    exact ⟨by rw [HRT2.out]; simp, HB0.out⟩
  go_wp2_with fail
  refine (TL.out w1).mono ?_
  rintro e w2 ⟨rfl, hw2⟩
  subst hw2
  cases bl
  · go_wp2_with fail
    go_ret
    exact ⟨by rw [HRT2.out]; simp, HB0.out⟩
  have HRT3 := Lib.hid (show rb = os.all p by rw [HRT2.out]; simp)
  clear a0 a1 a2
  obtain ⟨a0, a1, a2⟩ := HA.out.cells
  go_wp2_with fail
  clear a0 a1 a2
  go_loopw [24] (fun iv wr => ∃ k : Nat, k ≤ n ∧ iv = .int .i64 k ∧ (os.drop k).all p = os.all p ∧ Below w2.heap.size w2 wr) (fun i _ => n - (intOf i).toNat)
  case atStart => exact ⟨0, Nat.zero_le _, rfl, rfl, Below.refl _ _⟩
  case round =>
    obtain ⟨k, hk, rfl, hfk, hbr⟩ := hrel
    have HF := Lib.hid hfk
    have HBR := Lib.hid hbr
    clear hfk hbr
    by_cases hlt : k < n
    · have k1 : k < os.length := by rw [HN.out]; exact hlt
      obtain ⟨lb, lo, rfl, e0, e1, e2, e3⟩ := ms_at (HO.out.keep HBR.out) k k1
      have hst := HST.out k k1
      obtain ⟨⟨x1, x2, x3, x4⟩, hx⟩ : ∃ x, os[k] = x := ⟨_, rfl⟩
      rw [hx] at e0 e1 e2 e3 hst
      rw [HF.out] at hst
      simp only at e0 e1 e2 e3 hst
      have MK := Lib.hid (fun w => MF.out n c1 ⟨x1, x2, x3, x4⟩ w)
      obtain ⟨b, hb⟩ : ∃ b, p ⟨x1, x2, x3, x4⟩ = b := ⟨_, rfl⟩
      rw [hb] at MK hst
      have HS := Lib.hid hst
      obtain ⟨W1, hW1⟩ : ∃ W1, wr.alloc (.cells #[.int .i64 x1, .int .i64 x2, .string x3, .int .i64 x4] 30) = W1 := ⟨_, rfl⟩
      obtain ⟨B1, hB1⟩ : ∃ B, wr.heap.size = B := ⟨_, rfl⟩
      have HB1 := Lib.hid (show Below w2.heap.size w2 W1 by rw [← hW1]; exact Below.then HBR.out (below_new _ _))
      have HX := Lib.hid (show At4 30 W1 B1 (.int .i64 x1) (.int .i64 x2) (.string x3) (.int .i64 x4) by rw [← hW1, ← hB1]; exact At4.new _ _ _ _ _ _)
      have HW1 := Lib.hid hW1
      clear hW1 hst hx hb
      go_upto_region 6 with fail
      rw [HW1.out]
      clear hB1 e0 e1 e2 e3
      obtain ⟨x0, x1', x2', x3'⟩ := HX.out.cells
      obtain ⟨a0, a1, a2⟩ := (HA.out.keep HB1.out).cells
      go_wp2_with fail
      refine (MK.out W1).mono ?_
      rintro e w3 ⟨rfl, hb3⟩
      have HB3 := Lib.hid (Below.then HB1.out hb3)
      clear hb3 x0 x1' x2' x3' a0 a1 a2
      cases b
      · go_wp2_with fail
        go_ret
        exact ⟨by rw [HRT3.out, HS.out]; rfl, Below.then HB0.out HB3.out⟩
      · go_wp2_with fail
        go_roundw
        case rel => exact ⟨k + 1, by omega, by go_num, by rw [HS.out]; rfl, HB3.out⟩
        case measure => simp [intOf]; omega
    · have HEE := Lib.hid (show rb = true by rw [HRT3.out, ← HF.out]; exact HEN.out k (by rw [HN.out]; omega))
      go_wp2_with fail
      go_ret
      exact ⟨by rw [HEE.out]; rfl, Below.then HB0.out HBR.out⟩
end Go.Proofs.Ytjjefdgcbdfclaa
