/-
  The laws' own right of a net, by a contract. Conditions: none.
-/
import Derived.Test.YtjjefdgcbdfclaaNetPlain
namespace Go.Proofs.Ytjjefdgcbdfclaa
open Go.RowKit Go.WideShapes

theorem all_step {α : Type} (p : α → Bool) (l : List α) (k : Nat) (h : k < l.length) : (l.drop k).all p = (p l[k] && (l.drop (k + 1)).all p) := by
  rw [List.drop_eq_getElem_cons h, List.all_cons]
theorem all_end {α : Type} (p : α → Bool) (l : List α) (k : Nat) (h : l.length ≤ k) : (l.drop k).all p = true := by
  rw [List.drop_of_length_le h]; rfl
theorem Nt.right_no {n : Nt} (h : n.fl.all (Ms.ok n.last n.now) = false) : n.right = false := by unfold Nt.right; rw [h]; rfl
theorem Nt.right_yes {n : Nt} (h : n.fl.all (Ms.ok n.last n.now) = true) : n.right = (decide (n.fl.length ≤ 32) && tickB n.last && tickB n.now) := by unfold Nt.right; rw [h]; rfl

set_option maxRecDepth 100000 in
set_option maxHeartbeats 8000000 in
theorem right13_t (v : Value) (n : Nt) (w : World) (h : NtAt w v n) :
    Calls Try.prog 15 #[v] w fun e w' => e = .returned (.bool n.right) ∧ Below w.heap.size w w' := by
  have HNO := Lib.hid (fun (e : n.fl.all (Ms.ok n.last n.now) = false) => Nt.right_no e)
  have HYE := Lib.hid (fun (e : n.fl.all (Ms.ok n.last n.now) = true) => Nt.right_yes e)
  have HST := Lib.hid (fun k hk => all_step (Ms.ok n.last n.now) n.fl k hk)
  have HEN := Lib.hid (fun k hk => all_end (Ms.ok n.last n.now) n.fl k hk)
  have HOK := Lib.hid (show ∀ m, Ms.ok n.last n.now m = (decide (1 ≤ m.id) && decide (m.id ≤ n.last) && decide (0 ≤ m.to) && decide (m.to ≤ 63) && decide (m.body.size ≤ 4096) && decide (0 ≤ m.tm) && decide (m.tm ≤ n.now)) from fun _ => rfl)
  obtain ⟨p1, c1, rfl, h1, h1c, hra⟩ := h.shape
  unfold maxLen at h1c
  obtain ⟨p, hp⟩ : ∃ p, Ms.ok n.last n.now = p := ⟨_, rfl⟩
  obtain ⟨rb, hrb⟩ : ∃ b, n.right = b := ⟨_, rfl⟩
  rw [hp] at HNO HYE HST HEN HOK
  rw [hrb] at HNO HYE ⊢
  obtain ⟨os, q, l⟩ := n
  simp only at h1 hra HNO HYE HST HEN HOK ⊢
  clear hp hrb h
  obtain ⟨n, hn⟩ : ∃ x, os.length = x := ⟨_, rfl⟩
  rw [hn] at hra h1 HYE ⊢
  have HN := Lib.hid hn
  obtain ⟨W, hW⟩ : ∃ W, w.alloc (.cells #[.slice p1 n c1, .int .i64 q, .int .i64 l] 24) = W := ⟨_, rfl⟩
  have hb0 : Below w.heap.size w W := by rw [← hW]; exact below_new _ _
  have HB0 := Lib.hid hb0
  have HA := Lib.hid (show At3 24 W w.heap.size (.slice p1 n c1) (.int .i64 q) (.int .i64 l) by rw [← hW]; exact At3.new _ _ _ _ _)
  have HO := Lib.hid (hra.keep hb0)
  have HW := Lib.hid hW
  obtain ⟨a0, a1, a2⟩ := HA.out.cells
  clear hW hra hb0 hn
  go_enter Try.func15, Try.ntmps15
  go_upto_region 1 with fail
  rw [HW.out]
  go_wp2_with fail
  clear a0 a1 a2
  go_loopw [8] (fun iv wr => ∃ k : Nat, k ≤ n ∧ iv = .int .i64 k ∧ (os.drop k).all p = os.all p ∧ Below W.heap.size W wr) (fun i _ => n - (intOf i).toNat)
  case atStart => exact ⟨0, Nat.zero_le _, rfl, rfl, Below.refl _ _⟩
  case round =>
    obtain ⟨k, hk, rfl, hfk, hbr⟩ := hrel
    have HF := Lib.hid hfk
    have HBR := Lib.hid hbr
    clear hfk hbr
    by_cases hlt : k < n
    · have k1 : k < os.length := by rw [HN.out]; exact hlt
      obtain ⟨lb, lo, rfl, e0, e1, e2, e3⟩ := ms_at (HO.out.keep HBR.out) k k1
      have hst := HST.out k k1
      have hok := HOK.out os[k]
      obtain ⟨⟨x1, x2, x3, x4⟩, hx⟩ : ∃ x, os[k] = x := ⟨_, rfl⟩
      rw [hx] at e0 e1 e2 e3 hst hok
      rw [HF.out, hok] at hst
      simp only at e0 e1 e2 e3 hst
      have HS := Lib.hid hst
      obtain ⟨W1, hW1⟩ : ∃ W1, wr.alloc (.cells #[.int .i64 x1, .int .i64 x2, .string x3, .int .i64 x4] 30) = W1 := ⟨_, rfl⟩
      obtain ⟨B1, hB1⟩ : ∃ B, wr.heap.size = B := ⟨_, rfl⟩
      have hb1 : Below W.heap.size W W1 := by rw [← hW1]; exact Below.then HBR.out (below_new _ _)
      have HB1 := Lib.hid hb1
      have HX := Lib.hid (show At4 30 W1 B1 (.int .i64 x1) (.int .i64 x2) (.string x3) (.int .i64 x4) by rw [← hW1, ← hB1]; exact At4.new _ _ _ _ _ _)
      have HW1 := Lib.hid hW1
      clear hW1 hst hx hb1 hok
      go_upto_region 4 with fail
      rw [HW1.out]
      clear hB1 e0 e1 e2 e3
      obtain ⟨x0, x1', x2', x3'⟩ := HX.out.cells
      obtain ⟨a0, a1, a2⟩ := (HA.out.keep HB1.out).cells
      by_cases g0 : 1 ≤ x1
      rotate_left
      · have HO := Lib.hid (HNO.out (show os.all p = false by rw [HS.out, decide_eq_false g0]; simp))
        go_wp2_with fail
        go_ret
        exact ⟨by rw [HO.out]; rfl, Below.then HB0.out HB1.out⟩
      by_cases g1 : x1 ≤ q
      rotate_left
      · have HO := Lib.hid (HNO.out (show os.all p = false by rw [HS.out, decide_eq_true g0, decide_eq_false g1]; simp))
        go_wp2_with fail
        go_ret
        exact ⟨by rw [HO.out]; rfl, Below.then HB0.out HB1.out⟩
      by_cases g2 : 0 ≤ x2
      rotate_left
      · have HO := Lib.hid (HNO.out (show os.all p = false by rw [HS.out, decide_eq_true g0, decide_eq_true g1, decide_eq_false g2]; simp))
        go_wp2_with fail
        go_ret
        exact ⟨by rw [HO.out]; rfl, Below.then HB0.out HB1.out⟩
      by_cases g3 : x2 ≤ 63
      rotate_left
      · have HO := Lib.hid (HNO.out (show os.all p = false by rw [HS.out, decide_eq_true g0, decide_eq_true g1, decide_eq_true g2, decide_eq_false g3]; simp))
        go_wp2_with fail
        go_ret
        exact ⟨by rw [HO.out]; rfl, Below.then HB0.out HB1.out⟩
      by_cases g4 : x3.size ≤ 4096
      rotate_left
      · have HO := Lib.hid (HNO.out (show os.all p = false by rw [HS.out, decide_eq_true g0, decide_eq_true g1, decide_eq_true g2, decide_eq_true g3, decide_eq_false g4]; simp))
        go_wp2_with fail
        go_ret
        exact ⟨by rw [HO.out]; rfl, Below.then HB0.out HB1.out⟩
      by_cases g5 : 0 ≤ x4
      rotate_left
      · have HO := Lib.hid (HNO.out (show os.all p = false by rw [HS.out, decide_eq_true g0, decide_eq_true g1, decide_eq_true g2, decide_eq_true g3, decide_eq_true g4, decide_eq_false g5]; simp))
        go_wp2_with fail
        go_ret
        exact ⟨by rw [HO.out]; rfl, Below.then HB0.out HB1.out⟩
      by_cases g6 : x4 ≤ l
      rotate_left
      · have HO := Lib.hid (HNO.out (show os.all p = false by rw [HS.out, decide_eq_true g0, decide_eq_true g1, decide_eq_true g2, decide_eq_true g3, decide_eq_true g4, decide_eq_true g5, decide_eq_false g6]; simp))
        go_wp2_with fail
        go_ret
        exact ⟨by rw [HO.out]; rfl, Below.then HB0.out HB1.out⟩
      have HO := Lib.hid (show (os.drop (k + 1)).all p = os.all p by rw [HS.out, decide_eq_true g0, decide_eq_true g1, decide_eq_true g2, decide_eq_true g3, decide_eq_true g4, decide_eq_true g5, decide_eq_true g6]; simp)
      go_wp2_with fail
      go_roundw
      case rel => exact ⟨k + 1, by omega, by go_num, HO.out, HB1.out⟩
      case measure => simp [intOf]; omega
    · have HEE := Lib.hid (HYE.out (show os.all p = true by rw [← HF.out]; exact HEN.out k (by rw [HN.out]; omega)))
      obtain ⟨a0, a1, a2⟩ := (HA.out.keep HBR.out).cells
      by_cases f0 : n ≤ 32
      rotate_left
      · have HO := Lib.hid (show rb = false by rw [HEE.out]; unfold tickB; rw [decide_eq_false f0]; simp)
        go_wp2_with fail
        go_ret
        exact ⟨by rw [HO.out]; rfl, Below.then HB0.out HBR.out⟩
      by_cases f1 : 0 ≤ q
      rotate_left
      · have HO := Lib.hid (show rb = false by rw [HEE.out]; unfold tickB; rw [decide_eq_true f0, decide_eq_false f1]; simp)
        go_wp2_with fail
        go_ret
        exact ⟨by rw [HO.out]; rfl, Below.then HB0.out HBR.out⟩
      by_cases f2 : q ≤ 1099511627776
      rotate_left
      · have HO := Lib.hid (show rb = false by rw [HEE.out]; unfold tickB; rw [decide_eq_true f0, decide_eq_true f1, decide_eq_false f2]; simp)
        go_wp2_with fail
        go_ret
        exact ⟨by rw [HO.out]; rfl, Below.then HB0.out HBR.out⟩
      by_cases f3 : 0 ≤ l
      rotate_left
      · have HO := Lib.hid (show rb = false by rw [HEE.out]; unfold tickB; rw [decide_eq_true f0, decide_eq_true f1, decide_eq_true f2, decide_eq_false f3]; simp)
        go_wp2_with fail
        go_ret
        exact ⟨by rw [HO.out]; rfl, Below.then HB0.out HBR.out⟩
      by_cases f4 : l ≤ 1099511627776
      rotate_left
      · have HO := Lib.hid (show rb = false by rw [HEE.out]; unfold tickB; rw [decide_eq_true f0, decide_eq_true f1, decide_eq_true f2, decide_eq_true f3, decide_eq_false f4]; simp)
        go_wp2_with fail
        go_ret
        exact ⟨by rw [HO.out]; rfl, Below.then HB0.out HBR.out⟩
      have HO := Lib.hid (show rb = true by rw [HEE.out]; unfold tickB; rw [decide_eq_true f0, decide_eq_true f1, decide_eq_true f2, decide_eq_true f3, decide_eq_true f4]; simp)
      go_wp2_with fail
      go_ret
      exact ⟨by rw [HO.out]; rfl, Below.then HB0.out HBR.out⟩
end Go.Proofs.Ytjjefdgcbdfclaa
