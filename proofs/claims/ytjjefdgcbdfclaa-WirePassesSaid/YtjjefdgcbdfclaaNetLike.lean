/-
  The laws' own like of two nets, by a contract. Conditions: none.
-/
import Derived.Test.YtjjefdgcbdfclaaNetPlain
namespace Go.Proofs.Ytjjefdgcbdfclaa
open Go.RowKit Go.WideShapes

/-- How like ends. -/
def NtLike (a b : Nt) (w : World) (e : Ending) (w' : World) : Prop := e = .returned (.bool (likeN a b)) ∧ Below w.heap.size w w'
theorem NtLike.no {a b : Nt} {w w' : World} (h : a ≠ b) (hb : Below w.heap.size w w') : NtLike a b w (.returned (.bool false)) w' :=
  ⟨by rw [show likeN a b = false from by cases e : likeN a b with | false => rfl | true => exact absurd ((likeN_iff a b).1 e) h], hb⟩
theorem NtLike.yes {a b : Nt} {w w' : World} (h : a = b) (hb : Below w.heap.size w w') : NtLike a b w (.returned (.bool true)) w' :=
  ⟨by rw [(likeN_iff a b).2 h], hb⟩
theorem Ms.ext4 {a b : Ms} (h : a = b) : a.id = b.id ∧ a.to = b.to ∧ a.body = b.body ∧ a.tm = b.tm := by subst h; exact ⟨rfl, rfl, rfl, rfl⟩

set_option maxRecDepth 100000 in
set_option maxHeartbeats 8000000 in
theorem like13_t (a b : Nt) (va vb : Value) (w : World) (ha : NtAt w va a) (hb : NtAt w vb b) :
    Calls Try.prog 17 #[va, vb] w (NtLike a b w) := by
  have HNE := Lib.hid (fun (h : a ≠ b) w' (hb : Below w.heap.size w w') => NtLike.no h hb)
  have HYE := Lib.hid (fun (h : a = b) w' (hb : Below w.heap.size w w') => NtLike.yes h hb)
  obtain ⟨p1, c1, rfl, h1, h1c, hra⟩ := ha.shape
  obtain ⟨p2, c2, rfl, h2, h2c, hrb⟩ := hb.shape
  obtain ⟨os, q, l⟩ := a
  obtain ⟨os', q', l'⟩ := b
  unfold maxLen at h1c h2c
  simp only at h1 h2 hra hrb ⊢
  obtain ⟨n, hn⟩ : ∃ x, os.length = x := ⟨_, rfl⟩
  obtain ⟨n', hn'⟩ : ∃ x, os'.length = x := ⟨_, rfl⟩
  rw [hn] at hra h1 ⊢
  rw [hn'] at hrb h2 ⊢
  have HN := Lib.hid hn
  have HN' := Lib.hid hn'
  obtain ⟨W, hW⟩ : ∃ W, (w.alloc (.cells #[.slice p1 n c1, .int .i64 q, .int .i64 l] 24)).alloc (.cells #[.slice p2 n' c2, .int .i64 q', .int .i64 l'] 24) = W := ⟨_, rfl⟩
  have hb0 : Below w.heap.size w W := by rw [← hW]; exact Below.then (below_new _ _) (below_new _ _)
  have HB0 := Lib.hid hb0
  have HA := Lib.hid (show At3 24 W w.heap.size (.slice p1 n c1) (.int .i64 q) (.int .i64 l) by rw [← hW]; exact (At3.new _ _ _ _ _).keep (below_new _ _))
  have HC := Lib.hid (show At3 24 W (w.heap.size + 1) (.slice p2 n' c2) (.int .i64 q') (.int .i64 l') by
    rw [← hW]
    have e := At3.new 24 (w.alloc (.cells #[.slice p1 n c1, .int .i64 q, .int .i64 l] 24)) (.slice p2 n' c2) (.int .i64 q') (.int .i64 l')
    rwa [World.size_alloc] at e)
  have HO := Lib.hid (hra.keep hb0)
  have HO' := Lib.hid (hrb.keep hb0)
  have HW := Lib.hid hW
  obtain ⟨a0, a1, a2⟩ := HA.out.cells
  obtain ⟨b0, b1, b2⟩ := HC.out.cells
  clear hW ha hb hra hrb hb0 hn hn'
  go_enter Try.func17, Try.ntmps17
  go_upto_region 1 with fail
  rw [HW.out]
  by_cases hne : n = n'
  rotate_left
  · have q0 : ((n : Int) != (n' : Int)) = true := bne_iff_ne.2 (by omega)
    have HF := Lib.hid (HNE.out (fun e => hne (by rw [← HN.out, ← HN'.out]; injection e with e _ _; rw [e])) W HB0.out)
    clear hne
    go_wp2_with fail
    go_ret
    exact HF.out
  subst hne
  have qn : ((n : Int) != (n : Int)) = false := by rw [bne_self_eq_false]
  by_cases hne : q = q'
  rotate_left
  · have q0 : (q != q') = true := bne_iff_ne.2 hne
    have HF := Lib.hid (HNE.out (fun e => hne (by injection e)) W HB0.out)
    clear hne
    go_wp2_with fail
    go_ret
    exact HF.out
  subst hne
  have qq : (q != q) = false := by rw [bne_self_eq_false]
  by_cases hne : l = l'
  rotate_left
  · have q0 : (l != l') = true := bne_iff_ne.2 hne
    have HF := Lib.hid (HNE.out (fun e => hne (by injection e)) W HB0.out)
    clear hne
    go_wp2_with fail
    go_ret
    exact HF.out
  subst hne
  have ql : (l != l) = false := by rw [bne_self_eq_false]
  go_wp2_with fail
  clear a0 a1 a2 b0 b1 b2
  go_loopw [30] (fun iv wr => ∃ k : Nat, k ≤ n ∧ iv = .int .i64 k ∧ os.take k = os'.take k ∧ Below W.heap.size W wr) (fun i _ => n - (intOf i).toNat)
  case atStart => exact ⟨0, Nat.zero_le _, rfl, rfl, Below.refl _ _⟩
  case round =>
    obtain ⟨k, hk, rfl, htk, hbr⟩ := hrel
    have HT := Lib.hid htk
    have HBR := Lib.hid hbr
    clear htk hbr
    obtain ⟨p0, p1x, p2x⟩ := (HA.out.keep HBR.out).cells
    obtain ⟨r0, r1x, r2x⟩ := (HC.out.keep HBR.out).cells
    by_cases hlt : k < n
    · have k1 : k < os.length := by rw [HN.out]; exact hlt
      have k2 : k < os'.length := by rw [HN'.out]; exact hlt
      obtain ⟨lb, lo, rfl, e0, e1, e2, e3⟩ := ms_at (HO.out.keep HBR.out) k k1
      obtain ⟨lb', lo', rfl, g0, g1, g2, g3⟩ := ms_at (HO'.out.keep HBR.out) k k2
      have hts := Lib.hid (List.take_succ_eq_append_getElem k1)
      have hts' := Lib.hid (List.take_succ_eq_append_getElem k2)
      have HD := Lib.hid (show os[k] ≠ os'[k] → os ≠ os' from fun h e => h (by simp only [e]))
      obtain ⟨⟨x1, x2, x3, x4⟩, hx⟩ : ∃ x, os[k] = x := ⟨_, rfl⟩
      obtain ⟨⟨y1, y2, y3, y4⟩, hy⟩ : ∃ x, os'[k] = x := ⟨_, rfl⟩
      rw [hx] at e0 e1 e2 e3 hts HD
      rw [hy] at g0 g1 g2 g3 hts' HD
      simp only at e0 e1 e2 e3 g0 g1 g2 g3
      clear hx hy
      rcases Nat.eq_zero_or_pos k with rfl | hk0
      · simp only [Nat.zero_mul, Nat.add_zero] at e0 e1 e2 e3 g0 g1 g2 g3
        by_cases NEQ : x1 = y1
        rotate_left
        · have s0 : (x1 == y1) = false := beq_eq_false_iff_ne.2 NEQ
          have HF := Lib.hid (fun w' hb => HNE.out (fun e => HD.out (fun e2 => NEQ (Ms.ext4 e2).1) (by injection e)) w' hb)
          clear NEQ
          go_wp2_with fail
          go_quiet (fail)
          go_wp2_with fail
          go_ret
          exact HF.out _ (below_drewN (Below.then HB0.out HBR.out) _)
        subst NEQ
        have s0 : (x1 == x1) = true := by simp
        by_cases NEQ : x2 = y2
        rotate_left
        · have s1 : (x2 == y2) = false := beq_eq_false_iff_ne.2 NEQ
          have HF := Lib.hid (fun w' hb => HNE.out (fun e => HD.out (fun e2 => NEQ (Ms.ext4 e2).2.1) (by injection e)) w' hb)
          clear NEQ
          go_wp2_with fail
          go_quiet (fail)
          go_wp2_with fail
          go_ret
          exact HF.out _ (below_drewN (Below.then HB0.out HBR.out) _)
        subst NEQ
        have s1 : (x2 == x2) = true := by simp
        by_cases NEQ : x3 = y3
        rotate_left
        · have s2 : (x3.toList == y3.toList) = false := by rw [beqB]; exact decide_eq_false NEQ
          have HF := Lib.hid (fun w' hb => HNE.out (fun e => HD.out (fun e2 => NEQ (Ms.ext4 e2).2.2.1) (by injection e)) w' hb)
          clear NEQ
          go_wp2_with fail
          go_quiet (fail)
          go_wp2_with fail
          go_ret
          exact HF.out _ (below_drewN (Below.then HB0.out HBR.out) _)
        subst NEQ
        have s2 : (x3.toList == x3.toList) = true := by simp
        by_cases NEQ : x4 = y4
        rotate_left
        · have s3 : (x4 == y4) = false := beq_eq_false_iff_ne.2 NEQ
          have HF := Lib.hid (fun w' hb => HNE.out (fun e => HD.out (fun e2 => NEQ (Ms.ext4 e2).2.2.2) (by injection e)) w' hb)
          clear NEQ
          go_wp2_with fail
          go_quiet (fail)
          go_wp2_with fail
          go_ret
          exact HF.out _ (below_drewN (Below.then HB0.out HBR.out) _)
        subst NEQ
        have s3 : (x4 == x4) = true := by simp
        have HS := Lib.hid (show os.take (0 + 1) = os'.take (0 + 1) by rw [hts.out, hts'.out, HT.out])
        go_wp2_with fail
        go_quiet (fail)
        go_wp2_with fail
        go_roundw
        case rel => exact ⟨0 + 1, by omega, by go_num, HS.out, below_drewN HBR.out _⟩
        case measure => simp [intOf]; omega
      · by_cases NEQ : x1 = y1
        rotate_left
        · have s0 : (x1 == y1) = false := beq_eq_false_iff_ne.2 NEQ
          have HF := Lib.hid (fun w' hb => HNE.out (fun e => HD.out (fun e2 => NEQ (Ms.ext4 e2).1) (by injection e)) w' hb)
          clear NEQ
          go_wp2_with fail
          go_quiet (fail)
          go_wp2_with fail
          go_ret
          exact HF.out _ (below_drewN (Below.then HB0.out HBR.out) _)
        subst NEQ
        have s0 : (x1 == x1) = true := by simp
        by_cases NEQ : x2 = y2
        rotate_left
        · have s1 : (x2 == y2) = false := beq_eq_false_iff_ne.2 NEQ
          have HF := Lib.hid (fun w' hb => HNE.out (fun e => HD.out (fun e2 => NEQ (Ms.ext4 e2).2.1) (by injection e)) w' hb)
          clear NEQ
          go_wp2_with fail
          go_quiet (fail)
          go_wp2_with fail
          go_ret
          exact HF.out _ (below_drewN (Below.then HB0.out HBR.out) _)
        subst NEQ
        have s1 : (x2 == x2) = true := by simp
        by_cases NEQ : x3 = y3
        rotate_left
        · have s2 : (x3.toList == y3.toList) = false := by rw [beqB]; exact decide_eq_false NEQ
          have HF := Lib.hid (fun w' hb => HNE.out (fun e => HD.out (fun e2 => NEQ (Ms.ext4 e2).2.2.1) (by injection e)) w' hb)
          clear NEQ
          go_wp2_with fail
          go_quiet (fail)
          go_wp2_with fail
          go_ret
          exact HF.out _ (below_drewN (Below.then HB0.out HBR.out) _)
        subst NEQ
        have s2 : (x3.toList == x3.toList) = true := by simp
        by_cases NEQ : x4 = y4
        rotate_left
        · have s3 : (x4 == y4) = false := beq_eq_false_iff_ne.2 NEQ
          have HF := Lib.hid (fun w' hb => HNE.out (fun e => HD.out (fun e2 => NEQ (Ms.ext4 e2).2.2.2) (by injection e)) w' hb)
          clear NEQ
          go_wp2_with fail
          go_quiet (fail)
          go_wp2_with fail
          go_ret
          exact HF.out _ (below_drewN (Below.then HB0.out HBR.out) _)
        subst NEQ
        have s3 : (x4 == x4) = true := by simp
        have HS := Lib.hid (show os.take (k + 1) = os'.take (k + 1) by rw [hts.out, hts'.out, HT.out])
        go_wp2_with fail
        go_quiet (fail)
        go_wp2_with fail
        go_roundw
        case rel => exact ⟨k + 1, by omega, by go_num, HS.out, below_drewN HBR.out _⟩
        case measure => simp [intOf]; omega
    · have hEQ : os = os' := by
        have := HT.out
        rwa [List.take_of_length_le (by rw [HN.out]; omega), List.take_of_length_le (by rw [HN'.out]; omega)] at this
      subst hEQ
      have HF := Lib.hid (HYE.out rfl wr (Below.then HB0.out HBR.out))
      go_wp2_with fail
      go_ret
      exact HF.out
end Go.Proofs.Ytjjefdgcbdfclaa
