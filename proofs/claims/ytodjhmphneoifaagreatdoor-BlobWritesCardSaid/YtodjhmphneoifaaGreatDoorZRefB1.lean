/-
  The document's own At, Up and Used of blobs, by contracts. Conditions: few objects, of few bytes (Used).
  The document's own Like of blobs, by a contract. Conditions: none.
  The document's own Fits, and Right of blobs, by contracts. Conditions: few objects, of few bytes.
-/
import Derived.Test.YtodjhmphneoifaaGreatDoorZBlb1
import Derived.Test.YtodjhmphneoifaaGreatDoorZBlb2
import Derived.Test.YtodjhmphneoifaaGreatDoorZRef1
import Derived.Test.YtodjhmphneoifaaGreatDoorZRef2
import Derived.Deep.RegionHeld3
/-! The document's own At, Up and Used of blobs, by contracts. Conditions: few objects, of few bytes (Used). -/
namespace Go.Proofs.YtodjhmphneoifaaGreatDoor
open Go.RowKit Go.WideShapes

set_option maxRecDepth 100000 in
set_option maxHeartbeats 2000000 in
theorem refBAt_t (v : Value) (b : Blb) (d : ByteArray) (w : World) (h : BlbAt w v b) :
    Calls Tryz.prog 16 #[v, .string d] w fun e w' => e = .returned (.int .i64 (atL b.objs d)) ∧ Below w.heap.size w w' := by
  obtain ⟨a, c, a', c', rfl, hl1, hl2⟩ := h.shape
  have hpo := h.parts.1
  obtain ⟨n, hn⟩ : ∃ x, b.objs.length = x := ⟨_, rfl⟩
  obtain ⟨m, hm⟩ : ∃ x, b.ups.length = x := ⟨_, rfl⟩
  obtain ⟨q, hq⟩ : ∃ x, b.quota = x := ⟨_, rfl⟩
  obtain ⟨l, hl⟩ : ∃ x, b.last = x := ⟨_, rfl⟩
  obtain ⟨os, hos⟩ : ∃ x, b.objs = x := ⟨_, rfl⟩
  rw [hn] at hpo hl1
  rw [hn, hm, hq, hl, hos]
  rw [hos] at hpo hn
  obtain ⟨W, hW⟩ : ∃ W, w.alloc (.cells #[.slice a n c, .int .i64 q, .slice a' m c', .int .i64 l] 25) = W := ⟨_, rfl⟩
  have HB := Lib.hid (show Below w.heap.size w W by rw [← hW]; exact below_new _ _)
  have HA := Lib.hid (show At4 25 W w.heap.size (.slice a n c) (.int .i64 q) (.slice a' m c') (.int .i64 l) by rw [← hW]; exact At4.new _ _ _ _ _ _)
  have HP := Lib.hid (hpo.keep HB.out)
  have HN := Lib.hid hn
  have HW := Lib.hid hW
  have HE := Lib.hid (show atL os d = findF (fun o => decide (o.1 = d)) 0 os from rfl)
  have HST := Lib.hid (fun k hk => findF_step (fun o : ByteArray × ByteArray => decide (o.1 = d)) os k hk)
  have HEN := Lib.hid (fun k hk => findF_end (fun o : ByteArray × ByteArray => decide (o.1 = d)) os k hk)
  obtain ⟨p, hp⟩ : ∃ p : ByteArray × ByteArray → Bool, (fun o => decide (o.1 = d)) = p := ⟨_, rfl⟩
  rw [hp] at HE HST HEN
  clear hW h hpo hn hm hq hl hos hp
  go_enter Tryz.func16, Tryz.ntmps16
  go_upto_region 1 with fail
  rw [HW.out]
  obtain ⟨a0, a1, a2, a3⟩ := HA.out.cells
  go_wp2_with fail
  go_loopw [10] (fun iv wr => ∃ k : Nat, k ≤ n ∧ iv = .int .i64 k ∧ findF p k (os.drop k) = atL os d ∧ Below W.heap.size W wr) (fun i _ => n - (intOf i).toNat)
  case atStart => exact ⟨0, Nat.zero_le _, rfl, HE.out.symm, Below.refl _ _⟩
  case round =>
    obtain ⟨k, hk, rfl, hf, hb⟩ := hrel
    have HF := Lib.hid hf
    have HBR := Lib.hid hb
    clear hf hb
    by_cases hlt : k < n
    · have hkl : k < os.length := by rw [HN.out]; exact hlt
      obtain ⟨lb, lo, rfl, e0, e1⟩ := (HP.out.keep HBR.out).at k (by rw [List.length_map]; exact hkl)
      rw [obj_getElem os k hkl] at e0 e1
      have hst := HST.out k hkl
      obtain ⟨⟨x, y⟩, hx⟩ : ∃ x, os[k] = x := ⟨_, rfl⟩
      rw [hx] at e0 e1 hst
      rw [HF.out] at hst
      simp only at hst
      have HS := Lib.hid hst
      obtain ⟨W1, hW1⟩ : ∃ W1, wr.alloc (.cells #[.string x, .string y] 43) = W1 := ⟨_, rfl⟩
      obtain ⟨B1, hB1⟩ : ∃ B, wr.heap.size = B := ⟨_, rfl⟩
      have HB1 := Lib.hid (show Below W.heap.size W W1 by rw [← hW1]; exact Below.then HBR.out (below_new _ _))
      have HX := Lib.hid (show At2 43 W1 B1 (.string x) (.string y) by rw [← hW1, ← hB1]; exact At2.new _ _ _ _)
      have HW1 := Lib.hid hW1
      clear hW1 hst hx
      go_upto_region 4 with fail
      rw [HW1.out]
      clear hB1
      obtain ⟨x0, x1⟩ := HX.out.cells
      by_cases he : x = d
      · have q : (x.toList == d.toList) = true := by rw [beqB]; exact decide_eq_true he
        have HO := Lib.hid (show atL os d = (k : Int) by rw [HS.out, if_pos (decide_eq_true he)])
        clear he
        go_wp2_with fail
        go_ret
        exact ⟨by rw [HO.out]; rfl, Below.then HB.out HB1.out⟩
      · have q : (x.toList == d.toList) = false := by rw [beqB]; exact decide_eq_false he
        have HO := Lib.hid (show findF p (k + 1) (os.drop (k + 1)) = atL os d by rw [HS.out, if_neg (by simpa using he)])
        clear he
        go_wp2_with fail
        go_roundw
        case rel => exact ⟨k + 1, by omega, by go_num, HO.out, HB1.out⟩
        case measure => simp [intOf]; omega
    · have HO := Lib.hid (show atL os d = -1 by rw [← HF.out]; exact HEN.out k (by rw [HN.out]; omega))
      go_wp2_with fail
      go_ret
      exact ⟨by rw [HO.out]; rfl, Below.then HB.out HBR.out⟩

set_option maxRecDepth 100000 in
set_option maxHeartbeats 2000000 in
theorem refBUp_t (v : Value) (b : Blb) (id : Int) (w : World) (h : BlbAt w v b) :
    Calls Tryz.prog 15 #[v, .int .i64 id] w fun e w' => e = .returned (.int .i64 (upL b.ups id)) ∧ Below w.heap.size w w' := by
  obtain ⟨a, c, a', c', rfl, hl1, hl2⟩ := h.shape
  have hpo := h.parts.2.1
  obtain ⟨n, hn⟩ : ∃ x, b.objs.length = x := ⟨_, rfl⟩
  obtain ⟨m, hm⟩ : ∃ x, b.ups.length = x := ⟨_, rfl⟩
  obtain ⟨q, hq⟩ : ∃ x, b.quota = x := ⟨_, rfl⟩
  obtain ⟨l, hl⟩ : ∃ x, b.last = x := ⟨_, rfl⟩
  obtain ⟨os, hos⟩ : ∃ x, b.ups = x := ⟨_, rfl⟩
  rw [hm] at hpo hl2
  rw [hn, hm, hq, hl, hos]
  rw [hos] at hpo hm
  obtain ⟨W, hW⟩ : ∃ W, w.alloc (.cells #[.slice a n c, .int .i64 q, .slice a' m c', .int .i64 l] 25) = W := ⟨_, rfl⟩
  have HB := Lib.hid (show Below w.heap.size w W by rw [← hW]; exact below_new _ _)
  have HA := Lib.hid (show At4 25 W w.heap.size (.slice a n c) (.int .i64 q) (.slice a' m c') (.int .i64 l) by rw [← hW]; exact At4.new _ _ _ _ _ _)
  have HP := Lib.hid (hpo.keep HB.out)
  have HN := Lib.hid hm
  have HW := Lib.hid hW
  have HE := Lib.hid (show upL os id = findF (fun o => o.1 == id) 0 os from rfl)
  have HST := Lib.hid (fun k hk => findF_step (fun o : Int × ByteArray => o.1 == id) os k hk)
  have HEN := Lib.hid (fun k hk => findF_end (fun o : Int × ByteArray => o.1 == id) os k hk)
  obtain ⟨p, hp⟩ : ∃ p : Int × ByteArray → Bool, (fun o => o.1 == id) = p := ⟨_, rfl⟩
  rw [hp] at HE HST HEN
  clear hW h hpo hn hm hq hl hos hp
  go_enter Tryz.func15, Tryz.ntmps15
  go_upto_region 1 with fail
  rw [HW.out]
  obtain ⟨a0, a1, a2, a3⟩ := HA.out.cells
  go_wp2_with fail
  go_loopw [10] (fun iv wr => ∃ k : Nat, k ≤ m ∧ iv = .int .i64 k ∧ findF p k (os.drop k) = upL os id ∧ Below W.heap.size W wr) (fun i _ => m - (intOf i).toNat)
  case atStart => exact ⟨0, Nat.zero_le _, rfl, HE.out.symm, Below.refl _ _⟩
  case round =>
    obtain ⟨k, hk, rfl, hf, hb⟩ := hrel
    have HF := Lib.hid hf
    have HBR := Lib.hid hb
    clear hf hb
    by_cases hlt : k < m
    · have hkl : k < os.length := by rw [HN.out]; exact hlt
      obtain ⟨lb, lo, rfl, e0, e1⟩ := (HP.out.keep HBR.out).at k (by rw [List.length_map]; exact hkl)
      rw [up_getElem os k hkl] at e0 e1
      have hst := HST.out k hkl
      obtain ⟨⟨x, y⟩, hx⟩ : ∃ x, os[k] = x := ⟨_, rfl⟩
      rw [hx] at e0 e1 hst
      rw [HF.out] at hst
      simp only at hst
      have HS := Lib.hid hst
      obtain ⟨W1, hW1⟩ : ∃ W1, wr.alloc (.cells #[.int .i64 x, .string y] 40) = W1 := ⟨_, rfl⟩
      obtain ⟨B1, hB1⟩ : ∃ B, wr.heap.size = B := ⟨_, rfl⟩
      have HB1 := Lib.hid (show Below W.heap.size W W1 by rw [← hW1]; exact Below.then HBR.out (below_new _ _))
      have HX := Lib.hid (show At2 40 W1 B1 (.int .i64 x) (.string y) by rw [← hW1, ← hB1]; exact At2.new _ _ _ _)
      have HW1 := Lib.hid hW1
      clear hW1 hst hx
      go_upto_region 4 with fail
      rw [HW1.out]
      clear hB1
      obtain ⟨x0, x1⟩ := HX.out.cells
      by_cases he : x = id
      · have q : (x == id) = true := beq_iff_eq.2 he
        have HO := Lib.hid (show upL os id = (k : Int) by rw [HS.out, if_pos q])
        clear he
        go_wp2_with fail
        go_ret
        exact ⟨by rw [HO.out]; rfl, Below.then HB.out HB1.out⟩
      · have q : (x == id) = false := beq_eq_false_iff_ne.2 he
        have HO := Lib.hid (show findF p (k + 1) (os.drop (k + 1)) = upL os id by rw [HS.out, if_neg (by rw [q]; decide)])
        clear he
        go_wp2_with fail
        go_roundw
        case rel => exact ⟨k + 1, by omega, by go_num, HO.out, HB1.out⟩
        case measure => simp [intOf]; omega
    · have HO := Lib.hid (show upL os id = -1 by rw [← HF.out]; exact HEN.out k (by rw [HN.out]; omega))
      go_wp2_with fail
      go_ret
      exact ⟨by rw [HO.out]; rfl, Below.then HB.out HBR.out⟩

set_option maxRecDepth 100000 in
set_option maxHeartbeats 2000000 in
theorem refBUsed_t (v : Value) (b : Blb) (w : World) (h : BlbAt w v b) (hf : FewIs b) :
    Calls Tryz.prog 31 #[v] w fun e w' => e = .returned (.int .i64 (usedL b.objs : Nat)) ∧ Below w.heap.size w w' := by
  obtain ⟨a, c, a', c', rfl, hl1, hl2⟩ := h.shape
  have hpo := h.parts.1
  have hdt := hf.data
  have hus := hf.used
  obtain ⟨n, hn⟩ : ∃ x, b.objs.length = x := ⟨_, rfl⟩
  obtain ⟨m, hm⟩ : ∃ x, b.ups.length = x := ⟨_, rfl⟩
  obtain ⟨q, hq⟩ : ∃ x, b.quota = x := ⟨_, rfl⟩
  obtain ⟨l, hl⟩ : ∃ x, b.last = x := ⟨_, rfl⟩
  obtain ⟨os, hos⟩ : ∃ x, b.objs = x := ⟨_, rfl⟩
  rw [hn] at hpo hl1
  rw [hn, hm, hq, hl, hos]
  rw [hos] at hpo hn hdt hus
  obtain ⟨W, hW⟩ : ∃ W, w.alloc (.cells #[.slice a n c, .int .i64 q, .slice a' m c', .int .i64 l] 25) = W := ⟨_, rfl⟩
  have HB := Lib.hid (show Below w.heap.size w W by rw [← hW]; exact below_new _ _)
  have HA := Lib.hid (show At4 25 W w.heap.size (.slice a n c) (.int .i64 q) (.slice a' m c') (.int .i64 l) by rw [← hW]; exact At4.new _ _ _ _ _ _)
  have HP := Lib.hid (hpo.keep HB.out)
  have HN := Lib.hid hn
  have HW := Lib.hid hW
  have HD := Lib.hid hdt
  have HU := Lib.hid hus
  have HT := Lib.hid (fun k hk => usedL_take os k hk)
  clear hW h hpo hn hm hq hl hos hdt hus hf
  go_enter Tryz.func31, Tryz.ntmps31
  go_upto_region 1 with fail
  rw [HW.out]
  obtain ⟨a0, a1, a2, a3⟩ := HA.out.cells
  go_wp2_with fail
  go_loopw [3, 9] (fun nv iv wr => ∃ k u : Nat, k ≤ n ∧ iv = .int .i64 k ∧ nv = .int .i64 u ∧ usedL (os.take k) = u ∧ Below W.heap.size W wr) (fun _ i _ => n - (intOf i).toNat)
  case atStart => exact ⟨0, 0, Nat.zero_le _, rfl, rfl, rfl, Below.refl _ _⟩
  case round =>
    obtain ⟨k, u, hk, rfl, rfl, hf, hb⟩ := hrel
    have HF := Lib.hid hf
    have HBR := Lib.hid hb
    have hu5 : u ≤ 500000 := by rw [← hf]; exact HU.out k
    clear hf hb
    by_cases hlt : k < n
    · have hkl : k < os.length := by rw [HN.out]; exact hlt
      obtain ⟨lb, lo, rfl, e0, e1⟩ := (HP.out.keep HBR.out).at k (by rw [List.length_map]; exact hkl)
      rw [obj_getElem os k hkl] at e0 e1
      have hst := HT.out k hkl
      have hyz := HD.out _ (List.getElem_mem hkl)
      obtain ⟨⟨x, y⟩, hx⟩ : ∃ x, os[k] = x := ⟨_, rfl⟩
      rw [hx] at e0 e1 hst hyz
      rw [HF.out] at hst
      have HS := Lib.hid hst
      obtain ⟨W1, hW1⟩ : ∃ W1, wr.alloc (.cells #[.string x, .string y] 43) = W1 := ⟨_, rfl⟩
      obtain ⟨B1, hB1⟩ : ∃ B, wr.heap.size = B := ⟨_, rfl⟩
      have HB1 := Lib.hid (show Below W.heap.size W W1 by rw [← hW1]; exact Below.then HBR.out (below_new _ _))
      have HX := Lib.hid (show At2 43 W1 B1 (.string x) (.string y) by rw [← hW1, ← hB1]; exact At2.new _ _ _ _)
      have HW1 := Lib.hid hW1
      clear hW1 hst hx
      simp only at hyz
      go_upto_region 5 with fail
      rw [HW1.out]
      clear hB1
      obtain ⟨x0, x1⟩ := HX.out.cells
      go_wp2_with fail
      go_roundw
      case rel => exact ⟨k + 1, u + y.size, by omega, by go_num, by go_num, HS.out, HB1.out⟩
      case measure => simp [intOf]; omega
    · have HO := Lib.hid (show usedL os = u by
        have := HF.out
        rwa [List.take_of_length_le (by rw [HN.out]; omega)] at this)
      go_wp2_with fail
      go_ret
      exact ⟨by rw [HO.out]; rfl, Below.then HB.out HBR.out⟩
end Go.Proofs.YtodjhmphneoifaaGreatDoor
/-! The document's own Like of blobs, by a contract. Conditions: none. -/
namespace Go.Proofs.YtodjhmphneoifaaGreatDoor
open Go.RowKit Go.WideShapes

/-- How Like ends. -/
def BlbLike (a b : Blb) (w : World) (e : Ending) (w' : World) : Prop := ∃ r : Bool, e = .returned (.bool r) ∧ (r = true ↔ a = b) ∧ Below w.heap.size w w'
theorem BlbLike.no {a b : Blb} {w w' : World} (h : a ≠ b) (hb : Below w.heap.size w w') : BlbLike a b w (.returned (.bool false)) w' := ⟨false, rfl, ⟨fun h => (by cases h), fun e => absurd e h⟩, hb⟩
theorem BlbLike.yes {a b : Blb} {w w' : World} (h : a = b) (hb : Below w.heap.size w w') : BlbLike a b w (.returned (.bool true)) w' := ⟨true, rfl, ⟨fun _ => h, fun _ => rfl⟩, hb⟩

set_option maxRecDepth 100000 in
set_option maxHeartbeats 8000000 in
theorem refBLike_t (a b : Blb) (va vb : Value) (w : World) (ha : BlbAt w va a) (hb : BlbAt w vb b) :
    Calls Tryz.prog 11 #[va, vb] w (BlbLike a b w) := by
  obtain ⟨p1, c1, p2, c2, rfl, h1, h2⟩ := ha.shape
  obtain ⟨p1', c1', p2', c2', rfl, h1', h2'⟩ := hb.shape
  have hpa := ha.parts
  have hpb := hb.parts
  have HNE := Lib.hid (fun (h : a ≠ b) w' (hb : Below w.heap.size w w') => BlbLike.no h hb)
  have HYE := Lib.hid (fun (h : a = b) w' (hb : Below w.heap.size w w') => BlbLike.yes h hb)
  obtain ⟨os, q, us, l⟩ := a
  obtain ⟨os', q', us', l'⟩ := b
  simp only at h1 h2 h1' h2' hpa hpb ⊢
  obtain ⟨n, hn⟩ : ∃ x, os.length = x := ⟨_, rfl⟩
  obtain ⟨n', hn'⟩ : ∃ x, os'.length = x := ⟨_, rfl⟩
  obtain ⟨m, hm⟩ : ∃ x, us.length = x := ⟨_, rfl⟩
  obtain ⟨m', hm'⟩ : ∃ x, us'.length = x := ⟨_, rfl⟩
  rw [hn, hm] at hpa ⊢
  rw [hn', hm'] at hpb ⊢
  rw [hn] at h1
  rw [hm] at h2
  rw [hn'] at h1'
  rw [hm'] at h2'
  have HN := Lib.hid hn
  have HN' := Lib.hid hn'
  have HM := Lib.hid hm
  have HM' := Lib.hid hm'
  obtain ⟨W, hW⟩ : ∃ W, (w.alloc (.cells #[.slice p1 n c1, .int .i64 q, .slice p2 m c2, .int .i64 l] 25)).alloc (.cells #[.slice p1' n' c1', .int .i64 q', .slice p2' m' c2', .int .i64 l'] 25) = W := ⟨_, rfl⟩
  have hb0 : Below w.heap.size w W := by rw [← hW]; exact Below.then (below_new _ _) (below_new _ _)
  have HB0 := Lib.hid hb0
  have HA := Lib.hid (show At4 25 W w.heap.size (.slice p1 n c1) (.int .i64 q) (.slice p2 m c2) (.int .i64 l) by rw [← hW]; exact (At4.new _ _ _ _ _ _).keep (below_new _ _))
  have HC := Lib.hid (show At4 25 W (w.heap.size + 1) (.slice p1' n' c1') (.int .i64 q') (.slice p2' m' c2') (.int .i64 l') by
    rw [← hW]
    have e := At4.new 25 (w.alloc (.cells #[.slice p1 n c1, .int .i64 q, .slice p2 m c2, .int .i64 l] 25)) (.slice p1' n' c1') (.int .i64 q') (.slice p2' m' c2') (.int .i64 l')
    rwa [World.size_alloc] at e)
  have HO := Lib.hid (hpa.1.keep hb0)
  have HO' := Lib.hid (hpb.1.keep hb0)
  have HU := Lib.hid (hpa.2.1.keep hb0)
  have HU' := Lib.hid (hpb.2.1.keep hb0)
  have HW := Lib.hid hW
  obtain ⟨a0, a1, a2, a3⟩ := HA.out.cells
  obtain ⟨b0, b1, b2, b3⟩ := HC.out.cells
  clear hW ha hb hpa hpb hb0 hn hn' hm hm'
  go_enter Tryz.func11, Tryz.ntmps11
  go_upto_region 1 with fail
  rw [HW.out]
  by_cases hne : n = n'
  rotate_left
  · have q0 : ((n : Int) != (n' : Int)) = true := bne_iff_ne.2 (by omega)
    have HF := Lib.hid (HNE.out (fun e => hne (by rw [← HN.out, ← HN'.out]; injection e with e _ _ _; rw [e])) W HB0.out)
    clear hne
    go_wp2_with fail
    go_ret
    exact HF.out
  subst hne
  have qn : ((n : Int) != (n : Int)) = false := by rw [bne_self_eq_false]
  by_cases hne : m = m'
  rotate_left
  · have q0 : ((m : Int) != (m' : Int)) = true := bne_iff_ne.2 (by omega)
    have HF := Lib.hid (HNE.out (fun e => hne (by rw [← HM.out, ← HM'.out]; injection e with _ _ e _; rw [e])) W HB0.out)
    clear hne
    go_wp2_with fail
    go_ret
    exact HF.out
  subst hne
  have qm : ((m : Int) != (m : Int)) = false := by rw [bne_self_eq_false]
  by_cases hne : q = q'
  rotate_left
  · have q0 : (q != q') = true := bne_iff_ne.2 hne
    have HF := Lib.hid (HNE.out (fun e => hne (by injection e)) W HB0.out)
    clear hne
    go_wp2_with fail
    go_ret
    exact HF.out
  subst hne
  have qq : (q != q) = false := by rw [bne_self_eq_false]
  by_cases hne : l = l'
  rotate_left
  · have q0 : (l != l') = true := bne_iff_ne.2 hne
    have HF := Lib.hid (HNE.out (fun e => hne (by injection e)) W HB0.out)
    clear hne
    go_wp2_with fail
    go_ret
    exact HF.out
  subst hne
  have ql : (l != l) = false := by rw [bne_self_eq_false]
  go_wp2_with fail
  clear a0 a1 a2 a3 b0 b1 b2 b3
  go_loopw [40] (fun iv wr => ∃ k : Nat, k ≤ n ∧ iv = .int .i64 k ∧ os.take k = os'.take k ∧ Below W.heap.size W wr) (fun i _ => n - (intOf i).toNat)
  case atStart => exact ⟨0, Nat.zero_le _, rfl, rfl, Below.refl _ _⟩
  case round =>
    obtain ⟨k, hk, rfl, htk, hbr⟩ := hrel
    have HT := Lib.hid htk
    have HBR := Lib.hid hbr
    clear htk hbr
    obtain ⟨p0, p1x, p2x, p3x⟩ := (HA.out.keep HBR.out).cells
    obtain ⟨r0, r1x, r2x, r3x⟩ := (HC.out.keep HBR.out).cells
    by_cases hlt : k < n
    · have k1 : k < os.length := by rw [HN.out]; exact hlt
      have k2 : k < os'.length := by rw [HN'.out]; exact hlt
      obtain ⟨lb, lo, rfl, e0, e1⟩ := (HO.out.keep HBR.out).at k (by rw [List.length_map]; exact k1)
      obtain ⟨lb', lo', rfl, g0, g1⟩ := (HO'.out.keep HBR.out).at k (by rw [List.length_map]; exact k2)
      rw [obj_getElem os k k1] at e0 e1
      rw [obj_getElem os' k k2] at g0 g1
      have hts := Lib.hid (List.take_succ_eq_append_getElem k1)
      have hts' := Lib.hid (List.take_succ_eq_append_getElem k2)
      have HD := Lib.hid (show os[k] ≠ os'[k] → os ≠ os' from fun h e => h (by simp only [e]))
      obtain ⟨⟨x, y⟩, hx⟩ : ∃ x, os[k] = x := ⟨_, rfl⟩
      obtain ⟨⟨x', y'⟩, hx'⟩ : ∃ x, os'[k] = x := ⟨_, rfl⟩
      rw [hx] at e0 e1 hts HD
      rw [hx'] at g0 g1 hts' HD
      clear hx hx'
      have e0z : k = 0 → wr.cell? ⟨lb, lo, none⟩ = some (.string x) := fun hz => by have := e0; rw [hz] at this; simpa using this
      have e1z : k = 0 → wr.cell? ⟨lb, lo + 1, none⟩ = some (.string y) := fun hz => by have := e1; rw [hz] at this; simpa using this
      have g0z : k = 0 → wr.cell? ⟨lb', lo', none⟩ = some (.string x') := fun hz => by have := g0; rw [hz] at this; simpa using this
      have g1z : k = 0 → wr.cell? ⟨lb', lo' + 1, none⟩ = some (.string y') := fun hz => by have := g1; rw [hz] at this; simpa using this
      have Z := Lib.hid (And.intro e0z (And.intro e1z (And.intro g0z g1z)))
      clear e0z e1z g0z g1z
      by_cases NEQ : x = x'
      · subst NEQ
        have s1 : (x.toList == x.toList) = true := by simp
        by_cases NEQ : y = y'
        · subst NEQ
          have s2 : (y.toList == y.toList) = true := by simp
          have HS := Lib.hid (show os.take (k + 1) = os'.take (k + 1) by rw [hts.out, hts'.out, HT.out])
          rcases Nat.eq_zero_or_pos k with rfl | hk0
          · obtain ⟨e0z, e1z, g0z, g1z⟩ := Z.out
            have e0z := e0z rfl
            have e1z := e1z rfl
            have g0z := g0z rfl
            have g1z := g1z rfl
            go_wp2_with fail
            go_quiet (fail)
            go_wp2_with fail
            go_roundw
            case rel => exact ⟨0 + 1, by omega, by go_num, HS.out, below_drewN HBR.out _⟩
            case measure => simp [intOf]; omega
          · go_wp2_with fail
            go_quiet (fail)
            go_wp2_with fail
            go_roundw
            case rel => exact ⟨k + 1, by omega, by go_num, HS.out, below_drewN HBR.out _⟩
            case measure => simp [intOf]; omega
        · have s2 : (y.toList == y'.toList) = false := by rw [beqB]; exact decide_eq_false NEQ

          have HF := Lib.hid (fun w' hb => HNE.out (fun e => HD.out (fun e2 => NEQ (by injection e2)) (by injection e with e _ _ _)) w' hb)
          clear NEQ
          rcases Nat.eq_zero_or_pos k with rfl | hk0
          · obtain ⟨e0z, e1z, g0z, g1z⟩ := Z.out
            have e0z := e0z rfl
            have e1z := e1z rfl
            have g0z := g0z rfl
            have g1z := g1z rfl
            go_wp2_with fail
            go_quiet (fail)
            go_wp2_with fail
            go_ret
            exact HF.out _ (below_drewN (Below.then HB0.out HBR.out) _)
          · go_wp2_with fail
            go_quiet (fail)
            go_wp2_with fail
            go_ret
            exact HF.out _ (below_drewN (Below.then HB0.out HBR.out) _)
      · have s1 : (x.toList == x'.toList) = false := by rw [beqB]; exact decide_eq_false NEQ

        have HF := Lib.hid (fun w' hb => HNE.out (fun e => HD.out (fun e2 => NEQ (by injection e2)) (by injection e with e _ _ _)) w' hb)
        clear NEQ
        rcases Nat.eq_zero_or_pos k with rfl | hk0
        · obtain ⟨e0z, e1z, g0z, g1z⟩ := Z.out
          have e0z := e0z rfl
          have e1z := e1z rfl
          have g0z := g0z rfl
          have g1z := g1z rfl
          go_wp2_with fail
          go_quiet (fail)
          go_wp2_with fail
          go_ret
          exact HF.out _ (below_drewN (Below.then HB0.out HBR.out) _)
        · go_wp2_with fail
          go_quiet (fail)
          go_wp2_with fail
          go_ret
          exact HF.out _ (below_drewN (Below.then HB0.out HBR.out) _)
    · have hEQ : os = os' := by
        have := HT.out
        rwa [List.take_of_length_le (by rw [HN.out]; omega), List.take_of_length_le (by rw [HN'.out]; omega)] at this
      subst hEQ
      obtain ⟨wo, rfl⟩ : ∃ wo : World, wo = wr := ⟨_, rfl⟩
      have HWO := Lib.hid HBR.out
      clear HBR HT
      go_wp2_with fail
      clear p0 p1x p2x p3x r0 r1x r2x r3x
      go_loopw [58] (fun iv wr => ∃ k : Nat, k ≤ m ∧ iv = .int .i64 k ∧ us.take k = us'.take k ∧ Below W.heap.size W wr) (fun i _ => m - (intOf i).toNat)
      case atStart => exact ⟨0, Nat.zero_le _, rfl, rfl, HWO.out⟩
      case round =>
        obtain ⟨k, hk, rfl, htk, hbr⟩ := hrel
        have HT := Lib.hid htk
        have HBR := Lib.hid hbr
        clear htk hbr
        obtain ⟨p0, p1x, p2x, p3x⟩ := (HA.out.keep HBR.out).cells
        obtain ⟨r0, r1x, r2x, r3x⟩ := (HC.out.keep HBR.out).cells
        by_cases hlt : k < m
        · have k1 : k < us.length := by rw [HM.out]; exact hlt
          have k2 : k < us'.length := by rw [HM'.out]; exact hlt
          obtain ⟨lb, lo, rfl, e0, e1⟩ := (HU.out.keep HBR.out).at k (by rw [List.length_map]; exact k1)
          obtain ⟨lb', lo', rfl, g0, g1⟩ := (HU'.out.keep HBR.out).at k (by rw [List.length_map]; exact k2)
          rw [up_getElem us k k1] at e0 e1
          rw [up_getElem us' k k2] at g0 g1
          have hts := Lib.hid (List.take_succ_eq_append_getElem k1)
          have hts' := Lib.hid (List.take_succ_eq_append_getElem k2)
          have HD := Lib.hid (show us[k] ≠ us'[k] → us ≠ us' from fun h e => h (by simp only [e]))
          obtain ⟨⟨x, y⟩, hx⟩ : ∃ x, us[k] = x := ⟨_, rfl⟩
          obtain ⟨⟨x', y'⟩, hx'⟩ : ∃ x, us'[k] = x := ⟨_, rfl⟩
          rw [hx] at e0 e1 hts HD
          rw [hx'] at g0 g1 hts' HD
          clear hx hx'
          have e0z : k = 0 → wr.cell? ⟨lb, lo, none⟩ = some (.int .i64 x) := fun hz => by have := e0; rw [hz] at this; simpa using this
          have e1z : k = 0 → wr.cell? ⟨lb, lo + 1, none⟩ = some (.string y) := fun hz => by have := e1; rw [hz] at this; simpa using this
          have g0z : k = 0 → wr.cell? ⟨lb', lo', none⟩ = some (.int .i64 x') := fun hz => by have := g0; rw [hz] at this; simpa using this
          have g1z : k = 0 → wr.cell? ⟨lb', lo' + 1, none⟩ = some (.string y') := fun hz => by have := g1; rw [hz] at this; simpa using this
          have Z := Lib.hid (And.intro e0z (And.intro e1z (And.intro g0z g1z)))
          clear e0z e1z g0z g1z
          by_cases NEQ : x = x'
          · subst NEQ
            have s1 : (x == x) = true := by simp
            by_cases NEQ : y = y'
            · subst NEQ
              have s2 : (y.toList == y.toList) = true := by simp
              have HS := Lib.hid (show us.take (k + 1) = us'.take (k + 1) by rw [hts.out, hts'.out, HT.out])
              rcases Nat.eq_zero_or_pos k with rfl | hk0
              · obtain ⟨e0z, e1z, g0z, g1z⟩ := Z.out
                have e0z := e0z rfl
                have e1z := e1z rfl
                have g0z := g0z rfl
                have g1z := g1z rfl
                go_wp2_with fail
                go_quiet (fail)
                go_wp2_with fail
                go_roundw
                case rel => exact ⟨0 + 1, by omega, by go_num, HS.out, below_drewN HBR.out _⟩
                case measure => simp [intOf]; omega
              · go_wp2_with fail
                go_quiet (fail)
                go_wp2_with fail
                go_roundw
                case rel => exact ⟨k + 1, by omega, by go_num, HS.out, below_drewN HBR.out _⟩
                case measure => simp [intOf]; omega
            · have s2 : (y.toList == y'.toList) = false := by rw [beqB]; exact decide_eq_false NEQ

              have HF := Lib.hid (fun w' hb => HNE.out (fun e => HD.out (fun e2 => NEQ (by injection e2)) (by injection e with _ _ e _)) w' hb)
              clear NEQ
              rcases Nat.eq_zero_or_pos k with rfl | hk0
              · obtain ⟨e0z, e1z, g0z, g1z⟩ := Z.out
                have e0z := e0z rfl
                have e1z := e1z rfl
                have g0z := g0z rfl
                have g1z := g1z rfl
                go_wp2_with fail
                go_quiet (fail)
                go_wp2_with fail
                go_ret
                exact HF.out _ (below_drewN (Below.then HB0.out HBR.out) _)
              · go_wp2_with fail
                go_quiet (fail)
                go_wp2_with fail
                go_ret
                exact HF.out _ (below_drewN (Below.then HB0.out HBR.out) _)
          · have s1 : (x == x') = false := beq_eq_false_iff_ne.2 NEQ

            have HF := Lib.hid (fun w' hb => HNE.out (fun e => HD.out (fun e2 => NEQ (by injection e2)) (by injection e with _ _ e _)) w' hb)
            clear NEQ
            rcases Nat.eq_zero_or_pos k with rfl | hk0
            · obtain ⟨e0z, e1z, g0z, g1z⟩ := Z.out
              have e0z := e0z rfl
              have e1z := e1z rfl
              have g0z := g0z rfl
              have g1z := g1z rfl
              go_wp2_with fail
              go_quiet (fail)
              go_wp2_with fail
              go_ret
              exact HF.out _ (below_drewN (Below.then HB0.out HBR.out) _)
            · go_wp2_with fail
              go_quiet (fail)
              go_wp2_with fail
              go_ret
              exact HF.out _ (below_drewN (Below.then HB0.out HBR.out) _)
        · have hEQ : us = us' := by
            have := HT.out
            rwa [List.take_of_length_le (by rw [HM.out]; omega), List.take_of_length_le (by rw [HM'.out]; omega)] at this
          subst hEQ
          have HF := Lib.hid (HYE.out rfl wr (Below.then HB0.out HBR.out))
          go_wp2_with fail
          go_ret
          exact HF.out
end Go.Proofs.YtodjhmphneoifaaGreatDoor
/-! The document's own Fits, and Right of blobs, by contracts. Conditions: few objects, of few bytes. -/
namespace Go.Proofs.YtodjhmphneoifaaGreatDoor
open Go.RowKit Go.WideShapes

set_option maxRecDepth 100000 in
set_option maxHeartbeats 2000000 in
theorem refBFits_t (s data : ByteArray) (w : World) (hd : data.size < 1099511627776) :
    Calls Tryz.prog 30 #[.string s, .string data] w fun e w' => e = .returned (.bool (fitsD s data == 0)) ∧ Below w.heap.size w w' := by
  have P := Lib.hid (refParse_any s w)
  have SM := Lib.hid (fun w' => show Calls Tryz.prog 43 #[.string data] w' fun e w'' => e = .returned (.string (sumB data)) ∧ Below w'.heap.size w' w'' from refSum_any data w' hd)
  have HE := Lib.hid (show fitsD s data = if (parseD s).2 = 0 then (if sumB data = (parseD s).1 then 0 else 10) else (parseD s).2 from rfl)
  go_enter Tryz.func30, Tryz.ntmps30
  go_wp2_with fail
  refine P.out.mono ?_
  rintro e w1 ⟨y, b, rfl, hpy, hb1⟩
  have HB1 := Lib.hid hb1
  have HPY := Lib.hid hpy
  clear hb1 hpy
  cases b with
  | false =>
    have HO := Lib.hid (show (fitsD s data == 0) = false by
      rcases HPY.out with ⟨h, -⟩ | ⟨-, h⟩
      · cases h
      · rw [HE.out, h]; rfl)
    go_wp2_with fail
    go_ret
    exact ⟨by rw [HO.out]; rfl, HB1.out⟩
  | true =>
    have HO := Lib.hid (show (fitsD s data == 0) = decide (sumB data = y) by
      rcases HPY.out with ⟨-, h⟩ | ⟨h, -⟩
      · rw [HE.out, h]
        simp only [if_true]
        by_cases e : sumB data = y
        · rw [if_pos e, decide_eq_true e]; rfl
        · rw [if_neg e, decide_eq_false e]; rfl
      · cases h)
    have SM1 := Lib.hid (SM.out w1)
    obtain ⟨z, hz⟩ : ∃ z, sumB data = z := ⟨_, rfl⟩
    rw [hz] at HO SM1
    clear hz
    go_wp2_with fail
    refine SM1.out.mono ?_
    rintro e w2 ⟨rfl, hb2⟩
    have HB2 := Lib.hid (Below.then HB1.out hb2)
    clear hb2
    have q : (z.toList == y.toList) = decide (z = y) := beqB z y
    obtain ⟨bz, hbz⟩ : ∃ t, decide (z = y) = t := ⟨_, rfl⟩
    rw [hbz] at q HO
    clear hbz
    go_wp2_with fail
    go_ret
    exact ⟨by rw [HO.out]; rfl, HB2.out⟩

set_option maxRecDepth 100000 in
set_option maxHeartbeats 8000000 in
theorem refBRight_t (v : Value) (b : Blb) (w : World) (h : BlbAt w v b) (hf : FewIs b) :
    Calls Tryz.prog 13 #[v] w fun e w' => e = .returned (.bool (rightBlb b)) ∧ Below w.heap.size w w' := by
  have AT := Lib.hid (fun d w' (hb : Below w.heap.size w w') => refBAt_t v b d w' (h.keep hb))
  have US := Lib.hid (fun w' (hb : Below w.heap.size w w') => refBUsed_t v b w' (h.keep hb) hf)
  have FT := Lib.hid refBFits_t
  have HDT := Lib.hid hf.data
  have husd := hf.used b.objs.length
  rw [List.take_length] at husd
  obtain ⟨a, c, a', c', rfl, hl1, hl2⟩ := h.shape
  have hp := h.parts
  have HE := Lib.hid (show rightBlb b = (objsF b 0 b.objs && upsF b.last 0 b.ups && numsOk b) from rfl)
  have HNO := Lib.hid (show numsOk b = (decide (b.objs.length ≤ 64) && decide (b.ups.length ≤ 16) && decide (0 ≤ b.last) && decide (b.last ≤ 1099511627776) && decide (0 ≤ b.quota) && decide (b.quota ≤ 1048576) && decide ((usedL b.objs : Int) ≤ b.quota)) from rfl)
  have HST := Lib.hid (fun k hk => objsF_step b b.objs k hk)
  have HEN := Lib.hid (fun k hk => objsF_end b b.objs k hk)
  have HSU := Lib.hid (fun p k hk => upsF_step b.last p b.ups k hk)
  have HEU := Lib.hid (fun p k hk => upsF_end b.last p b.ups k hk)
  obtain ⟨n, hn⟩ : ∃ x, b.objs.length = x := ⟨_, rfl⟩
  obtain ⟨m, hm⟩ : ∃ x, b.ups.length = x := ⟨_, rfl⟩
  obtain ⟨q, hq⟩ : ∃ x, b.quota = x := ⟨_, rfl⟩
  obtain ⟨l, hl⟩ : ∃ x, b.last = x := ⟨_, rfl⟩
  obtain ⟨us, hus⟩ : ∃ x, usedL b.objs = x := ⟨_, rfl⟩
  rw [hn, hm, hq, hl] at AT US ⊢
  rw [hus] at US husd
  rw [hn] at hl1
  rw [hm] at hl2
  rw [hl] at HE HSU HEU
  rw [hn, hm, hq, hl, hus] at HNO
  have HN := Lib.hid (And.intro hn hm)
  obtain ⟨W, hW⟩ : ∃ W, w.alloc (.cells #[.slice a n c, .int .i64 q, .slice a' m c', .int .i64 l] 25) = W := ⟨_, rfl⟩
  have HB := Lib.hid (show Below w.heap.size w W by rw [← hW]; exact below_new _ _)
  have HA := Lib.hid (show At4 25 W w.heap.size (.slice a n c) (.int .i64 q) (.slice a' m c') (.int .i64 l) by rw [← hW]; exact At4.new _ _ _ _ _ _)
  rw [hn, hm] at hp
  have HPO := Lib.hid (hp.1.keep HB.out)
  have HPU := Lib.hid (hp.2.1.keep HB.out)
  have HW := Lib.hid hW
  clear hW h hp hf hn hm hq hl hus
  go_enter Tryz.func13, Tryz.ntmps13
  go_upto_region 1 with fail
  rw [HW.out]
  obtain ⟨a0, a1, a2, a3⟩ := HA.out.cells
  go_wp2_with fail
  clear a0 a1 a2 a3
  go_loopw [11] (fun iv wr => ∃ k : Nat, k ≤ n ∧ iv = .int .i64 k ∧ objsF b k (b.objs.drop k) = objsF b 0 b.objs ∧ Below W.heap.size W wr) (fun i _ => n - (intOf i).toNat)
  case atStart => exact ⟨0, Nat.zero_le _, rfl, rfl, Below.refl _ _⟩
  case round =>
    obtain ⟨k, hk, rfl, hfk, hbr⟩ := hrel
    have HF := Lib.hid hfk
    have HBR := Lib.hid hbr
    clear hfk hbr
    by_cases hlt : k < n
    · have hkl : k < b.objs.length := by rw [HN.out.1]; exact hlt
      obtain ⟨lb, lo, rfl, e0, e1⟩ := (HPO.out.keep HBR.out).at k (by rw [List.length_map]; exact hkl)
      rw [obj_getElem b.objs k hkl] at e0 e1
      have hst := HST.out k hkl
      have hyz := HDT.out _ (List.getElem_mem hkl)
      obtain ⟨⟨x, y⟩, hx⟩ : ∃ x, b.objs[k] = x := ⟨_, rfl⟩
      rw [hx] at e0 e1 hst hyz
      simp only at e0 e1 hyz
      rw [HF.out, show objOk b k (x, y) = (decide (y.size ≤ 4096) && (fitsD x y == 0) && (atL b.objs x == (k : Int))) from rfl] at hst
      have HS := Lib.hid hst
      obtain ⟨W1, hW1⟩ : ∃ W1, wr.alloc (.cells #[.string x, .string y] 43) = W1 := ⟨_, rfl⟩
      obtain ⟨B1, hB1⟩ : ∃ B, wr.heap.size = B := ⟨_, rfl⟩
      have HB1 := Lib.hid (show Below W.heap.size W W1 by rw [← hW1]; exact Below.then HBR.out (below_new _ _))
      have HX := Lib.hid (show At2 43 W1 B1 (.string x) (.string y) by rw [← hW1, ← hB1]; exact At2.new _ _ _ _)
      have HW1 := Lib.hid hW1
      have FTx := Lib.hid (FT.out x y W1 (by omega))
      have ATx := Lib.hid (AT.out x)
      obtain ⟨fb, hfb⟩ : ∃ f, (fitsD x y == 0) = f := ⟨_, rfl⟩
      obtain ⟨ai, hai⟩ : ∃ f, atL b.objs x = f := ⟨_, rfl⟩
      rw [hfb] at FTx HS
      rw [hai] at ATx HS
      clear hW1 hst hx hfb hai
      go_upto_region 4 with fail
      rw [HW1.out]
      clear hB1 e0 e1
      obtain ⟨x0, x1⟩ := HX.out.cells
      by_cases h4 : y.size ≤ 4096
      rotate_left
      · have HO := Lib.hid (show rightBlb b = false by rw [HE.out, HS.out, decide_eq_false h4]; rfl)
        go_wp2_with fail
        go_ret
        exact ⟨by rw [HO.out]; rfl, Below.then HB.out HB1.out⟩
      go_wp2_with fail
      refine FTx.out.mono ?_
      rintro e w2 ⟨rfl, hb2⟩
      have HB2 := Lib.hid (Below.then HB1.out hb2)
      have HX2 := Lib.hid (HX.out.keep hb2)
      clear hb2 x0 x1
      cases fb with
      | false =>
        have HO := Lib.hid (show rightBlb b = false by rw [HE.out, HS.out, decide_eq_true h4]; rfl)
        go_wp2_with fail
        go_ret
        exact ⟨by rw [HO.out]; rfl, Below.then HB.out HB2.out⟩
      | true =>
      obtain ⟨x0, x1⟩ := HX2.out.cells
      obtain ⟨a0, a1, a2, a3⟩ := (HA.out.keep HB2.out).cells
      go_wp2_with fail
      refine (ATx.out w2 (Below.then HB.out HB2.out)).mono ?_
      rintro e w3 ⟨rfl, hb3⟩
      have HB3 := Lib.hid (Below.then HB2.out hb3)
      clear hb3 x0 x1 a0 a1 a2 a3
      by_cases hak : ai = (k : Int)
      · have q0 : (ai != (k : Int)) = false := by rw [hak, bne_self_eq_false]
        have HO := Lib.hid (show objsF b (k + 1) (b.objs.drop (k + 1)) = objsF b 0 b.objs by rw [HS.out, decide_eq_true h4, hak, beq_self_eq_true]; rfl)
        clear hak
        go_wp2_with fail
        go_roundw
        case rel => exact ⟨k + 1, by omega, by go_num, HO.out, HB3.out⟩
        case measure => simp [intOf]; omega
      · have q0 : (ai != (k : Int)) = true := bne_iff_ne.2 hak
        have HO := Lib.hid (show rightBlb b = false by rw [HE.out, HS.out, decide_eq_true h4, beq_eq_false_iff_ne.2 hak]; rfl)
        clear hak
        go_wp2_with fail
        go_ret
        exact ⟨by rw [HO.out]; rfl, Below.then HB.out HB3.out⟩
    · have HOK := Lib.hid (show objsF b 0 b.objs = true by rw [← HF.out]; exact HEN.out k (by rw [HN.out.1]; omega))
      obtain ⟨wo, rfl⟩ : ∃ wo : World, wo = wr := ⟨_, rfl⟩
      have HWO := Lib.hid HBR.out
      obtain ⟨a0, a1, a2, a3⟩ := (HA.out.keep HBR.out).cells
      go_wp2_with fail
      clear a0 a1 a2 a3
      go_loopw [5, 40] (fun pv iv wr => ∃ (k : Nat) (p : Int), k ≤ m ∧ iv = .int .i64 k ∧ pv = .int .i64 p ∧ upsF l p (b.ups.drop k) = upsF l 0 b.ups ∧ Below W.heap.size W wr) (fun _ i _ => m - (intOf i).toNat)
      case atStart => exact ⟨0, 0, Nat.zero_le _, rfl, rfl, rfl, HWO.out⟩
      case round =>
        obtain ⟨k, p, hk, rfl, rfl, hfk, hbr⟩ := hrel
        have HF := Lib.hid hfk
        have HBR := Lib.hid hbr
        clear hfk hbr
        by_cases hlt : k < m
        · have hkl : k < b.ups.length := by rw [HN.out.2]; exact hlt
          obtain ⟨lb, lo, rfl, e0, e1⟩ := (HPU.out.keep HBR.out).at k (by rw [List.length_map]; exact hkl)
          rw [up_getElem b.ups k hkl] at e0 e1
          have hst := HSU.out p k hkl
          obtain ⟨⟨x, y⟩, hx⟩ : ∃ x, b.ups[k] = x := ⟨_, rfl⟩
          rw [hx] at e0 e1 hst
          simp only at e0 e1 hst
          rw [HF.out, show upOk l p (x, y) = (decide (y.size ≤ 4096) && decide (p < x) && decide (x ≤ l)) from rfl] at hst
          have HS := Lib.hid hst
          obtain ⟨W1, hW1⟩ : ∃ W1, wr.alloc (.cells #[.int .i64 x, .string y] 40) = W1 := ⟨_, rfl⟩
          obtain ⟨B1, hB1⟩ : ∃ B, wr.heap.size = B := ⟨_, rfl⟩
          have hb1 : Below W.heap.size W W1 := by rw [← hW1]; exact Below.then HBR.out (below_new _ _)
          have HB1 := Lib.hid hb1
          have HX := Lib.hid (show At2 40 W1 B1 (.int .i64 x) (.string y) by rw [← hW1, ← hB1]; exact At2.new _ _ _ _)
          have HW1 := Lib.hid hW1
          clear hW1 hst hx hb1
          go_upto_region 11 with fail
          rw [HW1.out]
          clear hB1 e0 e1
          obtain ⟨x0, x1⟩ := HX.out.cells
          obtain ⟨a0, a1, a2, a3⟩ := (HA.out.keep HB1.out).cells
          by_cases h4 : y.size ≤ 4096
          rotate_left
          · have HO := Lib.hid (show rightBlb b = false by rw [HE.out, HOK.out, HS.out, decide_eq_false h4]; rfl)
            go_wp2_with fail
            go_ret
            exact ⟨by rw [HO.out]; rfl, Below.then HB.out HB1.out⟩
          by_cases h5 : p < x
          rotate_left
          · have HO := Lib.hid (show rightBlb b = false by rw [HE.out, HOK.out, HS.out, decide_eq_true h4, decide_eq_false h5]; rfl)
            go_wp2_with fail
            go_ret
            exact ⟨by rw [HO.out]; rfl, Below.then HB.out HB1.out⟩
          by_cases h6 : x ≤ l
          rotate_left
          · have HO := Lib.hid (show rightBlb b = false by rw [HE.out, HOK.out, HS.out, decide_eq_true h4, decide_eq_true h5, decide_eq_false h6]; rfl)
            go_wp2_with fail
            go_ret
            exact ⟨by rw [HO.out]; rfl, Below.then HB.out HB1.out⟩
          have HO := Lib.hid (show upsF l x (b.ups.drop (k + 1)) = upsF l 0 b.ups by rw [HS.out, decide_eq_true h4, decide_eq_true h5, decide_eq_true h6]; rfl)
          go_wp2_with fail
          go_roundw
          case rel => exact ⟨k + 1, x, by omega, by go_num, rfl, HO.out, HB1.out⟩
          case measure => simp [intOf]; omega
        · have HUK := Lib.hid (show upsF l 0 b.ups = true by rw [← HF.out]; exact HEU.out p k (by rw [HN.out.2]; omega))
          have HAr := Lib.hid (HA.out.keep HBR.out)
          obtain ⟨a0, a1, a2, a3⟩ := HAr.out.cells
          have HEE := Lib.hid (show rightBlb b = numsOk b by rw [HE.out, HOK.out, HUK.out]; rfl)
          have USr := Lib.hid (fun w' (hb : Below wr.heap.size wr w') => US.out w' (Below.then HB.out (Below.then HBR.out hb)))
          have hbA := Below.refl wr.heap.size wr
          go_upto_region 15 with fail
          by_cases c0 : n ≤ 64
          rotate_left
          · have HO := Lib.hid (show rightBlb b = false by rw [HEE.out, HNO.out, decide_eq_false c0]; simp)
            have E0 : decide (n ≤ 64) = false := decide_eq_false (by omega)
            have F0 : decide ((n : Int) ≤ 64) = false := decide_eq_false (by omega)
            clear c0
            go_quiet (fail)
            go_wp2_with fail
            go_ret
            exact ⟨by rw [HO.out]; rfl, below_drewN (Below.then HB.out HBR.out) _⟩
          by_cases c1 : m ≤ 16
          rotate_left
          · have HO := Lib.hid (show rightBlb b = false by rw [HEE.out, HNO.out, decide_eq_true c0, decide_eq_false c1]; simp)
            have E0 : decide (n ≤ 64) = true := decide_eq_true (by omega)
            have F0 : decide ((n : Int) ≤ 64) = true := decide_eq_true (by omega)
            have E1 : decide (m ≤ 16) = false := decide_eq_false (by omega)
            have F1 : decide ((m : Int) ≤ 16) = false := decide_eq_false (by omega)
            clear c1
            go_quiet (fail)
            go_wp2_with fail
            go_ret
            exact ⟨by rw [HO.out]; rfl, below_drewN (Below.then HB.out HBR.out) _⟩
          by_cases c2 : 0 ≤ l
          rotate_left
          · have HO := Lib.hid (show rightBlb b = false by rw [HEE.out, HNO.out, decide_eq_true c0, decide_eq_true c1, decide_eq_false c2]; simp)
            have E0 : decide (n ≤ 64) = true := decide_eq_true (by omega)
            have F0 : decide ((n : Int) ≤ 64) = true := decide_eq_true (by omega)
            have E1 : decide (m ≤ 16) = true := decide_eq_true (by omega)
            have F1 : decide ((m : Int) ≤ 16) = true := decide_eq_true (by omega)
            have E2 : decide (0 ≤ l) = false := decide_eq_false (by omega)
            clear c2
            go_quiet (fail)
            go_wp2_with fail
            go_ret
            exact ⟨by rw [HO.out]; rfl, below_drewN (Below.then HB.out HBR.out) _⟩
          by_cases c3 : l ≤ 1099511627776
          rotate_left
          · have HO := Lib.hid (show rightBlb b = false by rw [HEE.out, HNO.out, decide_eq_true c0, decide_eq_true c1, decide_eq_true c2, decide_eq_false c3]; simp)
            have E0 : decide (n ≤ 64) = true := decide_eq_true (by omega)
            have F0 : decide ((n : Int) ≤ 64) = true := decide_eq_true (by omega)
            have E1 : decide (m ≤ 16) = true := decide_eq_true (by omega)
            have F1 : decide ((m : Int) ≤ 16) = true := decide_eq_true (by omega)
            have E2 : decide (0 ≤ l) = true := decide_eq_true (by omega)
            have E3 : decide (l ≤ 1099511627776) = false := decide_eq_false (by omega)
            clear c3
            go_quiet (fail)
            go_wp2_with fail
            go_ret
            exact ⟨by rw [HO.out]; rfl, below_drewN (Below.then HB.out HBR.out) _⟩
          by_cases c4 : 0 ≤ q
          rotate_left
          · have HO := Lib.hid (show rightBlb b = false by rw [HEE.out, HNO.out, decide_eq_true c0, decide_eq_true c1, decide_eq_true c2, decide_eq_true c3, decide_eq_false c4]; simp)
            have E0 : decide (n ≤ 64) = true := decide_eq_true (by omega)
            have F0 : decide ((n : Int) ≤ 64) = true := decide_eq_true (by omega)
            have E1 : decide (m ≤ 16) = true := decide_eq_true (by omega)
            have F1 : decide ((m : Int) ≤ 16) = true := decide_eq_true (by omega)
            have E2 : decide (0 ≤ l) = true := decide_eq_true (by omega)
            have E3 : decide (l ≤ 1099511627776) = true := decide_eq_true (by omega)
            have E4 : decide (0 ≤ q) = false := decide_eq_false (by omega)
            clear c4
            go_quiet (fail)
            go_wp2_with fail
            go_ret
            exact ⟨by rw [HO.out]; rfl, below_drewN (Below.then HB.out HBR.out) _⟩
          by_cases c5 : q ≤ 1048576
          rotate_left
          · have HO := Lib.hid (show rightBlb b = false by rw [HEE.out, HNO.out, decide_eq_true c0, decide_eq_true c1, decide_eq_true c2, decide_eq_true c3, decide_eq_true c4, decide_eq_false c5]; simp)
            have E0 : decide (n ≤ 64) = true := decide_eq_true (by omega)
            have F0 : decide ((n : Int) ≤ 64) = true := decide_eq_true (by omega)
            have E1 : decide (m ≤ 16) = true := decide_eq_true (by omega)
            have F1 : decide ((m : Int) ≤ 16) = true := decide_eq_true (by omega)
            have E2 : decide (0 ≤ l) = true := decide_eq_true (by omega)
            have E3 : decide (l ≤ 1099511627776) = true := decide_eq_true (by omega)
            have E4 : decide (0 ≤ q) = true := decide_eq_true (by omega)
            have E5 : decide (q ≤ 1048576) = false := decide_eq_false (by omega)
            clear c5
            go_quiet (fail)
            go_wp2_with fail
            go_ret
            exact ⟨by rw [HO.out]; rfl, below_drewN (Below.then HB.out HBR.out) _⟩
          by_cases c6 : (us : Int) ≤ q
          rotate_left
          · have HO := Lib.hid (show rightBlb b = false by rw [HEE.out, HNO.out, decide_eq_true c0, decide_eq_true c1, decide_eq_true c2, decide_eq_true c3, decide_eq_true c4, decide_eq_true c5, decide_eq_false c6]; simp)
            have E0 : decide (n ≤ 64) = true := decide_eq_true (by omega)
            have F0 : decide ((n : Int) ≤ 64) = true := decide_eq_true (by omega)
            have E1 : decide (m ≤ 16) = true := decide_eq_true (by omega)
            have F1 : decide ((m : Int) ≤ 16) = true := decide_eq_true (by omega)
            have E2 : decide (0 ≤ l) = true := decide_eq_true (by omega)
            have E3 : decide (l ≤ 1099511627776) = true := decide_eq_true (by omega)
            have E4 : decide (0 ≤ q) = true := decide_eq_true (by omega)
            have E5 : decide (q ≤ 1048576) = true := decide_eq_true (by omega)
            have E6 : decide ((us : Int) ≤ q) = false := decide_eq_false (by omega)
            clear c6
            go_region_held3 (fun w' => w'.cell? ⟨w.heap.size, 0, none⟩ = some (.slice a n c) ∧ w'.cell? ⟨w.heap.size, 1, none⟩ = some (.int .i64 q) ∧ w'.cell? ⟨w.heap.size, 2, none⟩ = some (.slice a' m c') ∧ w'.cell? ⟨w.heap.size, 3, none⟩ = some (.int .i64 l)) (exact ⟨a0, a1, a2, a3⟩)
              ((go_simp; go_at_call 31
                refine (USr.out _ (by first | exact hbA | exact hbA.drew)).mono ?_
                rintro e wS ⟨rfl, hbS⟩
                have hbA : Below wr.heap.size wr wS := by first | exact Below.then hbA hbS | exact Below.then hbA.drew hbS
                obtain ⟨a0, a1, a2, a3⟩ := (HAr.out.keep hbA).cells))
            all_goals
              go_wp2_with fail
              go_ret
              exact ⟨by rw [HO.out]; rfl, Below.then HB.out (Below.then HBR.out hbA)⟩
          have HO := Lib.hid (show rightBlb b = true by rw [HEE.out, HNO.out, decide_eq_true c0, decide_eq_true c1, decide_eq_true c2, decide_eq_true c3, decide_eq_true c4, decide_eq_true c5, decide_eq_true c6]; rfl)
          have E0 : decide (n ≤ 64) = true := decide_eq_true (by omega)
          have F0 : decide ((n : Int) ≤ 64) = true := decide_eq_true (by omega)
          have E1 : decide (m ≤ 16) = true := decide_eq_true (by omega)
          have F1 : decide ((m : Int) ≤ 16) = true := decide_eq_true (by omega)
          have E2 : decide (0 ≤ l) = true := decide_eq_true (by omega)
          have E3 : decide (l ≤ 1099511627776) = true := decide_eq_true (by omega)
          have E4 : decide (0 ≤ q) = true := decide_eq_true (by omega)
          have E5 : decide (q ≤ 1048576) = true := decide_eq_true (by omega)
          have E6 : decide ((us : Int) ≤ q) = true := decide_eq_true (by omega)
          go_region_held3 (fun w' => w'.cell? ⟨w.heap.size, 0, none⟩ = some (.slice a n c) ∧ w'.cell? ⟨w.heap.size, 1, none⟩ = some (.int .i64 q) ∧ w'.cell? ⟨w.heap.size, 2, none⟩ = some (.slice a' m c') ∧ w'.cell? ⟨w.heap.size, 3, none⟩ = some (.int .i64 l)) (exact ⟨a0, a1, a2, a3⟩)
            ((go_simp; go_at_call 31
              refine (USr.out _ (by first | exact hbA | exact hbA.drew)).mono ?_
              rintro e wS ⟨rfl, hbS⟩
              have hbA : Below wr.heap.size wr wS := by first | exact Below.then hbA hbS | exact Below.then hbA.drew hbS
              obtain ⟨a0, a1, a2, a3⟩ := (HAr.out.keep hbA).cells))
          all_goals
            go_wp2_with fail
            go_ret
            exact ⟨by rw [HO.out]; rfl, Below.then HB.out (Below.then HBR.out hbA)⟩
end Go.Proofs.YtodjhmphneoifaaGreatDoor
