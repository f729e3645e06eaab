/-
  The document's own 'Same' of two manifests, by a contract. Conditions: none.
-/
import Derived.Test.YtfcglnajdfpmhaaGreatDoorZMan4
import Derived.BigQuiet
import Derived.Deep.QuietTactic
/-! The document's own 'Same' of two manifests, by a contract. Conditions: none. -/
namespace Go.Proofs.YtfcglnajdfpmhaaGreatDoor
open Go.RowKit

/-- How Same ends. -/
def SameEnds (a b : Man) (w : World) (e : Ending) (w' : World) : Prop :=
  ∃ r : Bool, e = .returned (.bool r) ∧ (r = true ↔ a = b) ∧ Below w.heap.size w w'
theorem SameEnds.no {a b : Man} {w w' : World} (h : a ≠ b) (hb : Below w.heap.size w w') : SameEnds a b w (.returned (.bool false)) w' := ⟨false, rfl, ⟨fun h => (by cases h), fun e => absurd e h⟩, hb⟩
theorem SameEnds.yes {a b : Man} {w w' : World} (h : a = b) (hb : Below w.heap.size w w') : SameEnds a b w (.returned (.bool true)) w' := ⟨true, rfl, ⟨fun _ => h, fun _ => rfl⟩, hb⟩
theorem PairsAt.at {w : World} {a : Option Addr} {n cap : Nat} {l : List (Value × Value)} (h : PairsAt w (.slice a n cap) l) (i : Nat) (hi : i < l.length) : ∃ b o, a = some ⟨b, o, none⟩ ∧ w.cell? ⟨b, o + i * 2, none⟩ = some l[i].1 ∧ w.cell? ⟨b, o + i * 2 + 1, none⟩ = some l[i].2 := by
  rcases h with ⟨h0, -⟩ | ⟨b, o, c, e, -, -, -, hc⟩
  · rw [h0] at hi; simp at hi
  · simp only [Value.slice.injEq] at e
    exact ⟨b, o, e.1, (hc i hi).1, (hc i hi).2⟩

set_option maxRecDepth 100000 in
set_option maxHeartbeats 8000000 in
theorem refSame_t (a b : Man) (va vb : Value) (w : World) (ha : ManAt w va a) (hb : ManAt w vb b) :
    Calls Tryz.prog 23 #[va, vb] w (SameEnds a b w) := by
  obtain ⟨i, c, ls, ks⟩ := a
  obtain ⟨i', c', ls', ks'⟩ := b
  obtain ⟨⟨lv, kv, rfl, hl, hk⟩, -, -, -⟩ := ha
  obtain ⟨⟨lv', kv', rfl, hl', hk'⟩, -, -, -⟩ := hb
  simp only at hl hk hl' hk'
  have hkl := hk.len
  have hkl' := hk'.len
  obtain ⟨la, lc, rfl, -, hll⟩ := hl.shape
  obtain ⟨la', lc', rfl, -, hll'⟩ := hl'.shape
  obtain ⟨ka, kc, rfl, -⟩ := hk.shape
  obtain ⟨ka', kc', rfl, -⟩ := hk'.shape
  rw [List.length_map] at hll hll' hl hl' ⊢
  rw [List.length_map]
  unfold maxLen at hkl hkl' hll hll'
  have HL := Lib.hid hl
  have HL' := Lib.hid hl'
  have HK := Lib.hid hk
  have HK' := Lib.hid hk'
  obtain ⟨nl, hnl⟩ : ∃ n, ls.length = n := ⟨_, rfl⟩
  obtain ⟨nk, hnk⟩ : ∃ n, ks.length = n := ⟨_, rfl⟩
  obtain ⟨nl', hnl'⟩ : ∃ n, ls'.length = n := ⟨_, rfl⟩
  obtain ⟨nk', hnk'⟩ : ∃ n, ks'.length = n := ⟨_, rfl⟩
  rw [hnl, hnk, hnl', hnk']
  rw [hnl] at hll
  rw [hnl'] at hll'
  rw [hnk] at hkl
  rw [hnk'] at hkl'
  have HNL := Lib.hid hnl
  have HNK := Lib.hid hnk
  have HNL' := Lib.hid hnl'
  have HNK' := Lib.hid hnk'
  obtain ⟨W, hW⟩ : ∃ W, (w.alloc (.cells #[.bool i, .string c, .slice la nl lc, .slice ka nk kc] 25)).alloc (.cells #[.bool i', .string c', .slice la' nl' lc', .slice ka' nk' kc'] 25) = W := ⟨_, rfl⟩
  have hs1 : ∀ o, (w.alloc o).heap.size = w.heap.size + 1 := fun o => by simp
  have hb0 : Below w.heap.size w W := by rw [← hW]; exact Below.then (below_new _ _) (below_new _ _)
  have hA : At4 W w.heap.size (.bool i) (.string c) (.slice la nl lc) (.slice ka nk kc) := by rw [← hW]; exact (At4.new _ _ _ _ _).keep (below_new _ _)
  have hB : At4 W (w.heap.size + 1) (.bool i') (.string c') (.slice la' nl' lc') (.slice ka' nk' kc') := by
    rw [← hW]
    have e := At4.new (w.alloc (.cells #[.bool i, .string c, .slice la nl lc, .slice ka nk kc] 25)) (.bool i') (.string c') (.slice la' nl' lc') (.slice ka' nk' kc')
    rwa [hs1] at e
  have HA := Lib.hid hA
  have HB := Lib.hid hB
  have HB0 := Lib.hid hb0
  have HW := Lib.hid hW
  obtain ⟨a0, a1, a2, a3⟩ := hA.cells
  obtain ⟨b0, b1, b2, b3⟩ := hB.cells
  have HNE := Lib.hid (fun (h : (⟨i, c, ls, ks⟩ : Man) ≠ ⟨i', c', ls', ks'⟩) w' (hb : Below w.heap.size w w') => SameEnds.no h hb)
  clear hl hl' hk hk' hA hB hb0 hW hs1 hnl hnk hnl' hnk'
  by_cases hi : i = i'
  rotate_left
  · have HO := Lib.hid (HNE.out (fun e => hi (by injection e)) W HB0.out)
    cases i <;> cases i'
    · exact absurd rfl hi
    · clear hi
      go_enter Tryz.func23, Tryz.ntmps23
      go_upto_region 1 with fail
      rw [HW.out]
      go_wp2_with fail
      go_ret
      exact HO.out
    · clear hi
      go_enter Tryz.func23, Tryz.ntmps23
      go_upto_region 1 with fail
      rw [HW.out]
      go_wp2_with fail
      go_ret
      exact HO.out
    · exact absurd rfl hi
  subst hi
  have q1 : (i != i) = false := by cases i <;> rfl
  by_cases hc : c = c'
  rotate_left
  · have HO := Lib.hid (HNE.out (fun e => hc (by injection e)) W HB0.out)
    have q : (c.toList == c'.toList) = false := by rw [beqB]; exact decide_eq_false hc
    clear hc
    go_enter Tryz.func23, Tryz.ntmps23
    go_upto_region 1 with fail
    rw [HW.out]
    go_wp2_with fail
    go_ret
    exact HO.out
  subst hc
  have q2 : (c.toList == c.toList) = true := by simp
  by_cases hn : nl = nl'
  rotate_left
  · have HO := Lib.hid (HNE.out (fun e => hn (by rw [← HNL.out, ← HNL'.out]; injection e with _ _ e _; rw [e])) W HB0.out)
    have q : ((nl : Int) != (nl' : Int)) = true := bne_iff_ne.2 (by omega)
    clear hn
    go_enter Tryz.func23, Tryz.ntmps23
    go_upto_region 1 with fail
    rw [HW.out]
    go_wp2_with fail
    go_ret
    exact HO.out
  subst hn
  have q3 : ((nl : Int) != (nl : Int)) = false := by rw [bne_self_eq_false]
  by_cases hn : nk = nk'
  rotate_left
  · have HO := Lib.hid (HNE.out (fun e => hn (by rw [← HNK.out, ← HNK'.out]; injection e with _ _ _ e; rw [e])) W HB0.out)
    have q : ((nk : Int) != (nk' : Int)) = true := bne_iff_ne.2 (by omega)
    clear hn
    go_enter Tryz.func23, Tryz.ntmps23
    go_upto_region 1 with fail
    rw [HW.out]
    go_wp2_with fail
    go_ret
    exact HO.out
  subst hn
  have q4 : ((nk : Int) != (nk : Int)) = false := by rw [bne_self_eq_false]
  go_enter Tryz.func23, Tryz.ntmps23
  go_upto_region 1 with fail
  rw [HW.out]
  go_wp2_with fail
  go_loopw [40] (fun iv wr => ∃ k : Nat, k ≤ nl ∧ iv = .int .i64 k ∧ ls.take k = ls'.take k ∧ Below W.heap.size W wr) (fun i _ => nl - (intOf i).toNat)
  case atStart => exact ⟨0, Nat.zero_le _, rfl, rfl, Below.refl _ _⟩
  case round =>
    obtain ⟨k, hk, rfl, htk, hb⟩ := hrel
    have HT := Lib.hid htk
    have HBR := Lib.hid hb
    have HWR := Lib.hid (Below.then HB0.out hb)
    clear htk hb
    by_cases hlt : k < nl
    · have h1 : k < ls.length := by rw [HNL.out]; exact hlt
      have h2 : k < ls'.length := by rw [HNL'.out]; exact hlt
      obtain ⟨lb, lo, rfl, e0, e1⟩ := HL.out.at k (by rw [List.length_map]; exact h1)
      obtain ⟨lb', lo', rfl, g0, g1⟩ := HL'.out.at k (by rw [List.length_map]; exact h2)
      rw [layer_getElem ls k h1] at e0 e1
      rw [layer_getElem ls' k h2] at g0 g1
      have hts := Lib.hid (List.take_succ_eq_append_getElem h1)
      have hts' := Lib.hid (List.take_succ_eq_append_getElem h2)
      have HD := Lib.hid (show ls[k] ≠ ls'[k] → (⟨i, c, ls, ks⟩ : Man) ≠ ⟨i, c, ls', ks'⟩ from fun h e => h (by injection e with _ _ e _; simp only [e]))
      obtain ⟨⟨x, n⟩, hx⟩ : ∃ x, ls[k] = x := ⟨_, rfl⟩
      obtain ⟨⟨y, m⟩, hy⟩ : ∃ x, ls'[k] = x := ⟨_, rfl⟩
      rw [hx] at e0 e1 hts HD
      rw [hy] at g0 g1 hts' HD
      have kc2 : ∀ {p : Addr} {v : Value}, w.cell? p = some v → wr.cell? p = some v := fun h => HWR.out.cell (World.block_lt_of_cell? _ _ h) |>.trans h
      have v0 := kc2 e0
      have v1 := kc2 e1
      have u0 := kc2 g0
      have u1 := kc2 g1
      obtain ⟨p0, p1, p2, p3⟩ := (HA.out.keep HBR.out).cells
      obtain ⟨r0, r1, r2, r3⟩ := (HB.out.keep HBR.out).cells
      clear e0 e1 g0 g1 kc2 hx hy a0 a1 a2 a3 b0 b1 b2 b3
      by_cases hxy : x = y
      · subst hxy
        have s1 : (x.toList == x.toList) = true := by simp
        by_cases hnm : n = m
        · subst hnm
          have s2 : (n == n) = true := by simp
          have HS := Lib.hid (show ls.take (k + 1) = ls'.take (k + 1) by rw [hts.out, hts'.out, HT.out])
          rcases Nat.eq_zero_or_pos k with rfl | hk0
          · have v0' : wr.cell? ⟨lb, lo, none⟩ = some (.string x) := by simpa using v0
            have v1' : wr.cell? ⟨lb, lo + 1, none⟩ = some (.int .i64 n) := by simpa using v1
            have u0' : wr.cell? ⟨lb', lo', none⟩ = some (.string x) := by simpa using u0
            have u1' : wr.cell? ⟨lb', lo' + 1, none⟩ = some (.int .i64 n) := by simpa using u1
            go_wp2_with fail
            go_quiet (fail)
            go_wp2_with fail
            go_roundw
            case rel => exact ⟨1, by omega, by go_num, HS.out, below_drewN HBR.out _⟩
            case measure => simp [intOf]; omega
          · go_wp2_with fail
            go_quiet (fail)
            go_wp2_with fail
            go_roundw
            case rel => exact ⟨k + 1, by omega, by go_num, HS.out, below_drewN HBR.out _⟩
            case measure => simp [intOf]; omega
        · have s2 : (n == m) = false := beq_eq_false_iff_ne.2 hnm
          have HO := Lib.hid (fun w' hb => HNE.out (HD.out (fun e => hnm (by injection e))) w' hb)
          clear hnm
          rcases Nat.eq_zero_or_pos k with rfl | hk0
          · have v0' : wr.cell? ⟨lb, lo, none⟩ = some (.string x) := by simpa using v0
            have v1' : wr.cell? ⟨lb, lo + 1, none⟩ = some (.int .i64 n) := by simpa using v1
            have u0' : wr.cell? ⟨lb', lo', none⟩ = some (.string x) := by simpa using u0
            have u1' : wr.cell? ⟨lb', lo' + 1, none⟩ = some (.int .i64 m) := by simpa using u1
            go_wp2_with fail
            go_quiet (fail)
            go_wp2_with fail
            go_ret
            exact HO.out _ (below_drewN HWR.out _)
          · go_wp2_with fail
            go_quiet (fail)
            go_wp2_with fail
            go_ret
            exact HO.out _ (below_drewN HWR.out _)
      · have s1 : (x.toList == y.toList) = false := by rw [beqB]; exact decide_eq_false hxy
        have HO := Lib.hid (fun w' hb => HNE.out (HD.out (fun e => hxy (by injection e))) w' hb)
        clear hxy
        rcases Nat.eq_zero_or_pos k with rfl | hk0
        · have v0' : wr.cell? ⟨lb, lo, none⟩ = some (.string x) := by simpa using v0
          have v1' : wr.cell? ⟨lb, lo + 1, none⟩ = some (.int .i64 n) := by simpa using v1
          have u0' : wr.cell? ⟨lb', lo', none⟩ = some (.string y) := by simpa using u0
          have u1' : wr.cell? ⟨lb', lo' + 1, none⟩ = some (.int .i64 m) := by simpa using u1
          go_wp2_with fail
          go_quiet (fail)
          go_wp2_with fail
          go_ret
          exact HO.out _ (below_drewN HWR.out _)
        · go_wp2_with fail
          go_quiet (fail)
          go_wp2_with fail
          go_ret
          exact HO.out _ (below_drewN HWR.out _)
    · have hls : ls = ls' := by
        have := HT.out
        rwa [List.take_of_length_le (by rw [HNL.out]; omega), List.take_of_length_le (by rw [HNL'.out]; omega)] at this
      subst hls
      obtain ⟨p0, p1, p2, p3⟩ := (HA.out.keep HBR.out).cells
      obtain ⟨wo, rfl⟩ : ∃ wo : World, wo = wr := ⟨_, rfl⟩
      have HWO := Lib.hid HBR.out
      clear a0 a1 a2 a3 b0 b1 b2 b3 HBR HWR HT
      go_wp2_with fail
      go_loopw [58] (fun iv wr => ∃ k : Nat, k ≤ nk ∧ iv = .int .i64 k ∧ ks.take k = ks'.take k ∧ Below W.heap.size W wr) (fun i _ => nk - (intOf i).toNat)
      case atStart => exact ⟨0, Nat.zero_le _, rfl, rfl, HWO.out⟩
      case round =>
        obtain ⟨k, hk, rfl, htk, hb⟩ := hrel
        have HT := Lib.hid htk
        have HBR := Lib.hid hb
        have HWR := Lib.hid (Below.then HB0.out hb)
        clear htk hb p0 p1 p2 p3
        by_cases hlt : k < nk
        · have h1 : k < ks.length := by rw [HNK.out]; exact hlt
          have h2 : k < ks'.length := by rw [HNK'.out]; exact hlt
          obtain ⟨lb, lo, rfl, e0⟩ := HK.out.at k h1
          obtain ⟨lb', lo', rfl, g0⟩ := HK'.out.at k h2
          have hts := Lib.hid (List.take_succ_eq_append_getElem h1)
          have hts' := Lib.hid (List.take_succ_eq_append_getElem h2)
          have HD := Lib.hid (show ks[k] ≠ ks'[k] → (⟨i, c, ls, ks⟩ : Man) ≠ ⟨i, c, ls, ks'⟩ from fun h e => h (by injection e with _ _ _ e; simp only [e]))
          obtain ⟨x, hx⟩ : ∃ x, ks[k] = x := ⟨_, rfl⟩
          obtain ⟨y, hy⟩ : ∃ x, ks'[k] = x := ⟨_, rfl⟩
          rw [hx] at e0 hts HD
          rw [hy] at g0 hts' HD
          have v0 := (HWR.out.cell (World.block_lt_of_cell? _ _ e0)).trans e0
          have u0 := (HWR.out.cell (World.block_lt_of_cell? _ _ g0)).trans g0
          obtain ⟨p0, p1, p2, p3⟩ := (HA.out.keep HBR.out).cells
          obtain ⟨r0, r1, r2, r3⟩ := (HB.out.keep HBR.out).cells
          clear e0 g0 hx hy
          by_cases hxy : x = y
          · subst hxy
            have s1 : (x.toList == x.toList) = true := by simp
            have HS := Lib.hid (show ks.take (k + 1) = ks'.take (k + 1) by rw [hts.out, hts'.out, HT.out])
            go_wp2_with fail
            go_quiet (fail)
            go_wp2_with fail
            go_roundw
            case rel => exact ⟨k + 1, by omega, by go_num, HS.out, below_drewN HBR.out _⟩
            case measure => simp [intOf]; omega
          · have s1 : (x.toList == y.toList) = false := by rw [beqB]; exact decide_eq_false hxy
            have HO := Lib.hid (fun w' hb => HNE.out (HD.out hxy) w' hb)
            clear hxy
            go_wp2_with fail
            go_quiet (fail)
            go_wp2_with fail
            go_ret
            exact HO.out _ (below_drewN HWR.out _)
        · have hks : ks = ks' := by
            have := HT.out
            rwa [List.take_of_length_le (by rw [HNK.out]; omega), List.take_of_length_le (by rw [HNK'.out]; omega)] at this
          have HO := Lib.hid (SameEnds.yes (a := ⟨i, c, ls, ks⟩) (b := ⟨i, c, ls, ks'⟩) (by rw [hks]) HWR.out)
          clear hks
          go_wp2_with fail
          go_ret
          exact HO.out
end Go.Proofs.YtfcglnajdfpmhaaGreatDoor
