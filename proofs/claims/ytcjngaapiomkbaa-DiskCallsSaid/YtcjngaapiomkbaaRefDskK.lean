/-
  The document's own Like of two disks, by a contract. Conditions: none.
-/
import Derived.Test.YtcjngaapiomkbaaRefDskW
namespace Go.Proofs.Ytcjngaapiomkbaa
open Go.RowKit

/-- How Like ends. -/
def LikeEnds (a b : Dsk) (w : World) (e : Ending) (w' : World) : Prop :=
  ∃ r : Bool, e = .returned (.bool r) ∧ (r = true ↔ a = b) ∧ Below w.heap.size w w'
theorem LikeEnds.no {a b : Dsk} {w w' : World} (h : a ≠ b) (hb : Below w.heap.size w w') : LikeEnds a b w (.returned (.bool false)) w' := ⟨false, rfl, ⟨fun h => (by cases h), fun e => absurd e h⟩, hb⟩
theorem LikeEnds.yes {a b : Dsk} {w w' : World} (h : a = b) (hb : Below w.heap.size w w') : LikeEnds a b w (.returned (.bool true)) w' := ⟨true, rfl, ⟨fun _ => h, fun _ => rfl⟩, hb⟩
theorem beqB (a b : ByteArray) : (a.toList == b.toList) = decide (a = b) := by
  rw [Bool.eq_iff_iff, beq_iff_eq, decide_eq_true_eq, Lib.toList_data, Lib.toList_data]
  exact ⟨fun h => ByteArray.ext (Array.ext' h), fun h => by rw [h]⟩

set_option maxRecDepth 100000 in
set_option maxHeartbeats 8000000 in
theorem refLike_t (a b : Dsk) (va vb : Value) (w : World) (ha : DskAt w va a) (hb : DskAt w vb b) :
    Calls Try.prog 13 #[va, vb] w (LikeEnds a b w) := by
  obtain ⟨ss, ls⟩ := a
  obtain ⟨ss', ls'⟩ := b
  obtain ⟨⟨sv, lv, rfl, hs, hl⟩, -, -⟩ := ha
  obtain ⟨⟨sv', lv', rfl, hs', hl'⟩, -, -⟩ := hb
  simp only at hs hl hs' hl'
  obtain ⟨sa, sc, rfl, -, hsl⟩ := hs.shape
  obtain ⟨sa', sc', rfl, -, hsl'⟩ := hs'.shape
  obtain ⟨la, lc, rfl, -, hll⟩ := hl.shape
  obtain ⟨la', lc', rfl, -, hll'⟩ := hl'.shape
  rw [List.length_map] at hll hll' hl hl' ⊢
  rw [List.length_map]
  unfold maxLen at hsl hsl' hll hll'
  have HL := Lib.hid hl
  have HL' := Lib.hid hl'
  have HS0 := Lib.hid hs
  have HS0' := Lib.hid hs'
  obtain ⟨nl, hnl⟩ : ∃ n, ls.length = n := ⟨_, rfl⟩
  obtain ⟨ns, hns⟩ : ∃ n, ss.length = n := ⟨_, rfl⟩
  obtain ⟨nl', hnl'⟩ : ∃ n, ls'.length = n := ⟨_, rfl⟩
  obtain ⟨ns', hns'⟩ : ∃ n, ss'.length = n := ⟨_, rfl⟩
  rw [hnl, hns, hnl', hns']
  rw [hnl] at hll
  rw [hnl'] at hll'
  rw [hns] at hsl
  rw [hns'] at hsl'
  have HNL := Lib.hid hnl
  have HNS := Lib.hid hns
  have HNL' := Lib.hid hnl'
  have HNS' := Lib.hid hns'
  obtain ⟨W, hW⟩ : ∃ W, (w.alloc (.cells #[.slice sa ns sc, .slice la nl lc] 25)).alloc (.cells #[.slice sa' ns' sc', .slice la' nl' lc'] 25) = W := ⟨_, rfl⟩
  have hs1 : ∀ o, (w.alloc o).heap.size = w.heap.size + 1 := fun o => by simp
  have hb0 : Below w.heap.size w W := by rw [← hW]; exact Below.then (below_new _ _) (below_new _ _)
  have hA : At2 25 W w.heap.size (.slice sa ns sc) (.slice la nl lc) := by rw [← hW]; exact (At2.new _ _ _ _).keep (below_new _ _)
  have hB : At2 25 W (w.heap.size + 1) (.slice sa' ns' sc') (.slice la' nl' lc') := by
    rw [← hW]
    have e := At2.new 25 (w.alloc (.cells #[.slice sa ns sc, .slice la nl lc] 25)) (.slice sa' ns' sc') (.slice la' nl' lc')
    rwa [hs1] at e
  have HA := Lib.hid hA
  have HB := Lib.hid hB
  have HB0 := Lib.hid hb0
  have HW := Lib.hid hW
  obtain ⟨a0, a1⟩ := hA.cells
  obtain ⟨b0, b1⟩ := hB.cells
  have HNE := Lib.hid (fun (h : (⟨ss, ls⟩ : Dsk) ≠ ⟨ss', ls'⟩) w' (hb : Below w.heap.size w w') => LikeEnds.no h hb)
  clear hl hl' hs hs' hA hB hb0 hW hs1 hnl hns hnl' hns'
  by_cases hn : ns = ns'
  rotate_left
  · have HO := Lib.hid (HNE.out (fun e => hn (by rw [← HNS.out, ← HNS'.out]; injection e with e _; rw [e])) W HB0.out)
    have q : ((ns : Int) != (ns' : Int)) = true := bne_iff_ne.2 (by omega)
    clear hn
    go_enter Try.func13, Try.ntmps13
    go_upto_region 1 with fail
    rw [HW.out]
    go_wp2_with fail
    go_ret
    exact HO.out
  subst hn
  have q3 : ((ns : Int) != (ns : Int)) = false := by rw [bne_self_eq_false]
  by_cases hn : nl = nl'
  rotate_left
  · have HO := Lib.hid (HNE.out (fun e => hn (by rw [← HNL.out, ← HNL'.out]; injection e with _ e; rw [e])) W HB0.out)
    have q : ((nl : Int) != (nl' : Int)) = true := bne_iff_ne.2 (by omega)
    clear hn
    go_enter Try.func13, Try.ntmps13
    go_upto_region 1 with fail
    rw [HW.out]
    go_wp2_with fail
    go_ret
    exact HO.out
  subst hn
  have q4 : ((nl : Int) != (nl : Int)) = false := by rw [bne_self_eq_false]
  go_enter Try.func13, Try.ntmps13
  go_upto_region 1 with fail
  rw [HW.out]
  go_wp2_with fail
  go_loopw [26] (fun iv wr => ∃ k : Nat, k ≤ ns ∧ iv = .int .i64 k ∧ ss.take k = ss'.take k ∧ Below W.heap.size W wr) (fun i _ => ns - (intOf i).toNat)
  case atStart => exact ⟨0, Nat.zero_le _, rfl, rfl, Below.refl _ _⟩
  case round =>
    obtain ⟨k, hk, rfl, htk, hb⟩ := hrel
    have HT := Lib.hid htk
    have HBR := Lib.hid hb
    have HWR := Lib.hid (Below.then HB0.out hb)
    clear htk hb
    by_cases hlt : k < ns
    · have h1 : k < ss.length := by rw [HNS.out]; exact hlt
      have h2 : k < ss'.length := by rw [HNS'.out]; exact hlt
      obtain ⟨lb, lo, rfl, e0⟩ := HS0.out.at k h1
      obtain ⟨lb', lo', rfl, g0⟩ := HS0'.out.at k h2
      have hts := Lib.hid (List.take_succ_eq_append_getElem h1)
      have hts' := Lib.hid (List.take_succ_eq_append_getElem h2)
      have HD := Lib.hid (show ss[k] ≠ ss'[k] → (⟨ss, ls⟩ : Dsk) ≠ ⟨ss', ls'⟩ from fun h e => h (by injection e with e _; simp only [e]))
      obtain ⟨x, hx⟩ : ∃ x, ss[k] = x := ⟨_, rfl⟩
      obtain ⟨y, hy⟩ : ∃ x, ss'[k] = x := ⟨_, rfl⟩
      rw [hx] at e0 hts HD
      rw [hy] at g0 hts' HD
      have v0 := (HWR.out.cell (World.block_lt_of_cell? _ _ e0)).trans e0
      have u0 := (HWR.out.cell (World.block_lt_of_cell? _ _ g0)).trans g0
      obtain ⟨p0, p1⟩ := (HA.out.keep HBR.out).cells
      obtain ⟨r0, r1⟩ := (HB.out.keep HBR.out).cells
      clear e0 g0 hx hy a0 a1 b0 b1
      by_cases hxy : x = y
      · subst hxy
        have s1 : (x.toList == x.toList) = true := by simp
        have HS := Lib.hid (show ss.take (k + 1) = ss'.take (k + 1) by rw [hts.out, hts'.out, HT.out])
        go_wp2_with fail
        go_quiet (fail)
        go_wp2_with fail
        go_roundw
        case rel => exact ⟨k + 1, by omega, by go_num, HS.out, below_drewN HBR.out _⟩
        case measure => simp [intOf]; omega
      · have s1 : (x.toList == y.toList) = false := by rw [beqB]; exact decide_eq_false hxy
        have HO := Lib.hid (fun w' hb => HNE.out (HD.out hxy) w' hb)
        clear hxy
        go_wp2_with fail
        go_quiet (fail)
        go_wp2_with fail
        go_ret
        exact HO.out _ (below_drewN HWR.out _)
    · have hss : ss = ss' := by
        have := HT.out
        rwa [List.take_of_length_le (by rw [HNS.out]; omega), List.take_of_length_le (by rw [HNS'.out]; omega)] at this
      subst hss
      obtain ⟨p0, p1⟩ := (HA.out.keep HBR.out).cells
      obtain ⟨wo, rfl⟩ : ∃ wo : World, wo = wr := ⟨_, rfl⟩
      have HWO := Lib.hid HBR.out
      clear a0 a1 b0 b1 HBR HWR HT
      go_wp2_with fail
      go_loopw [44] (fun iv wr => ∃ k : Nat, k ≤ nl ∧ iv = .int .i64 k ∧ ls.take k = ls'.take k ∧ Below W.heap.size W wr) (fun i _ => nl - (intOf i).toNat)
      case atStart => exact ⟨0, Nat.zero_le _, rfl, rfl, HWO.out⟩
      case round =>
        obtain ⟨k, hk, rfl, htk, hb⟩ := hrel
        have HT := Lib.hid htk
        have HBR := Lib.hid hb
        have HWR := Lib.hid (Below.then HB0.out hb)
        clear htk hb p0 p1
        by_cases hlt : k < nl
        · have h1 : k < ls.length := by rw [HNL.out]; exact hlt
          have h2 : k < ls'.length := by rw [HNL'.out]; exact hlt
          obtain ⟨lb, lo, rfl, e0, e1⟩ := HL.out.at k (by rw [List.length_map]; exact h1)
          obtain ⟨lb', lo', rfl, g0, g1⟩ := HL'.out.at k (by rw [List.length_map]; exact h2)
          rw [write_getElem ls k h1] at e0 e1
          rw [write_getElem ls' k h2] at g0 g1
          have hts := Lib.hid (List.take_succ_eq_append_getElem h1)
          have hts' := Lib.hid (List.take_succ_eq_append_getElem h2)
          have HD := Lib.hid (show ls[k] ≠ ls'[k] → (⟨ss, ls⟩ : Dsk) ≠ ⟨ss, ls'⟩ from fun h e => h (by injection e with _ e; simp only [e]))
          obtain ⟨⟨n, x⟩, hx⟩ : ∃ x, ls[k] = x := ⟨_, rfl⟩
          obtain ⟨⟨m, y⟩, hy⟩ : ∃ x, ls'[k] = x := ⟨_, rfl⟩
          rw [hx] at e0 e1 hts HD
          rw [hy] at g0 g1 hts' HD
          have kc2 : ∀ {p : Addr} {v : Value}, w.cell? p = some v → wr.cell? p = some v := fun h => HWR.out.cell (World.block_lt_of_cell? _ _ h) |>.trans h
          have v0 := kc2 e0
          have v1 := kc2 e1
          have u0 := kc2 g0
          have u1 := kc2 g1
          obtain ⟨p0, p1⟩ := (HA.out.keep HBR.out).cells
          obtain ⟨r0, r1⟩ := (HB.out.keep HBR.out).cells
          clear e0 e1 g0 g1 kc2 hx hy
          by_cases hnm : n = m
          · subst hnm
            have s2 : (n == n) = true := by simp
            by_cases hxy : x = y
            · subst hxy
              have s1 : (x.toList == x.toList) = true := by simp
              have HS := Lib.hid (show ls.take (k + 1) = ls'.take (k + 1) by rw [hts.out, hts'.out, HT.out])
              rcases Nat.eq_zero_or_pos k with rfl | hk0
              · have v0' : wr.cell? ⟨lb, lo, none⟩ = some (.int .i64 n) := by simpa using v0
                have v1' : wr.cell? ⟨lb, lo + 1, none⟩ = some (.string x) := by simpa using v1
                have u0' : wr.cell? ⟨lb', lo', none⟩ = some (.int .i64 n) := by simpa using u0
                have u1' : wr.cell? ⟨lb', lo' + 1, none⟩ = some (.string x) := by simpa using u1
                go_wp2_with fail
                go_quiet (fail)
                go_wp2_with fail
                go_roundw
                case rel => exact ⟨0 + 1, by omega, by go_num, HS.out, below_drewN HBR.out _⟩
                case measure => simp [intOf]; omega
              · go_wp2_with fail
                go_quiet (fail)
                go_wp2_with fail
                go_roundw
                case rel => exact ⟨k + 1, by omega, by go_num, HS.out, below_drewN HBR.out _⟩
                case measure => simp [intOf]; omega
            · have s1 : (x.toList == y.toList) = false := by rw [beqB]; exact decide_eq_false hxy
              have HO := Lib.hid (fun w' hb => HNE.out (HD.out (fun e => hxy (by injection e))) w' hb)
              clear hxy
              rcases Nat.eq_zero_or_pos k with rfl | hk0
              · have v0' : wr.cell? ⟨lb, lo, none⟩ = some (.int .i64 n) := by simpa using v0
                have v1' : wr.cell? ⟨lb, lo + 1, none⟩ = some (.string x) := by simpa using v1
                have u0' : wr.cell? ⟨lb', lo', none⟩ = some (.int .i64 n) := by simpa using u0
                have u1' : wr.cell? ⟨lb', lo' + 1, none⟩ = some (.string y) := by simpa using u1
                go_wp2_with fail
                go_quiet (fail)
                go_wp2_with fail
                go_ret
                exact HO.out _ (below_drewN HWR.out _)
              · go_wp2_with fail
                go_quiet (fail)
                go_wp2_with fail
                go_ret
                exact HO.out _ (below_drewN HWR.out _)
          · have s2 : (n == m) = false := beq_eq_false_iff_ne.2 hnm
            have HO := Lib.hid (fun w' hb => HNE.out (HD.out (fun e => hnm (by injection e))) w' hb)
            clear hnm
            rcases Nat.eq_zero_or_pos k with rfl | hk0
            · have v0' : wr.cell? ⟨lb, lo, none⟩ = some (.int .i64 n) := by simpa using v0
              have v1' : wr.cell? ⟨lb, lo + 1, none⟩ = some (.string x) := by simpa using v1
              have u0' : wr.cell? ⟨lb', lo', none⟩ = some (.int .i64 m) := by simpa using u0
              have u1' : wr.cell? ⟨lb', lo' + 1, none⟩ = some (.string y) := by simpa using u1
              go_wp2_with fail
              go_quiet (fail)
              go_wp2_with fail
              go_ret
              exact HO.out _ (below_drewN HWR.out _)
            · go_wp2_with fail
              go_quiet (fail)
              go_wp2_with fail
              go_ret
              exact HO.out _ (below_drewN HWR.out _)
        · have hls : ls = ls' := by
            have := HT.out
            rwa [List.take_of_length_le (by rw [HNL.out]; omega), List.take_of_length_le (by rw [HNL'.out]; omega)] at this
          have HO := Lib.hid (LikeEnds.yes (a := ⟨ss, ls⟩) (b := ⟨ss, ls'⟩) (by rw [hls]) HWR.out)
          clear hls
          go_wp2_with fail
          go_ret
          exact HO.out
end Go.Proofs.Ytcjngaapiomkbaa
