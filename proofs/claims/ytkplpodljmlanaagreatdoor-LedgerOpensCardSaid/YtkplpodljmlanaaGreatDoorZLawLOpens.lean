/-
  LedgerOpens returns true at every input, and changes nothing that was there. Conditions: octet's errors lie where they lie.
-/
import Derived.Test.YtkplpodljmlanaaGreatDoorZLed7
import Derived.Test.YtkplpodljmlanaaGreatDoorZLed2
import Derived.StillTailTactics
namespace Go.Proofs.YtkplpodljmlanaaGreatDoor
open Go.RowKit Go.WideShapes

theorem LedAt.ns {w w' : World} {v : Value} {l : Led} (h : LedAt w v l) (hn : NS w w') : LedAt w' v l := by
  obtain ⟨⟨sv, dv, ev, e, h1, h2⟩, h3, h4, h5, h6⟩ := h
  exact ⟨⟨sv, dv, ev, e, h1.ns hn, h2.ns hn⟩, h3, h4, h5, h6⟩
theorem fmt_first (n : Nat) (h4 : 4 ≤ n) (h64 : n ≤ 64) : (fmtD n).secs.getD 0 ⟨#[]⟩ = headB 1 0 := by
  have h := (fmt_headed n h4 h64).head
  rw [Nat.zero_mul] at h
  apply ByteArray.ext; apply Array.ext'
  exact h
theorem setDE_ns {t : TypeId} {w : World} {B : Nat} {a b c d e f : Value} (h : At6 t w B a b c d e f) (ha : IsSl a) (hb : IsSl b) (hf : IsSl f) (a' b' f' : Value) : NS w (setDE w B a' b' f') := by
  intro p u hu hc
  by_cases k : p.block = B
  · obtain ⟨pb, po, ps⟩ := p
    simp only at k
    subst k
    obtain ⟨-, -, x2, x3, x4, -⟩ := (h.setDE a' b' f').cells
    cases ps with
    | some q => simp [World.cell?, show w.heap[pb]? = _ from h] at hc
    | none =>
      have hc' : (#[a, b, c, d, e, f] : Array Value)[po]? = some u := by simpa [World.cell?, show w.heap[pb]? = _ from h] using hc
      match po, hc' with
      | 0, hc' => exact absurd (by simp at hc'; exact hc' ▸ ha) hu
      | 1, hc' => exact absurd (by simp at hc'; exact hc' ▸ hb) hu
      | 2, hc' => rw [x2]; simpa using hc'
      | 3, hc' => rw [x3]; simpa using hc'
      | 4, hc' => rw [x4]; simpa using hc'
      | 5, hc' => exact absurd (by simp at hc'; exact hc' ▸ hf) hu
      | n + 6, hc' => simp at hc'
  · rw [World.cell?_of_block (setDE_block w B _ _ _ _ k)]; exact hc

/-- Is a number of sectors none that may be? -/
def OutB (s : Int) (b : Bool) : Prop := b = decide (s < 4 ∨ 64 < s)
theorem outB_of {s : Int} (h : s < 4 ∨ 64 < s) : OutB s true := (decide_eq_true h).symm
theorem outB_in {s : Int} (h : ¬ s < 4) (h2 : ¬ 64 < s) : OutB s false := (decide_eq_false (by omega)).symm
theorem OutB.no {s : Int} (h : OutB s true) : ¬ (4 ≤ s ∧ s ≤ 64) := by have := of_decide_eq_true h.symm; omega
theorem OutB.nat {s : Int} (h : OutB s false) : ∃ k : Nat, s = (k : Int) ∧ 4 ≤ k ∧ k ≤ 64 := by
  have := of_decide_eq_false h.symm
  exact ⟨s.toNat, by omega, by omega, by omega⟩
set_option maxRecDepth 100000 in
set_option maxHeartbeats 16000000 in
theorem opens_any (aD aS aZ : Addr) (dv ov : Value) (d : Dsk) (od : Led) (sectors : Int) (w : World) (he : Env w aD aS aZ) (hd : DskAt w dv d) (ho : LedAt w ov od) :
    Calls Tryz.prog 3 #[dv, .int .i64 sectors, ov] w fun e w' => e = .returned (.bool true) ∧ Below w.heap.size w w' := by
  have HE := Lib.hid he
  have FW := Lib.hid (fun w' (hb : Below w.heap.size w w') => lfew_t dv d w' (hd.keep hb))
  have HO0 := Lib.hid ho
  obtain ⟨a, c, a', c', rfl, -, -⟩ := hd.shape
  obtain ⟨p1, k1, p2, k2, p3, k3, rfl, -, -, -⟩ := ho.shape
  have hp3 := ho.parts.2.1.shape2
  obtain ⟨D, hD⟩ : ∃ D, fewL d = D := ⟨_, rfl⟩
  rw [hD] at FW
  obtain ⟨n, hn⟩ : ∃ x, d.secs.length = x := ⟨_, rfl⟩
  obtain ⟨n', hn'⟩ : ∃ x, d.dirty.length = x := ⟨_, rfl⟩
  obtain ⟨m1, hm1⟩ : ∃ x, od.disk.secs.length = x := ⟨_, rfl⟩
  obtain ⟨m2, hm2⟩ : ∃ x, od.disk.dirty.length = x := ⟨_, rfl⟩
  obtain ⟨m3, hm3⟩ : ∃ x, od.ents.length = x := ⟨_, rfl⟩
  obtain ⟨oh, hoh⟩ : ∃ x, od.half = x := ⟨_, rfl⟩
  obtain ⟨og, hog⟩ : ∃ x, od.gen = x := ⟨_, rfl⟩
  obtain ⟨ou, hou⟩ : ∃ x, od.used = x := ⟨_, rfl⟩
  have hbi := And.intro ho.half (And.intro ho.gen ho.used)
  rw [hoh, hog, hou] at hbi
  have HBI := Lib.hid hbi
  rw [hm3] at hp3
  have hk3 : m3 ≤ k3 ∧ k3 ≤ maxLen := by
    obtain ⟨xa, xc, e, h1, h2⟩ := hp3
    simp only [Value.slice.injEq] at e
    obtain ⟨-, -, rfl⟩ := e
    exact ⟨h1, h2⟩
  rw [hn, hn'] at FW ⊢
  rw [hm1, hm2, hm3, hoh, hog, hou] at HO0 ⊢
  have HM3 := Lib.hid hm3
  clear hbi hp3
  obtain ⟨W, hW⟩ : ∃ W, (w.alloc (.cells #[.slice a n c, .slice a' n' c'] 25)).alloc (.cells #[.slice p1 m1 k1, .slice p2 m2 k2, .int .i64 oh, .int .i64 og, .int .i64 ou, .slice p3 m3 k3] 27) = W := ⟨_, rfl⟩
  have HB := Lib.hid (show Below w.heap.size w W by rw [← hW]; exact Below.then (below_new _ _) (below_new _ _))
  have HA := Lib.hid (show At2 25 W w.heap.size (.slice a n c) (.slice a' n' c') by rw [← hW]; exact (At2.new _ _ _ _).keep (below_new _ _))
  obtain ⟨Bo, hBo⟩ : ∃ B, w.heap.size + 1 = B := ⟨_, rfl⟩
  have HO := Lib.hid (show At6 27 W Bo (.slice p1 m1 k1) (.slice p2 m2 k2) (.int .i64 oh) (.int .i64 og) (.int .i64 ou) (.slice p3 m3 k3) by
    rw [← hW, ← hBo]
    have e := At6.new 27 (w.alloc (.cells #[.slice a n c, .slice a' n' c'] 25)) (.slice p1 m1 k1) (.slice p2 m2 k2) (.int .i64 oh) (.int .i64 og) (.int .i64 ou) (.slice p3 m3 k3)
    rwa [World.size_alloc] at e)
  have HBO := Lib.hid (show Bo ≠ w.heap.size ∧ w.heap.size ≤ Bo by omega)
  have HW := Lib.hid hW
  clear hW he hd ho hD hn hn' hm1 hm2 hm3 hoh hog hou
  go_enter Tryz.func3, Tryz.ntmps3
  go_upto_region 1 with fail
  rw [HW.out]
  clear hBo
  obtain ⟨a0, a1⟩ := HA.out.cells
  obtain ⟨f0, f1⟩ := HA.out.free
  go_wp2_with fail
  refine (FW.out W HB.out).mono ?_
  rintro e w1 ⟨v', rfl, hfd, hb1⟩
  obtain ⟨fa, fc, fa', fc', rfl, -, -⟩ := hfd.shape
  obtain ⟨fn, hfn⟩ : ∃ x, D.secs.length = x := ⟨_, rfl⟩
  obtain ⟨fn', hfn'⟩ : ∃ x, D.dirty.length = x := ⟨_, rfl⟩
  rw [hfn, hfn'] at hfd ⊢
  have hA1 := HA.out.keep hb1
  clear a0 a1 f0 f1
  obtain ⟨a0, a1⟩ := hA1.cells
  obtain ⟨f0, f1⟩ := hA1.free
  obtain ⟨W2, hW2⟩ : ∃ W2, (w1.setCell ⟨w.heap.size, 0, none⟩ (.slice fa fn fc)).setCell ⟨w.heap.size, 1, none⟩ (.slice fa' fn' fc') = W2 := ⟨_, rfl⟩
  have hns : NS w1 W2 := by rw [← hW2]; exact set2_ns hA1 (isSl_mk _ _ _) (isSl_mk _ _ _) _ _
  have HD2 := Lib.hid (hfd.ns hns)
  have HA2 := Lib.hid (show At2 25 W2 w.heap.size (.slice fa fn fc) (.slice fa' fn' fc') by rw [← hW2]; exact hA1.set _ _)
  have HO2 := Lib.hid (show At6 27 W2 Bo (.slice p1 m1 k1) (.slice p2 m2 k2) (.int .i64 oh) (.int .i64 og) (.int .i64 ou) (.slice p3 m3 k3) by
    rw [← hW2]; unfold At6
    rw [Below.heap_setCell _ _ _ _ HBO.out.1, Below.heap_setCell _ _ _ _ HBO.out.1]
    exact HO.out.keep hb1)
  have HB2 := Lib.hid (show Below w.heap.size w W2 by rw [← hW2]; exact set2_below (Below.then HB.out hb1) (Nat.le_refl _) _ _)
  have HOE := Lib.hid ((HO0.out.parts.2.1.keep HB.out).keep hb1 |>.ns hns)
  have HOZ := Lib.hid HO0.out.sizes
  have HW2 := Lib.hid hW2
  clear hW2 hns hfd hA1 hb1 hfn hfn' FW HA HO HW HO0
  go_upto_region 2 with fail
  rw [HW2.out]
  clear a0 a1 f0 f1
  obtain ⟨a0, a1⟩ := HA2.out.cells
  have KW := Lib.hid (show ∀ w', Below W2.heap.size W2 w' → Below w.heap.size w w' from fun w' hb => Below.then HB2.out hb)
  have OP := fun w' (hb : Below W2.heap.size W2 w') => Open_t aD aS aZ _ D w' (HE.out.keep (KW.out w' hb)) (HD2.out.keep hb)
  have RO := fun w' (hb : Below W2.heap.size W2 w') => refOpen_t _ D w' (HD2.out.keep hb)
  have hcs := openL_cases D
  have hrt := openL_right D
  have hdk := @openL_disk D
  have hri := fun (x : Led) (hx : x.disk = D) => rightLed_iff x
  obtain ⟨⟨L, ec⟩, hL⟩ : ∃ x, openL D = x := ⟨_, rfl⟩
  rw [hL] at OP RO hcs hrt hdk
  simp only at hrt hdk
  have HRI := Lib.hid (show ∀ x : Led, x.disk = D → (rightLed x = true ↔ (L, ec) = (x, 0)) from fun x hx => by rw [hri x hx, hx, hL])
  have HRT := Lib.hid hrt
  have HDK := Lib.hid hdk
  have hec : ec = 0 ∨ (ec ≠ 0 ∧ L = nilLed) := by
    rcases hcs with ⟨n, g, u, es, h⟩ | h | h
    · have := h.out; rw [hL] at this; injection this with e1 e2; exact Or.inl e2
    · injection h with e1 e2; exact Or.inr ⟨by omega, e1⟩
    · injection h with e1 e2; exact Or.inr ⟨by omega, e1⟩
  have HEC := Lib.hid hec
  obtain ⟨n0, hn0⟩ : ∃ x, L.disk.secs.length = x := ⟨_, rfl⟩
  obtain ⟨n1, hn1⟩ : ∃ x, L.disk.dirty.length = x := ⟨_, rfl⟩
  obtain ⟨ne, hne⟩ : ∃ x, L.ents.length = x := ⟨_, rfl⟩
  obtain ⟨lh, hlh⟩ : ∃ x, L.half = x := ⟨_, rfl⟩
  obtain ⟨lg, hlg⟩ : ∃ x, L.gen = x := ⟨_, rfl⟩
  obtain ⟨lu, hlu⟩ : ∃ x, L.used = x := ⟨_, rfl⟩
  have OP := Lib.hid (fun w' hb => (OP w' hb).mono fun _ _ h => LedOut.letters h hn0 hn1 hne hlh hlg hlu)
  have RO := Lib.hid (fun w' hb => (RO w' hb).mono fun _ _ h => LedOut.letters h hn0 hn1 hne hlh hlg hlu)
  have HN0 := Lib.hid hn0
  have FM := Lib.hid (fun w' (hb : Below W2.heap.size W2 w') => Format_t aD aS aZ sectors w' (HE.out.keep (KW.out w' hb)))
  have AL := Lib.hid (fun w' (hb : Below W2.heap.size W2 w') => alive_t aD aS aZ w' (HE.out.keep (KW.out w' hb)))
  clear hcs hrt hdk hri hL hec hn0 hn1 hne hlh hlg hlu
  go_wp2_with fail
  refine (OP.out W2 (Below.refl _ _)).mono ?_
  rintro e w3 ⟨la, lc, la', lc', lb, lk, rfl, hl3, hb3⟩
  obtain ⟨W3, hW3⟩ : ∃ W, w3.alloc (.cells #[.slice la n0 lc, .slice la' n1 lc', .int .i64 lh, .int .i64 lg, .int .i64 lu, .slice lb ne lk] 27) = W := ⟨_, rfl⟩
  have HB3 := Lib.hid (show Below W2.heap.size W2 W3 by rw [← hW3]; exact Below.then hb3 (below_new _ _))
  obtain ⟨Bl, hBl⟩ : ∃ B, w3.heap.size = B := ⟨_, rfl⟩
  have HL3 := Lib.hid (show At6 27 W3 Bl (.slice la n0 lc) (.slice la' n1 lc') (.int .i64 lh) (.int .i64 lg) (.int .i64 lu) (.slice lb ne lk) by rw [← hW3, ← hBl]; exact At6.new _ _ _ _ _ _ _ _)
  have HLL3 := Lib.hid (show LedAt W3 (.agg #[.slice la n0 lc, .slice la' n1 lc', .int .i64 lh, .int .i64 lg, .int .i64 lu, .slice lb ne lk]) L by rw [← hW3]; exact hl3.keep (below_new _ _))
  have HBL := Lib.hid (show Bo ≠ Bl by have h1 := (HO2.out.keep hb3).lt; omega)
  have HW3 := Lib.hid hW3
  clear hW3 hb3 hl3 a0 a1
  go_upto_region 3 with fail
  rw [HW3.out]
  clear hBl
  obtain ⟨a0, a1⟩ := (HA2.out.keep HB3.out).cells
  go_wp2_with fail
  refine (RO.out W3 HB3.out).mono ?_
  rintro e w4 ⟨ra, rc, ra', rc', rb, rk, rfl, hl4, hb4⟩
  obtain ⟨W4, hW4⟩ : ∃ W, w4.alloc (.cells #[.slice ra n0 rc, .slice ra' n1 rc', .int .i64 lh, .int .i64 lg, .int .i64 lu, .slice rb ne rk] 27) = W := ⟨_, rfl⟩
  have hb34 : Below W3.heap.size W3 W4 := by rw [← hW4]; exact Below.then hb4 (below_new _ _)
  have HB4 := Lib.hid (Below.then HB3.out hb34)
  have HL4 := Lib.hid (HL3.out.keep hb34)
  have HLL4 := Lib.hid (HLL3.out.keep hb34)
  obtain ⟨Br, hBr⟩ : ∃ B, w4.heap.size = B := ⟨_, rfl⟩
  have HR4 := Lib.hid (show At6 27 W4 Br (.slice ra n0 rc) (.slice ra' n1 rc') (.int .i64 lh) (.int .i64 lg) (.int .i64 lu) (.slice rb ne rk) by rw [← hW4, ← hBr]; exact At6.new _ _ _ _ _ _ _ _)
  have HRL4 := Lib.hid (show LedAt W4 (.agg #[.slice ra n0 rc, .slice ra' n1 rc', .int .i64 lh, .int .i64 lg, .int .i64 lu, .slice rb ne rk]) L by rw [← hW4]; exact hl4.keep (below_new _ _))
  have HBR := Lib.hid (show Bo ≠ Br by have h1 := (HO2.out.keep (Below.then HB3.out hb4)).lt; omega)
  have HW4 := Lib.hid hW4
  clear hW4 hb4 hb34 hl4 a0 a1
  go_upto_region 4 with fail
  rw [HW4.out]
  clear hBr
  have FMW := FM.out W4 HB4.out
  obtain ⟨⟨G, ge⟩, hG⟩ : ∃ x, formatL sectors = x := ⟨_, rfl⟩
  rw [hG] at FMW
  obtain ⟨g0, hg0⟩ : ∃ x, G.disk.secs.length = x := ⟨_, rfl⟩
  obtain ⟨g1, hg1⟩ : ∃ x, G.disk.dirty.length = x := ⟨_, rfl⟩
  obtain ⟨g2, hg2⟩ : ∃ x, G.ents.length = x := ⟨_, rfl⟩
  obtain ⟨gh, hgh⟩ : ∃ x, G.half = x := ⟨_, rfl⟩
  obtain ⟨gg, hgg⟩ : ∃ x, G.gen = x := ⟨_, rfl⟩
  obtain ⟨gu, hgu⟩ : ∃ x, G.used = x := ⟨_, rfl⟩
  have HGF := Lib.hid (And.intro hG (And.intro hg0 (And.intro hg2 (And.intro hgg hgu))))
  have FMW := Lib.hid (FMW.mono fun _ _ h => LedOut.letters h hg0 hg1 hg2 hgh hgg hgu)
  clear hG hg0 hg1 hg2 hgh hgg hgu
  go_wp2_with fail
  refine FMW.out.mono ?_
  rintro e w5 ⟨na, nc, na', nc', nb, nk, rfl, hl5, hb5⟩
  obtain ⟨W5, hW5⟩ : ∃ W, w5.alloc (.cells #[.slice na g0 nc, .slice na' g1 nc', .int .i64 gh, .int .i64 gg, .int .i64 gu, .slice nb g2 nk] 27) = W := ⟨_, rfl⟩
  have hb45 : Below W4.heap.size W4 W5 := by rw [← hW5]; exact Below.then hb5 (below_new _ _)
  have HB5 := Lib.hid (Below.then HB4.out hb45)
  have HL5 := Lib.hid (HL4.out.keep hb45)
  have HLL5 := Lib.hid (HLL4.out.keep hb45)
  have HR5 := Lib.hid (HR4.out.keep hb45)
  have HRL5 := Lib.hid (HRL4.out.keep hb45)
  obtain ⟨Bn, hBn⟩ : ∃ B, w5.heap.size = B := ⟨_, rfl⟩
  have HN5 := Lib.hid (show At6 27 W5 Bn (.slice na g0 nc) (.slice na' g1 nc') (.int .i64 gh) (.int .i64 gg) (.int .i64 gu) (.slice nb g2 nk) by rw [← hW5, ← hBn]; exact At6.new _ _ _ _ _ _ _ _)
  have HNL5 := Lib.hid (show LedAt W5 (.agg #[.slice na g0 nc, .slice na' g1 nc', .int .i64 gh, .int .i64 gg, .int .i64 gu, .slice nb g2 nk]) G by rw [← hW5]; exact hl5.keep (below_new _ _))
  have HW5 := Lib.hid hW5
  clear hW5 hb5 hb45 hl5 HB3 HL3 HLL3 HB4 HL4 HLL4 HR4 HRL4 FMW FM OP RO
  go_upto_region 5 with fail
  rw [HW5.out]
  clear hBn
  have K5 := Lib.hid (show ∀ w', Below W5.heap.size W5 w' → Below W2.heap.size W2 w' from fun w' hb => Below.then HB5.out hb)
  have qnn : (ec != ec) = false := by rw [bne, beq_self_eq_true]; rfl
  have LK := Lib.hid (fun w' (hb : Below W5.heap.size W5 w') => refLLike_t L L _ _ w' (HLL5.out.keep hb) (HRL5.out.keep hb))
  obtain ⟨x0, x1, x2, x3, x4, x5⟩ := HL5.out.cells
  obtain ⟨y0, y1, y2, y3, y4, y5⟩ := HR5.out.cells
  by_cases he0 : ec = 0
  · have q0 : (ec == 0) = true := beq_iff_eq.2 he0
    have q1 : (ec != 0) = false := by rw [bne, q0]; rfl
    go_wp2_with fail
    refine (LK.out W5 (Below.refl _ _)).mono ?_
    rintro e w6 ⟨r, rfl, hr, hb6⟩
    obtain rfl : r = true := hr.2 rfl
    have AL6 := Lib.hid (AL.out w6 (K5.out w6 hb6))
    have HB6 := Lib.hid hb6
    clear hr hb6 x0 x1 x2 x3 x4 x5 y0 y1 y2 y3 y4 y5
    obtain ⟨x0, x1, x2, x3, x4, x5⟩ := (HL5.out.keep HB6.out).cells
    go_wp2_with fail
    refine AL6.out.mono ?_
    rintro e wa ⟨rfl, hba⟩
    have HBA := Lib.hid (Below.then HB6.out hba)
    clear hba AL6 HB6 x0 x1 x2 x3 x4 x5
    go_upto_region 7 with fail
    go_cut [63] from 58 to 62 (fun cv wx => ∃ b : Bool, cv = .bool b ∧ OutB sectors b ∧ Below wa.heap.size wa wx)
    case first =>
      by_cases h4 : sectors < 4
      · go_wp2_with fail
        go_meet
        exact ⟨true, rfl, outB_of (Or.inl h4), Below.refl _ _⟩
      · by_cases h64 : (64 : Int) < sectors
        · go_wp2_with fail
          go_meet
          exact ⟨true, rfl, outB_of (Or.inr h64), Below.refl _ _⟩
        · go_wp2_with fail
          go_meet
          exact ⟨false, rfl, outB_in (by omega) (by omega), Below.refl _ _⟩
    case rest =>
      obtain ⟨ob, rfl, hob, hcut⟩ := hcut
      obtain ⟨wz, hwz⟩ : ∃ W, W = wc := ⟨_, rfl⟩
      rw [← hwz] at hcut ⊢
      clear hwz
      have HBA := Lib.hid (Below.then HBA.out hcut)
      clear hcut
      obtain ⟨wa, hwa⟩ : ∃ W, W = wz := ⟨_, rfl⟩
      rw [← hwa] at HBA ⊢
      clear hwa
      cases ob with
      | true =>
        obtain rfl : ge = 1 := by
          have h := HGF.out.1
          rw [formatL_no sectors hob.no] at h
          injection h with _ e
          exact e.symm
        clear hob HGF
        go_upto_region 12 with fail
        have HBB := HBA
        obtain ⟨wb, hwb⟩ : ∃ W, W = wa := ⟨_, rfl⟩
        rw [← hwb] at HBB ⊢
        clear hwb
        -- from region 12 on, in wb (HBB : Below W5 wb)
        have HOB := Lib.hid (HO2.out.keep (K5.out _ HBB.out))
        have HAB := Lib.hid (HA2.out.keep (K5.out _ HBB.out))
        obtain ⟨m8, hm8⟩ : ∃ m, min m3 8 = m := ⟨_, rfl⟩
        have qm : min (m3 : Int) 8 = (m8 : Int) := by omega
        have hm8m : m8 ≤ m3 := by omega
        have hm8k : m8 ≤ k3 := by have := hk3.1; omega
        have hk3m := hk3.2
        unfold maxLen at hk3m
        have hk3i : (m8 : Int) ≤ (k3 : Int) := by omega
        obtain ⟨a0, a1⟩ := HAB.out.cells
        obtain ⟨b0, b1, b2, b3, b4, b5⟩ := HOB.out.cells
        obtain ⟨f0, f1, f2, f3, f4, f5⟩ := HOB.out.free
        have HT8 := Lib.hid (show od.ents.take 8 = od.ents.take m8 by
          rcases Nat.le_total m3 8 with e | e
          · rw [List.take_of_length_le (by rw [HM3.out]; omega), List.take_of_length_le (by rw [HM3.out]; omega)]
          · rw [show m8 = 8 by omega])
        clear hm8
        go_region
        obtain ⟨wx, hwx⟩ : ∃ W, setDE wb Bo (.slice fa fn fc) (.slice fa' fn' fc') (.slice p3 m8 k3) = W := ⟨_, rfl⟩
        have hnsx : NS wb wx := by rw [← hwx]; exact setDE_ns HOB.out (isSl_mk _ _ _) (isSl_mk _ _ _) (isSl_mk _ _ _) _ _ _
        have hox : At6 27 wx Bo (.slice fa fn fc) (.slice fa' fn' fc') (.int .i64 oh) (.int .i64 og) (.int .i64 ou) (.slice p3 m8 k3) := by rw [← hwx]; exact HOB.out.setDE _ _ _
        have hbx : Below w.heap.size w wx := by rw [← hwx]; exact setDE_below (KW.out _ (K5.out _ HBB.out)) HBO.out.2 _ _ _
        have hlx : At6 27 wx Bl (.slice la n0 lc) (.slice la' n1 lc') (.int .i64 lh) (.int .i64 lg) (.int .i64 lu) (.slice lb ne lk) := by
          rw [← hwx]; exact (HL5.out.keep HBB.out).other (setDE_block wb Bo Bl _ _ _ (Ne.symm HBL.out))
        have hrx : At6 27 wx Br (.slice ra n0 rc) (.slice ra' n1 rc') (.int .i64 lh) (.int .i64 lg) (.int .i64 lu) (.slice rb ne rk) := by
          rw [← hwx]; exact (HR5.out.keep HBB.out).other (setDE_block wb Bo Br _ _ _ (Ne.symm HBR.out))
        rw [show setDE wb Bo (.slice fa fn fc) (.slice fa' fn' fc') (.slice p3 m8 k3) = ((wb.setCell ⟨Bo, 0, none⟩ (.slice fa fn fc)).setCell ⟨Bo, 1, none⟩ (.slice fa' fn' fc')).setCell ⟨Bo, 5, none⟩ (.slice p3 m8 k3) from rfl] at hwx
        rw [hwx]
        clear hwx
        obtain ⟨wc, hwc⟩ : ∃ W, wx.drew = W := ⟨_, rfl⟩
        have hnsc : NS wb wc := by rw [← hwc]; exact hnsx
        have HOC := Lib.hid (show At6 27 wc Bo (.slice fa fn fc) (.slice fa' fn' fc') (.int .i64 oh) (.int .i64 og) (.int .i64 ou) (.slice p3 m8 k3) by rw [← hwc]; exact hox)
        have HBC := Lib.hid (show Below w.heap.size w wc by rw [← hwc]; exact hbx.drew)
        have HLC := Lib.hid (show At6 27 wc Bl (.slice la n0 lc) (.slice la' n1 lc') (.int .i64 lh) (.int .i64 lg) (.int .i64 lu) (.slice lb ne lk) by rw [← hwc]; exact hlx)
        have HRC := Lib.hid (show At6 27 wc Br (.slice ra n0 rc) (.slice ra' n1 rc') (.int .i64 lh) (.int .i64 lg) (.int .i64 lu) (.slice rb ne rk) by rw [← hwc]; exact hrx)
        obtain ⟨O, hO⟩ : ∃ O : Led, ⟨D, oh, og, ou, od.ents.take m8⟩ = O := ⟨_, rfl⟩
        have hOD : O.disk = D := by rw [← hO]
        have HOL := Lib.hid (show LedAt wc (.agg #[.slice fa fn fc, .slice fa' fn' fc', .int .i64 oh, .int .i64 og, .int .i64 ou, .slice p3 m8 k3]) O by
          rw [← hO]
          refine ⟨⟨_, _, _, rfl, (HD2.out.keep (K5.out _ HBB.out)).ns hnsc, ?_⟩, fun s hs => HOZ.out s (List.mem_of_mem_take hs), HBI.out.1, HBI.out.2.1, HBI.out.2.2⟩
          exact ((HOE.out.keep (K5.out _ HBB.out)).ns hnsc).take HM3.out m8 hm8m _ rfl)
        have HLLC := Lib.hid ((HLL5.out.keep HBB.out).ns hnsc)
        have HRLC := Lib.hid ((HRL5.out.keep HBB.out).ns hnsc)
        have RO := Lib.hid (lRight_t aD aS aZ _ O wc (HE.out.keep HBC.out) HOL.out)
        have RL := Lib.hid (fun w' (hb : Below wc.heap.size wc w') => lRight_t aD aS aZ _ L w' (HE.out.keep (Below.then HBC.out hb)) (HLLC.out.keep hb))
        have LO := Lib.hid (fun w' (hb : Below wc.heap.size wc w') => refLLike_t O L _ _ w' (HOL.out.keep hb) (HRLC.out.keep hb))
        have HRO := Lib.hid (HRI.out O hOD)
        obtain ⟨ro, hro⟩ : ∃ b, rightLed O = b := ⟨_, rfl⟩
        rw [hro] at RO HRO
        rw [HRT.out] at RL
        rw [hwc]
        clear hwc hnsc hnsx hox hbx hlx hrx hO hOD hro a0 a1 b0 b1 b2 b3 b4 b5 f0 f1 f2 f3 f4 f5
        obtain ⟨b0, b1, b2, b3, b4, b5⟩ := HOC.out.cells
        go_wp2_with fail
        refine RO.out.mono ?_
        rintro e wd ⟨rfl, hbd⟩
        have HBD := Lib.hid hbd
        obtain ⟨x0, x1, x2, x3, x4, x5⟩ := (HLC.out.keep hbd).cells
        obtain ⟨y0, y1, y2, y3, y4, y5⟩ := (HRC.out.keep hbd).cells
        clear b0 b1 b2 b3 b4 b5
        obtain ⟨b0, b1, b2, b3, b4, b5⟩ := (HOC.out.keep hbd).cells
        clear hbd
        rw [decide_eq_true he0] at RL
        go_wp2_with fail
        refine (LO.out _ HBD.out).mono ?_
        rintro e we ⟨r, rfl, hr, hbe⟩
        obtain rfl : ro = r := by
          rw [Bool.eq_iff_iff, HRO.out, hr]
          constructor
          · intro h; injection h with h _; exact h.symm
          · intro h; rw [h, he0]
        have qro : (ro == ro) = true := beq_self_eq_true ro
        have HBE := Lib.hid (Below.then HBD.out hbe)
        clear x0 x1 x2 x3 x4 x5 y0 y1 y2 y3 y4 y5 hr b0 b1 b2 b3 b4 b5 hbe
        obtain ⟨x0, x1, x2, x3, x4, x5⟩ := (HLC.out.keep HBE.out).cells
        go_wp2_with fail
        refine (RL.out _ HBE.out).mono ?_
        rintro e wf ⟨rfl, hbf⟩
        have HBF := Lib.hid (Below.then HBC.out (Below.then HBE.out hbf))
        clear hbf
        go_wp2_with fail
        go_ret
        exact ⟨rfl, HBF.out⟩
      | false =>
        obtain ⟨sk, hsk, hs4, hs64⟩ := hob.nat
        clear hob
        have hsl : ¬ sectors < 4 := by omega
        have hsg : ¬ (64 : Int) < sectors := by omega
        have hsk0 : 0 < sk := by omega
        have hskn : ¬ sk = 0 := by omega
        have hsk0i : (0 : Int) < (sk : Int) := by omega
        obtain ⟨rfl, rfl, rfl, rfl, rfl, hGe⟩ : ge = 0 ∧ sk = g0 ∧ g2 = 0 ∧ gg = 1 ∧ gu = 0 ∧ G = ⟨fmtD sk, 0, 1, 0, []⟩ := by
          have h := HGF.out
          rw [hsk, formatL_ok sk hs4 hs64] at h
          obtain ⟨e, e0, e2, e3, e4⟩ := h
          injection e with e5 e6
          subst e5
          exact ⟨e6.symm, by rw [← e0]; exact (fmtD_len sk).symm, by rw [← e2]; rfl, by rw [← e3], by rw [← e4], rfl⟩
        have HNA := Lib.hid (HN5.out.keep HBA.out)
        have HNLA := Lib.hid (HNL5.out.keep HBA.out)
        have hRG := fun w' (hb : Below wa.heap.size wa w') => lRight_t aD aS aZ _ G w' (HE.out.keep (KW.out w' (K5.out w' (Below.then HBA.out hb)))) (HNLA.out.keep hb)
        rw [hGe, show rightLed ⟨fmtD sk, 0, 1, 0, []⟩ = true from rightLed_of (fmt_opens sk hs4 hs64)] at hRG
        have hsec := HNLA.out.parts.1
        rw [hGe] at hsec
        obtain ⟨⟨sv, dv, esd, hst, -⟩, -, -⟩ := hsec
        simp only [Value.agg.injEq, Array.mk.injEq, List.cons.injEq, and_true] at esd
        obtain ⟨rfl, rfl⟩ := esd
        obtain ⟨nsb, nso, rfl, hc0⟩ := hst.at 0 (by rw [fmtD_len]; omega)
        have hfi : (fmtD sk).secs[0]'(by rw [fmtD_len]; omega) = headB 1 0 := by
          have h := fmt_first sk hs4 hs64
          rw [List.getD_eq_getElem?_getD, List.getElem?_eq_getElem (by rw [fmtD_len]; omega)] at h
          exact h
        rw [hfi] at hc0
        obtain ⟨hx, hhx⟩ : ∃ x, headB 1 0 = x := ⟨_, rfl⟩
        have HD1 := fun w' => refHead_t 1 0 w' (by omega) (by omega)
        rw [hhx] at hc0 HD1
        have hc1 : wa.cell? ⟨nsb, nso, none⟩ = some (.string hx) := hc0
        have qh : (hx.toList == hx.toList) = true := by rw [beqB]; exact decide_eq_true rfl
        have qh2 : (hx.toList != hx.toList) = false := by rw [bne, qh]; rfl
        have hRG := Lib.hid hRG
        have HD1 := Lib.hid HD1
        have HC1 := Lib.hid hc1
        clear hst hc0 hfi hhx hGe HGF HNL5 hsk hsl hsg
        obtain ⟨z0, z1, z2, z3, z4, z5⟩ := HNA.out.cells
        have hbA := Below.refl wa.heap.size wa
        go_upto_region 10 with fail
        go_cut [97] from 66 to 96 (fun cv wx => cv = .bool false ∧ Below wa.heap.size wa wx)
        case first =>
          go_region_held3 (fun w' => w'.cell? ⟨Bn, 0, none⟩ = some (.slice (some ⟨nsb, nso, none⟩) sk nc) ∧ w'.cell? ⟨Bn, 1, none⟩ = some (.slice na' g1 nc') ∧ w'.cell? ⟨Bn, 2, none⟩ = some (.int .i64 gh) ∧ w'.cell? ⟨Bn, 3, none⟩ = some (.int .i64 1) ∧ w'.cell? ⟨Bn, 4, none⟩ = some (.int .i64 0) ∧ w'.cell? ⟨Bn, 5, none⟩ = some (.slice nb 0 nk) ∧ w'.cell? ⟨nsb, nso, none⟩ = some (.string hx)) (exact ⟨z0, z1, z2, z3, z4, z5, hc1⟩)
            (first
            | (go_simp; go_at_call 17
               refine (HD1.out _).mono ?_
               rintro e wS ⟨rfl, hbS⟩
               have hbA : Below wa.heap.size wa wS := by first | exact Below.then hbA hbS | exact Below.then hbA.drew hbS
               obtain ⟨z0, z1, z2, z3, z4, z5⟩ := (HNA.out.keep hbA).cells
               have hc1 := Below.keepc hbA HC1.out)
            | (go_simp; go_at_call 18
               refine (hRG.out _ (by first | exact hbA | exact hbA.drew)).mono ?_
               rintro e wS ⟨rfl, hbS⟩
               have hbA : Below wa.heap.size wa wS := by first | exact Below.then hbA hbS | exact Below.then hbA.drew hbS
               obtain ⟨z0, z1, z2, z3, z4, z5⟩ := (HNA.out.keep hbA).cells
               have hc1 := Below.keepc hbA HC1.out))
          all_goals
            go_wp2_with fail
            go_meet
            exact ⟨rfl, hbA⟩
        case rest =>

          obtain ⟨rfl, hcut⟩ := hcut
          obtain ⟨wb, hwb⟩ : ∃ W, W = wc := ⟨_, rfl⟩
          rw [← hwb] at hcut ⊢
          clear hwb
          have HBB := Lib.hid (Below.then HBA.out hcut)
          clear hcut z0 z1 z2 z3 z4 z5 hc1 hRG HD1 qh qh2
          go_upto_region 12 with fail
          -- from region 12 on, in wb (HBB : Below W5 wb)
          have HOB := Lib.hid (HO2.out.keep (K5.out _ HBB.out))
          have HAB := Lib.hid (HA2.out.keep (K5.out _ HBB.out))
          obtain ⟨m8, hm8⟩ : ∃ m, min m3 8 = m := ⟨_, rfl⟩
          have qm : min (m3 : Int) 8 = (m8 : Int) := by omega
          have hm8m : m8 ≤ m3 := by omega
          have hm8k : m8 ≤ k3 := by have := hk3.1; omega
          have hk3m := hk3.2
          unfold maxLen at hk3m
          have hk3i : (m8 : Int) ≤ (k3 : Int) := by omega
          obtain ⟨a0, a1⟩ := HAB.out.cells
          obtain ⟨b0, b1, b2, b3, b4, b5⟩ := HOB.out.cells
          obtain ⟨f0, f1, f2, f3, f4, f5⟩ := HOB.out.free
          have HT8 := Lib.hid (show od.ents.take 8 = od.ents.take m8 by
            rcases Nat.le_total m3 8 with e | e
            · rw [List.take_of_length_le (by rw [HM3.out]; omega), List.take_of_length_le (by rw [HM3.out]; omega)]
            · rw [show m8 = 8 by omega])
          clear hm8
          go_region
          obtain ⟨wx, hwx⟩ : ∃ W, setDE wb Bo (.slice fa fn fc) (.slice fa' fn' fc') (.slice p3 m8 k3) = W := ⟨_, rfl⟩
          have hnsx : NS wb wx := by rw [← hwx]; exact setDE_ns HOB.out (isSl_mk _ _ _) (isSl_mk _ _ _) (isSl_mk _ _ _) _ _ _
          have hox : At6 27 wx Bo (.slice fa fn fc) (.slice fa' fn' fc') (.int .i64 oh) (.int .i64 og) (.int .i64 ou) (.slice p3 m8 k3) := by rw [← hwx]; exact HOB.out.setDE _ _ _
          have hbx : Below w.heap.size w wx := by rw [← hwx]; exact setDE_below (KW.out _ (K5.out _ HBB.out)) HBO.out.2 _ _ _
          have hlx : At6 27 wx Bl (.slice la n0 lc) (.slice la' n1 lc') (.int .i64 lh) (.int .i64 lg) (.int .i64 lu) (.slice lb ne lk) := by
            rw [← hwx]; exact (HL5.out.keep HBB.out).other (setDE_block wb Bo Bl _ _ _ (Ne.symm HBL.out))
          have hrx : At6 27 wx Br (.slice ra n0 rc) (.slice ra' n1 rc') (.int .i64 lh) (.int .i64 lg) (.int .i64 lu) (.slice rb ne rk) := by
            rw [← hwx]; exact (HR5.out.keep HBB.out).other (setDE_block wb Bo Br _ _ _ (Ne.symm HBR.out))
          rw [show setDE wb Bo (.slice fa fn fc) (.slice fa' fn' fc') (.slice p3 m8 k3) = ((wb.setCell ⟨Bo, 0, none⟩ (.slice fa fn fc)).setCell ⟨Bo, 1, none⟩ (.slice fa' fn' fc')).setCell ⟨Bo, 5, none⟩ (.slice p3 m8 k3) from rfl] at hwx
          rw [hwx]
          clear hwx
          obtain ⟨wc, hwc⟩ : ∃ W, wx.drew = W := ⟨_, rfl⟩
          have hnsc : NS wb wc := by rw [← hwc]; exact hnsx
          have HOC := Lib.hid (show At6 27 wc Bo (.slice fa fn fc) (.slice fa' fn' fc') (.int .i64 oh) (.int .i64 og) (.int .i64 ou) (.slice p3 m8 k3) by rw [← hwc]; exact hox)
          have HBC := Lib.hid (show Below w.heap.size w wc by rw [← hwc]; exact hbx.drew)
          have HLC := Lib.hid (show At6 27 wc Bl (.slice la n0 lc) (.slice la' n1 lc') (.int .i64 lh) (.int .i64 lg) (.int .i64 lu) (.slice lb ne lk) by rw [← hwc]; exact hlx)
          have HRC := Lib.hid (show At6 27 wc Br (.slice ra n0 rc) (.slice ra' n1 rc') (.int .i64 lh) (.int .i64 lg) (.int .i64 lu) (.slice rb ne rk) by rw [← hwc]; exact hrx)
          obtain ⟨O, hO⟩ : ∃ O : Led, ⟨D, oh, og, ou, od.ents.take m8⟩ = O := ⟨_, rfl⟩
          have hOD : O.disk = D := by rw [← hO]
          have HOL := Lib.hid (show LedAt wc (.agg #[.slice fa fn fc, .slice fa' fn' fc', .int .i64 oh, .int .i64 og, .int .i64 ou, .slice p3 m8 k3]) O by
            rw [← hO]
            refine ⟨⟨_, _, _, rfl, (HD2.out.keep (K5.out _ HBB.out)).ns hnsc, ?_⟩, fun s hs => HOZ.out s (List.mem_of_mem_take hs), HBI.out.1, HBI.out.2.1, HBI.out.2.2⟩
            exact ((HOE.out.keep (K5.out _ HBB.out)).ns hnsc).take HM3.out m8 hm8m _ rfl)
          have HLLC := Lib.hid ((HLL5.out.keep HBB.out).ns hnsc)
          have HRLC := Lib.hid ((HRL5.out.keep HBB.out).ns hnsc)
          have RO := Lib.hid (lRight_t aD aS aZ _ O wc (HE.out.keep HBC.out) HOL.out)
          have RL := Lib.hid (fun w' (hb : Below wc.heap.size wc w') => lRight_t aD aS aZ _ L w' (HE.out.keep (Below.then HBC.out hb)) (HLLC.out.keep hb))
          have LO := Lib.hid (fun w' (hb : Below wc.heap.size wc w') => refLLike_t O L _ _ w' (HOL.out.keep hb) (HRLC.out.keep hb))
          have HRO := Lib.hid (HRI.out O hOD)
          obtain ⟨ro, hro⟩ : ∃ b, rightLed O = b := ⟨_, rfl⟩
          rw [hro] at RO HRO
          rw [HRT.out] at RL
          rw [hwc]
          clear hwc hnsc hnsx hox hbx hlx hrx hO hOD hro a0 a1 b0 b1 b2 b3 b4 b5 f0 f1 f2 f3 f4 f5
          obtain ⟨b0, b1, b2, b3, b4, b5⟩ := HOC.out.cells
          go_wp2_with fail
          refine RO.out.mono ?_
          rintro e wd ⟨rfl, hbd⟩
          have HBD := Lib.hid hbd
          obtain ⟨x0, x1, x2, x3, x4, x5⟩ := (HLC.out.keep hbd).cells
          obtain ⟨y0, y1, y2, y3, y4, y5⟩ := (HRC.out.keep hbd).cells
          clear b0 b1 b2 b3 b4 b5
          obtain ⟨b0, b1, b2, b3, b4, b5⟩ := (HOC.out.keep hbd).cells
          clear hbd
          rw [decide_eq_true he0] at RL
          go_wp2_with fail
          refine (LO.out _ HBD.out).mono ?_
          rintro e we ⟨r, rfl, hr, hbe⟩
          obtain rfl : ro = r := by
            rw [Bool.eq_iff_iff, HRO.out, hr]
            constructor
            · intro h; injection h with h _; exact h.symm
            · intro h; rw [h, he0]
          have qro : (ro == ro) = true := beq_self_eq_true ro
          have HBE := Lib.hid (Below.then HBD.out hbe)
          clear x0 x1 x2 x3 x4 x5 y0 y1 y2 y3 y4 y5 hr b0 b1 b2 b3 b4 b5 hbe
          obtain ⟨x0, x1, x2, x3, x4, x5⟩ := (HLC.out.keep HBE.out).cells
          go_wp2_with fail
          refine (RL.out _ HBE.out).mono ?_
          rintro e wf ⟨rfl, hbf⟩
          have HBF := Lib.hid (Below.then HBC.out (Below.then HBE.out hbf))
          clear hbf
          go_wp2_with fail
          go_ret
          exact ⟨rfl, HBF.out⟩
  · have q0 : (ec == 0) = false := beq_eq_false_iff_ne.2 he0
    have q1 : (ec != 0) = true := by rw [bne, q0]; rfl
    have hnl : L = nilLed := by rcases HEC.out with h | h; exact absurd h he0; exact h.2
    have qn0 : ((n0 : Int) != 0) = false := by
      have e : n0 = 0 := by rw [← HN0.out, hnl]; rfl
      rw [e]; rfl
    clear hnl
    have AL6 := Lib.hid (AL.out W5 (K5.out W5 (Below.refl _ _)))
    go_wp2_with fail
    refine AL6.out.mono ?_
    rintro e wa ⟨rfl, hba⟩
    have HBA := Lib.hid hba
    clear hba AL6 x0 x1 x2 x3 x4 x5 y0 y1 y2 y3 y4 y5
    go_upto_region 7 with fail
    go_cut [63] from 58 to 62 (fun cv wx => ∃ b : Bool, cv = .bool b ∧ OutB sectors b ∧ Below wa.heap.size wa wx)
    case first =>
      by_cases h4 : sectors < 4
      · go_wp2_with fail
        go_meet
        exact ⟨true, rfl, outB_of (Or.inl h4), Below.refl _ _⟩
      · by_cases h64 : (64 : Int) < sectors
        · go_wp2_with fail
          go_meet
          exact ⟨true, rfl, outB_of (Or.inr h64), Below.refl _ _⟩
        · go_wp2_with fail
          go_meet
          exact ⟨false, rfl, outB_in (by omega) (by omega), Below.refl _ _⟩
    case rest =>
      obtain ⟨ob, rfl, hob, hcut⟩ := hcut
      obtain ⟨wz, hwz⟩ : ∃ W, W = wc := ⟨_, rfl⟩
      rw [← hwz] at hcut ⊢
      clear hwz
      have HBA := Lib.hid (Below.then HBA.out hcut)
      clear hcut
      obtain ⟨wa, hwa⟩ : ∃ W, W = wz := ⟨_, rfl⟩
      rw [← hwa] at HBA ⊢
      clear hwa
      cases ob with
      | true =>
        obtain rfl : ge = 1 := by
          have h := HGF.out.1
          rw [formatL_no sectors hob.no] at h
          injection h with _ e
          exact e.symm
        clear hob HGF
        go_upto_region 12 with fail
        have HBB := HBA
        obtain ⟨wb, hwb⟩ : ∃ W, W = wa := ⟨_, rfl⟩
        rw [← hwb] at HBB ⊢
        clear hwb
        -- from region 12 on, in wb (HBB : Below W5 wb)
        have HOB := Lib.hid (HO2.out.keep (K5.out _ HBB.out))
        have HAB := Lib.hid (HA2.out.keep (K5.out _ HBB.out))
        obtain ⟨m8, hm8⟩ : ∃ m, min m3 8 = m := ⟨_, rfl⟩
        have qm : min (m3 : Int) 8 = (m8 : Int) := by omega
        have hm8m : m8 ≤ m3 := by omega
        have hm8k : m8 ≤ k3 := by have := hk3.1; omega
        have hk3m := hk3.2
        unfold maxLen at hk3m
        have hk3i : (m8 : Int) ≤ (k3 : Int) := by omega
        obtain ⟨a0, a1⟩ := HAB.out.cells
        obtain ⟨b0, b1, b2, b3, b4, b5⟩ := HOB.out.cells
        obtain ⟨f0, f1, f2, f3, f4, f5⟩ := HOB.out.free
        have HT8 := Lib.hid (show od.ents.take 8 = od.ents.take m8 by
          rcases Nat.le_total m3 8 with e | e
          · rw [List.take_of_length_le (by rw [HM3.out]; omega), List.take_of_length_le (by rw [HM3.out]; omega)]
          · rw [show m8 = 8 by omega])
        clear hm8
        go_region
        obtain ⟨wx, hwx⟩ : ∃ W, setDE wb Bo (.slice fa fn fc) (.slice fa' fn' fc') (.slice p3 m8 k3) = W := ⟨_, rfl⟩
        have hnsx : NS wb wx := by rw [← hwx]; exact setDE_ns HOB.out (isSl_mk _ _ _) (isSl_mk _ _ _) (isSl_mk _ _ _) _ _ _
        have hox : At6 27 wx Bo (.slice fa fn fc) (.slice fa' fn' fc') (.int .i64 oh) (.int .i64 og) (.int .i64 ou) (.slice p3 m8 k3) := by rw [← hwx]; exact HOB.out.setDE _ _ _
        have hbx : Below w.heap.size w wx := by rw [← hwx]; exact setDE_below (KW.out _ (K5.out _ HBB.out)) HBO.out.2 _ _ _
        have hlx : At6 27 wx Bl (.slice la n0 lc) (.slice la' n1 lc') (.int .i64 lh) (.int .i64 lg) (.int .i64 lu) (.slice lb ne lk) := by
          rw [← hwx]; exact (HL5.out.keep HBB.out).other (setDE_block wb Bo Bl _ _ _ (Ne.symm HBL.out))
        have hrx : At6 27 wx Br (.slice ra n0 rc) (.slice ra' n1 rc') (.int .i64 lh) (.int .i64 lg) (.int .i64 lu) (.slice rb ne rk) := by
          rw [← hwx]; exact (HR5.out.keep HBB.out).other (setDE_block wb Bo Br _ _ _ (Ne.symm HBR.out))
        rw [show setDE wb Bo (.slice fa fn fc) (.slice fa' fn' fc') (.slice p3 m8 k3) = ((wb.setCell ⟨Bo, 0, none⟩ (.slice fa fn fc)).setCell ⟨Bo, 1, none⟩ (.slice fa' fn' fc')).setCell ⟨Bo, 5, none⟩ (.slice p3 m8 k3) from rfl] at hwx
        rw [hwx]
        clear hwx
        obtain ⟨wc, hwc⟩ : ∃ W, wx.drew = W := ⟨_, rfl⟩
        have hnsc : NS wb wc := by rw [← hwc]; exact hnsx
        have HOC := Lib.hid (show At6 27 wc Bo (.slice fa fn fc) (.slice fa' fn' fc') (.int .i64 oh) (.int .i64 og) (.int .i64 ou) (.slice p3 m8 k3) by rw [← hwc]; exact hox)
        have HBC := Lib.hid (show Below w.heap.size w wc by rw [← hwc]; exact hbx.drew)
        have HLC := Lib.hid (show At6 27 wc Bl (.slice la n0 lc) (.slice la' n1 lc') (.int .i64 lh) (.int .i64 lg) (.int .i64 lu) (.slice lb ne lk) by rw [← hwc]; exact hlx)
        have HRC := Lib.hid (show At6 27 wc Br (.slice ra n0 rc) (.slice ra' n1 rc') (.int .i64 lh) (.int .i64 lg) (.int .i64 lu) (.slice rb ne rk) by rw [← hwc]; exact hrx)
        obtain ⟨O, hO⟩ : ∃ O : Led, ⟨D, oh, og, ou, od.ents.take m8⟩ = O := ⟨_, rfl⟩
        have hOD : O.disk = D := by rw [← hO]
        have HOL := Lib.hid (show LedAt wc (.agg #[.slice fa fn fc, .slice fa' fn' fc', .int .i64 oh, .int .i64 og, .int .i64 ou, .slice p3 m8 k3]) O by
          rw [← hO]
          refine ⟨⟨_, _, _, rfl, (HD2.out.keep (K5.out _ HBB.out)).ns hnsc, ?_⟩, fun s hs => HOZ.out s (List.mem_of_mem_take hs), HBI.out.1, HBI.out.2.1, HBI.out.2.2⟩
          exact ((HOE.out.keep (K5.out _ HBB.out)).ns hnsc).take HM3.out m8 hm8m _ rfl)
        have HLLC := Lib.hid ((HLL5.out.keep HBB.out).ns hnsc)
        have HRLC := Lib.hid ((HRL5.out.keep HBB.out).ns hnsc)
        have RO := Lib.hid (lRight_t aD aS aZ _ O wc (HE.out.keep HBC.out) HOL.out)
        have RL := Lib.hid (fun w' (hb : Below wc.heap.size wc w') => lRight_t aD aS aZ _ L w' (HE.out.keep (Below.then HBC.out hb)) (HLLC.out.keep hb))
        have LO := Lib.hid (fun w' (hb : Below wc.heap.size wc w') => refLLike_t O L _ _ w' (HOL.out.keep hb) (HRLC.out.keep hb))
        have HRO := Lib.hid (HRI.out O hOD)
        obtain ⟨ro, hro⟩ : ∃ b, rightLed O = b := ⟨_, rfl⟩
        rw [hro] at RO HRO
        rw [HRT.out] at RL
        rw [hwc]
        clear hwc hnsc hnsx hox hbx hlx hrx hO hOD hro a0 a1 b0 b1 b2 b3 b4 b5 f0 f1 f2 f3 f4 f5
        obtain ⟨b0, b1, b2, b3, b4, b5⟩ := HOC.out.cells
        go_wp2_with fail
        refine RO.out.mono ?_
        rintro e wd ⟨rfl, hbd⟩
        have HBD := Lib.hid hbd
        obtain ⟨x0, x1, x2, x3, x4, x5⟩ := (HLC.out.keep hbd).cells
        obtain ⟨y0, y1, y2, y3, y4, y5⟩ := (HRC.out.keep hbd).cells
        clear b0 b1 b2 b3 b4 b5
        obtain ⟨b0, b1, b2, b3, b4, b5⟩ := (HOC.out.keep hbd).cells
        clear hbd
        rw [decide_eq_false he0] at RL
        obtain rfl : ro = false := by
          cases ro with
          | false => rfl
          | true =>
            have h := HRO.out.1 rfl
            injection h with _ h
            exact absurd h he0
        go_wp2_with fail
        refine (RL.out _ HBD.out).mono ?_
        rintro e wf ⟨rfl, hbf⟩
        have HBF := Lib.hid (Below.then HBC.out (Below.then HBD.out hbf))
        clear hbf
        go_wp2_with fail
        go_ret
        exact ⟨rfl, HBF.out⟩
      | false =>
        obtain ⟨sk, hsk, hs4, hs64⟩ := hob.nat
        clear hob
        have hsl : ¬ sectors < 4 := by omega
        have hsg : ¬ (64 : Int) < sectors := by omega
        have hsk0 : 0 < sk := by omega
        have hskn : ¬ sk = 0 := by omega
        have hsk0i : (0 : Int) < (sk : Int) := by omega
        obtain ⟨rfl, rfl, rfl, rfl, rfl, hGe⟩ : ge = 0 ∧ sk = g0 ∧ g2 = 0 ∧ gg = 1 ∧ gu = 0 ∧ G = ⟨fmtD sk, 0, 1, 0, []⟩ := by
          have h := HGF.out
          rw [hsk, formatL_ok sk hs4 hs64] at h
          obtain ⟨e, e0, e2, e3, e4⟩ := h
          injection e with e5 e6
          subst e5
          exact ⟨e6.symm, by rw [← e0]; exact (fmtD_len sk).symm, by rw [← e2]; rfl, by rw [← e3], by rw [← e4], rfl⟩
        have HNA := Lib.hid (HN5.out.keep HBA.out)
        have HNLA := Lib.hid (HNL5.out.keep HBA.out)
        have hRG := fun w' (hb : Below wa.heap.size wa w') => lRight_t aD aS aZ _ G w' (HE.out.keep (KW.out w' (K5.out w' (Below.then HBA.out hb)))) (HNLA.out.keep hb)
        rw [hGe, show rightLed ⟨fmtD sk, 0, 1, 0, []⟩ = true from rightLed_of (fmt_opens sk hs4 hs64)] at hRG
        have hsec := HNLA.out.parts.1
        rw [hGe] at hsec
        obtain ⟨⟨sv, dv, esd, hst, -⟩, -, -⟩ := hsec
        simp only [Value.agg.injEq, Array.mk.injEq, List.cons.injEq, and_true] at esd
        obtain ⟨rfl, rfl⟩ := esd
        obtain ⟨nsb, nso, rfl, hc0⟩ := hst.at 0 (by rw [fmtD_len]; omega)
        have hfi : (fmtD sk).secs[0]'(by rw [fmtD_len]; omega) = headB 1 0 := by
          have h := fmt_first sk hs4 hs64
          rw [List.getD_eq_getElem?_getD, List.getElem?_eq_getElem (by rw [fmtD_len]; omega)] at h
          exact h
        rw [hfi] at hc0
        obtain ⟨hx, hhx⟩ : ∃ x, headB 1 0 = x := ⟨_, rfl⟩
        have HD1 := fun w' => refHead_t 1 0 w' (by omega) (by omega)
        rw [hhx] at hc0 HD1
        have hc1 : wa.cell? ⟨nsb, nso, none⟩ = some (.string hx) := hc0
        have qh : (hx.toList == hx.toList) = true := by rw [beqB]; exact decide_eq_true rfl
        have qh2 : (hx.toList != hx.toList) = false := by rw [bne, qh]; rfl
        have hRG := Lib.hid hRG
        have HD1 := Lib.hid HD1
        have HC1 := Lib.hid hc1
        clear hst hc0 hfi hhx hGe HGF HNL5 hsk hsl hsg
        obtain ⟨z0, z1, z2, z3, z4, z5⟩ := HNA.out.cells
        have hbA := Below.refl wa.heap.size wa
        go_upto_region 10 with fail
        go_cut [97] from 66 to 96 (fun cv wx => cv = .bool false ∧ Below wa.heap.size wa wx)
        case first =>
          go_region_held3 (fun w' => w'.cell? ⟨Bn, 0, none⟩ = some (.slice (some ⟨nsb, nso, none⟩) sk nc) ∧ w'.cell? ⟨Bn, 1, none⟩ = some (.slice na' g1 nc') ∧ w'.cell? ⟨Bn, 2, none⟩ = some (.int .i64 gh) ∧ w'.cell? ⟨Bn, 3, none⟩ = some (.int .i64 1) ∧ w'.cell? ⟨Bn, 4, none⟩ = some (.int .i64 0) ∧ w'.cell? ⟨Bn, 5, none⟩ = some (.slice nb 0 nk) ∧ w'.cell? ⟨nsb, nso, none⟩ = some (.string hx)) (exact ⟨z0, z1, z2, z3, z4, z5, hc1⟩)
            (first
            | (go_simp; go_at_call 17
               refine (HD1.out _).mono ?_
               rintro e wS ⟨rfl, hbS⟩
               have hbA : Below wa.heap.size wa wS := by first | exact Below.then hbA hbS | exact Below.then hbA.drew hbS
               obtain ⟨z0, z1, z2, z3, z4, z5⟩ := (HNA.out.keep hbA).cells
               have hc1 := Below.keepc hbA HC1.out)
            | (go_simp; go_at_call 18
               refine (hRG.out _ (by first | exact hbA | exact hbA.drew)).mono ?_
               rintro e wS ⟨rfl, hbS⟩
               have hbA : Below wa.heap.size wa wS := by first | exact Below.then hbA hbS | exact Below.then hbA.drew hbS
               obtain ⟨z0, z1, z2, z3, z4, z5⟩ := (HNA.out.keep hbA).cells
               have hc1 := Below.keepc hbA HC1.out))
          all_goals
            go_wp2_with fail
            go_meet
            exact ⟨rfl, hbA⟩
        case rest =>

          obtain ⟨rfl, hcut⟩ := hcut
          obtain ⟨wb, hwb⟩ : ∃ W, W = wc := ⟨_, rfl⟩
          rw [← hwb] at hcut ⊢
          clear hwb
          have HBB := Lib.hid (Below.then HBA.out hcut)
          clear hcut z0 z1 z2 z3 z4 z5 hc1 hRG HD1 qh qh2
          go_upto_region 12 with fail
          -- from region 12 on, in wb (HBB : Below W5 wb)
          have HOB := Lib.hid (HO2.out.keep (K5.out _ HBB.out))
          have HAB := Lib.hid (HA2.out.keep (K5.out _ HBB.out))
          obtain ⟨m8, hm8⟩ : ∃ m, min m3 8 = m := ⟨_, rfl⟩
          have qm : min (m3 : Int) 8 = (m8 : Int) := by omega
          have hm8m : m8 ≤ m3 := by omega
          have hm8k : m8 ≤ k3 := by have := hk3.1; omega
          have hk3m := hk3.2
          unfold maxLen at hk3m
          have hk3i : (m8 : Int) ≤ (k3 : Int) := by omega
          obtain ⟨a0, a1⟩ := HAB.out.cells
          obtain ⟨b0, b1, b2, b3, b4, b5⟩ := HOB.out.cells
          obtain ⟨f0, f1, f2, f3, f4, f5⟩ := HOB.out.free
          have HT8 := Lib.hid (show od.ents.take 8 = od.ents.take m8 by
            rcases Nat.le_total m3 8 with e | e
            · rw [List.take_of_length_le (by rw [HM3.out]; omega), List.take_of_length_le (by rw [HM3.out]; omega)]
            · rw [show m8 = 8 by omega])
          clear hm8
          go_region
          obtain ⟨wx, hwx⟩ : ∃ W, setDE wb Bo (.slice fa fn fc) (.slice fa' fn' fc') (.slice p3 m8 k3) = W := ⟨_, rfl⟩
          have hnsx : NS wb wx := by rw [← hwx]; exact setDE_ns HOB.out (isSl_mk _ _ _) (isSl_mk _ _ _) (isSl_mk _ _ _) _ _ _
          have hox : At6 27 wx Bo (.slice fa fn fc) (.slice fa' fn' fc') (.int .i64 oh) (.int .i64 og) (.int .i64 ou) (.slice p3 m8 k3) := by rw [← hwx]; exact HOB.out.setDE _ _ _
          have hbx : Below w.heap.size w wx := by rw [← hwx]; exact setDE_below (KW.out _ (K5.out _ HBB.out)) HBO.out.2 _ _ _
          have hlx : At6 27 wx Bl (.slice la n0 lc) (.slice la' n1 lc') (.int .i64 lh) (.int .i64 lg) (.int .i64 lu) (.slice lb ne lk) := by
            rw [← hwx]; exact (HL5.out.keep HBB.out).other (setDE_block wb Bo Bl _ _ _ (Ne.symm HBL.out))
          have hrx : At6 27 wx Br (.slice ra n0 rc) (.slice ra' n1 rc') (.int .i64 lh) (.int .i64 lg) (.int .i64 lu) (.slice rb ne rk) := by
            rw [← hwx]; exact (HR5.out.keep HBB.out).other (setDE_block wb Bo Br _ _ _ (Ne.symm HBR.out))
          rw [show setDE wb Bo (.slice fa fn fc) (.slice fa' fn' fc') (.slice p3 m8 k3) = ((wb.setCell ⟨Bo, 0, none⟩ (.slice fa fn fc)).setCell ⟨Bo, 1, none⟩ (.slice fa' fn' fc')).setCell ⟨Bo, 5, none⟩ (.slice p3 m8 k3) from rfl] at hwx
          rw [hwx]
          clear hwx
          obtain ⟨wc, hwc⟩ : ∃ W, wx.drew = W := ⟨_, rfl⟩
          have hnsc : NS wb wc := by rw [← hwc]; exact hnsx
          have HOC := Lib.hid (show At6 27 wc Bo (.slice fa fn fc) (.slice fa' fn' fc') (.int .i64 oh) (.int .i64 og) (.int .i64 ou) (.slice p3 m8 k3) by rw [← hwc]; exact hox)
          have HBC := Lib.hid (show Below w.heap.size w wc by rw [← hwc]; exact hbx.drew)
          have HLC := Lib.hid (show At6 27 wc Bl (.slice la n0 lc) (.slice la' n1 lc') (.int .i64 lh) (.int .i64 lg) (.int .i64 lu) (.slice lb ne lk) by rw [← hwc]; exact hlx)
          have HRC := Lib.hid (show At6 27 wc Br (.slice ra n0 rc) (.slice ra' n1 rc') (.int .i64 lh) (.int .i64 lg) (.int .i64 lu) (.slice rb ne rk) by rw [← hwc]; exact hrx)
          obtain ⟨O, hO⟩ : ∃ O : Led, ⟨D, oh, og, ou, od.ents.take m8⟩ = O := ⟨_, rfl⟩
          have hOD : O.disk = D := by rw [← hO]
          have HOL := Lib.hid (show LedAt wc (.agg #[.slice fa fn fc, .slice fa' fn' fc', .int .i64 oh, .int .i64 og, .int .i64 ou, .slice p3 m8 k3]) O by
            rw [← hO]
            refine ⟨⟨_, _, _, rfl, (HD2.out.keep (K5.out _ HBB.out)).ns hnsc, ?_⟩, fun s hs => HOZ.out s (List.mem_of_mem_take hs), HBI.out.1, HBI.out.2.1, HBI.out.2.2⟩
            exact ((HOE.out.keep (K5.out _ HBB.out)).ns hnsc).take HM3.out m8 hm8m _ rfl)
          have HLLC := Lib.hid ((HLL5.out.keep HBB.out).ns hnsc)
          have HRLC := Lib.hid ((HRL5.out.keep HBB.out).ns hnsc)
          have RO := Lib.hid (lRight_t aD aS aZ _ O wc (HE.out.keep HBC.out) HOL.out)
          have RL := Lib.hid (fun w' (hb : Below wc.heap.size wc w') => lRight_t aD aS aZ _ L w' (HE.out.keep (Below.then HBC.out hb)) (HLLC.out.keep hb))
          have LO := Lib.hid (fun w' (hb : Below wc.heap.size wc w') => refLLike_t O L _ _ w' (HOL.out.keep hb) (HRLC.out.keep hb))
          have HRO := Lib.hid (HRI.out O hOD)
          obtain ⟨ro, hro⟩ : ∃ b, rightLed O = b := ⟨_, rfl⟩
          rw [hro] at RO HRO
          rw [HRT.out] at RL
          rw [hwc]
          clear hwc hnsc hnsx hox hbx hlx hrx hO hOD hro a0 a1 b0 b1 b2 b3 b4 b5 f0 f1 f2 f3 f4 f5
          obtain ⟨b0, b1, b2, b3, b4, b5⟩ := HOC.out.cells
          go_wp2_with fail
          refine RO.out.mono ?_
          rintro e wd ⟨rfl, hbd⟩
          have HBD := Lib.hid hbd
          obtain ⟨x0, x1, x2, x3, x4, x5⟩ := (HLC.out.keep hbd).cells
          obtain ⟨y0, y1, y2, y3, y4, y5⟩ := (HRC.out.keep hbd).cells
          clear b0 b1 b2 b3 b4 b5
          obtain ⟨b0, b1, b2, b3, b4, b5⟩ := (HOC.out.keep hbd).cells
          clear hbd
          rw [decide_eq_false he0] at RL
          obtain rfl : ro = false := by
            cases ro with
            | false => rfl
            | true =>
              have h := HRO.out.1 rfl
              injection h with _ h
              exact absurd h he0
          go_wp2_with fail
          refine (RL.out _ HBD.out).mono ?_
          rintro e wf ⟨rfl, hbf⟩
          have HBF := Lib.hid (Below.then HBC.out (Below.then HBD.out hbf))
          clear hbf
          go_wp2_with fail
          go_ret
          exact ⟨rfl, HBF.out⟩
end Go.Proofs.YtkplpodljmlanaaGreatDoor
