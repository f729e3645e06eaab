/-
  The law DiskLast, walked: it returns true at every disk, place, bytes and fates. Conditions: none.
-/
import Derived.Test.YtcjngaapiomkbaaLawKNow
namespace Go.Proofs.Ytcjngaapiomkbaa
open Go.RowKit Go.WideShapes

/-- What stands when k bytes were saved, one by one, at one place. -/
structure LInv (w0 : World) (B bN n : Nat) (xa : Option Addr) (xc : Nat) (ss : List ByteArray) (ka : Nat) (cs : List UInt8) (lv : Value) (fs : List Int) (fv : Value) (k : Nat) (w : World) : Prop where
  now : DskIn w bN (nowD ss ka cs k)
  box : At2 25 w B (.slice xa n xc) nilV
  dsk : DskAt w (.agg #[.slice xa n xc, nilV]) ⟨ss, []⟩
  bts : BytesAt w lv cs
  fts : IntsAt w fv fs
  below : Below w0.heap.size w0 w
theorem LInv.keep {w0 : World} {B bN n : Nat} {xa : Option Addr} {xc : Nat} {ss : List ByteArray} {ka : Nat} {cs : List UInt8} {lv : Value} {fs : List Int} {fv : Value} {k : Nat} {w w' : World} (h : LInv w0 B bN n xa xc ss ka cs lv fs fv k w) (hb : Below w.heap.size w w') : LInv w0 B bN n xa xc ss ka cs lv fs fv k w' :=
  ⟨h.now.keep hb, h.box.keep hb, h.dsk.keep hb, h.bts.keep hb, h.fts.keep hb, Below.then h.below hb⟩
theorem LInv.step {w0 : World} {B bN n : Nat} {xa : Option Addr} {xc : Nat} {ss : List ByteArray} {ka : Nat} {cs : List UInt8} {lv : Value} {fs : List Int} {fv : Value} {k : Nat} {w : World} (h : LInv w0 B bN n xa xc ss ka cs lv fs fv k w) (hne : B ≠ bN) (hbN : w0.heap.size ≤ bN) {v0 v1 : Value} (hd : DskAt w (.agg #[v0, v1]) (nowD ss ka cs (k + 1))) : LInv w0 B bN n xa xc ss ka cs lv fs fv (k + 1) (set2 w bN v0 v1) := by
  obtain ⟨a, c, a', c', h1, h2⟩ := h.now
  have hns := set2_ns h1 (isSl_mk _ _ _) (isSl_mk _ _ _) v0 v1
  exact ⟨DskIn.set h.now hd, h.box.other hne _ _, h.dsk.ns hns, h.bts.ns hns, h.fts.ns hns, set2_below h.below hbN _ _⟩

/-- A sector's two halves. -/
structure Halves (L u v : ByteArray) : Prop where
  a : u = L.extract 0 64
  b : v = L.extract 64 128

set_option maxRecDepth 100000 in
set_option maxHeartbeats 8000000 in
theorem last_any (v lv fv : Value) (d0 : Dsk) (at' : Int) (cs : List UInt8) (fs : List Int) (w : World) (h : DskAt w v d0) (hl : BytesAt w lv cs) (hf : IntsAt w fv fs) :
    Calls Try.prog 6 #[v, .int .i64 at', lv, fv] w fun e w' => e = .returned (.bool true) ∧ Below w.heap.size w w' := by
  have AL := Lib.hid alive_t
  have SA := Lib.hid sector_t
  have HL0 := Lib.hid hl
  have HF0 := Lib.hid hf
  obtain ⟨fa, fc, rfl, -, hfm⟩ := hf.shape
  obtain ⟨la, lc, rfl, -, hlm⟩ := hl.shape
  unfold maxLen at hfm hlm
  obtain ⟨nf, hnf⟩ : ∃ k, fs.length = k := ⟨_, rfl⟩
  obtain ⟨nl, hnl⟩ : ∃ k, cs.length = k := ⟨_, rfl⟩
  rw [hnf] at HF0 hfm ⊢
  rw [hnl] at HL0 hlm ⊢
  have HNL := Lib.hid (And.intro hnl hnf)
  clear hl hf hnl hnf
  obtain ⟨va, vc, va', vc', rfl, -, -⟩ := h.shape
  obtain ⟨n0, hn0⟩ : ∃ k, d0.secs.length = k := ⟨_, rfl⟩
  obtain ⟨m0, hm0⟩ : ∃ k, d0.dirty.length = k := ⟨_, rfl⟩
  rw [hn0, hm0] at h ⊢
  obtain ⟨W, hW⟩ : ∃ W, w.alloc (.cells #[.slice va n0 vc, .slice va' m0 vc'] 25) = W := ⟨_, rfl⟩
  have hB0 : Below w.heap.size w W := by rw [← hW]; exact below_new _ _
  have FW := Lib.hid (few_t _ d0 W (h.keep hB0))
  have HA0 := Lib.hid (show At2 25 W w.heap.size (.slice va n0 vc) (.slice va' m0 vc') by rw [← hW]; exact At2.new _ _ _ _)
  have HNS0 := Lib.hid (show NS w W from Below.ns hB0)
  have HB0 := Lib.hid hB0
  have HW := Lib.hid hW
  obtain ⟨d, hd⟩ : ∃ d, fewD d0 = d := ⟨_, rfl⟩
  rw [hd] at FW
  obtain ⟨ss, hss⟩ : ∃ k, d.secs = k := ⟨_, rfl⟩
  obtain ⟨n, hn⟩ : ∃ k, ss.length = k := ⟨_, rfl⟩
  obtain ⟨m, hm⟩ : ∃ k, d.dirty.length = k := ⟨_, rfl⟩
  have HN := Lib.hid (And.intro hn (And.intro (show d.secs.length = n by rw [hss]; exact hn) (And.intro hm hss)))
  obtain ⟨B, hBe⟩ : ∃ B, w.heap.size = B := ⟨_, rfl⟩
  have HBe := Lib.hid hBe
  clear hW hB0 h hd hn0 hm0 hn hm hBe hss
  go_enter Try.func6, Try.ntmps6
  go_upto_region 1 with fail
  rw [HW.out]
  rw [HBe.out] at HA0 ⊢
  obtain ⟨a0, a1⟩ := HA0.out.cells
  go_wp2_with fail
  refine FW.out.mono ?_
  rintro e w1 ⟨v1, rfl, hd1, hb1⟩
  obtain ⟨xa, xc, xa', xc', rfl, -, -⟩ := hd1.shape
  rw [HN.out.2.1, HN.out.2.2.1] at hd1 ⊢
  have hA1 := HA0.out.keep hb1
  obtain ⟨W2, hW2⟩ : ∃ W2, (w1.setCell ⟨B, 0, none⟩ (.slice xa n xc)).setCell ⟨B, 1, none⟩ (.slice xa' m xc') = W2 := ⟨_, rfl⟩
  have hns := set2_ns hA1 (isSl_mk _ _ _) (isSl_mk _ _ _) (.slice xa n xc) (.slice xa' m xc')
  have HA2 := Lib.hid (show At2 25 W2 B (.slice xa n xc) (.slice xa' m xc') by rw [← hW2]; exact hA1.set _ _)
  have HNS2 := Lib.hid (show NS w W2 by rw [← hW2]; exact (HNS0.out.then (Below.ns hb1)).then hns)
  have HD2 := Lib.hid (show DskAt W2 (.agg #[.slice xa n xc, .slice xa' m xc']) d by rw [← hW2]; exact hd1.ns hns)
  have HB2 := Lib.hid (show Below w.heap.size w W2 by rw [← hW2]; exact set2_below (Below.then HB0.out hb1) (by rw [HBe.out]; exact Nat.le_refl _) _ _)
  have HW2 := Lib.hid hW2
  obtain ⟨b0, b1⟩ := hA1.cells
  obtain ⟨f0, f1⟩ := hA1.free
  clear hW2 hns hA1 hd1 hb1 a0 a1 FW HA0 HNS0 HW
  go_upto_region 2 with fail
  rw [HW2.out]
  clear b0 b1 f0 f1
  obtain ⟨a0, a1⟩ := HA2.out.cells
  obtain ⟨f0, f1⟩ := HA2.out.free
  obtain ⟨W3, hW3⟩ : ∃ W3, W2.setCell ⟨B, 1, none⟩ (.slice none 0 0) = W3 := ⟨_, rfl⟩
  have hns := At2.set1_ns HA2.out (isSl_mk _ _ _) (isSl_mk _ _ _) nilV
  rw [hW3] at hns
  have HA := Lib.hid (show At2 25 W3 B (.slice xa n xc) nilV by rw [← hW3]; exact HA2.out.set1 _)
  have HNS := Lib.hid (HNS2.out.then hns)
  have HD := Lib.hid (show DskAt W3 (.agg #[.slice xa n xc, nilV]) ⟨ss, []⟩ by
    obtain ⟨⟨sv, dv, e, g1, -⟩, g2, -⟩ := HD2.out
    simp only [Value.agg.injEq, Array.mk.injEq, List.cons.injEq, and_true] at e
    obtain ⟨rfl, rfl⟩ := e
    exact ⟨⟨_, _, rfl, by rw [← HN.out.2.2.2]; exact g1.ns hns, Or.inl ⟨rfl, Or.inl rfl⟩⟩, by rw [← HN.out.2.2.2]; exact g2, fun l hl => by cases hl⟩)
  have HB := Lib.hid (show Below w.heap.size w W3 by rw [← hW3]; exact HB2.out.setCell (p := ⟨B, 1, none⟩) (by show w.heap.size ≤ B; rw [HBe.out]; exact Nat.le_refl _) _)
  have HW3 := Lib.hid hW3
  clear hW3 hns HD2 HNS2 HB2
  go_upto_region 3 with fail
  rw [HW3.out]
  clear a0 a1 f0 f1
  have RR := Lib.hid (refRight_t _ ⟨ss, []⟩ W3 HD.out)
  obtain ⟨r, hr⟩ : ∃ r, Dsk.right ⟨ss, []⟩ = r := ⟨_, rfl⟩
  rw [hr] at RR
  have HR := Lib.hid hr
  clear hr HA2 HW2 HW3
  obtain ⟨a0, a1⟩ := HA.out.cells
  go_wp2_with fail
  refine RR.out.mono ?_
  rintro e w2 ⟨rfl, hb2⟩
  have HB2 := Lib.hid (Below.then HB.out hb2)
  have HA2 := Lib.hid (HA.out.keep hb2)
  have HD2 := Lib.hid (HD.out.keep hb2)
  have HNS2 := Lib.hid (HNS.out.then (Below.ns hb2))
  have AL2 := Lib.hid (AL.out w2)
  clear hb2 a0 a1 RR HB HA HD HNS
  cases r with
  | false =>
    go_wp2_with fail
    refine AL2.out.mono ?_
    rintro e w3 ⟨rfl, hb3⟩
    have HB3 := Lib.hid (Below.then HB2.out hb3)
    clear hb3
    go_wp2_with fail
    go_ret
    exact ⟨rfl, HB3.out⟩
  | true =>
  have HRI := Lib.hid ((right_iff ⟨ss, []⟩).1 HR.out)
  have hnn : 4 ≤ n ∧ n ≤ 64 := by rw [← HN.out.1]; exact ⟨HRI.out.least, HRI.out.most⟩
  obtain ⟨a0, a1⟩ := HA2.out.cells
  obtain ⟨r1, ka, e1, k1, k2, e2, k3⟩ := place_of at' n hnn.1
  have hn0 : ¬ ((n : Int) = 0) := by omega
  have hka : ka < ss.length := by rw [HN.out.1]; exact k3
  obtain ⟨s0, hs0⟩ : ∃ s, lastK ss ka cs fs 0 = s := ⟨_, rfl⟩
  have hs0z : s0.size = 128 := by rw [← hs0]; exact lastK_size HRI.out hka fs 0 (Nat.zero_le _)
  obtain ⟨sb, so, sc, hxa, -, -, -, s4⟩ : ∃ b o cap, (Value.slice xa n xc) = .slice (some ⟨b, o, none⟩) ss.length cap ∧ 0 < ss.length ∧ ss.length ≤ cap ∧ cap ≤ maxLen ∧ ∀ i (h : i < ss.length), w2.cell? ⟨b, o + i, none⟩ = some (.string ss[i]) := by
    obtain ⟨⟨sv, dv, e, g1, -⟩, -, -⟩ := HD2.out
    simp only [Value.agg.injEq, Array.mk.injEq, List.cons.injEq, and_true] at e
    obtain ⟨rfl, rfl⟩ := e
    exact g1.rows (by show 0 < ss.length; omega)
  simp only [Value.slice.injEq] at hxa
  obtain ⟨rfl, -, rfl⟩ := hxa
  have c0 : w2.cell? ⟨sb, so + ka, none⟩ = some (.string s0) := by
    have e : s0 = ss[ka] := by
      rw [← hs0]
      show leftL ka (ss.getD ka ⟨#[]⟩) [] fs = _
      rw [List.getD_eq_getElem?_getD, List.getElem?_eq_getElem hka]
      cases fs <;> rfl
    rw [e]; exact s4 ka hka
  have k3' : (ka : Int) < (n : Int) := by omega
  have HS0 := Lib.hid hs0
  clear s4 hs0
  go_upto_region 5 with fail
  go_quiet (fail)
  generalize nq = nq0
  clear e1 e2
  go_upto_region 6 with fail
  go_quiet (fail)
  obtain ⟨W5, hW5⟩ : ∃ W5, (w2.drewN nq0).drewN nq = W5 := ⟨_, rfl⟩
  have hb5 : Below w2.heap.size w2 W5 := by rw [← hW5]; exact below_drewN (below_drewN (Below.refl _ _) _) _
  rw [hW5]
  have HB5 := Lib.hid (Below.then HB2.out hb5)
  have HA5 := Lib.hid (HA2.out.keep hb5)
  have HD5 := Lib.hid (HD2.out.keep hb5)
  have HNS5 := Lib.hid (HNS2.out.then (Below.ns hb5))
  obtain ⟨xa, hxa⟩ : ∃ a, (some ⟨sb, so, none⟩ : Option Addr) = a := ⟨_, rfl⟩
  rw [hxa] at HA5 HD5 ⊢
  clear hW5 hb5 a0 a1 c0 hxa
  obtain ⟨a0, a1⟩ := HA5.out.cells
  obtain ⟨bN, hbN⟩ : ∃ b, W5.heap.size = b := ⟨_, rfl⟩
  obtain ⟨W6, hW6⟩ : ∃ W, W5.alloc (.cells #[.slice xa n xc, .slice none 0 0] 25) = W := ⟨_, rfl⟩
  have hb6 : Below W5.heap.size W5 W6 := by rw [← hW6]; exact below_new _ _
  have hBb : B ≠ bN := by have := HA5.out.lt; omega
  have hWb : w.heap.size ≤ bN := by have := HB5.out.size; omega
  have HI0 := Lib.hid (show LInv w B bN n xa xc ss ka cs (.slice la nl lc) fs (.slice fa nf fc) 0 W6 from
    ⟨by rw [nowD_zero, ← hW6, ← hbN]; exact DskIn.new HD5.out, HA5.out.keep hb6, HD5.out.keep hb6, (HL0.out.ns HNS5.out).keep hb6, (HF0.out.ns HNS5.out).keep hb6, Below.then HB5.out hb6⟩)
  have HW6 := Lib.hid hW6
  have HH0 := Lib.hid (show Halves (lastK ss ka cs fs 0) (s0.extract 0 64) (s0.extract 64 128) by rw [HS0.out]; exact ⟨rfl, rfl⟩)
  clear hW6 hb6 HA2 HD2 HNS2 HB2
  go_upto_region 8 with fail
  rw [HW6.out]
  obtain ⟨u0, hu0⟩ : ∃ u, s0.extract 0 64 = u := ⟨_, rfl⟩
  obtain ⟨v0, hv0⟩ : ∃ u, s0.extract 64 128 = u := ⟨_, rfl⟩
  rw [hu0, hv0] at HH0
  clear hbN a0 a1
  go_wp2_with fail
  go_loopw [9, 10, 55] (fun uv vv iv wr => ∃ (k : Nat) (u v : ByteArray), k ≤ nl ∧ k ≤ 20 ∧ iv = .int .i64 k ∧ uv = .string u ∧ vv = .string v ∧ Halves (lastK ss ka cs fs k) u v ∧ LInv w B bN n xa xc ss ka cs (.slice la nl lc) fs (.slice fa nf fc) k wr) (fun _ _ i _ => nl - (intOf i).toNat)
  case atStart => exact ⟨0, u0, v0, Nat.zero_le _, Nat.zero_le _, rfl, by rw [← hu0], by rw [← hv0], HH0.out, HI0.out⟩
  case round =>
    obtain ⟨k, u, v, hk, hk20, rfl, rfl, rfl, hh, hinv⟩ := hrel
    have HH := Lib.hid hh
    have HI := Lib.hid hinv
    clear hh hinv hu0 hv0
    by_cases hlt : k < nl
    rotate_left
    · obtain ⟨na, nc, na', nc', hNow, hDNow⟩ := DskIn.at HI.out.now (show (nowD ss ka cs k).secs.length = n from HN.out.1) (nowD_dirty ss ka cs k (by rw [HNL.out.1]; exact hk))
      have HRK := Lib.hid (nowD_right (cs := cs) HRI.out hka k (by omega))
      have hx20 : ¬ ((k : Int) < (nl : Int)) := by omega
      have CR := Crash_t _ _ (nowD ss ka cs k) fs wr hDNow HI.out.fts
      rw [crashD_ok HRK.out fs, show (nowD ss ka cs k).secs.length = n from HN.out.1] at CR
      have CR := Lib.hid CR
      obtain ⟨a0, a1⟩ := hNow.cells
      clear hNow hDNow
      go_upto_region 24 with fail
      go_wp2_with fail
      refine CR.out.mono ?_
      rintro e q1 ⟨cv, rfl, hC, hb1⟩
      have hC' := hC
      obtain ⟨⟨qv, pv, rfl, hS, hP⟩, -, -⟩ := hC'
      obtain ⟨gb, go, gc, rfl, -, -, -, hcell⟩ := hS.rows (by rw [clean_length]; omega)
      obtain ⟨pa, pc, rfl, -, -⟩ := hP.shape
      rw [List.length_map] at hC hP ⊢
      have hSL : (clean n (fun i => (nowD ss ka cs k).left i fs)).secs.length = n := clean_length _ _
      have hDL : (clean n (fun i => (nowD ss ka cs k).left i fs)).dirty.length = 0 := rfl
      have cX : q1.cell? ⟨gb, go + ka, none⟩ = some (.string (lastK ss ka cs fs k)) := by
        rw [hcell ka (by rw [hSL]; exact k3)]
        have : (clean n (fun i => (nowD ss ka cs k).left i fs)).secs[ka]'(by rw [hSL]; exact k3) = lastK ss ka cs fs k := by simp [clean, lastK]
        rw [this]
      rw [hSL, hDL]
      have HIq := Lib.hid (HI.out.keep hb1)
      obtain ⟨bX, hbX⟩ : ∃ b, q1.heap.size = b := ⟨_, rfl⟩
      obtain ⟨Q1, hQ1⟩ : ∃ W, q1.alloc (.cells #[.slice (some ⟨gb, go, none⟩) n gc, .slice pa 0 pc] 25) = W := ⟨_, rfl⟩
      have hX1 : At2 25 Q1 bX (.slice (some ⟨gb, go, none⟩) n gc) (.slice pa 0 pc) := by rw [← hQ1, ← hbX]; exact At2.new _ _ _ _
      have hbQ : Below q1.heap.size q1 Q1 := by rw [← hQ1]; exact below_new _ _
      have HQ := Lib.hid (show ∀ w3, Below Q1.heap.size Q1 w3 → Below w.heap.size w w3 ∧ At2 25 w3 bX (.slice (some ⟨gb, go, none⟩) n gc) (.slice pa 0 pc) ∧ At2 25 w3 B (.slice xa n xc) nilV ∧ w3.cell? ⟨gb, go + ka, none⟩ = some (.string (lastK ss ka cs fs k)) from fun w3 h3 =>
        ⟨Below.then HIq.out.below (Below.then hbQ h3), hX1.keep h3, HIq.out.box.keep (Below.then hbQ h3), Below.keepc (Below.then hbQ h3) cX⟩)
      have HQ1 := Lib.hid hQ1
      have AQ := Lib.hid (AL.out Q1)
      obtain ⟨LL, hLL⟩ : ∃ L, lastK ss ka cs fs k = L := ⟨_, rfl⟩
      have qL : (LL.toList == (u ++ v).toList) = true := by
        rw [HH.out.a, HH.out.b, hLL, beqB]
        exact decide_eq_true (halves_whole LL (by rw [← hLL]; exact lastK_size HRI.out hka fs k (by omega))).symm
      have qu : u.size = 64 := by rw [HH.out.a, ByteArray.size_extract, lastK_size HRI.out hka fs k (by omega)]; rfl
      have qv : v.size = 64 := by rw [HH.out.b, ByteArray.size_extract, lastK_size HRI.out hka fs k (by omega)]; rfl
      rw [hLL] at HQ
      clear hQ1 hX1 hbQ hC hP hS hcell cX hSL hDL hb1 a0 a1 CR hLL
      go_upto_region 25 with fail
      rw [HQ1.out]
      clear hbX
      go_wp2_with fail
      refine AQ.out.mono ?_
      rintro e q2 ⟨rfl, hb2⟩
      obtain ⟨hfin, hx, hb, cX⟩ := HQ.out q2 hb2
      have HFIN := Lib.hid hfin
      obtain ⟨x0, x1⟩ := hx.cells
      obtain ⟨b0, b1⟩ := hb.cells
      clear hb2 hfin hx hb AQ HQ
      go_wp2_with fail
      go_ret
      exact ⟨rfl, HFIN.out⟩
    by_cases hlt20 : k < 20
    rotate_left
    · obtain ⟨na, nc, na', nc', hNow, hDNow⟩ := DskIn.at HI.out.now (show (nowD ss ka cs k).secs.length = n from HN.out.1) (nowD_dirty ss ka cs k (by rw [HNL.out.1]; exact hk))
      obtain ⟨bb, bo, rfl, e0⟩ := HI.out.bts.at k (by rw [HNL.out.1]; exact hlt)
      have hltI : (k : Int) < (nl : Int) := by omega
      have HRK := Lib.hid (nowD_right (cs := cs) HRI.out hka k (by omega))
      have hx20 : (20 : Int) ≤ (k : Int) := by omega
      have CR := Crash_t _ _ (nowD ss ka cs k) fs wr hDNow HI.out.fts
      rw [crashD_ok HRK.out fs, show (nowD ss ka cs k).secs.length = n from HN.out.1] at CR
      have CR := Lib.hid CR
      obtain ⟨a0, a1⟩ := hNow.cells
      clear hNow hDNow
      go_upto_region 24 with fail
      go_wp2_with fail
      refine CR.out.mono ?_
      rintro e q1 ⟨cv, rfl, hC, hb1⟩
      have hC' := hC
      obtain ⟨⟨qv, pv, rfl, hS, hP⟩, -, -⟩ := hC'
      obtain ⟨gb, go, gc, rfl, -, -, -, hcell⟩ := hS.rows (by rw [clean_length]; omega)
      obtain ⟨pa, pc, rfl, -, -⟩ := hP.shape
      rw [List.length_map] at hC hP ⊢
      have hSL : (clean n (fun i => (nowD ss ka cs k).left i fs)).secs.length = n := clean_length _ _
      have hDL : (clean n (fun i => (nowD ss ka cs k).left i fs)).dirty.length = 0 := rfl
      have cX : q1.cell? ⟨gb, go + ka, none⟩ = some (.string (lastK ss ka cs fs k)) := by
        rw [hcell ka (by rw [hSL]; exact k3)]
        have : (clean n (fun i => (nowD ss ka cs k).left i fs)).secs[ka]'(by rw [hSL]; exact k3) = lastK ss ka cs fs k := by simp [clean, lastK]
        rw [this]
      rw [hSL, hDL]
      have HIq := Lib.hid (HI.out.keep hb1)
      obtain ⟨bX, hbX⟩ : ∃ b, q1.heap.size = b := ⟨_, rfl⟩
      obtain ⟨Q1, hQ1⟩ : ∃ W, q1.alloc (.cells #[.slice (some ⟨gb, go, none⟩) n gc, .slice pa 0 pc] 25) = W := ⟨_, rfl⟩
      have hX1 : At2 25 Q1 bX (.slice (some ⟨gb, go, none⟩) n gc) (.slice pa 0 pc) := by rw [← hQ1, ← hbX]; exact At2.new _ _ _ _
      have hbQ : Below q1.heap.size q1 Q1 := by rw [← hQ1]; exact below_new _ _
      have HQ := Lib.hid (show ∀ w3, Below Q1.heap.size Q1 w3 → Below w.heap.size w w3 ∧ At2 25 w3 bX (.slice (some ⟨gb, go, none⟩) n gc) (.slice pa 0 pc) ∧ At2 25 w3 B (.slice xa n xc) nilV ∧ w3.cell? ⟨gb, go + ka, none⟩ = some (.string (lastK ss ka cs fs k)) from fun w3 h3 =>
        ⟨Below.then HIq.out.below (Below.then hbQ h3), hX1.keep h3, HIq.out.box.keep (Below.then hbQ h3), Below.keepc (Below.then hbQ h3) cX⟩)
      have HQ1 := Lib.hid hQ1
      have AQ := Lib.hid (AL.out Q1)
      obtain ⟨LL, hLL⟩ : ∃ L, lastK ss ka cs fs k = L := ⟨_, rfl⟩
      have qL : (LL.toList == (u ++ v).toList) = true := by
        rw [HH.out.a, HH.out.b, hLL, beqB]
        exact decide_eq_true (halves_whole LL (by rw [← hLL]; exact lastK_size HRI.out hka fs k (by omega))).symm
      have qu : u.size = 64 := by rw [HH.out.a, ByteArray.size_extract, lastK_size HRI.out hka fs k (by omega)]; rfl
      have qv : v.size = 64 := by rw [HH.out.b, ByteArray.size_extract, lastK_size HRI.out hka fs k (by omega)]; rfl
      rw [hLL] at HQ
      clear hQ1 hX1 hbQ hC hP hS hcell cX hSL hDL hb1 a0 a1 CR hLL
      go_upto_region 25 with fail
      rw [HQ1.out]
      clear hbX
      go_wp2_with fail
      refine AQ.out.mono ?_
      rintro e q2 ⟨rfl, hb2⟩
      obtain ⟨hfin, hx, hb, cX⟩ := HQ.out q2 hb2
      have HFIN := Lib.hid hfin
      obtain ⟨x0, x1⟩ := hx.cells
      obtain ⟨b0, b1⟩ := hb.cells
      clear hb2 hfin hx hb AQ HQ
      go_wp2_with fail
      go_ret
      exact ⟨rfl, HFIN.out⟩
    have hkl : k < cs.length := by rw [HNL.out.1]; exact hlt
    have q20 : (k : Int) < 20 := by omega
    obtain ⟨bb, bo, rfl, e0⟩ := HI.out.bts.at k hkl
    have HST := Lib.hid (nowD_step ss ka cs k hkl)
    have HLS := Lib.hid (lastK_step ss ka cs fs k hkl)
    obtain ⟨cb, hcb⟩ : ∃ c, cs[k] = c := ⟨_, rfl⟩
    rw [hcb] at e0 HST HLS
    have HRK := Lib.hid (nowD_right (cs := cs) HRI.out hka k (by omega))
    have HRK1 := Lib.hid (nowD_right (cs := cs) HRI.out hka (k + 1) (by omega))
    have HLK := Lib.hid (nowD_dirty ss ka cs k (by omega))
    have HLK1 := Lib.hid (nowD_dirty ss ka cs (k + 1) (by omega))
    obtain ⟨na, nc, na', nc', hNow, hDNow⟩ := DskIn.at HI.out.now (show (nowD ss ka cs k).secs.length = n from HN.out.1) HLK.out
    have HNow := Lib.hid hNow
    have HDNow := Lib.hid hDNow
    have SV := Lib.hid (show ∀ (w3 : World) (b : Nat), Below wr.heap.size wr w3 → w3.cell? ⟨b, 0, none⟩ = some (.int .i64 ka) → w3.cell? ⟨b, 0 + 1, none⟩ = some (.string (secB cb)) → Calls Try.prog 10 #[.agg #[.slice na n nc, .slice na' k nc'], .slice (some ⟨b, 0, none⟩) 1 1] w3 fun e w4 => ∃ a c a' c', e = .returned (.tuple #[.agg #[.slice a n c, .slice a' (k + 1) c'], .int .i64 0]) ∧ DskAt w4 (.agg #[.slice a n c, .slice a' (k + 1) c']) (nowD ss ka cs (k + 1)) ∧ Below wr.heap.size wr w4 ∧ Below w3.heap.size w3 w4 from fun w3 b h3 e0 e1 => by
      have hl : PairsAt w3 (.slice (some ⟨b, 0, none⟩) 1 1) ([((ka : Int), secB cb)].map writeCell) := Or.inr ⟨b, 0, 1, rfl, by simp, by simp, by decide, fun i hi => by
        obtain rfl : i = 0 := by simpa using hi
        exact ⟨e0, e1⟩⟩
      have := Save_t _ _ (nowD ss ka cs k) _ w3 (HDNow.out.keep h3) hl (fun x hx => by rw [List.mem_singleton.1 hx]; refine ⟨?_, by show -9223372036854775808 ≤ (ka : Int); omega, by show (ka : Int) ≤ 9223372036854775807; omega⟩; show (secB cb).size ≤ maxLen; rw [secB_size]; decide) (by simp)
      rw [saveD_one HRK.out ((ka : Int), secB cb) (by rw [HLK.out]; omega) (by show (0 : Int) ≤ (ka : Int); omega) (by show (ka : Int) < ((ss.length : Nat) : Int); omega) (secB_size cb), ← HST.out] at this
      refine this.mono ?_
      rintro e w4 ⟨v, rfl, hv, hb4⟩
      obtain ⟨a, c, a', c', rfl, -, -⟩ := hv.shape
      rw [show (nowD ss ka cs (k + 1)).secs.length = n from HN.out.1, HLK1.out] at hv ⊢
      exact ⟨a, c, a', c', rfl, hv, Below.then h3 hb4, hb4⟩)
    have hbr := Below.refl wr.heap.size wr
    obtain ⟨a0, a1⟩ := hNow.cells
    have q1 := secB_size cb
    have q2 : ((secB cb).toList == (secB cb).toList) = true := by simp
    clear hNow hDNow hcb
    go_upto_region 12 with fail
    go_cut [14, 15] from 62 to 71 (fun x y wx => y = .int .i64 0 ∧ ∃ b14 : Nat, x = .pointer (some ⟨b14, 0, none⟩) ∧ Below wr.heap.size wr wx ∧ DskIn wx b14 (nowD ss ka cs (k + 1)))
    case first =>
      obtain ⟨a0m, a1m⟩ := (HNow.out.keep (below_new wr (.cells #[nilV, nilV] 25))).cells
      go_region_law (first
        | (go_simp; go_at_call 14; refine (SA.out _ _).mono ?_; rintro e wS ⟨rfl, hbS0⟩
           have hbS : Below wr.heap.size wr wS := (by first | exact Below.then hbr.drew hbS0 | exact Below.then (Below.then hbr (below_new _ _)).drew hbS0 | exact Below.then (Below.then hbr.drew (below_new _ _)) hbS0)
           have hS1 : At2 25 wS bN (.slice na n nc) (.slice na' k nc') := HNow.out.keep hbS
           obtain ⟨a0, a1⟩ := hS1.cells
           obtain ⟨a0n, a1n⟩ := (hS1.keep (below_new wS (.cells #[.int .i64 ka, .string (secB cb)] 45))).cells
           obtain ⟨a0v, a1v⟩ := (hS1.keep (below_new wS (.cells #[nilV, nilV] 25))).cells
           obtain ⟨a0p, a1p⟩ := (hS1.keep (Below.then (below_new wS (.cells #[.int .i64 ka, .string (secB cb)] 45)) (below_new _ (.cells #[nilV, nilV] 25)))).cells
           obtain ⟨a0q, a1q⟩ := (hS1.keep (Below.then (below_new wS (.cells #[nilV, nilV] 25)) (below_new _ (.cells #[.int .i64 ka, .string (secB cb)] 45)))).cells
           first
             | (have hzS : At2 25 wS wr.heap.size nilV nilV := At2.keep (w := (wr.alloc (.cells #[nilV, nilV] 25)).drew) (At2.new _ wr _ _) hbS0
                skip)
             | (have hzS : At2 25 wS wr.heap.size nilV nilV := At2.keep (w := wr.drew.alloc (.cells #[nilV, nilV] 25)) (At2.new _ wr.drew _ _) hbS0
                skip)
             | skip)
        | (go_simp; go_at_call 10
           refine (SV.out _ _ (by first | exact (Below.then hbS (below_new _ _)) | exact Below.then hbS (Below.then (below_new _ _) (below_new _ _))) (by first | exact (At2.new1 _ _ _ _ (by simp)).cells.1 | exact ((At2.new _ _ _ _).keep (below_new _ _)).cells.1) (by first | exact (At2.new1 _ _ _ _ (by simp)).cells.2 | exact ((At2.new _ _ _ _).keep (below_new _ _)).cells.2)).mono ?_
           rintro e w4 ⟨a4, c4, a4', c4', rfl, hd4, hb4, hk4⟩
           first
             | (have hz : At2 25 w4 (wS.heap.size + 1) nilV nilV := At2.keep (At2.new1 _ _ _ _ (by simp)) hk4
                obtain ⟨z0, z1⟩ := hz.cells
                obtain ⟨y0, y1⟩ := hz.free)
             | (have hz : At2 25 w4 wS.heap.size nilV nilV := At2.keep ((At2.new _ _ _ _).keep (below_new _ _)) hk4
                obtain ⟨z0, z1⟩ := hz.cells
                obtain ⟨y0, y1⟩ := hz.free)
             | (have hz : At2 25 w4 wr.heap.size nilV nilV := At2.keep (hzS.keep (below_new _ _)) hk4
                obtain ⟨z0, z1⟩ := hz.cells
                obtain ⟨y0, y1⟩ := hz.free)
             | skip))
      all_goals
        go_wp2_with fail
        go_meet
        first
          | exact ⟨rfl, _, rfl, Below.then hb4 (below_new _ _), DskIn.new hd4⟩
          | exact ⟨rfl, _, rfl, set2_below hb4 (by have := hbS.size; omega) _ _, DskIn.mk2 (hz.set _ _) (hd4.ns (set2_ns hz isSl_nil isSl_nil _ _))⟩
    case rest =>
      obtain ⟨rfl, b14, rfl, hbc, hin⟩ := hcut
      obtain ⟨ya, yc, ya', yc', hX, hDX⟩ := hin.at (show (nowD ss ka cs (k + 1)).secs.length = n from HN.out.1) HLK1.out
      have HIc := Lib.hid (HI.out.keep hbc)
      have HNc := Lib.hid (HNow.out.keep hbc)
      obtain ⟨W7, hW7⟩ : ∃ W, (wc.setCell ⟨bN, 0, none⟩ (.slice ya n yc)).setCell ⟨bN, 1, none⟩ (.slice ya' (k + 1) yc') = W := ⟨_, rfl⟩
      have HI7 := Lib.hid (show LInv w B bN n xa xc ss ka cs (.slice (some ⟨bb, bo, none⟩) nl lc) fs (.slice fa nf fc) (k + 1) W7 by rw [← hW7]; exact HIc.out.step hBb hWb hDX)
      have h7 : At2 25 W7 bN (.slice ya n yc) (.slice ya' (k + 1) yc') := by rw [← hW7]; exact HNc.out.set _ _
      have hD7 : DskAt W7 (.agg #[.slice ya n yc, .slice ya' (k + 1) yc']) (nowD ss ka cs (k + 1)) := by rw [← hW7]; exact hDX.ns (set2_ns HNc.out (isSl_mk _ _ _) (isSl_mk _ _ _) (.slice ya n yc) (.slice ya' (k + 1) yc'))
      have HW7 := Lib.hid hW7
      obtain ⟨x0, x1⟩ := hX.cells
      obtain ⟨z0, z1⟩ := HNc.out.cells
      obtain ⟨f0, f1⟩ := HNc.out.free
      have L7 := Load_t _ (nowD ss ka cs (k + 1)) (ka : Int) W7 hD7
      rw [loadD_ok HRK1.out ka hka] at L7
      have hst : (nowD ss ka cs (k + 1)).stands ka = secB cb := by rw [HST.out, addW_stands, if_pos rfl]
      rw [hst] at L7
      have L7 := Lib.hid L7
      clear hW7 hX hDX hin hbc hD7 hst SV HDNow HNow HI HNc HIc a0 a1 hbr
      go_upto_region 16 with fail
      rw [HW7.out]
      clear x0 x1 z0 z1 f0 f1
      obtain ⟨a0, a1⟩ := h7.cells
      clear h7
      go_wp2_with fail
      refine L7.out.mono ?_
      rintro e t1 ⟨rfl, hb⟩
      have HI8 := Lib.hid (HI7.out.keep hb)
      clear hb L7 a0 a1
      have S := Lib.hid (SA.out cb t1)
      go_wp2_with fail
      refine S.out.mono ?_
      rintro e t2 ⟨rfl, hb⟩
      have HI9 := Lib.hid (HI8.out.keep hb)
      clear hb S
      by_cases hkf : k < nf
      rotate_left
      · have HN1 := Lib.hid (show Halves (lastK ss ka cs fs (k + 1)) u v by rw [HLS.out, dif_neg (by rw [HNL.out.2]; exact hkf)]; exact HH.out)
        go_wp2_with fail
        go_roundw
        case rel => exact ⟨k + 1, u, v, by omega, by omega, by go_num, rfl, rfl, HN1.out, HI9.out⟩
        case measure => simp [intOf]; omega
      have hkf' : k < fs.length := by rw [HNL.out.2]; exact hkf
      obtain ⟨fb, fo, rfl, g0⟩ := HI9.out.fts.at k hkf'
      have HLS1 := Lib.hid (show lastK ss ka cs fs (k + 1) = fateB fs[k] (lastK ss ka cs fs k) (secB cb) by rw [HLS.out, dif_pos hkf'])
      obtain ⟨f, hff⟩ : ∃ f, fs[k] = f := ⟨_, rfl⟩
      rw [hff] at g0 HLS1
      have hLz := lastK_size HRI.out hka fs k (cs := cs) (by omega)
      have HLZ := Lib.hid hLz
      have hkf2 : (k : Int) < (nf : Int) := by omega
      clear hff hLz
      by_cases hf1 : f = 1
      · subst hf1
        have HN1 := Lib.hid (show Halves (lastK ss ka cs fs (k + 1)) ((secB cb).extract 0 64) ((secB cb).extract 64 128) by rw [HLS1.out]; exact ⟨rfl, rfl⟩)
        have S := Lib.hid (SA.out cb t2)
        go_wp2_with fail
        refine S.out.mono ?_
        rintro e t3 ⟨rfl, hb⟩
        have HI10 := Lib.hid (HI9.out.keep hb)
        have HK1 := Lib.hid (show ∀ (p : Addr) (v : Value), t2.cell? p = some v → t3.cell? p = some v from fun _ _ h => Below.keepc hb h)
        clear hb S
        have g0 := HK1.out _ _ g0
        have S := Lib.hid (SA.out cb t3)
        go_wp2_with fail
        refine S.out.mono ?_
        rintro e t4 ⟨rfl, hb⟩
        have HI11 := Lib.hid (HI10.out.keep hb)
        have HK1 := Lib.hid (show ∀ (p : Addr) (v : Value), t3.cell? p = some v → t4.cell? p = some v from fun _ _ h => Below.keepc hb h)
        clear hb S
        go_wp2_with fail
        go_roundw
        case rel => exact ⟨k + 1, _, _, by omega, by omega, by go_num, rfl, rfl, HN1.out, HI11.out⟩
        case measure => simp [intOf]; omega
      have p1 : (f == 1) = false := beq_eq_false_iff_ne.2 hf1
      by_cases hf2 : f = 2
      · subst hf2
        have HN1 := Lib.hid (show Halves (lastK ss ka cs fs (k + 1)) ((secB cb).extract 0 64) v by
          rw [HLS1.out]
          show Halves (tornB _ _) _ _
          exact ⟨(torn_first _ _ (secB_size cb)).symm, by rw [HH.out.b]; exact (torn_last _ _ HLZ.out (secB_size cb)).symm⟩)
        have S := Lib.hid (SA.out cb t2)
        go_wp2_with fail
        refine S.out.mono ?_
        rintro e t3 ⟨rfl, hb⟩
        have HI10 := Lib.hid (HI9.out.keep hb)
        have HK1 := Lib.hid (show ∀ (p : Addr) (v : Value), t2.cell? p = some v → t3.cell? p = some v from fun _ _ h => Below.keepc hb h)
        clear hb S
        have g0 := HK1.out _ _ g0
        go_wp2_with fail
        go_roundw
        case rel => exact ⟨k + 1, _, _, by omega, by omega, by go_num, rfl, rfl, HN1.out, HI10.out⟩
        case measure => simp [intOf]; omega
      have p2 : (f == 2) = false := beq_eq_false_iff_ne.2 hf2
      have HN1 := Lib.hid (show Halves (lastK ss ka cs fs (k + 1)) u v by
        rw [HLS1.out, fateB, if_neg hf1, if_neg hf2]; exact HH.out)
      clear hf1 hf2
      go_wp2_with fail
      go_roundw
      case rel => exact ⟨k + 1, u, v, by omega, by omega, by go_num, rfl, rfl, HN1.out, HI9.out⟩
      case measure => simp [intOf]; omega
end Go.Proofs.Ytcjngaapiomkbaa
