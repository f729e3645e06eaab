/-
  The law DiskCalls, walked: it returns true at every disk, number, place, writes and fates. Conditions: the numbers are ints, the writes' bytes no longer than memory.
-/
import Derived.Test.YtcjngaapiomkbaaLawKCrashes
import Derived.Deep.RegionHeld3
namespace Go.Proofs.Ytcjngaapiomkbaa
open Go.RowKit Go.WideShapes

def OutM (d : Dsk) (r : Int) (w : World) (e : Ending) (w' : World) : Prop := ∃ a n c a' m c', e = .returned (.tuple #[.agg #[.slice a n c, .slice a' m c'], .int .i64 r]) ∧ DskAt w' (.agg #[.slice a n c, .slice a' m c']) d ∧ d.secs.length = n ∧ d.dirty.length = m ∧ Below w.heap.size w w'
theorem out_m {r : Dsk × Int} {d : Dsk} {k : Int} (hr : r = (d, k)) {w : World} {e : Ending} {w' : World} (h : DskOut r w e w') : OutM d k w e w' := by
  subst hr
  obtain ⟨v, rfl, hv, hb⟩ := h
  have hv2 := hv
  obtain ⟨a, c, a', c', rfl, -, -⟩ := hv.shape
  exact ⟨a, _, c, a', _, c', rfl, hv2, rfl, rfl, hb⟩

theorem own_block {w w' : World} {base : Nat} {e : TypeId} {size n : Nat} {v : Value} {xs : List Value} (h : w.ownsRow base e size v n xs) (hb : ∀ g, v.ownBlock = some g → w'.heap[g]? = w.heap[g]?) : w'.ownsRow base e size v n xs := by
  refine ⟨h.1, ?_⟩
  rcases h.2 with hn | ⟨g, cap, cur, rfl, h1, hg, h2⟩
  · exact Or.inl hn
  · exact Or.inr ⟨g, cap, cur, rfl, h1, (hb g rfl).trans hg, h2⟩
theorem own_keep {w w' : World} {base : Nat} {e : TypeId} {size n : Nat} {v : Value} {xs : List Value} (h : w.ownsRow base e size v n xs) (hb : Below w.heap.size w w') : w'.ownsRow base e size v n xs :=
  own_block h fun g hg => hb.block g (h.lt g hg).2
theorem own_ne {w : World} {base : Nat} {size n : Nat} {v : Value} {xs : List Value} (h : w.ownsRow base 9 size v n xs) {B : Nat} {a b : Value} (h2 : At2 25 w B a b) : ∀ g, v.ownBlock = some g → B ≠ g := by
  rintro g hg rfl
  rcases h.2 with ⟨rfl, -⟩ | ⟨g', cap, cur, rfl, h1, hgg, -⟩
  · cases hg
  · obtain rfl : g' = B := by simpa [Value.ownBlock] using hg
    unfold At2 at h2
    rw [hgg] at h2
    simp only [Option.some.injEq, Obj.cells.injEq] at h2
    exact absurd h2.2.1 (by decide)
theorem at2_grown {w w' : World} {base : Nat} {size n : Nat} {v : Value} {xs : List Value} (h : w.ownsRow base 9 size v n xs) (hg : w.grownBy w' v.ownBlock) {B : Nat} {a b : Value} (h2 : At2 25 w B a b) : At2 25 w' B a b := by
  have hne := own_ne h h2
  have hlt := h2.lt
  unfold At2 at h2 ⊢
  rw [hg.block B hlt (fun e => hne B e.symm rfl)]
  exact h2
theorem At2.set0 {t : TypeId} {w : World} {B : Nat} {a b : Value} (h : At2 t w B a b) (v0 : Value) : At2 t (w.setCell ⟨B, 0, none⟩ v0) B v0 b := by
  unfold At2
  rw [heap_setCell_same _ _ _ _ _ _ h]; rfl
theorem grown_below2 {w0 w w' : World} {base R : Nat} {e : TypeId} {size n : Nat} {v : Value} {xs : List Value} (h : Below R w0 w) (ho : w.ownsRow base e size v n xs) (hg : w.grownBy w' v.ownBlock) (hR : R ≤ base) (hs : R ≤ w.heap.size) : Below R w0 w' :=
  ⟨hg.os.trans h.os, hg.tape.trans h.tape, hg.output.trans h.output, Nat.le_trans h.size hg.size, fun k hk => (hg.block k (by omega) (fun e => by have := (ho.lt k e.symm).1; omega)).trans (h.block k hk)⟩
theorem own_shape {w : World} {base : Nat} {e : TypeId} {size n : Nat} {v : Value} {xs : List Value} (h : w.ownsRow base e size v n xs) : ∃ a cap, v = .slice a n cap := by
  rcases h.2 with ⟨rfl, rfl⟩ | ⟨g', cap, cur, rfl, -⟩
  · exact ⟨_, _, rfl⟩
  · exact ⟨_, _, rfl⟩
theorem want_at {w : World} {base k : Nat} {v : Value} {s : ByteArray} (h : w.ownsRow base 9 1 v k (List.replicate k (.string s))) (hs : s.size ≤ maxLen) : DskAt w (.agg #[v, nilV]) ⟨List.replicate k s, []⟩ :=
  ⟨⟨_, _, rfl, StrsAt.of_own (by rw [List.map_replicate]; exact h) (by simp), Or.inl ⟨rfl, Or.inl rfl⟩⟩, fun x hx => by rw [List.eq_of_mem_replicate hx]; exact hs, fun x hx => by cases hx⟩

set_option maxRecDepth 100000 in
set_option maxHeartbeats 8000000 in
theorem calls_any (v lv fv : Value) (d0 : Dsk) (sn at' : Int) (l0 : List (Int × ByteArray)) (fs : List Int) (w : World) (h : DskAt w v d0) (hsn : -9223372036854775808 ≤ sn ∧ sn ≤ 9223372036854775807) (hat : -9223372036854775808 ≤ at' ∧ at' ≤ 9223372036854775807)
    (hl : PairsAt w lv (l0.map writeCell)) (hlz : ∀ l ∈ l0, l.2.size ≤ maxLen ∧ -9223372036854775808 ≤ l.1 ∧ l.1 ≤ 9223372036854775807) (hf : IntsAt w fv fs) :
    Calls Try.prog 3 #[v, .int .i64 sn, .int .i64 at', lv, fv] w fun e w' => e = .returned (.bool true) ∧ Below w.heap.size w w' := by
  have AL := Lib.hid alive_t
  have SA := Lib.hid sectorK_t
  have HF0 := Lib.hid hf
  obtain ⟨fa, fc, rfl, -, hfm⟩ := hf.shape
  obtain ⟨la, lc, rfl, hll, hlm⟩ := hl.shape3
  rw [List.length_map] at hl hll ⊢
  obtain ⟨nf, hnf⟩ : ∃ k, fs.length = k := ⟨_, rfl⟩
  rw [hnf] at HF0 hfm ⊢
  obtain ⟨n9, hn9⟩ : ∃ k, l0.length = k := ⟨_, rfl⟩
  rw [hn9] at hl hll ⊢
  obtain ⟨nl, hnl⟩ : ∃ k, min n9 10 = k := ⟨_, rfl⟩
  obtain ⟨l, hle⟩ : ∃ l, l0.take 10 = l := ⟨_, rfl⟩
  have hnl2 : l.length = nl := by rw [← hle, List.length_take, hn9]; omega
  have HL0 := Lib.hid (show PairsAt w (.slice la nl lc) (l.map writeCell) from hl.take (by rw [List.length_map]; exact hn9) nl (by omega) _ (by
    rw [← hle, ← List.map_take]
    rcases Nat.le_total n9 10 with e | e
    · rw [List.take_of_length_le (by omega), List.take_of_length_le (by omega)]
    · rw [show nl = 10 by omega]))
  have HLZ := Lib.hid (show ∀ x ∈ l, x.2.size ≤ maxLen ∧ -9223372036854775808 ≤ x.1 ∧ x.1 ≤ 9223372036854775807 from fun x hx => hlz x (List.mem_of_mem_take (by rw [hle]; exact hx)))
  have HNL := Lib.hid hnl2
  have hnl10 : nl ≤ 10 := by omega
  have q1 : min (n9 : Int) 10 = (nl : Int) := by omega
  have q3 : (nl : Int) ≤ (lc : Int) := by omega
  unfold maxLen at hlm hfm
  obtain ⟨va, vc, va', vc', rfl, -, -⟩ := h.shape
  obtain ⟨n0, hn0⟩ : ∃ k, d0.secs.length = k := ⟨_, rfl⟩
  obtain ⟨m0, hm0⟩ : ∃ k, d0.dirty.length = k := ⟨_, rfl⟩
  rw [hn0, hm0] at h ⊢
  obtain ⟨W, hW⟩ : ∃ W, w.alloc (.cells #[.slice va n0 vc, .slice va' m0 vc'] 25) = W := ⟨_, rfl⟩
  have hB0 : Below w.heap.size w W := by rw [← hW]; exact below_new _ _
  obtain ⟨d, hd⟩ : ∃ d, fewD d0 = d := ⟨_, rfl⟩
  obtain ⟨n, hn⟩ : ∃ k, d.secs.length = k := ⟨_, rfl⟩
  obtain ⟨m, hm⟩ : ∃ k, d.dirty.length = k := ⟨_, rfl⟩
  have FW := Lib.hid (show ∀ w', Below W.heap.size W w' → Calls Try.prog 7 #[.agg #[.slice va n0 vc, .slice va' m0 vc']] w' fun e w'' => ∃ xa xc xa' xc', e = .returned (.agg #[.slice xa n xc, .slice xa' m xc']) ∧ DskAt w'' (.agg #[.slice xa n xc, .slice xa' m xc']) d ∧ Below w'.heap.size w' w'' from fun w' hb => by
    have := few_t _ d0 w' (h.keep (Below.then hB0 hb))
    rw [hd] at this
    refine this.mono ?_
    rintro e w'' ⟨v, rfl, hv, hb⟩
    have hv2 := hv
    obtain ⟨xa, xc, xa', xc', rfl, -, -⟩ := hv.shape
    rw [hn, hm] at hv2 ⊢
    exact ⟨xa, xc, xa', xc', rfl, hv2, hb⟩)
  have HA0 := Lib.hid (show At2 25 W w.heap.size (.slice va n0 vc) (.slice va' m0 vc') by rw [← hW]; exact At2.new _ _ _ _)
  have HB0 := Lib.hid hB0
  have HW := Lib.hid hW
  have HN := Lib.hid (And.intro hn hm)
  have hm202 : m ≤ 202 := by rw [← hm, ← hd]; show (d0.dirty.take 202).length ≤ 202; rw [List.length_take]; omega
  have hn66 : n ≤ 66 := by rw [← hn, ← hd]; show (d0.secs.take 66).length ≤ 66; rw [List.length_take]; omega
  obtain ⟨B, hBe⟩ : ∃ B, w.heap.size = B := ⟨_, rfl⟩
  have HBe := Lib.hid hBe
  clear hW hB0 h hd hn0 hm0 hn hm hBe hl hlz hnl hn9 hnf hf hle hnl2 hll
  go_enter Try.func3, Try.ntmps3
  go_upto_region 1 with fail
  rw [HW.out]
  rw [HBe.out] at HA0 ⊢
  obtain ⟨a0, a1⟩ := HA0.out.cells
  obtain ⟨f0, f1⟩ := HA0.out.free
  have l0 : B < W.heap.size := HA0.out.lt
  go_cut [3] from 26 to 32 (fun x wx => x = .slice la nl lc ∧ ∃ xa xc xa' xc', At2 25 wx B (.slice xa n xc) (.slice xa' m xc') ∧ DskAt wx (.agg #[.slice xa n xc, .slice xa' m xc']) d ∧ NS w wx ∧ Below w.heap.size w wx)
  case first =>
    go_region_law (first
      | (go_simp; go_at_call 7
         refine (FW.out _ (by first | exact Below.refl _ _ | exact (Below.refl _ _).drew)).mono ?_
         rintro e w1 ⟨xa, xc, xa', xc', rfl, hd1, hb1⟩
         have hbW : Below W.heap.size W w1 := by first | exact hb1 | exact Below.then (Below.refl _ _).drew hb1
         have hA1 := HA0.out.keep hbW
         obtain ⟨a0, a1⟩ := hA1.cells
         obtain ⟨f0, f1⟩ := hA1.free))
    all_goals
      go_wp2_with fail
      go_meet
      exact ⟨rfl, xa, xc, xa', xc', hA1.set _ _, hd1.ns (set2_ns hA1 (isSl_mk _ _ _) (isSl_mk _ _ _) (.slice xa n xc) (.slice xa' m xc')), (Below.ns (Below.then HB0.out hbW)).then (set2_ns hA1 (isSl_mk _ _ _) (isSl_mk _ _ _) (.slice xa n xc) (.slice xa' m xc')), set2_below (Below.then HB0.out hbW) (by rw [HBe.out]; exact Nat.le_refl _) _ _⟩
  case rest =>
  obtain ⟨rfl, xa, xc, xa', xc', hA, hD, hns, hb⟩ := hcut
  have HA := Lib.hid hA
  have HD := Lib.hid hD
  have HNS := Lib.hid hns
  have HB := Lib.hid hb
  clear hD hns hb a0 a1 f0 f1 l0 q1 q3 HA0 FW
  obtain ⟨⟨nD, nE⟩, hnD⟩ : ∃ r, newD sn = r := ⟨_, rfl⟩
  obtain ⟨⟨sS, sE⟩, hsD⟩ : ∃ r, loadD d at' = r := ⟨_, rfl⟩
  obtain ⟨⟨pD, pE⟩, hpD⟩ : ∃ r, saveD d l = r := ⟨_, rfl⟩
  obtain ⟨⟨yD, yE⟩, hyD⟩ : ∃ r, flushD d = r := ⟨_, rfl⟩
  obtain ⟨⟨cD, cE⟩, hcD⟩ : ∃ r, crashD d fs = r := ⟨_, rfl⟩
  have C1 := Lib.hid (show ∀ w', Below wc.heap.size wc w' → Calls Try.prog 8 #[.int .i64 sn] w' (OutM nD nE w') from fun w' _ => (New_t sn w').mono fun e w'' h => out_m hnD h)
  have C2 := Lib.hid (show ∀ w', Below wc.heap.size wc w' → Calls Try.prog 9 #[.agg #[.slice xa n xc, .slice xa' m xc'], .int .i64 at'] w' fun e w'' => e = .returned (.tuple #[.string sS, .int .i64 sE]) ∧ Below w'.heap.size w' w'' from fun w' hb => by
    have := Load_t _ d at' w' (HD.out.keep hb)
    rw [hsD] at this
    exact this)
  have C3 := Lib.hid (show ∀ w', Below wc.heap.size wc w' → Calls Try.prog 10 #[.agg #[.slice xa n xc, .slice xa' m xc'], .slice la nl lc] w' (OutM pD pE w') from fun w' hb => (Save_t _ _ d l w' (HD.out.keep hb) ((WritesAt.ns HL0.out HNS.out).keep hb) HLZ.out (by rw [HNL.out]; omega)).mono fun e w'' h => out_m hpD h)
  have C4 := Lib.hid (show ∀ w', Below wc.heap.size wc w' → Calls Try.prog 11 #[.agg #[.slice xa n xc, .slice xa' m xc']] w' (OutM yD yE w') from fun w' hb => (Flush_t _ d w' (HD.out.keep hb)).mono fun e w'' h => out_m hyD h)
  have C5 := Lib.hid (show ∀ w', Below wc.heap.size wc w' → Calls Try.prog 12 #[.agg #[.slice xa n xc, .slice xa' m xc'], .slice fa nf fc] w' (OutM cD cE w') from fun w' hb => (Crash_t _ _ d fs w' (HD.out.keep hb) ((HF0.out.ns HNS.out).keep hb)).mono fun e w'' h => out_m hcD h)
  have HR := Lib.hid (And.intro hnD (And.intro hsD (And.intro hpD (And.intro hyD hcD))))
  have HbQ0 := Lib.hid (Below.refl wc.heap.size wc)
  obtain ⟨a0, a1⟩ := HA.out.cells
  clear hnD hsD hpD hyD hcD
  go_upto_region 2 with fail
  go_wp2_with fail
  refine (C1.out _ HbQ0.out).mono ?_
  rintro e q1 ⟨x1, n1, c1, y1, m1, z1, rfl, hd1, hn1, hm1, hb1⟩
  obtain ⟨X1, hx1⟩ : ∃ b, q1.heap.size = b := ⟨_, rfl⟩
  obtain ⟨Q1, hQ1⟩ : ∃ W, q1.alloc (.cells #[.slice x1 n1 c1, .slice y1 m1 z1] 25) = W := ⟨_, rfl⟩
  have hq1 : Below q1.heap.size q1 Q1 := by rw [← hQ1]; exact below_new _ _
  have HS1 := Lib.hid (Below.then hb1 hq1)
  have HbQ1 := Lib.hid (show Below wc.heap.size wc Q1 from Below.then HbQ0.out HS1.out)
  have HX1 := Lib.hid (show At2 25 Q1 X1 (.slice x1 n1 c1) (.slice y1 m1 z1) by rw [← hQ1, ← hx1]; exact At2.new _ _ _ _)
  have HDX1 := Lib.hid (hd1.keep hq1)
  have HM1 := Lib.hid (And.intro hn1 hm1)
  have HQ1 := Lib.hid hQ1
  clear a0 a1
  obtain ⟨a0, a1⟩ := (HA.out.keep HbQ1.out).cells
  clear hQ1 hq1 hb1 hd1 hn1 hm1 C1
  go_upto_region 3 with fail
  rw [HQ1.out]
  clear hx1
  go_wp2_with fail
  refine (C2.out _ HbQ1.out).mono ?_
  rintro e Q2 ⟨rfl, hb2⟩
  have HS2 := Lib.hid hb2
  have HbQ2 := Lib.hid (Below.then HbQ1.out hb2)
  clear a0 a1
  obtain ⟨a0, a1⟩ := (HA.out.keep HbQ2.out).cells
  clear hb2 C2
  go_upto_region 4 with fail
  go_wp2_with fail
  refine (C3.out _ HbQ2.out).mono ?_
  rintro e q3 ⟨x3, n3, c3, y3, m3, z3, rfl, hd3, hn3, hm3, hb3⟩
  obtain ⟨X3, hx3⟩ : ∃ b, q3.heap.size = b := ⟨_, rfl⟩
  obtain ⟨Q3, hQ3⟩ : ∃ W, q3.alloc (.cells #[.slice x3 n3 c3, .slice y3 m3 z3] 25) = W := ⟨_, rfl⟩
  have hq3 : Below q3.heap.size q3 Q3 := by rw [← hQ3]; exact below_new _ _
  have HS3 := Lib.hid (Below.then hb3 hq3)
  have HbQ3 := Lib.hid (show Below wc.heap.size wc Q3 from Below.then HbQ2.out HS3.out)
  have HX3 := Lib.hid (show At2 25 Q3 X3 (.slice x3 n3 c3) (.slice y3 m3 z3) by rw [← hQ3, ← hx3]; exact At2.new _ _ _ _)
  have HDX3 := Lib.hid (hd3.keep hq3)
  have HM3 := Lib.hid (And.intro hn3 hm3)
  have HQ3 := Lib.hid hQ3
  clear a0 a1
  obtain ⟨a0, a1⟩ := (HA.out.keep HbQ3.out).cells
  clear hQ3 hq3 hb3 hd3 hn3 hm3 C3
  go_upto_region 5 with fail
  rw [HQ3.out]
  clear hx3
  go_wp2_with fail
  refine (C4.out _ HbQ3.out).mono ?_
  rintro e q4 ⟨x4, n4, c4, y4, m4, z4, rfl, hd4, hn4, hm4, hb4⟩
  obtain ⟨X4, hx4⟩ : ∃ b, q4.heap.size = b := ⟨_, rfl⟩
  obtain ⟨Q4, hQ4⟩ : ∃ W, q4.alloc (.cells #[.slice x4 n4 c4, .slice y4 m4 z4] 25) = W := ⟨_, rfl⟩
  have hq4 : Below q4.heap.size q4 Q4 := by rw [← hQ4]; exact below_new _ _
  have HS4 := Lib.hid (Below.then hb4 hq4)
  have HbQ4 := Lib.hid (show Below wc.heap.size wc Q4 from Below.then HbQ3.out HS4.out)
  have HX4 := Lib.hid (show At2 25 Q4 X4 (.slice x4 n4 c4) (.slice y4 m4 z4) by rw [← hQ4, ← hx4]; exact At2.new _ _ _ _)
  have HDX4 := Lib.hid (hd4.keep hq4)
  have HM4 := Lib.hid (And.intro hn4 hm4)
  have HQ4 := Lib.hid hQ4
  clear a0 a1
  obtain ⟨a0, a1⟩ := (HA.out.keep HbQ4.out).cells
  clear hQ4 hq4 hb4 hd4 hn4 hm4 C4
  go_upto_region 6 with fail
  rw [HQ4.out]
  clear hx4
  go_wp2_with fail
  refine (C5.out _ HbQ4.out).mono ?_
  rintro e q5 ⟨x5, n5, c5, y5, m5, z5, rfl, hd5, hn5, hm5, hb5⟩
  obtain ⟨X5, hx5⟩ : ∃ b, q5.heap.size = b := ⟨_, rfl⟩
  obtain ⟨Q5, hQ5⟩ : ∃ W, q5.alloc (.cells #[.slice x5 n5 c5, .slice y5 m5 z5] 25) = W := ⟨_, rfl⟩
  have hq5 : Below q5.heap.size q5 Q5 := by rw [← hQ5]; exact below_new _ _
  have HS5 := Lib.hid (Below.then hb5 hq5)
  have HbQ5 := Lib.hid (show Below wc.heap.size wc Q5 from Below.then HbQ4.out HS5.out)
  have HX5 := Lib.hid (show At2 25 Q5 X5 (.slice x5 n5 c5) (.slice y5 m5 z5) by rw [← hQ5, ← hx5]; exact At2.new _ _ _ _)
  have HDX5 := Lib.hid (hd5.keep hq5)
  have HM5 := Lib.hid (And.intro hn5 hm5)
  have HQ5 := Lib.hid hQ5
  clear a0 a1
  obtain ⟨a0, a1⟩ := (HA.out.keep HbQ5.out).cells
  clear hQ5 hq5 hb5 hd5 hn5 hm5 C5
  go_upto_region 7 with fail
  rw [HQ5.out]
  clear hx5
  obtain ⟨X6, hx6⟩ : ∃ b, Q5.heap.size = b := ⟨_, rfl⟩
  obtain ⟨Q6, hQ6⟩ : ∃ W, Q5.alloc (.cells #[nilV, nilV] 25) = W := ⟨_, rfl⟩
  have HS6 := Lib.hid (show Below Q5.heap.size Q5 Q6 by rw [← hQ6]; exact below_new _ _)
  have HX6 := Lib.hid (show At2 25 Q6 X6 nilV nilV by rw [← hQ6, ← hx6]; exact At2.new _ _ _ _)
  have HQ6 := Lib.hid hQ6
  clear hQ6
  have K1 := Lib.hid (show ∀ w', Below Q6.heap.size Q6 w' → At2 25 w' X1 (.slice x1 n1 c1) (.slice y1 m1 z1) ∧ DskAt w' (.agg #[.slice x1 n1 c1, .slice y1 m1 z1]) nD from fun w' hb => ⟨HX1.out.keep (Below.then HS2.out (Below.then HS3.out (Below.then HS4.out (Below.then HS5.out (Below.then HS6.out hb))))), HDX1.out.keep (Below.then HS2.out (Below.then HS3.out (Below.then HS4.out (Below.then HS5.out (Below.then HS6.out hb)))))⟩)
  have K3 := Lib.hid (show ∀ w', Below Q6.heap.size Q6 w' → At2 25 w' X3 (.slice x3 n3 c3) (.slice y3 m3 z3) ∧ DskAt w' (.agg #[.slice x3 n3 c3, .slice y3 m3 z3]) pD from fun w' hb => ⟨HX3.out.keep (Below.then HS4.out (Below.then HS5.out (Below.then HS6.out hb))), HDX3.out.keep (Below.then HS4.out (Below.then HS5.out (Below.then HS6.out hb)))⟩)
  have K4 := Lib.hid (show ∀ w', Below Q6.heap.size Q6 w' → At2 25 w' X4 (.slice x4 n4 c4) (.slice y4 m4 z4) ∧ DskAt w' (.agg #[.slice x4 n4 c4, .slice y4 m4 z4]) yD from fun w' hb => ⟨HX4.out.keep (Below.then HS5.out (Below.then HS6.out hb)), HDX4.out.keep (Below.then HS5.out (Below.then HS6.out hb))⟩)
  have K5 := Lib.hid (show ∀ w', Below Q6.heap.size Q6 w' → At2 25 w' X5 (.slice x5 n5 c5) (.slice y5 m5 z5) ∧ DskAt w' (.agg #[.slice x5 n5 c5, .slice y5 m5 z5]) cD from fun w' hb => ⟨HX5.out.keep (Below.then HS6.out hb), HDX5.out.keep (Below.then HS6.out hb)⟩)
  have K6 := Lib.hid (show ∀ w', Below Q6.heap.size Q6 w' → At2 25 w' X6 nilV nilV ∧ DskAt w' (.agg #[nilV, nilV]) emptyD from fun w' hb => ⟨HX6.out.keep hb, emptyD_at w'⟩)
  have K0 := Lib.hid (show ∀ w', Below Q6.heap.size Q6 w' → At2 25 w' B (.slice xa n xc) (.slice xa' m xc') ∧ DskAt w' (.agg #[.slice xa n xc, .slice xa' m xc']) d ∧ PairsAt w' (.slice la nl lc) (l.map writeCell) ∧ IntsAt w' (.slice fa nf fc) fs ∧ Below w.heap.size w w' from fun w' hb =>
    have h0 := Below.then HbQ5.out (Below.then HS6.out hb)
    ⟨HA.out.keep h0, HD.out.keep h0, (WritesAt.ns HL0.out HNS.out).keep h0, (HF0.out.ns HNS.out).keep h0, Below.then HB.out h0⟩)
  clear a0 a1 HX1 HX3 HX4 HX5 HX6 HDX1 HDX3 HDX4 HDX5 HA HD HL0 HF0
  go_upto_region 8 with fail
  rw [HQ6.out]
  clear hx6
  go_cut [67] from 62 to 67 (fun v wx => v = .bool (!haveB sn) ∧ Q6 = wx)
  case first =>
    by_cases h1 : sn < 4
    · have hv : haveB sn = false := by unfold haveB; rw [decide_eq_false (by omega)]; rfl
      have HV := Lib.hid hv
      clear hv
      go_wp2_with fail
      go_meet
      exact ⟨by rw [HV.out]; rfl, rfl⟩
    · by_cases h2 : 64 < sn
      · have hv : haveB sn = false := by unfold haveB; rw [decide_eq_false (show ¬ sn ≤ 64 by omega), Bool.and_false]
        have HV := Lib.hid hv
        clear hv
        go_wp2_with fail
        go_meet
        exact ⟨by rw [HV.out]; rfl, rfl⟩
      · have hv : haveB sn = true := by unfold haveB; rw [decide_eq_true (show 4 ≤ sn by omega), decide_eq_true (show sn ≤ 64 by omega)]; rfl
        have HV := Lib.hid hv
        clear hv
        go_wp2_with fail
        go_meet
        exact ⟨by rw [HV.out]; rfl, rfl⟩
  case rest =>
  obtain ⟨rfl, rfl⟩ := hcut
  go_upto_if 67 with fail
  go_cut [] from 62 to 95 (fun wx => Below Q6.heap.size Q6 wx)
  case first =>
    cases hv : haveB sn with
    | false =>
      have e := HR.out.1
      unfold newD at e
      rw [hv] at e
      simp only [Bool.false_eq_true, if_false, Prod.mk.injEq] at e
      obtain ⟨rfl, rfl⟩ := e
      have gx := K1.out Q6 (Below.refl _ _)
      have gy := K6.out Q6 (Below.refl _ _)
      obtain ⟨a0, a1⟩ := gx.1.cells
      obtain ⟨b0, b1⟩ := gy.1.cells
      have LK := Lib.hid (refLike_t emptyD emptyD _ _ Q6 gx.2 gy.2)
      clear gx gy
      go_wp2_with fail
      refine LK.out.mono ?_
      rintro e v1 ⟨r, rfl, hr, hv⟩
      obtain rfl : r = true := hr.2 rfl
      have Hv1 := Lib.hid (Below.then (Below.refl _ _) hv)
      clear a0 a1 b0 b1 hr hv LK
      go_wp2_with fail
      go_meet
      exact Hv1.out
    | true =>
      have e := HR.out.1
      unfold newD at e
      rw [hv] at e
      simp only [if_true, Prod.mk.injEq] at e
      obtain ⟨rfl, rfl⟩ := e
      obtain ⟨k, rfl⟩ : ∃ k : Nat, sn = (k : Int) := ⟨sn.toNat, by unfold haveB at hv; simp at hv; omega⟩
      have hk : 4 ≤ k ∧ k ≤ 64 := by unfold haveB at hv; simp at hv; omega
      rw [Int.toNat_natCast] at K1
      obtain ⟨X7, hx7⟩ : ∃ b, Q6.heap.size = b := ⟨_, rfl⟩
      obtain ⟨Q7, hQ7⟩ : ∃ W, Q6.alloc (.cells #[nilV, nilV] 25) = W := ⟨_, rfl⟩
      have HS7 := Lib.hid (show Below Q6.heap.size Q6 Q7 by rw [← hQ7]; exact below_new _ _)
      have HX7 := Lib.hid (show At2 25 Q7 X7 nilV nilV by rw [← hQ7, ← hx7]; exact At2.new _ _ _ _)
      have HQ7 := Lib.hid hQ7
      have HX := Lib.hid hx7
      clear hQ7
      obtain ⟨sz, hsz⟩ : ∃ s, secB 0 = s := ⟨_, rfl⟩
      have SZ := Lib.hid (show ∀ w, Calls Try.prog 14 #[.int .u8 0] w fun e w' => e = .returned (.string sz) ∧ Below w.heap.size w w' from fun w => by rw [← hsz]; exact sector_t 0 w)
      have HSZ := Lib.hid (show sz.size = 128 by rw [← hsz]; exact secB_size _)
      rw [hsz] at K1
      obtain ⟨i0, hi, hz0, hz1, hz2⟩ := info_parts infoStr
      clear hsz
      go_upto_region 12 with fail
      rw [HQ7.out]
      clear hx7
      go_wp2_with fail
      go_loopw [79] (fun iv wr => ∃ (i : Nat) (v : Value), i ≤ k ∧ iv = .int .i64 i ∧ At2 25 wr X7 v nilV ∧ wr.ownsRow Q7.heap.size 9 1 v i (List.replicate i (.string sz)) ∧ Below Q6.heap.size Q6 wr ∧ Q7.heap.size ≤ wr.heap.size) (fun iv _ => k - (intOf iv).toNat)
      case atStart => exact ⟨0, nilV, Nat.zero_le _, rfl, HX7.out, World.ownsRow_nil _ _ _ _, HS7.out, Nat.le_refl _⟩
      case round =>
        obtain ⟨i, v, hi2, rfl, hX, hown, hbl, hR⟩ := hrel
        obtain ⟨ga, gc, rfl⟩ := own_shape hown
        have HX8 := Lib.hid hX
        have HO := Lib.hid hown
        have HBL := Lib.hid hbl
        have hR6 : Q6.heap.size ≤ Q7.heap.size := HS7.out.size
        clear hX hown hbl
        by_cases hlt : i < k
        rotate_left
        · obtain rfl : i = k := by omega
          have hlt' : ¬ ((i : Int) < (i : Int)) := by omega
          have gx := K1.out wr HBL.out
          obtain ⟨a0, a1⟩ := gx.1.cells
          obtain ⟨b0, b1⟩ := HX8.out.cells
          have LK := Lib.hid (refLike_t ⟨List.replicate i sz, []⟩ ⟨List.replicate i sz, []⟩ _ _ wr gx.2 (want_at HO.out (by rw [HSZ.out]; decide)))
          clear gx
          go_wp2_with fail
          refine LK.out.mono ?_
          rintro e v9 ⟨r, rfl, hr, hv9⟩
          obtain rfl : r = true := hr.2 rfl
          have HV9 := Lib.hid (Below.then HBL.out hv9)
          clear a0 a1 b0 b1 hr hv9 LK
          go_wp2_with fail
          go_meet
          exact HV9.out
        have hlt' : (i : Int) < (k : Int) := by omega
        obtain ⟨a0, a1⟩ := HX8.out.cells
        obtain ⟨f0, f1⟩ := HX8.out.free
        go_upto_region 14 with fail
        go_region_law (first
          | (go_simp; go_at_call 14; refine (SZ.out _).mono ?_; rintro e w1 ⟨rfl, hb0⟩
             have hb1 : Below wr.heap.size wr w1 := by first | exact hb0 | exact Below.then (Below.refl _ _).drew hb0
             have hX1 := HX8.out.keep hb1
             have hO1 := own_keep HO.out hb1
             have hB1 := Below.then HBL.out hb1
             obtain ⟨a0, a1⟩ := hX1.cells
             obtain ⟨f0, f1⟩ := hX1.free
             obtain ⟨a0m, a1m⟩ := (hX1.keep (below_new w1 (.cells #[.string sz] 9))).cells
             obtain ⟨f0m, f1m⟩ := (hX1.keep (below_new w1 (.cells #[.string sz] 9))).free
             have hsz1 := hb1.size)
          | (refine step_append_lies _ (by rfl) (.tmp 82) (.tmp 84) 22 (by rfl) Q7.heap.size 9 i0 _ 1 16 Try.underlying22 hi hz0 hz1 hz2 rfl (by decide) _ i (List.replicate i (.string sz)) (by rfl) (own_keep hO1 (by first | exact below_new _ _ | exact (below_new _ _).drew | exact Below.then (Below.refl _ _).drew (below_new _ _))) ⟨w1.heap.size, 0, none⟩ 1 1 [.string sz] (by rfl) (by rfl) (World.news_of_block (cs := #[.string sz]) (t := 9) (fr := (0, 0)) (heap_alloc_new w1 _)) (by simp [Value.oneCell']) (by decide) (by unfold maxLen; omega) (by omega) (by simp; omega) _ rfl ?_
             intro g' c' w2 hown2 hgrow2 hat2 hlt2
             have hX2 : At2 25 w2 X7 (.slice ga i gc) nilV := by first | exact at2_grown (own_keep hO1 (below_new _ _)) hgrow2 (hX1.keep (below_new _ _)) | exact at2_grown (own_keep hO1 (below_new _ _).drew) hgrow2 (hX1.keep (below_new _ _).drew)
             have hB2 : Below Q6.heap.size Q6 w2 := by first | exact grown_below2 (Below.then hB1 (below_new _ _)) (own_keep hO1 (below_new _ _)) hgrow2 hR6 (by simp; omega) | exact grown_below2 (Below.then hB1 (below_new _ _).drew) (own_keep hO1 (below_new _ _).drew) hgrow2 hR6 (by simp; omega)
             obtain ⟨a0, a1⟩ := hX2.cells
             obtain ⟨f0, f1⟩ := hX2.free))
        all_goals
          have HX3 := Lib.hid (hX2.set0 (.slice (some ⟨g', 0, none⟩) (i + 1) c'))
          have HO3 := Lib.hid (show (w2.setCell ⟨X7, 0, none⟩ (.slice (some ⟨g', 0, none⟩) (i + 1) c')).ownsRow Q7.heap.size 9 1 (.slice (some ⟨g', 0, none⟩) (i + 1) c') (i + 1) (List.replicate (i + 1) (.string sz)) by
            rw [List.replicate_succ']
            exact own_block hown2 fun g hg => Below.heap_setCell _ _ _ _ (own_ne hown2 hX2 g hg).symm)
          have HB3 := Lib.hid (hB2.setCell (p := ⟨X7, 0, none⟩) (by show Q6.heap.size ≤ X7; rw [HX.out]; exact Nat.le_refl _) (.slice (some ⟨g', 0, none⟩) (i + 1) c'))
          have hR3 : Q7.heap.size ≤ (w2.setCell ⟨X7, 0, none⟩ (.slice (some ⟨g', 0, none⟩) (i + 1) c')).heap.size := by
            have := hgrow2.size
            simp at this ⊢
            omega
          clear hown2 hgrow2 hat2 hlt2 hX2 hB2 a0 a1 f0 f1
          go_wp2_with fail
          go_roundw
          case rel => exact ⟨i + 1, _, by omega, by go_num, HX3.out, HO3.out, HB3.out, hR3⟩
          case measure => simp [intOf]; omega
  case rest =>
  have HQ := Lib.hid hcut
  clear hcut
  obtain ⟨r, hr⟩ : ∃ r, d.right = r := ⟨_, rfl⟩
  have RT := Lib.hid (show ∀ w', Below Q6.heap.size Q6 w' → Calls Try.prog 15 #[.agg #[.slice xa n xc, .slice xa' m xc']] w' fun e w'' => e = .returned (.bool r) ∧ Below w'.heap.size w' w'' from fun w' hb => by
    have := Right_t _ d w' (K0.out w' hb).2.1
    rw [hr] at this
    exact this)
  have RR := Lib.hid (show ∀ w', Below Q6.heap.size Q6 w' → Calls Try.prog 16 #[.agg #[.slice xa n xc, .slice xa' m xc']] w' fun e w'' => e = .returned (.bool r) ∧ Below w'.heap.size w' w'' from fun w' hb => by
    have := refRight_t _ d w' (K0.out w' hb).2.1
    rw [hr] at this
    exact this)
  have HRT := Lib.hid hr
  clear hr
  have hbA := HQ.out
  obtain ⟨a0, a1⟩ := (K0.out _ hbA).1.cells
  go_upto_region 18 with fail
  go_cut [104] from 96 to 104 (fun v wx => v = .bool false ∧ Below Q6.heap.size Q6 wx)
  case first =>
    have AQ := Lib.hid (show ∀ w', Below Q6.heap.size Q6 w' → Calls Try.prog 17 #[] w' fun e w'' => e = .returned (.bool true) ∧ Below w'.heap.size w' w'' from fun w' _ => AL.out w')
    go_region_held3 (fun w' => w'.cell? ⟨B, 0, none⟩ = some (.slice xa n xc) ∧ w'.cell? ⟨B, 1, none⟩ = some (.slice xa' m xc')) (exact ⟨a0, a1⟩)
      (first
    | (go_simp; go_at_call 15
       refine (RT.out _ (by first | exact hbA | exact hbA.drew)).mono ?_
       rintro e wS ⟨rfl, hbS⟩
       have hbA : Below Q6.heap.size Q6 wS := by first | exact Below.then hbA hbS | exact Below.then hbA.drew hbS
       obtain ⟨a0, a1⟩ := (K0.out _ hbA).1.cells)
    | (go_simp; go_at_call 16
       refine (RR.out _ (by first | exact hbA | exact hbA.drew)).mono ?_
       rintro e wS ⟨rfl, hbS⟩
       have hbA : Below Q6.heap.size Q6 wS := by first | exact Below.then hbA hbS | exact Below.then hbA.drew hbS
       obtain ⟨a0, a1⟩ := (K0.out _ hbA).1.cells)
    | (go_simp; go_at_call 17
       refine (AQ.out _ (by first | exact hbA | exact hbA.drew)).mono ?_
       rintro e wS ⟨rfl, hbS⟩
       have hbA : Below Q6.heap.size Q6 wS := by first | exact Below.then hbA hbS | exact Below.then hbA.drew hbS
       obtain ⟨a0, a1⟩ := (K0.out _ hbA).1.cells))
    all_goals
      go_wp2_with fail
      go_meet
      exact ⟨rfl, by first | exact hbA | exact hbA.drew⟩
  case rest =>
  obtain ⟨rfl, hcut⟩ := hcut
  have HQ2 := Lib.hid hcut
  clear hcut hbA a0 a1 RT
  obtain ⟨a0, a1⟩ := (K0.out _ HQ2.out).1.cells
  go_upto_region 20 with fail
  go_wp2_with fail
  refine (RR.out _ HQ2.out).mono ?_
  rintro e u1 ⟨rfl, hu1⟩
  have HU1 := Lib.hid (Below.then HQ2.out hu1)
  clear a0 a1 hu1 RR
  cases r with
  | false =>
    have e2 := HR.out.2.1
    have e3 := HR.out.2.2.1
    have e4 := HR.out.2.2.2.1
    have e5 := HR.out.2.2.2.2
    unfold loadD at e2
    unfold saveD at e3
    unfold flushD at e4
    unfold crashD at e5
    rw [HRT.out] at e2 e3 e4 e5
    simp only [Bool.false_and, Bool.false_eq_true, if_false, Prod.mk.injEq] at e2 e3 e4 e5
    obtain ⟨rfl, rfl⟩ := e2
    obtain ⟨rfl, rfl⟩ := e3
    obtain ⟨rfl, rfl⟩ := e4
    obtain ⟨rfl, rfl⟩ := e5
    have gx := K3.out u1 HU1.out
    have gy := K6.out u1 HU1.out
    obtain ⟨a0, a1⟩ := gx.1.cells
    obtain ⟨b0, b1⟩ := gy.1.cells
    have LK := Lib.hid (refLike_t emptyD emptyD _ _ u1 gx.2 gy.2)
    clear gx gy
    go_wp2_with fail
    refine LK.out.mono ?_
    rintro e v1 ⟨r, rfl, hr, hv⟩
    obtain rfl : r = true := hr.2 rfl
    have Hv1 := Lib.hid (Below.then HU1.out hv)
    clear a0 a1 b0 b1 hr hv LK
    have gx := K4.out v1 Hv1.out
    have gy := K6.out v1 Hv1.out
    obtain ⟨a0, a1⟩ := gx.1.cells
    obtain ⟨b0, b1⟩ := gy.1.cells
    have LK := Lib.hid (refLike_t emptyD emptyD _ _ v1 gx.2 gy.2)
    clear gx gy
    go_wp2_with fail
    refine LK.out.mono ?_
    rintro e v2 ⟨r, rfl, hr, hv⟩
    obtain rfl : r = true := hr.2 rfl
    have Hv2 := Lib.hid (Below.then Hv1.out hv)
    clear a0 a1 b0 b1 hr hv LK
    have gx := K5.out v2 Hv2.out
    have gy := K6.out v2 Hv2.out
    obtain ⟨a0, a1⟩ := gx.1.cells
    obtain ⟨b0, b1⟩ := gy.1.cells
    have LK := Lib.hid (refLike_t emptyD emptyD _ _ v2 gx.2 gy.2)
    clear gx gy
    go_wp2_with fail
    refine LK.out.mono ?_
    rintro e v3 ⟨r, rfl, hr, hv⟩
    obtain rfl : r = true := hr.2 rfl
    have Hv3 := Lib.hid (Below.then Hv2.out hv)
    clear a0 a1 b0 b1 hr hv LK
    have HFIN := Lib.hid (K0.out _ Hv3.out).2.2.2.2
    go_wp2_with fail
    go_ret
    exact ⟨rfl, HFIN.out⟩
  | true =>
    have HRI := Lib.hid ((right_iff d).1 HRT.out)
    have hnn : 4 ≤ n ∧ n ≤ 64 := by rw [← HN.out.1]; exact ⟨HRI.out.least, HRI.out.most⟩
    have e4 := flushD_ok HRI.out
    have e5 := crashD_ok HRI.out fs
    rw [HR.out.2.2.2.1, HN.out.1] at e4
    rw [HR.out.2.2.2.2, HN.out.1] at e5
    simp only [Prod.mk.injEq] at e4 e5
    obtain ⟨hyD, rfl⟩ := e4
    obtain ⟨hcD, rfl⟩ := e5
    obtain rfl : n = n4 := by rw [← HM4.out.1, hyD, clean_length]
    obtain rfl : 0 = m4 := by rw [← HM4.out.2, hyD]; rfl
    obtain rfl : n = n5 := by rw [← HM5.out.1, hcD, clean_length]
    obtain rfl : 0 = m5 := by rw [← HM5.out.2, hcD]; rfl
    have HYD := Lib.hid hyD
    have HCD := Lib.hid hcD
    have g4 := K4.out u1 HU1.out
    have g5 := K5.out u1 HU1.out
    obtain ⟨gb, go, rfl⟩ := rows_some g4.2 (by rw [hyD, clean_length]; omega)
    obtain ⟨hb', ho', rfl⟩ := rows_some g5.2 (by rw [hcD, clean_length]; omega)
    obtain ⟨a0, a1⟩ := (K0.out _ HU1.out).1.cells
    obtain ⟨b0, b1⟩ := g4.1.cells
    obtain ⟨c0, c1⟩ := g5.1.cells
    clear hyD hcD g4 g5
    go_upto_region 24 with fail
    go_wp2_with fail
    go_loopw [182] (fun iv wr => ∃ i : Nat, i ≤ n ∧ iv = .int .i64 i ∧ Below Q6.heap.size Q6 wr) (fun iv _ => n - (intOf iv).toNat)
    case atStart => exact ⟨0, Nat.zero_le _, rfl, HU1.out⟩
    case round =>
      obtain ⟨i, hi, rfl, hbi⟩ := hrel
      have HBI := Lib.hid hbi
      clear hbi a0 a1 b0 b1 c0 c1
      by_cases hin : i < n
      rotate_left
      · have hin' : ¬ ((i : Int) < (n : Int)) := by omega
        obtain ⟨a0, a1⟩ := (K0.out _ HBI.out).1.cells
        go_upto_region 30 with fail
        go_cut [215] from 207 to 215 (fun v wx => v = .bool (!placeB n at') ∧ wr = wx)
        case first =>
          by_cases h1 : at' < 0
          · have hv : placeB n at' = false := by unfold placeB; rw [decide_eq_false (by omega)]; rfl
            have HV := Lib.hid hv
            clear hv
            go_wp2_with fail
            go_meet
            exact ⟨by rw [HV.out]; rfl, rfl⟩
          · by_cases h2 : (n : Int) ≤ at'
            · have hv : placeB n at' = false := by unfold placeB; rw [decide_eq_false (show ¬ at' < (n : Int) by omega), Bool.and_false]
              have HV := Lib.hid hv
              clear hv
              go_wp2_with fail
              go_meet
              exact ⟨by rw [HV.out]; rfl, rfl⟩
            · have hv : placeB n at' = true := by unfold placeB; rw [decide_eq_true (show 0 ≤ at' by omega), decide_eq_true (show at' < (n : Int) by omega)]; rfl
              have HV := Lib.hid hv
              clear hv
              go_wp2_with fail
              go_meet
              exact ⟨by rw [HV.out]; rfl, rfl⟩
        case rest =>
        obtain ⟨rfl, rfl⟩ := hcut
        go_upto_if 215 with fail
        go_cut [] from 207 to 231 (fun wx => Below Q6.heap.size Q6 wx)
        case first =>
          cases hv : placeB n at' with
          | false =>
            have e := HR.out.2.1
            unfold loadD at e
            rw [HRT.out, HN.out.1, hv] at e
            simp only [Bool.and_false, Bool.false_eq_true, if_false, Prod.mk.injEq] at e
            obtain ⟨rfl, rfl⟩ := e
            go_wp2_with fail
            go_meet
            exact HBI.out
          | true =>
            obtain ⟨ka, rfl⟩ : ∃ ka : Nat, at' = (ka : Int) := ⟨at'.toNat, by unfold placeB at hv; simp at hv; omega⟩
            have hka : ka < d.secs.length := by rw [HN.out.1]; unfold placeB at hv; simp at hv; omega
            have e := HR.out.2.1
            unfold loadD at e
            rw [HRT.out, HN.out.1, hv] at e
            simp only [Bool.and_self, if_true, Int.toNat_natCast, Prod.mk.injEq] at e
            obtain ⟨hS, rfl⟩ := e
            have CS := refStands_t _ d ka wr (K0.out wr HBI.out).2.1 hka
            rw [hS] at CS
            have CS := Lib.hid CS
            have qS : (sS.toList == sS.toList) = true := by simp
            clear hS hka
            go_wp2_with fail
            refine CS.out.mono ?_
            rintro e t1 ⟨rfl, ht1⟩
            have HT1 := Lib.hid (Below.then HBI.out ht1)
            clear ht1 CS a0 a1
            go_wp2_with fail
            go_meet
            exact HT1.out
        case rest =>
        have HB1 := Lib.hid hcut
        clear hcut a0 a1
        obtain ⟨wb, hwb⟩ : ∃ b, wellB n l = b := ⟨_, rfl⟩
        have WL := refWell_t _ l n wc (K0.out _ HB1.out).2.2.1 (fun x hx => (HLZ.out x hx).1)
        rw [hwb] at WL
        have WL := Lib.hid WL
        have HWB := Lib.hid hwb
        obtain ⟨a0, a1⟩ := (K0.out _ HB1.out).1.cells
        clear hwb
        go_upto_region 35 with fail
        go_wp2_with fail
        refine WL.out.mono ?_
        rintro e t1 ⟨rfl, ht1⟩
        have HT1 := Lib.hid (Below.then HB1.out ht1)
        clear ht1 WL a0 a1
        have e3 := HR.out.2.2.1
        unfold saveD at e3
        rw [HRT.out, HN.out.1, HWB.out, HN.out.2, HNL.out] at e3
        cases wb with
        | false =>
          simp only [Bool.and_false, Bool.false_eq_true, if_false, Prod.mk.injEq] at e3
          obtain ⟨rfl, rfl⟩ := e3
          have gx := K3.out t1 HT1.out
          have gy := K6.out t1 HT1.out
          obtain ⟨a0, a1⟩ := gx.1.cells
          obtain ⟨b0, b1⟩ := gy.1.cells
          have LK := Lib.hid (refLike_t emptyD emptyD _ _ t1 gx.2 gy.2)
          clear gx gy
          go_wp2_with fail
          refine LK.out.mono ?_
          rintro e t2 ⟨r, rfl, hr, hv⟩
          obtain rfl : r = true := hr.2 rfl
          have Ht2 := Lib.hid (Below.then HT1.out hv)
          clear a0 a1 b0 b1 hr hv LK
          have HFIN := Lib.hid (K0.out _ Ht2.out).2.2.2.2
          go_wp2_with fail
          go_ret
          exact ⟨rfl, HFIN.out⟩
        | true =>
          obtain ⟨a0, a1⟩ := (K0.out _ HT1.out).1.cells
          by_cases hms : m + nl ≤ 200
          rotate_left
          · have h37 : (200 : Int) < (m : Int) + (nl : Int) := by omega
            rw [if_neg hms] at e3
            simp only [Bool.and_self, if_true, Prod.mk.injEq] at e3
            obtain ⟨rfl, rfl⟩ := e3
            go_upto_region 38 with fail
            clear a0 a1
            have gx := K3.out t1 HT1.out
            have gy := K6.out t1 HT1.out
            obtain ⟨a0, a1⟩ := gx.1.cells
            obtain ⟨b0, b1⟩ := gy.1.cells
            have LK := Lib.hid (refLike_t emptyD emptyD _ _ t1 gx.2 gy.2)
            clear gx gy
            go_wp2_with fail
            refine LK.out.mono ?_
            rintro e t2 ⟨r, rfl, hr, hv⟩
            obtain rfl : r = true := hr.2 rfl
            have Ht2 := Lib.hid (Below.then HT1.out hv)
            clear a0 a1 b0 b1 hr hv LK
            have HFIN := Lib.hid (K0.out _ Ht2.out).2.2.2.2
            go_wp2_with fail
            go_ret
            exact ⟨rfl, HFIN.out⟩
          have h37 : ¬ (200 : Int) < (m : Int) + (nl : Int) := by omega
          rw [if_pos hms] at e3
          simp only [Bool.and_self, if_true, Prod.mk.injEq] at e3
          obtain ⟨hpD, rfl⟩ := e3
          obtain ⟨X8, hx8⟩ : ∃ b, t1.heap.size = b := ⟨_, rfl⟩
          obtain ⟨Q8, hQ8⟩ : ∃ W, t1.alloc (.cells #[.slice xa n xc, .slice xa' m xc'] 25) = W := ⟨_, rfl⟩
          have hb8 : Below t1.heap.size t1 Q8 := by rw [← hQ8]; exact below_new _ _
          have HB8 := Lib.hid (Below.then HT1.out hb8)
          have h8 : At2 25 Q8 X8 (.slice xa n xc) (.slice xa' m xc') := by rw [← hQ8, ← hx8]; exact At2.new _ _ _ _
          have HQ8 := Lib.hid hQ8
          have HPD := Lib.hid hpD
          obtain ⟨hA8, hD8, hL8, -, -⟩ := K0.out _ HB8.out
          have HP8 := Lib.hid (show PairsAt Q8 (.slice xa' m xc') (d.dirty.map writeCell) by
            obtain ⟨⟨sv, dv, e, -, g1⟩, -, -⟩ := hD8
            simp only [Value.agg.injEq, Array.mk.injEq, List.cons.injEq, and_true] at e
            obtain ⟨rfl, rfl⟩ := e
            exact g1)
          have S1 := HP8.out.src
          have S2 := hL8.src
          rw [List.length_map, HN.out.2] at S1
          rw [List.length_map, HNL.out] at S2
          have S1 := Lib.hid S1
          have S2 := Lib.hid S2
          have HO1 := Lib.hid (one_writes d.dirty)
          have HO2 := Lib.hid (one_writes l)
          obtain ⟨i0, hi0, hz0, hz1, hz2⟩ := info_parts infoWrite
          have HM0 := Lib.hid (show (Q8.alloc (.cells #[] 45)).ownsRow Q8.heap.size 45 2 (.slice (some ⟨Q8.heap.size, 0, none⟩) 0 0) 0 [] from World.ownsRow_made Q8 #[] 0 (Nat.le_refl _) (Nat.zero_le _) rfl)
          have H8 := Lib.hid h8
          have HX8 := Lib.hid (show Q6.heap.size ≤ X8 by rw [← hx8]; exact HT1.out.size)
          have hlt8 : X8 < Q8.heap.size := h8.lt
          go_upto_region 39 with fail
          clear a0 a1
          obtain ⟨a0, a1⟩ := (K0.out _ HT1.out).1.cells
          go_upto_region 40 with fail
          first | rw [HQ8.out] | skip
          clear a0 a1 hx8 hQ8 hb8
          obtain ⟨a0, a1⟩ := hA8.cells
          obtain ⟨a0m, a1m⟩ := (hA8.keep (below_new Q8 (.cells #[] 45))).cells
          clear h8 hA8 hD8 hL8 hpD
          go_upto_region 41 with (at_builtin; first
            | (refine wpList_append_src _ rfl _ _ 23 rfl Q8.heap.size 45 i0 (.agg #[.int .i64 0, .string ⟨#[]⟩]) 2 24 Try.underlying23 hi0 hz0 hz1 hz2 rfl (by decide) _ _ _ rfl HOW.out _ nl _ rfl (S2.out.keep HW1.out) HO2.out (by unfold maxLen; omega) (by omega) HW1.out.size ?_
               intro v2 w2 hown2 hgrow2
               rw [Nat.zero_add, List.nil_append] at hown2
               obtain ⟨ga, gc, rfl⟩ := own_shape hown2
               have HOX := Lib.hid hown2
               have HW2 := Lib.hid (grown_below2 HW1.out HOW.out hgrow2 (Nat.le_refl _) HW1.out.size)
               have h82 := H8.out.keep HW2.out
               obtain ⟨z0, z1⟩ := h82.cells
               obtain ⟨f0, f1⟩ := h82.free
               clear hown2 hgrow2 h82)
            | (refine wpList_append_src _ rfl _ _ 23 rfl Q8.heap.size 45 i0 (.agg #[.int .i64 0, .string ⟨#[]⟩]) 2 24 Try.underlying23 hi0 hz0 hz1 hz2 rfl (by decide) _ _ _ rfl HM0.out _ m _ rfl (S1.out.keep (below_new _ _)) HO1.out (by unfold maxLen; omega) (by omega) (below_new Q8 (.cells #[] 45)).size ?_
               intro v1 w1 hown1 hgrow1
               have HOW := Lib.hid hown1
               have HW1 := Lib.hid (grown_below2 (below_new Q8 (.cells #[] 45)) HM0.out hgrow1 (Nat.le_refl _) (below_new Q8 (.cells #[] 45)).size)
               clear hown1 hgrow1))
          obtain ⟨Q9, hQ9⟩ : ∃ W, w2.setCell ⟨X8, 1, none⟩ (.slice ga (m + nl) gc) = W := ⟨_, rfl⟩
          have h9 : At2 25 Q9 X8 (.slice xa n xc) (.slice ga (m + nl) gc) := by rw [← hQ9]; exact (H8.out.keep HW2.out).set1 _
          have HB9 := Lib.hid (show Below Q6.heap.size Q6 Q9 by rw [← hQ9]; exact (Below.then HB8.out HW2.out).setCell (p := ⟨X8, 1, none⟩) HX8.out _)
          have ho9 : Q9.ownsRow Q8.heap.size 45 2 (.slice ga (m + nl) gc) (m + nl) (cellsL ((d.dirty ++ l).map writeCell)) := by
            rw [List.map_append, cellsL_append, ← hQ9]
            exact own_block HOX.out fun g hg => Below.heap_setCell _ _ _ _ (by have := (HOX.out.lt g hg).1; show g ≠ X8; omega)
          have hd9 : DskAt Q9 (.agg #[.slice xa n xc, .slice ga (m + nl) gc]) pD := by
            obtain ⟨⟨sv, dv, e, g1, -⟩, g2, g3⟩ := (K0.out Q9 HB9.out).2.1
            simp only [Value.agg.injEq, Array.mk.injEq, List.cons.injEq, and_true] at e
            obtain ⟨rfl, rfl⟩ := e
            rw [← HPD.out]
            refine ⟨⟨_, _, rfl, g1, PairsAt.of_own ho9 (by rw [List.length_map, List.length_append, HN.out.2, HNL.out])⟩, g2, fun x hx => ?_⟩
            rcases List.mem_append.1 hx with hx | hx
            · exact g3 x hx
            · exact (HLZ.out x hx)
          have HQ9 := Lib.hid hQ9
          rw [HQ9.out]
          have LK := Lib.hid (refLike_t pD pD _ _ Q9 (K3.out Q9 HB9.out).2 hd9)
          have g3 := (K3.out Q9 HB9.out).1
          clear ho9 hd9 hQ9 a0 a1 a0m a1m z0 z1 f0 f1
          obtain ⟨a0, a1⟩ := g3.cells
          obtain ⟨b0, b1⟩ := h9.cells
          clear g3 h9
          go_wp2_with fail
          refine LK.out.mono ?_
          rintro e v9 ⟨r, rfl, hr, hv9⟩
          obtain rfl : r = true := hr.2 rfl
          have HV9 := Lib.hid (Below.then HB9.out hv9)
          clear a0 a1 b0 b1 hr hv9 LK
          have HFIN := Lib.hid (K0.out _ HV9.out).2.2.2.2
          go_wp2_with fail
          go_ret
          exact ⟨rfl, HFIN.out⟩
      have hin' : (i : Int) < (n : Int) := by omega
      have hid : i < d.secs.length := by rw [HN.out.1]; exact hin
      obtain ⟨S, hS⟩ : ∃ s, d.stands i = s := ⟨_, rfl⟩
      obtain ⟨L, hL⟩ : ∃ s, d.left i fs = s := ⟨_, rfl⟩
      have KK := Lib.hid (show ∀ w', Below Q6.heap.size Q6 w' → (w'.cell? ⟨B, 0, none⟩ = some (.slice xa n xc) ∧ w'.cell? ⟨B, 1, none⟩ = some (.slice xa' m xc') ∧ w'.cell? ⟨X4, 0, none⟩ = some (.slice (some ⟨gb, go, none⟩) n c4) ∧ w'.cell? ⟨gb, go + i, none⟩ = some (.string S) ∧ w'.cell? ⟨X5, 0, none⟩ = some (.slice (some ⟨hb', ho', none⟩) n c5) ∧ w'.cell? ⟨hb', ho' + i, none⟩ = some (.string L)) from fun w' hb => by
        have h4 := rows_at (K4.out w' hb).2 i (by rw [HYD.out, clean_length]; exact hin)
        have h5 := rows_at (K5.out w' hb).2 i (by rw [HCD.out, clean_length]; exact hin)
        have e4 : yD.secs[i]'(by rw [HYD.out, clean_length]; exact hin) = S := by rw [← hS]; simp [HYD.out, clean]
        have e5 : cD.secs[i]'(by rw [HCD.out, clean_length]; exact hin) = L := by rw [← hL]; simp [HCD.out, clean]
        rw [e4] at h4
        rw [e5] at h5
        exact ⟨(K0.out w' hb).1.cells.1, (K0.out w' hb).1.cells.2, (K4.out w' hb).1.cells.1, h4, (K5.out w' hb).1.cells.1, h5⟩)
      have CS := Lib.hid (show ∀ w', Below Q6.heap.size Q6 w' → Calls Try.prog 18 #[.agg #[.slice xa n xc, .slice xa' m xc'], .int .i64 i] w' fun e w'' => e = .returned (.string S) ∧ Below w'.heap.size w' w'' from fun w' hb => by
        have := refStands_t _ d i w' (K0.out w' hb).2.1 hid
        rw [hS] at this
        exact this)
      have CL := Lib.hid (show ∀ w', Below Q6.heap.size Q6 w' → Calls Try.prog 19 #[.agg #[.slice xa n xc, .slice xa' m xc'], .int .i64 i, .slice fa nf fc] w' fun e w'' => e = .returned (.string L) ∧ Below w'.heap.size w' w'' from fun w' hb => by
        have := refLeft_t _ _ d fs i w' (K0.out w' hb).2.1 (K0.out w' hb).2.2.2.1 hid ⟨HRI.out.secs, fun x hx => (HRI.out.well x hx).2.2⟩
        rw [hL] at this
        exact this)
      have qS : (S.toList == S.toList) = true := by simp
      have qL : (L.toList == L.toList) = true := by simp
      have hbA := HBI.out
      obtain ⟨a0, a1, b0, b1, c0, c1⟩ := KK.out _ hbA
      clear hS hL hid
      go_upto_region 27 with fail
      go_cut [205] from 185 to 205 (fun v wx => v = .bool false ∧ Below Q6.heap.size Q6 wx)
      case first =>
        go_region_held3 (fun w' => w'.cell? ⟨B, 0, none⟩ = some (.slice xa n xc) ∧ w'.cell? ⟨B, 1, none⟩ = some (.slice xa' m xc') ∧ w'.cell? ⟨X4, 0, none⟩ = some (.slice (some ⟨gb, go, none⟩) n c4) ∧ w'.cell? ⟨gb, go + i, none⟩ = some (.string S) ∧ w'.cell? ⟨X5, 0, none⟩ = some (.slice (some ⟨hb', ho', none⟩) n c5) ∧ w'.cell? ⟨hb', ho' + i, none⟩ = some (.string L)) (exact ⟨a0, a1, b0, b1, c0, c1⟩)
          (first
        | (go_simp; go_at_call 18
           refine (CS.out _ (by first | exact hbA | exact hbA.drew)).mono ?_
           rintro e wS ⟨rfl, hbS⟩
           have hbA : Below Q6.heap.size Q6 wS := by first | exact Below.then hbA hbS | exact Below.then hbA.drew hbS
           obtain ⟨a0, a1, b0, b1, c0, c1⟩ := KK.out _ hbA)
        | (go_simp; go_at_call 19
           refine (CL.out _ (by first | exact hbA | exact hbA.drew)).mono ?_
           rintro e wS ⟨rfl, hbS⟩
           have hbA : Below Q6.heap.size Q6 wS := by first | exact Below.then hbA hbS | exact Below.then hbA.drew hbS
           obtain ⟨a0, a1, b0, b1, c0, c1⟩ := KK.out _ hbA))
        all_goals
          go_wp2_with fail
          go_meet
          exact ⟨rfl, by first | exact hbA | exact hbA.drew⟩
      case rest =>
        obtain ⟨rfl, hcut⟩ := hcut
        have HBC := Lib.hid hcut
        clear hcut hbA a0 a1 b0 b1 c0 c1 CS CL KK
        go_wp2_with fail
        go_roundw
        case rel => exact ⟨i + 1, by omega, by go_num, HBC.out⟩
        case measure => simp [intOf]; omega
end Go.Proofs.Ytcjngaapiomkbaa
