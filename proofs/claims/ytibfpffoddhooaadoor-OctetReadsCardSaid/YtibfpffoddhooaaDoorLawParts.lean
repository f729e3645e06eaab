/-
  OctetParts returns true at every input. Conditions: none beyond the statement's own.
-/
import Derived.Test.YtibfpffoddhooaaDoorWide
import Derived.Test.YtibfpffoddhooaaDoorHex
namespace Go.Proofs.YtibfpffoddhooaaDoor
open Go.RowKit

set_option maxHeartbeats 1000000 in
theorem alive_any (aD aS aZ : Addr) (w : World) (he : Env w aD aS aZ) :
    Calls Tryd.prog 15 #[] w fun e w' => e = .returned (.bool true) ∧ Below w.heap.size w w' := by
  have h1 := Wide_any aD aS aZ 258 2 w he (by decide)
  have e1 : wideOut 258 2 = (⟨#[2, 1]⟩, 0) := by decide
  rw [e1] at h1
  have H1 := Lib.hid h1
  clear h1 e1
  have h2 := fun w1 => Hex_any ⟨#[2, 1]⟩ w1 (by decide)
  have e2 : (hexL (⟨#[2, 1]⟩ : ByteArray).data.toList).toArray = #[48, 50, 48, 49] := by decide
  rw [e2] at h2
  have H2 := Lib.hid h2
  clear h2 e2 he
  go_enter Tryd.func15, Tryd.ntmps15
  go_wp2_with fail
  refine H1.out.mono ?_
  rintro e w1 ⟨rfl, hb1⟩
  have hs := hb1.size
  go_wp2_with fail
  refine (H2.out w1).mono ?_
  rintro e w2 ⟨rfl, hb2⟩
  go_wp2_with fail
  go_ret
  exact ⟨rfl, hb1.trans (hb2.mono hs)⟩

theorem wide_parts (n k : Nat) (hk : k < 8) : ∃ s t e f, wideOut n k = (s, e) ∧ wideOut n (k + 1) = (t, f) ∧ s.size ≤ 8 ∧ (e = 0 ∧ f = 0 ∧ t = s ++ ⟨#[0]⟩ ∨ e = 2 ∧ f = 0 ∨ e = 2 ∧ f = 2) := by
  have h0 : ¬ ((k : Int) < 0 ∨ 8 < (k : Int)) := by omega
  have h1 : ¬ ((k : Int) + 1 < 0 ∨ 8 < (k : Int) + 1) := by omega
  have e1 : ((k : Int) + 1).toNat = k + 1 := by omega
  unfold wideOut
  rw [if_neg h0, if_neg h1, e1, Int.toNat_natCast]
  by_cases h2 : n < 256 ^ k
  · have h3 : n < 256 ^ (k + 1) := Nat.lt_of_lt_of_le h2 (Nat.pow_le_pow_right (by decide) (by omega))
    rw [if_pos h2, if_pos h3]
    refine ⟨_, _, _, _, rfl, rfl, ?_, Or.inl ⟨rfl, rfl, ?_⟩⟩
    · show (wideL n k).toArray.size ≤ 8
      simp [wideL_length]; omega
    · rw [wideL_succ, Nat.div_eq_of_lt h2]
      apply ByteArray.ext
      simp
  · rw [if_neg h2]
    by_cases h3 : n < 256 ^ (k + 1)
    · rw [if_pos h3]; exact ⟨_, _, _, _, rfl, rfl, by decide, Or.inr (Or.inl ⟨rfl, rfl⟩)⟩
    · rw [if_neg h3]; exact ⟨_, _, _, _, rfl, rfl, by decide, Or.inr (Or.inr ⟨rfl, rfl⟩)⟩

set_option maxHeartbeats 2000000 in
theorem parts_walk (aD aS aZ : Addr) (a b : ByteArray) (n : Nat) (sz : Int) (w : World) (he : Env w aD aS aZ) (hn : n < 18446744073709551616) (ha : a.size ≤ maxLen) (hb : b.size ≤ maxLen) :
    Calls Tryd.prog 8 #[.string a, .string b, .int .u64 n, .int .i64 sz] w fun e w' => e = .returned (.bool true) ∧ Below w.heap.size w w' := by
  unfold maxLen at ha hb
  have q1 : -8 < sz.tmod 8 := by have := Int.lt_tmod_of_pos sz (show (0:Int) < 8 by decide); omega
  have q2 : sz.tmod 8 < 8 := Int.tmod_lt_of_pos sz (by decide)
  obtain ⟨k, hk⟩ := Int.eq_ofNat_of_zero_le (Int.emod_nonneg (sz.tmod 8) (show (8 : Int) ≠ 0 by decide))
  have hk8 : k < 8 := by have := Int.emod_lt_of_pos (sz.tmod 8) (show (0 : Int) < 8 by decide); omega
  have hk' : (sz.tmod 8 + 8) % 8 = (k : Int) := by omega
  have HE := Lib.hid he
  clear he
  go_enter Tryd.func8, Tryd.ntmps8
  go_wp2_with fail
  go_quiet (fail)
  go_wp2_with fail
  obtain ⟨x, hx⟩ : ∃ x, a.extract 0 (min (a.size : Int) 200).toNat = x := ⟨_, rfl⟩
  obtain ⟨y, hy⟩ : ∃ y, b.extract 0 (min (b.size : Int) 200).toNat = y := ⟨_, rfl⟩
  rw [hx, hy, hk']
  have hxs : x.size ≤ 200 := by rw [← hx]; simp; omega
  have hys : y.size ≤ 200 := by rw [← hy]; simp; omega
  clear hx hy ha hb hk hk'
  have b0 := Lib.hid (below_drewN (Below.refl w.heap.size w) nq)
  have hE0 := HE.out.keep b0.out
  obtain ⟨w0, hw0⟩ : ∃ w0, w.drewN nq = w0 := ⟨_, rfl⟩
  rw [hw0] at b0 hE0 ⊢
  have HE0 := Lib.hid hE0
  clear hE0 hw0 HE
  with_reducible refine (Wide_any aD aS aZ n k w0 HE0.out hn).mono ?_
  rintro e w1 ⟨rfl, hb1⟩
  have HE1 := Lib.hid (HE0.out.keep hb1)
  have B1 := Lib.hid (b0.out.trans (hb1.mono b0.out.size))
  clear hb1
  go_wp2_with fail
  with_reducible refine (Wide_any aD aS aZ n (k + 1) w1 HE1.out hn).mono ?_
  rintro e w2 ⟨rfl, hb2⟩
  have HE2 := Lib.hid (HE1.out.keep hb2)
  have B2 := Lib.hid (B1.out.trans (hb2.mono B1.out.size))
  clear hb2
  obtain ⟨s, t, e, f, h1, h2, hss, hc⟩ := wide_parts n k hk8
  rw [h1, h2]
  clear h1 h2
  have H3 := fun w (s g : ByteArray) (hg : (⟨(hexL s.data.toList).toArray⟩ : ByteArray) = g) (h : s.size ≤ 1099511627776) => hg ▸ Hex_any s w h
  obtain ⟨gx, hgx⟩ : ∃ g, (⟨(hexL x.data.toList).toArray⟩ : ByteArray) = g := ⟨_, rfl⟩
  obtain ⟨gy, hgy⟩ : ∃ g, (⟨(hexL y.data.toList).toArray⟩ : ByteArray) = g := ⟨_, rfl⟩
  have hgxy : (⟨(hexL (x ++ y).data.toList).toArray⟩ : ByteArray) = gx ++ gy := by
    rw [← hgx, ← hgy]; simp [hexL_append]; rfl
  have hsx : gx.size = 2 * x.size := by rw [← hgx]; show (hexL x.data.toList).toArray.size = _; simp [hexL_length]
  have C1 := Lib.hid (H3 w2 (x ++ y) (gx ++ gy) hgxy (by simp; omega))
  have C2 := Lib.hid (fun w => H3 w x gx hgx (by omega))
  have C3 := Lib.hid (fun w => H3 w y gy hgy (by omega))
  have hgy' := hgy
  clear H3 hgx hgy hgxy
  have hsy : gy.size ≤ 400 := by rw [← hgy']; show (hexL y.data.toList).toArray.size ≤ _; simp [hexL_length]; exact (by omega : 2 * y.size ≤ 400)
  have hsx' : gx.size ≤ 400 := by omega
  have t1 : (((gx.size : Nat) : Int) == 2 * (x.size : Int)) = true := by simp; omega
  have t2 : (((gx.size : Nat) : Int) != 2 * (x.size : Int)) = false := by simp; omega
  clear hsx hgy'
  go_wp2_with fail
  refine C1.out.mono ?_
  rintro ev w3 ⟨rfl, hb3⟩
  have B3 := Lib.hid (B2.out.trans (hb3.mono B2.out.size))
  have HE3 := Lib.hid (HE2.out.keep hb3)
  clear hb3
  go_wp2_with fail
  refine (C2.out _).mono ?_
  rintro ev w4 ⟨rfl, hb4⟩
  have B4 := Lib.hid (B3.out.trans (hb4.mono B3.out.size))
  have HE4 := Lib.hid (HE3.out.keep hb4)
  clear hb4
  go_wp2_with fail
  refine (C3.out _).mono ?_
  rintro ev w5 ⟨rfl, hb5⟩
  have B5 := Lib.hid (B4.out.trans (hb5.mono B4.out.size))
  have HE5 := Lib.hid (HE4.out.keep hb5)
  clear hb5
  go_wp2_with fail
  refine (C2.out _).mono ?_
  rintro ev w6 ⟨rfl, hb6⟩
  have B6 := Lib.hid (B5.out.trans (hb6.mono B5.out.size))
  have HE6 := Lib.hid (HE5.out.keep hb6)
  clear hb6
  have A6 := Lib.hid (alive_any aD aS aZ w6 HE6.out)
  rcases hc with ⟨rfl, rfl, rfl⟩ | ⟨rfl, rfl⟩ | ⟨rfl, rfl⟩
  all_goals
    go_wp2_with fail
    refine A6.out.mono ?_
    rintro ev w7 ⟨rfl, hb7⟩
    go_wp2
    go_ret
    exact ⟨rfl, B6.out.trans (hb7.mono B6.out.size)⟩
end Go.Proofs.YtibfpffoddhooaaDoor
