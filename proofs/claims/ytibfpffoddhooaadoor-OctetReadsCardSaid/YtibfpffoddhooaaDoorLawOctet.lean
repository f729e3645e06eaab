/-
  OctetBack, OctetApart and OctetLong return true at every input: the walks. Conditions: the package-level errors lie where they lie.
-/
import Derived.Test.YtibfpffoddhooaaDoorLawParts
import Derived.Test.YtibfpffoddhooaaDoorLoose
import Derived.Deep.RegionWith
namespace Go.Proofs.YtibfpffoddhooaaDoor
open Go.RowKit

theorem unhexL_hexL : ∀ l : List UInt8, unhexL (hexL l) = some l
  | [] => rfl
  | c :: r => by
    have ih := unhexL_hexL r
    have h : ∀ m : Fin 16, halfB (hexDig m.1) = some m.1 := by decide
    have hc := c.toNat_lt
    have h1 := h ⟨c.toNat / 16, by omega⟩
    have h2 := h ⟨c.toNat % 16, by omega⟩
    simp only at h1 h2
    have e : UInt8.ofNat (16 * (c.toNat / 16) + c.toNat % 16) = c := by
      rw [Nat.div_add_mod]; simp
    show (match halfB (hexDig (c.toNat / 16)), halfB (hexDig (c.toNat % 16)), unhexL (hexL r) with
      | some x, some y, some l => some (UInt8.ofNat (16 * x + y) :: l)
      | _, _, _ => none) = _
    rw [h1, h2, ih]
    simp only [e]
theorem numL_wideL (n k : Nat) : numL (wideL n k) = n % 256 ^ k := by
  induction k with
  | zero => simp [wideL, numL, Nat.mod_one]
  | succ k ih =>
    rw [wideL_succ, numL_append, ih, wideL_length]
    simp only [numL]
    rw [UInt8.toNat_ofNat_of_lt' (by have := Nat.mod_lt (n / 256 ^ k) (show 0 < 256 by decide); simpa using this), Nat.mul_zero, Nat.add_zero, Nat.pow_succ]
    exact (Nat.mod_mul).symm

/-- A number in k bytes, read again. -/
theorem wide_whole (n k : Nat) (hk : k ≤ 8) (hn : n < 18446744073709551616) : ∃ (b : ByteArray) (e : Int) (m : Nat), wideOut n k = (b, e) ∧ wholeOut b = (m, 0) ∧ b.size ≤ 8 ∧ (e = 0 ∧ m = n ∧ b.size = k ∨ e = 2 ∧ k < 8) := by
  have h0 : ¬ ((k : Int) < 0 ∨ 8 < (k : Int)) := by omega
  unfold wideOut
  rw [if_neg h0, Int.toNat_natCast]
  by_cases h : n < 256 ^ k
  · rw [if_pos h]
    refine ⟨_, _, _, rfl, by unfold wholeOut; rw [if_pos (by rw [wideL_size]; exact hk)], by rw [wideL_size]; exact hk, Or.inl ⟨rfl, ?_, wideL_size n k⟩⟩
    simp only [numL_wideL]
    exact Nat.mod_eq_of_lt h
  · rw [if_neg h]
    refine ⟨_, _, 0, rfl, rfl, by decide, Or.inr ⟨rfl, ?_⟩⟩
    rcases Nat.lt_or_ge k 8 with h8 | h8
    · exact h8
    · exact absurd (Nat.lt_of_lt_of_le hn (Nat.pow_le_pow_right (show 0 < 256 by decide) h8)) h

set_option maxRecDepth 100000 in
set_option maxHeartbeats 4000000 in
theorem back_walk (aD aS aZ : Addr) (s : ByteArray) (n : Nat) (v : Value) (ss : List ByteArray) (w : World) (he : Env w aD aS aZ) (hn : n < 18446744073709551616) (hs : s.size ≤ maxLen) (hr : StrRow w v ss) (hz : ∀ s ∈ ss, s.size ≤ maxLen) :
    Calls Tryd.prog 5 #[.string s, .int .u64 n, v] w fun e w' => e = .returned (.bool true) ∧ Below w.heap.size w w' := by
  unfold maxLen at hs
  have hfew := few_any v ss w.drew (hr.keep (Below.refl _ _).drew) hz
  have hv : ∃ a n c, v = .slice a n c := by
    rcases hr with ⟨rfl, rfl⟩ | ⟨b, o, cap, rfl, _⟩
    · exact ⟨_, _, _, rfl⟩
    · exact ⟨_, _, _, rfl⟩
  obtain ⟨a, m, c, rfl⟩ := hv
  obtain ⟨q, hq⟩ : ∃ q, min s.size 300 = q := ⟨_, rfl⟩
  have hq' : min ((s.size : Nat) : Int) 300 = (q : Int) := by omega
  have hqs : q ≤ s.size := by omega
  have hq3 : q ≤ 300 := by omega
  obtain ⟨x, hx⟩ : ∃ x, s.extract 0 q = x := ⟨_, rfl⟩
  have hxs : x.size ≤ 300 := by rw [← hx, ByteArray.size_extract]; omega
  have HF := Lib.hid hfew
  have HE := Lib.hid he
  clear he hr hz hfew hq
  obtain ⟨g, hg⟩ : ∃ g, (⟨(hexL x.data.toList).toArray⟩ : ByteArray) = g := ⟨_, rfl⟩
  have hgs : g.size ≤ 600 := by rw [← hg]; show (hexL x.data.toList).toArray.size ≤ 600; rw [List.size_toArray, hexL_length, toList_size]; omega
  have hgb : bytesOut g = (x, 0) := by
    rw [← hg]; unfold bytesOut; simp only [unhexL_hexL]; try rw [mk_toList]
  have C1 := Lib.hid (fun w => Hex_any x w (by omega))
  rw [hg] at C1
  have C2 := Lib.hid (fun w he => Bytes_any aD aS aZ g w he (by omega))
  rw [hgb] at C2
  clear hg hgb
  go_enter Tryd.func5, Tryd.ntmps5
  go_wp2_with fail
  go_region_with (go_at_call 18; refine HF.out.mono ?_; rintro e w1 ⟨⟨u, rfl, hu, -⟩, hb⟩)
  all_goals
    have B1 := Lib.hid (show Below w.heap.size w w1 from (Below.refl _ _).drew.trans hb)
    have HE1 := Lib.hid (HE.out.keep B1.out)
    have HU := Lib.hid hu
    clear hb hu
    go_wp2_with fail
    refine (C1.out w1).mono ?_
    rintro e w2 ⟨rfl, hb2⟩
    have B2 := Lib.hid (B1.out.trans (hb2.mono B1.out.size))
    have HE2 := Lib.hid (HE1.out.keep hb2)
    have HU2 := Lib.hid (HU.out.keep hb2)
    clear hb2 B1 HE1 HU hx
    go_wp2_with fail
    refine (C2.out w2 HE2.out).mono ?_
    rintro e w3 ⟨rfl, hb3⟩
    have B3 := Lib.hid (B2.out.trans (hb3.mono B2.out.size))
    have HE3 := Lib.hid (HE2.out.keep hb3)
    have HU3 := Lib.hid (HU2.out.keep hb3)
    clear hb3 B2 HE2 HU2
    go_wp2_with fail
    refine (alive_any aD aS aZ w3 HE3.out).mono ?_
    rintro e w4 ⟨rfl, hb4⟩
    have B4 := Lib.hid (B3.out.trans (hb4.mono B3.out.size))
    have HE4 := Lib.hid (HE3.out.keep hb4)
    have HU4 := Lib.hid (HU3.out.keep hb4)
    clear hb4 B3 HE3 HU3
    go_wp2_with fail
    have hwu : ∃ a n c, u = .slice a n c := by
      rcases HU4.out with ⟨rfl, _⟩ | ⟨b, o, cap, rfl, _⟩
      · exact ⟨_, _, _, rfl⟩
      · exact ⟨_, _, _, rfl⟩
    obtain ⟨a2, m2, c2, rfl⟩ := hwu
    go_loopw [42] (fun i wr => ∃ k : Nat, k ≤ 9 ∧ i = .int .i64 k ∧ Below w4.heap.size w4 wr) (fun i _ => 9 - (intOf i).toNat)
    case atStart => exact ⟨0, Nat.zero_le _, rfl, Below.refl _ _⟩
    case round =>
      obtain ⟨k, hk, rfl, hbr⟩ := hrel
      have HEr := Lib.hid (HE4.out.keep hbr)
      have hbrs := hbr.size
      have HB := Lib.hid hbr
      clear hbr
      by_cases hlt : k < 9
      · obtain ⟨b, e, m, hw1, hw2, hbz, hc⟩ := wide_whole n k (by omega) hn
        have D1 := Lib.hid (Wide_any aD aS aZ n k wr HEr.out hn)
        rw [hw1] at D1
        have D2 := Lib.hid (fun w he => Whole_any aD aS aZ b w he (by omega))
        rw [hw2] at D2
        clear hw1 hw2
        go_wp2_with fail
        refine D1.out.mono ?_
        rintro ev w5 ⟨rfl, hb5⟩
        have HE5 := Lib.hid (HEr.out.keep hb5)
        have HB5 := Lib.hid (HB.out.trans (hb5.mono hbrs))
        clear hb5
        go_wp2_with fail
        refine (D2.out w5 HE5.out).mono ?_
        rintro ev w6 ⟨rfl, hb6⟩
        have HB6 := Lib.hid (HB5.out.trans (hb6.mono HB5.out.size))
        clear hb6
        rcases hc with ⟨rfl, rfl, hbk⟩ | ⟨rfl, hk8⟩
        · have t1 : (((b.size : Nat) : Int) != (k : Int)) = false := by rw [bne_eq_false_iff_eq]; omega
          have HBK := Lib.hid hbk
          clear hbk
          go_wp2_with fail
          go_roundw
          case rel => exact ⟨k + 1, by omega, by go_num, HB6.out⟩
          case measure => simp [intOf]; omega
        · have t1 : (((k : Nat) : Int) == 8) = false := by rw [beq_eq_false_iff_ne]; omega
          go_wp2_with fail
          go_roundw
          case rel => exact ⟨k + 1, by omega, by go_num, HB6.out⟩
          case measure => simp [intOf]; omega
      · have HUr := Lib.hid (HU4.out.keep HB.out)
        have hfz : ∀ s ∈ fewB ss, s.size ≤ maxLen := fun s hs => by have := fewB_size ss s hs; unfold maxLen; omega
        have D1 := Lib.hid (Bind_any aD aS aZ _ (fewB ss) wr HEr.out HUr.out hfz)
        have BB := Lib.hid (B4.out.trans (HB.out.mono B4.out.size))
        by_cases hm : mayB (fewB ss) = true
        · have hmi := mayB_iff hm
          have hbo : bindOut (fewB ss) = (⟨(bindL (fewB ss)).toArray⟩, 0) := by simp [bindOut, hm]
          have hlb := looseB_bind (fewB ss) hmi.1 hmi.2
          have hbl := bindL_length_le (fewB ss) hmi.1
          obtain ⟨t, ht⟩ : ∃ t : ByteArray, (⟨(bindL (fewB ss)).toArray⟩ : ByteArray) = t := ⟨_, rfl⟩
          have htz : t.size ≤ 4098 * 64 := by rw [← ht]; show (bindL (fewB ss)).toArray.size ≤ _; rw [List.size_toArray]; exact Nat.le_trans hbl (Nat.mul_le_mul_left _ hmi.2)
          rw [hbo, ht] at D1
          rw [ht] at hlb
          have HLB := Lib.hid hlb
          clear hbo hlb hbl ht hmi hm hfz
          go_wp2_with fail
          refine D1.out.mono ?_
          rintro ev w7 ⟨rfl, hb7⟩
          have HE7 := Lib.hid (HEr.out.keep hb7)
          have HU7 := Lib.hid (HUr.out.keep hb7)
          have BB7 := Lib.hid (BB.out.trans (hb7.mono BB.out.size))
          clear hb7
          go_wp2_with fail
          refine (Loose_any aD aS aZ t w7 HE7.out (by omega)).mono ?_
          rintro ev w8 (⟨ss', v, hl, _, hr', rfl, hb8⟩ | ⟨m', hl, rfl, hb8⟩)
          · have hss : fewB ss = ss' := by have := HLB.out.symm.trans hl; injection this
            have HU8 := Lib.hid (HU7.out.keep hb8)
            have BB8 := Lib.hid (BB7.out.trans (hb8.mono BB7.out.size))
            have hwv : ∃ a n c, v = .slice a n c := by
              rcases hr' with ⟨rfl, _⟩ | ⟨b, o, cap, rfl, _⟩
              · exact ⟨_, _, _, rfl⟩
              · exact ⟨_, _, _, rfl⟩
            obtain ⟨a3, m3, c3, rfl⟩ := hwv
            rw [← hss] at hr'
            have D2 := Lib.hid (Same_any _ _ (fewB ss) (fewB ss) w8 hr' HU8.out)
            rw [show decide (fewB ss = fewB ss) = true from decide_eq_true rfl] at D2
            clear hss hl hr' hb8
            go_wp2_with fail
            refine D2.out.mono ?_
            rintro ev w9 ⟨rfl, hb9⟩
            go_wp2_with fail
            go_ret
            exact ⟨rfl, BB8.out.trans (hb9.mono BB8.out.size)⟩
          · exact absurd (HLB.out.symm.trans hl) (by simp)
        · have hbo : bindOut (fewB ss) = (⟨#[]⟩, 2) := by simp [bindOut, hm]
          have hmf : mayB (fewB ss) = false := by simpa using hm
          rw [hbo] at D1
          have D3 := Lib.hid (fun w hr => May_any (.slice a2 m2 c2) (fewB ss) w hr hfz)
          rw [hmf] at D3
          clear hbo hm hmf hfz
          go_wp2_with fail
          refine D1.out.mono ?_
          rintro ev w7 ⟨rfl, hb7⟩
          have HE7 := Lib.hid (HEr.out.keep hb7)
          have HU7 := Lib.hid (HUr.out.keep hb7)
          have BB7 := Lib.hid (BB.out.trans (hb7.mono BB.out.size))
          clear hb7
          go_wp2_with fail
          refine (Loose_any aD aS aZ ⟨#[]⟩ w7 HE7.out (by decide)).mono ?_
          rintro ev w8 (⟨ss', v, hl, _, hr', rfl, hb8⟩ | ⟨m', hl, rfl, hb8⟩)
          · have HU8 := Lib.hid (HU7.out.keep hb8)
            have BB8 := Lib.hid (BB7.out.trans (hb8.mono BB7.out.size))
            have hwv : ∃ a n c, v = .slice a n c := by
              rcases hr' with ⟨rfl, _⟩ | ⟨b, o, cap, rfl, _⟩
              · exact ⟨_, _, _, rfl⟩
              · exact ⟨_, _, _, rfl⟩
            obtain ⟨a3, m3, c3, rfl⟩ := hwv
            clear hl hr' hb8
            go_wp2_with fail
            refine (D3.out w8 HU8.out).mono ?_
            rintro ev w9 ⟨rfl, rfl⟩
            go_wp2_with fail
            go_ret
            exact ⟨rfl, BB8.out⟩
          · exact absurd hl (by unfold looseB; simp [looseGo])
end Go.Proofs.YtibfpffoddhooaaDoor
