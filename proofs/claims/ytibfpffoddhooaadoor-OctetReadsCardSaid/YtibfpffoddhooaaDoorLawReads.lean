/-
  OctetReads returns true at every input: the walk. Conditions: the package-level errors lie where they lie.
-/
import Derived.Test.YtibfpffoddhooaaDoorLawOctet
import Derived.Test.YtibfpffoddhooaaDoorRefBytes
namespace Go.Proofs.YtibfpffoddhooaaDoor
open Go.RowKit

/-- The document's own Bytes beside the program's. -/
theorem RefBytesEnd.one {s : ByteArray} {w w' : World} {e : Ending} (h : RefBytesEnd s w e w') : ∃ (bo y : ByteArray) (be : Int) (b : Bool), bytesOut s = (bo, be) ∧ (b = true ∧ be = 0 ∧ y = bo ∨ b = false ∧ be = 4 ∧ bo = ⟨#[]⟩) ∧ e = .returned (.tuple #[.string y, .bool b]) ∧ Below w.heap.size w w' := by
  rcases h with ⟨l, hl, rfl, hb⟩ | ⟨y, hl, rfl, hb⟩
  · exact ⟨⟨l.toArray⟩, ⟨l.toArray⟩, 0, true, by unfold bytesOut; rw [hl], Or.inl ⟨rfl, rfl, rfl⟩, rfl, hb⟩
  · exact ⟨⟨#[]⟩, y, 4, false, by unfold bytesOut; rw [hl], Or.inr ⟨rfl, rfl, rfl⟩, rfl, hb⟩
theorem wide_cases (n : Nat) (sz : Int) : ∃ (b : ByteArray) (f : Int), wideOut n sz = (b, f) ∧
    (sz < 0 ∧ b = ⟨#[]⟩ ∧ f = 1 ∨ 8 < sz ∧ b = ⟨#[]⟩ ∧ f = 1 ∨ ∃ k m : Nat, sz = (k : Int) ∧ k ≤ 8 ∧ numL (wideL n k) = m ∧ (b = ⟨(wideL n k).toArray⟩ ∧ f = 0 ∧ m = n ∨ b = ⟨#[]⟩ ∧ f = 2 ∧ m ≠ n)) := by
  by_cases h1 : sz < 0
  · exact ⟨_, _, by unfold wideOut; rw [if_pos (Or.inl h1)], Or.inl ⟨h1, rfl, rfl⟩⟩
  by_cases h2 : 8 < sz
  · exact ⟨_, _, by unfold wideOut; rw [if_pos (Or.inr h2)], Or.inr (Or.inl ⟨h2, rfl, rfl⟩)⟩
  obtain ⟨k, rfl⟩ := Int.eq_ofNat_of_zero_le (show 0 ≤ sz by omega)
  have h0 : ¬ ((k : Int) < 0 ∨ 8 < (k : Int)) := by omega
  by_cases hf : n < 256 ^ k
  · refine ⟨_, _, by unfold wideOut; rw [if_neg h0, Int.toNat_natCast, if_pos hf], Or.inr (Or.inr ⟨k, _, rfl, by omega, rfl, Or.inl ⟨rfl, rfl, ?_⟩⟩)⟩
    rw [numL_wideL]; exact Nat.mod_eq_of_lt hf
  · refine ⟨_, _, by unfold wideOut; rw [if_neg h0, Int.toNat_natCast, if_neg hf], Or.inr (Or.inr ⟨k, _, rfl, by omega, rfl, Or.inr ⟨rfl, rfl, ?_⟩⟩)⟩
    rw [numL_wideL]
    have := Nat.mod_lt n (Nat.pow_pos (n := k) (show 0 < 256 by decide))
    omega
theorem whole_cases (s : ByteArray) : ∃ (c : Nat) (g : Int), wholeOut s = (c, g) ∧ (s.size ≤ 8 ∧ c = numL s.data.toList ∧ g = 0 ∨ 8 < s.size ∧ c = 0 ∧ g = 2) := by
  by_cases h : s.size ≤ 8
  · exact ⟨_, _, by unfold wholeOut; rw [if_pos h], Or.inl ⟨h, rfl, rfl⟩⟩
  · exact ⟨_, _, by unfold wholeOut; rw [if_neg h], Or.inr ⟨by omega, rfl, rfl⟩⟩

set_option maxRecDepth 100000 in
set_option maxHeartbeats 4000000 in
theorem reads_walk (aD aS aZ : Addr) (s : ByteArray) (n : Nat) (sz : Int) (w : World) (he : Env w aD aS aZ) (hs : s.size ≤ maxLen) (hn : n < 18446744073709551616) (hz : -9223372036854775808 ≤ sz ∧ sz ≤ 9223372036854775807) :
    Calls Tryd.prog 3 #[.string s, .int .u64 n, .int .i64 sz] w fun e w' => e = .returned (.bool true) ∧ Below w.heap.size w w' := by
  unfold maxLen at hs
  obtain ⟨hz1, hz2⟩ := hz
  obtain ⟨q, hq⟩ : ∃ q, min s.size 300 = q := ⟨_, rfl⟩
  have hq' : min ((s.size : Nat) : Int) 300 = (q : Int) := by omega
  have hqs : q ≤ s.size := by omega
  obtain ⟨x, hx⟩ : ∃ x, s.extract 0 q = x := ⟨_, rfl⟩
  have hxs : x.size ≤ 300 := by rw [← hx, ByteArray.size_extract]; omega
  have C1 := Lib.hid (fun w he => Bytes_any aD aS aZ x w he (by omega))
  have C2 := Lib.hid (fun w he => Wide_any aD aS aZ n sz w he hn)
  have C3 := Lib.hid (fun w he => Whole_any aD aS aZ x w he (by omega))
  have C4 := Lib.hid (fun w => refBytes_any x w (by omega))
  have C5 := Lib.hid (fun w => Hex_any x w (by omega))
  have C6 := Lib.hid (fun w => refHex_any x w (by omega))
  have HE := Lib.hid he
  obtain ⟨b, f, hbf, hwide⟩ := wide_cases n sz
  obtain ⟨c, g, hcg, hwhole⟩ := whole_cases x
  rw [hbf] at C2
  rw [hcg] at C3
  obtain ⟨H, hH⟩ : ∃ H : ByteArray, ⟨(hexL x.data.toList).toArray⟩ = H := ⟨_, rfl⟩
  rw [hH] at C5 C6
  have HW := Lib.hid hwide
  have HC := Lib.hid hwhole
  clear he hq hbf hcg hH hwide hwhole
  go_enter Tryd.func3, Tryd.ntmps3
  go_wp2_with fail
  refine (C1.out w HE.out).mono ?_
  rintro e w1 ⟨rfl, hb1⟩
  have HE1 := Lib.hid (HE.out.keep hb1)
  have B1 := Lib.hid hb1
  clear hb1 HE C1 hx
  go_wp2_with fail
  refine (C2.out w1 HE1.out).mono ?_
  rintro e w2 ⟨rfl, hb2⟩
  have HE2 := Lib.hid (HE1.out.keep hb2)
  have B2 := Lib.hid (B1.out.trans (hb2.mono B1.out.size))
  clear hb2 HE1 B1 C2
  go_wp2_with fail
  refine (C3.out w2 HE2.out).mono ?_
  rintro e w3 ⟨rfl, hb3⟩
  have HE3 := Lib.hid (HE2.out.keep hb3)
  have B3 := Lib.hid (B2.out.trans (hb3.mono B2.out.size))
  clear hb3 HE2 B2 C3
  go_wp2_with fail
  refine (C4.out w3).mono ?_
  intro e w4 h4
  obtain ⟨bo, y, be, isb, hbo, hcase, rfl, hb4⟩ := h4.one
  rw [hbo]
  have HE4 := Lib.hid (HE3.out.keep hb4)
  have B4 := Lib.hid (B3.out.trans (hb4.mono B3.out.size))
  have HCA := Lib.hid hcase
  clear h4 hb4 HE3 B3 hbo hcase C4
  go_wp2_with fail
  refine (C5.out w4).mono ?_
  rintro e w5 ⟨rfl, hb5⟩
  have HE5 := Lib.hid (HE4.out.keep hb5)
  have B5 := Lib.hid (B4.out.trans (hb5.mono B4.out.size))
  clear hb5 HE4 B4 C5
  go_wp2_with fail
  refine (C6.out w5).mono ?_
  rintro e w6 ⟨rfl, hb6⟩
  have HE6 := Lib.hid (HE5.out.keep hb6)
  have B6 := Lib.hid (B5.out.trans (hb6.mono B5.out.size))
  clear hb6 HE5 B5 C6
  have HA := Lib.hid (alive_any aD aS aZ w6 HE6.out)
  rcases HCA.out with ⟨rfl, rfl, rfl⟩ | ⟨rfl, rfl, rfl⟩
  all_goals
    clear HCA
    go_wp2_with fail
    refine HA.out.mono ?_
    rintro e w7 ⟨rfl, hb7⟩
    have B7 := Lib.hid (B6.out.trans (hb7.mono B6.out.size))
    clear hb7 HE6 B6 HA
    rcases HC.out with ⟨h8, hc, rfl⟩ | ⟨h8, rfl, rfl⟩
    · have RX := Lib.hid (refWhole_any x w7 h8)
      rw [← hc] at RX
      have t8 : x.size ≤ 8 := h8
      clear HC hc
      rcases HW.out with ⟨hsz, rfl, rfl⟩ | ⟨hsz, rfl, rfl⟩ | ⟨k, m, rfl, hk, hm, hd⟩
      · clear HW
        go_wp2_with fail
        refine RX.out.mono ?_
        rintro e w8 ⟨rfl, rfl⟩
        go_wp2_with fail
        go_ret
        exact ⟨rfl, B7.out⟩
      · clear HW
        go_wp2_with fail
        refine RX.out.mono ?_
        rintro e w8 ⟨rfl, rfl⟩
        go_wp2_with fail
        go_ret
        exact ⟨rfl, B7.out⟩
      · have RW := Lib.hid (refWide_any n k w7 hn hk)
        obtain ⟨W, hW⟩ : ∃ W : ByteArray, ⟨(wideL n k).toArray⟩ = W := ⟨_, rfl⟩
        have hW8 : W.size ≤ 8 := by rw [← hW, wideL_size]; exact hk
        have RH := Lib.hid (fun w => refWhole_any W w hW8)
        rw [show W.data.toList = wideL n k by rw [← hW], hm] at RH
        rw [hW] at RW hd
        have HD := Lib.hid hd
        clear HW hm hW hd
        go_wp2_with fail
        refine RX.out.mono ?_
        rintro e w8 ⟨rfl, rfl⟩
        go_wp2_with fail
        refine RW.out.mono ?_
        rintro e w9 ⟨rfl, hb9⟩
        have B9 := Lib.hid (B7.out.trans (hb9.mono B7.out.size))
        clear hb9 RW
        go_wp2_with fail
        refine (RH.out w9).mono ?_
        rintro e w10 ⟨rfl, rfl⟩
        rcases HD.out with ⟨rfl, rfl, rfl⟩ | ⟨rfl, rfl, hne⟩
        · have t1 : ((m : Int) != (m : Int)) = false := by simp
          clear HD
          go_wp2_with fail
          go_ret
          exact ⟨rfl, B9.out⟩
        · have t1 : ((m : Int) != (n : Int)) = true := by rw [bne_iff_ne]; omega
          clear HD hne
          go_wp2_with fail
          go_ret
          exact ⟨rfl, B9.out⟩
    · clear HC
      rcases HW.out with ⟨hsz, rfl, rfl⟩ | ⟨hsz, rfl, rfl⟩ | ⟨k, m, rfl, hk, hm, hd⟩
      · clear HW
        go_wp2_with fail
        go_ret
        exact ⟨rfl, B7.out⟩
      · clear HW
        go_wp2_with fail
        go_ret
        exact ⟨rfl, B7.out⟩
      · have RW := Lib.hid (refWide_any n k w7 hn hk)
        obtain ⟨W, hW⟩ : ∃ W : ByteArray, ⟨(wideL n k).toArray⟩ = W := ⟨_, rfl⟩
        have hW8 : W.size ≤ 8 := by rw [← hW, wideL_size]; exact hk
        have RH := Lib.hid (fun w => refWhole_any W w hW8)
        rw [show W.data.toList = wideL n k by rw [← hW], hm] at RH
        rw [hW] at RW hd
        have HD := Lib.hid hd
        clear HW hm hW hd
        go_wp2_with fail
        refine RW.out.mono ?_
        rintro e w9 ⟨rfl, hb9⟩
        have B9 := Lib.hid (B7.out.trans (hb9.mono B7.out.size))
        clear hb9 RW
        go_wp2_with fail
        refine (RH.out w9).mono ?_
        rintro e w10 ⟨rfl, rfl⟩
        rcases HD.out with ⟨rfl, rfl, rfl⟩ | ⟨rfl, rfl, hne⟩
        · have t1 : ((m : Int) != (m : Int)) = false := by simp
          clear HD
          go_wp2_with fail
          go_ret
          exact ⟨rfl, B9.out⟩
        · have t1 : ((m : Int) != (n : Int)) = true := by rw [bne_iff_ne]; omega
          clear HD hne
          go_wp2_with fail
          go_ret
          exact ⟨rfl, B9.out⟩
end Go.Proofs.YtibfpffoddhooaaDoor
