/-
  DigestParses returns true at every input: the walk. Conditions: the tables and octet's errors lie where they lie.
-/
import Derived.Test.YtiebdmamjlgeoaaDoorRefParse
import Derived.Test.YtiebdmamjlgeoaaDoorRefSum
namespace Go.Proofs.YtiebdmamjlgeoaaDoor
open Go.RowKit

set_option maxRecDepth 100000 in
set_option maxHeartbeats 2000000 in
theorem dparses_walk (aD aS aZ : Addr) (s data : ByteArray) (w : World) (he : Env w aD aS aZ) (ht : Tabs w) (hs : s.size ≤ maxLen) (hd : data.size ≤ maxLen) :
    Calls Tryd.prog 4 #[.string s, .string data] w fun e w' => e = .returned (.bool true) ∧ Below w.heap.size w w' := by
  unfold maxLen at hs hd
  have C1 := Lib.hid (fun w => short_any s w (by omega))
  have C2 := Lib.hid (fun w => short_any data w (by omega))
  have hxs := shortB_size s
  have hys := shortB_size data
  generalize shortB s = x at C1 hxs
  generalize shortB data = y at C2 hys
  obtain ⟨r, e, hp, hc⟩ := parseD_cases x
  have C3 := Lib.hid (fun w he => parse_any aD aS aZ x w he (by omega))
  rw [hp] at C3
  have C4 := Lib.hid (fun w he ht => fits_any aD aS aZ x y w he ht (by omega) (by omega))
  have C5 := Lib.hid (fun w => refParse_any x w)
  have C6 := Lib.hid (fun w => alive_any w)
  have C7 := Lib.hid (fun w => refSum_any y w (by omega))
  have hsy : (⟨(shaL y.data.toList).toArray⟩ : ByteArray) = sumB y := rfl
  rw [hsy] at C7
  have HE := Lib.hid he
  have HT := Lib.hid ht
  rcases hc with ⟨rfl, hr⟩ | ⟨rfl, rfl⟩
  · have hfit : ∃ (v : Int) (tb : Bool), fitsD x y = v ∧ ((sumB y).toList == r.toList) = tb ∧ (v = 0 ∧ tb = true ∨ v = 10 ∧ tb = false) := by
      by_cases h : sumB y = r
      · exact ⟨0, true, by unfold fitsD; rw [hp, if_pos rfl, if_pos h], by rw [toList_beq]; exact decide_eq_true h, Or.inl ⟨rfl, rfl⟩⟩
      · exact ⟨10, false, by unfold fitsD; rw [hp, if_pos rfl, if_neg h], by rw [toList_beq]; exact decide_eq_false h, Or.inr ⟨rfl, rfl⟩⟩
    obtain ⟨v, tb, hv, htb, hvt⟩ := hfit
    rw [hv] at C4
    have HP := Lib.hid hp
    clear hsy hv hp he ht hr
    generalize sumB y = sy at C7 htb
    rcases hvt with ⟨rfl, rfl⟩ | ⟨rfl, rfl⟩
    all_goals
      go_enter Tryd.func4, Tryd.ntmps4
      go_wp2_with fail
      refine (C1.out _).mono ?_
      rintro e w1 ⟨rfl, rfl⟩
      go_wp2_with fail
      refine (C2.out _).mono ?_
      rintro e w1 ⟨rfl, rfl⟩
      go_wp2_with fail
      refine (C3.out _ HE.out).mono ?_
      rintro e w1 ⟨rfl, hb1⟩
      have HE1 := Lib.hid (HE.out.keep hb1)
      have HT1 := Lib.hid (HT.out.keep HT.out.many hb1)
      have B1 := Lib.hid hb1
      clear hb1
      go_wp2_with fail
      refine (C4.out _ HE1.out HT1.out).mono ?_
      rintro e w2 ⟨rfl, hb2⟩
      have HT2 := Lib.hid (HT1.out.keep HT1.out.many hb2)
      have B2 := Lib.hid (B1.out.trans (hb2.mono B1.out.size))
      clear hb2 HE1 HT1 B1
      go_wp2_with fail
      refine (C5.out _).mono ?_
      rintro e w3 ⟨y3, b3, rfl, hcase, hb3⟩
      rcases hcase with ⟨rfl, h3⟩ | ⟨_, h3⟩
      case inr => rw [HP.out] at h3; cases h3
      have hy3 : y3 = r := by rw [HP.out] at h3; cases h3; rfl
      subst hy3
      have HT3 := Lib.hid (HT2.out.keep HT2.out.many hb3)
      have B3 := Lib.hid (B2.out.trans (hb3.mono B2.out.size))
      have tr : (y3.toList == y3.toList) = true := by rw [toList_beq]; exact decide_eq_true rfl
      clear hb3 HT2 B2 h3
      go_wp2_with fail
      refine (C6.out _ HT3.out).mono ?_
      rintro e w4 ⟨rfl, hb4⟩
      have B4 := Lib.hid (B3.out.trans (hb4.mono B3.out.size))
      clear hb4 HT3 B3
      go_wp2_with fail
      refine (C7.out _).mono ?_
      rintro e w5 ⟨rfl, hb5⟩
      have B5 := Lib.hid (B4.out.trans (hb5.mono B4.out.size))
      clear hb5 B4
      go_wp2_with fail
      go_ret
      exact ⟨rfl, B5.out⟩
  · have hv : fitsD x y = 6 := by unfold fitsD; rw [hp]; rfl
    rw [hv] at C4
    have HP := Lib.hid hp
    clear hsy hv hp he ht C7
    go_enter Tryd.func4, Tryd.ntmps4
    go_wp2_with fail
    refine (C1.out _).mono ?_
    rintro e w1 ⟨rfl, rfl⟩
    go_wp2_with fail
    refine (C2.out _).mono ?_
    rintro e w1 ⟨rfl, rfl⟩
    go_wp2_with fail
    refine (C3.out _ HE.out).mono ?_
    rintro e w1 ⟨rfl, hb1⟩
    have HE1 := Lib.hid (HE.out.keep hb1)
    have HT1 := Lib.hid (HT.out.keep HT.out.many hb1)
    have B1 := Lib.hid hb1
    clear hb1
    go_wp2_with fail
    refine (C4.out _ HE1.out HT1.out).mono ?_
    rintro e w2 ⟨rfl, hb2⟩
    have HT2 := Lib.hid (HT1.out.keep HT1.out.many hb2)
    have B2 := Lib.hid (B1.out.trans (hb2.mono B1.out.size))
    clear hb2 HE1 HT1 B1
    go_wp2_with fail
    refine (C5.out _).mono ?_
    rintro e w3 ⟨y3, b3, rfl, hcase, hb3⟩
    rcases hcase with ⟨_, h3⟩ | ⟨rfl, h3⟩
    case inl => rw [HP.out] at h3; cases h3
    have HT3 := Lib.hid (HT2.out.keep HT2.out.many hb3)
    have B3 := Lib.hid (B2.out.trans (hb3.mono B2.out.size))
    clear hb3 HT2 B2 h3
    go_wp2_with fail
    refine (C6.out _ HT3.out).mono ?_
    rintro e w4 ⟨rfl, hb4⟩
    have B4 := Lib.hid (B3.out.trans (hb4.mono B3.out.size))
    clear hb4 HT3 B3
    go_wp2_with fail
    go_ret
    exact ⟨rfl, B4.out⟩
end Go.Proofs.YtiebdmamjlgeoaaDoor
