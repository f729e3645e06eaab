/-
  DigestSums returns true at every input: the walk. Conditions: the tables lie where they lie.
-/
import Derived.Test.YtiebdmamjlgeoaaDoorRefWords
import Derived.Test.YtiebdmamjlgeoaaDoorRefRoots
namespace Go.Proofs.YtiebdmamjlgeoaaDoor
open Go.RowKit

set_option maxRecDepth 100000 in
set_option maxHeartbeats 2000000 in
theorem dsums_walk (s : ByteArray) (w : World) (ht : Tabs w) (hs : s.size ≤ maxLen) :
    Calls Tryd.prog 3 #[.string s] w fun e w' => e = .returned (.bool true) ∧ Below w.heap.size w w' := by
  unfold maxLen at hs
  have C1 := Lib.hid (fun w => short_any s w (by omega))
  have hxs := shortB_size s
  generalize shortB s = x at C1 hxs
  have C2 := Lib.hid (fun w => alive_any w)
  have C3 := Lib.hid (fun w ht => sum_one x w ht (by omega))
  have C4 := Lib.hid (fun w => refSum_any x w (by omega))
  have hsy : (⟨(shaL x.data.toList).toArray⟩ : ByteArray) = sumB x := rfl
  rw [hsy] at C4
  have C5 := Lib.hid (fun w ht => of_any x w ht (by omega))
  have C6 := Lib.hid (fun w => refOf_any x w (by omega))
  have C7 := Lib.hid (fun g h c d w (h1 : RowU w g keysL) (h2 : RowU w h keysL) => show Calls Tryd.prog 13 #[.slice (some ⟨g, 0, none⟩) 64 c, .slice (some ⟨h, 0, none⟩) 64 d] w fun e w' => e = .returned (.bool true) ∧ Below w.heap.size w w' from same_rows keysL g h c d w (by decide) h1 h2)
  have C8 := Lib.hid (fun g h c d w (h1 : RowU w g begins.toL) (h2 : RowU w h begins.toL) => show Calls Tryd.prog 13 #[.slice (some ⟨g, 0, none⟩) 8 c, .slice (some ⟨h, 0, none⟩) 8 d] w fun e w' => e = .returned (.bool true) ∧ Below w.heap.size w w' from same_rows begins.toL g h c d w (by decide) h1 h2)
  have HT := Lib.hid ht
  clear ht hsy
  generalize sumB x = y at C3 C4
  generalize ofB x = z at C5 C6
  have ty : (y.toList == y.toList) = true := by rw [toList_beq]; exact decide_eq_true rfl
  have tz : (z.toList == z.toList) = true := by rw [toList_beq]; exact decide_eq_true rfl
  go_enter Tryd.func3, Tryd.ntmps3
  go_wp2_with fail
  refine (C1.out _).mono ?_
  rintro e w1 ⟨rfl, rfl⟩
  go_wp2_with fail
  refine (C2.out _ HT.out).mono ?_
  rintro e w1 ⟨rfl, hb1⟩
  have HT1 := Lib.hid (HT.out.keep HT.out.many hb1)
  have B1 := Lib.hid hb1
  clear hb1 HT
  go_wp2_with fail
  refine (C3.out _ HT1.out).mono ?_
  rintro e w2 ⟨rfl, hb2⟩
  have HT2 := Lib.hid (HT1.out.keep HT1.out.many hb2)
  have B2 := Lib.hid (B1.out.trans (hb2.mono B1.out.size))
  clear hb2 HT1 B1
  go_wp2_with fail
  refine (C4.out _).mono ?_
  rintro e w3 ⟨rfl, hb3⟩
  have HT3 := Lib.hid (HT2.out.keep HT2.out.many hb3)
  have B3 := Lib.hid (B2.out.trans (hb3.mono B2.out.size))
  clear hb3 HT2 B2
  go_wp2_with fail
  refine (C5.out _ HT3.out).mono ?_
  rintro e w4 ⟨rfl, hb4⟩
  have B4 := Lib.hid (B3.out.trans (hb4.mono B3.out.size))
  clear hb4 HT3 B3
  go_wp2_with fail
  refine (C6.out _).mono ?_
  rintro e w5 ⟨rfl, hb5⟩
  have B5 := Lib.hid (B4.out.trans (hb5.mono B4.out.size))
  clear hb5 B4
  go_wp2_with fail
  refine (keys_ref _).mono ?_
  rintro e w6 ⟨⟨g6, rfl, hr6, hg6⟩, hb6⟩
  have B6 := Lib.hid (B5.out.trans (hb6.mono B5.out.size))
  have R6 := Lib.hid hr6
  clear hb6 hr6 B5
  go_wp2_with fail
  refine (roots_ref _).mono ?_
  rintro e w7 ⟨⟨g7, c7, rfl, hr7, hg7⟩, hb7⟩
  have R67 := Lib.hid (R6.out.keep R6.out.1 hb7)
  have R7 := Lib.hid hr7
  have B7 := Lib.hid (B6.out.trans (hb7.mono B6.out.size))
  clear hb7 hr7 B6 R6
  go_wp2_with fail
  refine (C7.out _ _ _ _ _ R67.out R7.out).mono ?_
  rintro e w8 ⟨rfl, hb8⟩
  have B8 := Lib.hid (B7.out.trans (hb8.mono B7.out.size))
  clear hb8 B7 R67 R7
  go_wp2_with fail
  refine (first_ref _).mono ?_
  rintro e w9 ⟨⟨g9, rfl, hr9, hg9⟩, hb9⟩
  have B9 := Lib.hid (B8.out.trans (hb9.mono B8.out.size))
  have R9 := Lib.hid hr9
  clear hb9 hr9 B8
  go_wp2_with fail
  refine (begins_ref _).mono ?_
  rintro e wa ⟨⟨ga, ca, rfl, hra, hga⟩, hba⟩
  have R9a := Lib.hid (R9.out.keep R9.out.1 hba)
  have Ra := Lib.hid hra
  have Ba := Lib.hid (B9.out.trans (hba.mono B9.out.size))
  clear hba hra B9 R9
  go_wp2_with fail
  refine (C8.out _ _ _ _ _ R9a.out Ra.out).mono ?_
  rintro e wb ⟨rfl, hbb⟩
  have Bb := Lib.hid (Ba.out.trans (hbb.mono Ba.out.size))
  clear hbb Ba R9a Ra
  go_wp2_with fail
  go_ret
  exact ⟨rfl, Bb.out⟩
end Go.Proofs.YtiebdmamjlgeoaaDoor
