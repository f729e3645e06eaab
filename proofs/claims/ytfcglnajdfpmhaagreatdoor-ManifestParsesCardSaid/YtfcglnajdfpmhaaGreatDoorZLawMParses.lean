/-
  ManifestParses' walk: it answers true. Conditions: the package-level variables as MEnv says.
-/
import Derived.Test.YtfcglnajdfpmhaaGreatDoorZLMKt
import Derived.Test.YtfcglnajdfpmhaaGreatDoorZAliv
import Derived.Test.YtfcglnajdfpmhaaGreatDoorZRefM3
import Derived.Test.YtfcglnajdfpmhaaGreatDoorZRefM5
import Derived.Deep.CutBlock
import Derived.Deep.CutRange
import Derived.Deep.DeepCutAuto
import Derived.Deep.RegionWith
import Derived.BigQuiet
namespace Go.Proofs.YtfcglnajdfpmhaaGreatDoor
open Go.RowKit

set_option maxRecDepth 100000 in
set_option maxHeartbeats 8000000 in
theorem mparses_walk (s : ByteArray) (w : World) (he : MEnv w) :
    Calls Tryz.prog 4 #[.string s] w fun e w' => e = .returned (.bool true) ∧ Below w.heap.size w w' := by
  obtain ⟨p, hp⟩ : ∃ p, min s.size 4200 = p := ⟨_, rfl⟩
  have hp' : min ((s.size : Nat) : Int) 4200 = (p : Int) := by omega
  have hps : p ≤ s.size := by omega
  have hsz : (s.extract 0 p).size ≤ 1073741824 := by rw [ByteArray.size_extract]; omega
  have P0 := Lib.hid (ParseM_t (s.extract 0 p) w hsz he)
  have RP := Lib.hid (fun w' (h : Below w.heap.size w w') => refParseM_t (s.extract 0 p) w' hsz (he.below h))
  have AL := Lib.hid (fun w' (h : Below w.heap.size w w') => aliveM_t w' (he.below h).lo)
  obtain ⟨s1, hs1⟩ : ∃ x, s.extract 0 p = x := ⟨_, rfl⟩
  have HS1 := Lib.hid hs1
  rw [hs1] at P0 RP
  obtain ⟨m, k, hmk⟩ : ∃ m k, parseM s1 = (m, k) := ⟨_, _, rfl⟩
  have HMK := Lib.hid hmk
  have SA := Lib.hid (fun va vb w' (ha : ManAt w' va m) (hb : ManAt w' vb m) => refSame_t m m va vb w' ha hb)
  clear hsz he hs1 hp hmk
  go_enter Tryz.func4, Tryz.ntmps4
  go_upto_region 2 with fail
  rw [HS1.out]
  clear hp' hps
  go_wp2_with fail
  refine P0.out.mono ?_
  rintro e w1 ⟨r1, rfl, hm1⟩
  rw [HMK.out] at hm1 ⊢
  obtain ⟨i1, c1, la1, nl1, lc1, ka1, nk1, kc1, rfl, -, -, -, -⟩ := hm1.man.shape
  obtain ⟨W1, hW1⟩ : ∃ x, w1.alloc (.cells #[.bool i1, .string c1, .slice la1 nl1 lc1, .slice ka1 nk1 kc1] 25) = x := ⟨_, rfl⟩
  have HX := Lib.hid (show VarM W1 w1.heap.size i1 c1 la1 nl1 lc1 ka1 nk1 kc1 m by rw [← hW1]; exact VarM.new hm1)
  have HB1 := Lib.hid (show Below w.heap.size w W1 by rw [← hW1]; exact Below.then hm1.below (below_new _ _))
  have HW1 := Lib.hid hW1
  clear hW1 hm1
  have Q1 := Lib.hid (RP.out W1 HB1.out)
  go_upto_region 3 with fail
  rw [HW1.out]
  go_wp2_with fail
  refine Q1.out.mono ?_
  rintro e w2 ⟨r2, rfl, hm2⟩
  rw [HMK.out] at hm2 ⊢
  obtain ⟨i2, c2, la2, nl2, lc2, ka2, nk2, kc2, rfl, -, -, -, -⟩ := hm2.man.shape
  obtain ⟨W2, hW2⟩ : ∃ x, w2.alloc (.cells #[.bool i2, .string c2, .slice la2 nl2 lc2, .slice ka2 nk2 kc2] 25) = x := ⟨_, rfl⟩
  have HY := Lib.hid (show VarM W2 w2.heap.size i2 c2 la2 nl2 lc2 ka2 nk2 kc2 m by rw [← hW2]; exact VarM.new hm2)
  have hb2 : Below W1.heap.size W1 W2 := by rw [← hW2]; exact Below.then hm2.below (below_new _ _)
  have HX2 := Lib.hid (HX.out.keep hb2)
  have HB2 := Lib.hid (Below.then HB1.out hb2)
  have HW2 := Lib.hid hW2
  clear hW2 hm2 hb2
  have A2 := Lib.hid (AL.out W2 HB2.out)
  have qk : (k == k) = true := by simp
  go_upto_region 4 with fail
  rw [HW2.out]
  go_wp2_with fail
  refine A2.out.mono ?_
  rintro e w3 ⟨rfl, hb3⟩
  have HX3 := Lib.hid (HX2.out.keep hb3)
  have HY3 := Lib.hid (HY.out.keep hb3)
  have HB3 := Lib.hid (Below.then HB2.out hb3)
  clear hb3
  obtain ⟨a0, a1, a2, a3⟩ := HX3.out.1.cells
  obtain ⟨b0, b1, b2, b3⟩ := HY3.out.1.cells
  have S3 := Lib.hid (SA.out _ _ w3 HX3.out.2 HY3.out.2)
  go_wp2_with fail
  refine S3.out.mono ?_
  rintro e w4 ⟨r4, rfl, hr4, hb4⟩
  obtain rfl : r4 = true := hr4.2 rfl
  have HEND := Lib.hid (Below.then HB3.out hb4)
  clear hb4 hr4
  go_wp2_with fail
  go_ret
  exact ⟨rfl, HEND.out⟩
end Go.Proofs.YtfcglnajdfpmhaaGreatDoor
