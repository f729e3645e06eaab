/-
  CronParses, the law's function, returns true at every input: its walk. Conditions: the package-level variables as CEnv says.
-/
import Derived.Test.YtccobaohmbilpaaDoorRefCronPs
import Derived.Test.YtccobaohmbilpaaDoorLawCAlive
namespace Go.Proofs.YtccobaohmbilpaaDoor
open Go.RowKit

set_option maxRecDepth 100000 in
set_option maxHeartbeats 8000000 in
theorem parses_walk (s : ByteArray) (w : World) {aA aN aO : Addr} (hs : s.size ≤ maxLen) (he : CEnv w aA aN aO) :
    Calls Tryd.prog 3 #[.string s] w fun e w' => e = .returned (.bool true) ∧ Below w.heap.size w w' := by
  unfold maxLen at hs
  have PT := Lib.hid (fun (x : ByteArray) => Parse_t x w he)
  have RP := Lib.hid (fun (x : ByteArray) w1 (h : x.size ≤ 300) => refParse_t x w1 h)
  have AL := Lib.hid (fun w1 (h : CEnv w1 aA aN aO) => alive_t w1 h)
  have HE := Lib.hid he
  clear he
  go_enter Tryd.func3, Tryd.ntmps3
  go_upto_region 2 with fail
  obtain ⟨x, hx⟩ : ∃ x, s.extract 0 (min (s.size : Int) 210).toNat = x := ⟨_, rfl⟩
  rw [hx]
  have hxs : x.size ≤ 300 := by rw [← hx]; simp; omega
  clear hx hs
  have P1 := Lib.hid (PT.out x)
  have R1 := Lib.hid (fun w1 => RP.out x w1 hxs)
  obtain ⟨p, hp⟩ : ∃ p, parseC x.data.toList = p := ⟨_, rfl⟩
  rw [hp] at P1 R1
  clear hp PT RP
  cases p with
  | none =>
    unfold parseOut crnV noCrn at P1
    unfold refOut crnV noCrn at R1
    simp only at P1 R1
    go_wp2_with fail
    refine P1.out.mono ?_
    rintro e w1 ⟨rfl, hb1⟩
    have hbb1 := Below.then hb1 (below_new w1 (.cells #[.int .u64 ((0 : Nat) : Int), .int .u64 ((0 : Nat) : Int), .int .u64 ((0 : Nat) : Int), .int .u64 ((0 : Nat) : Int), .int .u64 ((0 : Nat) : Int), .bool false, .bool false] 24))
    have HN1 := Lib.hid (Crn7.new w1 ⟨0, 0, 0, 0, 0, false, false⟩)
    have HB1 := Lib.hid hbb1
    clear hb1 hbb1
    go_wp2_with fail
    refine (R1.out _).mono ?_
    rintro e w2 ⟨rfl, hb2⟩
    have hbb2 := Below.then hb2 (below_new w2 (.cells #[.int .u64 ((0 : Nat) : Int), .int .u64 ((0 : Nat) : Int), .int .u64 ((0 : Nat) : Int), .int .u64 ((0 : Nat) : Int), .int .u64 ((0 : Nat) : Int), .bool false, .bool false] 24))
    have HN2 := Lib.hid (HN1.out.keep hbb2)
    have HM2 := Lib.hid (Crn7.new w2 ⟨0, 0, 0, 0, 0, false, false⟩)
    have HB2 := Lib.hid (HB1.out.trans (hbb2.mono HB1.out.size))
    have HE2 := Lib.hid (HE.out.keep HB2.out)
    clear hb2 hbb2
    go_wp2_with fail
    refine (AL.out _ HE2.out).mono ?_
    rintro e w3 ⟨rfl, hb3⟩
    have HB3 := Lib.hid (HB2.out.trans (hb3.mono HB2.out.size))
    obtain ⟨k0, k1, k2, k3, k4, k5, k6⟩ := (HN2.out.keep hb3).cells
    obtain ⟨l0, l1, l2, l3, l4, l5, l6⟩ := (HM2.out.keep hb3).cells
    clear hb3
    go_wp2_with fail
    go_ret
    exact ⟨by first | rfl | simp, HB3.out⟩
  | some c =>
    obtain ⟨c1, c2, c3, c4, c5, b5, b6⟩ := c
    unfold parseOut crnV at P1
    unfold refOut crnV at R1
    simp only at P1 R1
    go_wp2_with fail
    refine P1.out.mono ?_
    rintro e w1 ⟨rfl, hb1⟩
    have hbb1 := Below.then hb1 (below_new w1 (.cells #[.int .u64 c1, .int .u64 c2, .int .u64 c3, .int .u64 c4, .int .u64 c5, .bool b5, .bool b6] 24))
    have HN1 := Lib.hid (Crn7.new w1 ⟨c1, c2, c3, c4, c5, b5, b6⟩)
    have HB1 := Lib.hid hbb1
    clear hb1 hbb1
    go_wp2_with fail
    refine (R1.out _).mono ?_
    rintro e w2 ⟨rfl, hb2⟩
    have hbb2 := Below.then hb2 (below_new w2 (.cells #[.int .u64 c1, .int .u64 c2, .int .u64 c3, .int .u64 c4, .int .u64 c5, .bool b5, .bool b6] 24))
    have HN2 := Lib.hid (HN1.out.keep hbb2)
    have HM2 := Lib.hid (Crn7.new w2 ⟨c1, c2, c3, c4, c5, b5, b6⟩)
    have HB2 := Lib.hid (HB1.out.trans (hbb2.mono HB1.out.size))
    have HE2 := Lib.hid (HE.out.keep HB2.out)
    clear hb2 hbb2
    go_wp2_with fail
    refine (AL.out _ HE2.out).mono ?_
    rintro e w3 ⟨rfl, hb3⟩
    have HB3 := Lib.hid (HB2.out.trans (hb3.mono HB2.out.size))
    obtain ⟨k0, k1, k2, k3, k4, k5, k6⟩ := (HN2.out.keep hb3).cells
    obtain ⟨l0, l1, l2, l3, l4, l5, l6⟩ := (HM2.out.keep hb3).cells
    clear hb3
    go_wp2_with fail
    go_ret
    exact ⟨by first | rfl | simp, HB3.out⟩
end Go.Proofs.YtccobaohmbilpaaDoor
