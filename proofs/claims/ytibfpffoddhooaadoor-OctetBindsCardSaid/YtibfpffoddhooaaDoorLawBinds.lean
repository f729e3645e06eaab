/-
  OctetBinds returns true at every input: the walk. Conditions: the package-level errors lie where they lie.
-/
import Derived.Test.YtibfpffoddhooaaDoorLawOctet
import Derived.Test.YtibfpffoddhooaaDoorLawApart
import Derived.Test.YtibfpffoddhooaaDoorRefBinds
namespace Go.Proofs.YtibfpffoddhooaaDoor
open Go.RowKit

/-- What taking apart answers, as a number and texts. -/
def looseN (s : ByteArray) : Int × List ByteArray := match looseB s with
  | .inl ss => (0, ss)
  | .inr n => (n, [])
theorem LooseOut.one {s : ByteArray} {w w' : World} {e : Ending} (h : LooseOut s w e w') : ∃ a c, StrRow w' (.slice a (looseN s).2.length c) (looseN s).2 ∧ e = .returned (.tuple #[.slice a (looseN s).2.length c, .int .i64 (looseN s).1]) ∧ Below w.heap.size w w' := by
  rcases h with ⟨ss, v, h1, -, h2, rfl, hb⟩ | ⟨n, h1, rfl, hb⟩
  · have e : looseN s = (0, ss) := by unfold looseN; rw [h1]
    rw [e]
    obtain ⟨a, c, rfl⟩ := strs_shape h2
    exact ⟨a, c, h2, rfl, hb⟩
  · have e : looseN s = (n, []) := by unfold looseN; rw [h1]
    rw [e]
    exact ⟨none, 0, Or.inl ⟨rfl, rfl⟩, rfl, hb⟩

set_option maxRecDepth 100000 in
set_option maxHeartbeats 4000000 in
theorem binds_walk (aD aS aZ : Addr) (v : Value) (ss : List ByteArray) (s : ByteArray) (w : World) (he : Env w aD aS aZ) (hr : StrRow w v ss) (hz : ∀ s ∈ ss, s.size ≤ maxLen) (hs : s.size ≤ maxLen) :
    Calls Tryd.prog 4 #[v, .string s] w fun e w' => e = .returned (.bool true) ∧ Below w.heap.size w w' := by
  unfold maxLen at hs
  obtain ⟨a0, c0, rfl⟩ := strs_shape hr
  have HF := Lib.hid (few_any _ ss w.drew (hr.keep (Below.refl _ _).drew) hz)
  obtain ⟨q, hq⟩ : ∃ q, min s.size 9000 = q := ⟨_, rfl⟩
  have hq' : min ((s.size : Nat) : Int) 9000 = (q : Int) := by omega
  have hqs : q ≤ s.size := by omega
  obtain ⟨x, hx⟩ : ∃ x, s.extract 0 q = x := ⟨_, rfl⟩
  have hxs : x.size ≤ 9000 := by rw [← hx, ByteArray.size_extract]; omega
  have HE := Lib.hid he
  clear he hr hz hq
  obtain ⟨L, hLe⟩ : ∃ L, fewB ss = L := ⟨_, rfl⟩
  have hLz : ∀ s ∈ L, s.size ≤ 4100 := by rw [← hLe]; exact fewB_size ss
  have BL := Lib.hid (fun v w he h => Bind_any aD aS aZ v L w he h (fun s hs => by have := hLz s hs; unfold maxLen; omega))
  have C1 := Lib.hid (fun w he => Loose_any aD aS aZ x w he (by omega))
  have C2 := Lib.hid (fun w => refLoose_any x w)
  have HLE := Lib.hid hLe
  have HLZ := Lib.hid hLz
  clear hLe hLz
  go_enter Tryd.func4, Tryd.ntmps4
  go_wp2_with fail
  go_region_with (go_at_call 18; refine HF.out.mono ?_; rintro e w1 ⟨⟨u, rfl, hu, x1, n1, d1, rfl⟩, hb⟩)
  all_goals
    have B1 := Lib.hid (show Below w.heap.size w w1 from (Below.refl _ _).drew.trans hb)
    have HE1 := Lib.hid (HE.out.keep B1.out)
    have HL1 := Lib.hid (show StrRow w1 (.slice (some x1) n1 d1) L by have := hu; rwa [HLE.out] at this)
    clear hb hu
    go_wp2_with fail
    refine (BL.out _ w1 HE1.out HL1.out).mono ?_
    rintro e w2 ⟨rfl, hb2⟩
    have HE2 := Lib.hid (HE1.out.keep hb2)
    have HL2 := Lib.hid (HL1.out.keep hb2)
    have B2 := Lib.hid (B1.out.trans (hb2.mono B1.out.size))
    have D2 := Lib.hid (C1.out w2 HE2.out)
    clear hb2 B1 HE1 HL1 hx
    go_wp2_with fail
    refine D2.out.mono ?_
    intro e w3 h3
    obtain ⟨a3, c3, h3r, rfl, hb3⟩ := h3.one
    have HE3 := Lib.hid (HE2.out.keep hb3)
    have HL3 := Lib.hid (HL2.out.keep hb3)
    have B3 := Lib.hid (B2.out.trans (hb3.mono B2.out.size))
    have HR3 := Lib.hid h3r
    have D3 := Lib.hid (C2.out w3)
    clear h3 h3r hb3 HE2 HL2 B2 D2
    go_wp2_with fail
    refine D3.out.mono ?_
    intro e w4 h4
    obtain ⟨a4, c4, h4r, rfl, hb4⟩ := h4.one
    have HE4 := Lib.hid (HE3.out.keep hb4)
    have HL4 := Lib.hid (HL3.out.keep hb4)
    have B4 := Lib.hid (B3.out.trans (hb4.mono B3.out.size))
    have SM := Lib.hid (Same_any _ _ _ _ w4 (HR3.out.keep hb4) h4r)
    clear h4 h4r hb4 HE3 HL3 B3 D3 HR3
    rw [show decide ((looseN x).2 = (looseN x).2) = true from by simp] at SM
    generalize (looseN x).2.length = m4 at SM ⊢
    generalize (looseN x).1 = k4
    go_wp2_with fail
    refine SM.out.mono ?_
    rintro e w5 ⟨rfl, hb5⟩
    have HE5 := Lib.hid (HE4.out.keep hb5)
    have HL5 := Lib.hid (HL4.out.keep hb5)
    have B5 := Lib.hid (B4.out.trans (hb5.mono B4.out.size))
    clear hb5 HE4 HL4 B4 SM
    go_wp2_with fail
    refine (alive_any aD aS aZ w5 HE5.out).mono ?_
    rintro e w6 ⟨rfl, hb6⟩
    have HL6 := Lib.hid (HL5.out.keep hb6)
    have B6 := Lib.hid (B5.out.trans (hb6.mono B5.out.size))
    have M6 := Lib.hid (May_any _ L w6 HL6.out (fun s hs => by have := HLZ.out s hs; unfold maxLen; omega))
    clear hb6 HE5 HL5 B5
    by_cases hm : mayB L = true
    · have im := mayB_iff hm
      have hout : bindOut L = (⟨(bindL L).toArray⟩, 0) := by simp [bindOut, hm]
      have RB := Lib.hid (refBind_any _ L w6 HL6.out im.2 im.1)
      rw [hm] at M6
      rw [hout]
      obtain ⟨A, hA⟩ : ∃ A : ByteArray, ⟨(bindL L).toArray⟩ = A := ⟨_, rfl⟩
      rw [hA] at RB
      rw [hA]
      clear hA hout im hm
      go_wp2_with fail
      refine M6.out.mono ?_
      rintro e w7 ⟨rfl, rfl⟩
      go_wp2_with fail
      refine RB.out.mono ?_
      rintro e w8 ⟨rfl, hb8⟩
      go_wp2_with fail
      go_ret
      exact ⟨rfl, B6.out.trans (hb8.mono B6.out.size)⟩
    · have hm' : mayB L = false := by simpa using hm
      have hout : bindOut L = (⟨#[]⟩, 2) := by simp [bindOut, hm]
      rw [hm'] at M6
      rw [hout]
      clear hout hm hm'
      go_wp2_with fail
      refine M6.out.mono ?_
      rintro e w7 ⟨rfl, rfl⟩
      go_wp2_with fail
      go_ret
      exact ⟨rfl, B6.out⟩
end Go.Proofs.YtibfpffoddhooaaDoor
