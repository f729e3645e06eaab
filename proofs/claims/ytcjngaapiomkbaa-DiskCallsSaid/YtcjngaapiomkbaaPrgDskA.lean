/-
  The program's isSector, mayHave, isPlace and left of a disk, by contracts. Conditions: strings no longer than one may be; left of sectors of 128 bytes.
-/
import Derived.Test.YtcjngaapiomkbaaRefDskL
namespace Go.Proofs.Ytcjngaapiomkbaa
open Go.RowKit

set_option maxRecDepth 100000 in
set_option maxHeartbeats 1000000 in
theorem isSector_t (s : ByteArray) (w : World) :
    Calls Try.prog 30 #[.string s] w fun e w' => e = .returned (.bool (s.size == 128)) ∧ w' = w := by
  by_cases h : s.size = 128
  · have q : ((s.size : Int) == 128) = true := beq_iff_eq.2 (by omega)
    have HO := Lib.hid (show (s.size == 128) = true from beq_iff_eq.2 h)
    clear h
    go_enter Try.func30, Try.ntmps30
    go_wp2_with fail
    go_ret
    exact ⟨by rw [HO.out]; rfl, rfl⟩
  · have q : ((s.size : Int) == 128) = false := beq_eq_false_iff_ne.2 (by omega)
    have HO := Lib.hid (show (s.size == 128) = false from beq_eq_false_iff_ne.2 h)
    clear h
    go_enter Try.func30, Try.ntmps30
    go_wp2_with fail
    go_ret
    exact ⟨by rw [HO.out]; rfl, rfl⟩

def haveB (n : Int) : Bool := decide (4 ≤ n) && decide (n ≤ 64)
set_option maxRecDepth 100000 in
set_option maxHeartbeats 1000000 in
theorem mayHave_t (n : Int) (w : World) :
    Calls Try.prog 21 #[.int .i64 n] w fun e w' => e = .returned (.bool (haveB n)) ∧ w' = w := by
  by_cases h4 : 4 ≤ n
  · by_cases h64 : n ≤ 64
    · have HO := Lib.hid (show haveB n = true by simp [haveB, h4, h64])
      go_enter Try.func21, Try.ntmps21
      go_wp2_with fail
      go_ret
      exact ⟨by rw [HO.out]; rfl, rfl⟩
    · have HO := Lib.hid (show haveB n = false by simp [haveB, h64])
      go_enter Try.func21, Try.ntmps21
      go_wp2_with fail
      go_ret
      exact ⟨by rw [HO.out]; rfl, rfl⟩
  · have HO := Lib.hid (show haveB n = false by simp [haveB, h4])
    go_enter Try.func21, Try.ntmps21
    go_wp2_with fail
    go_ret
    exact ⟨by rw [HO.out]; rfl, rfl⟩

def placeB (n : Nat) (at' : Int) : Bool := decide (0 ≤ at') && decide (at' < (n : Int))
set_option maxRecDepth 100000 in
set_option maxHeartbeats 1000000 in
theorem isPlace_t (a a2 : Option Addr) (n c n2 c2 : Nat) (at' : Int) (w : World) :
    Calls Try.prog 24 #[.agg #[.slice a n c, .slice a2 n2 c2], .int .i64 at'] w fun e w' => e = .returned (.bool (placeB n at')) ∧ Below w.heap.size w w' := by
  obtain ⟨W, hW⟩ : ∃ W, w.alloc (.cells #[.slice a n c, .slice a2 n2 c2] 25) = W := ⟨_, rfl⟩
  have HB0 := Lib.hid (show Below w.heap.size w W by rw [← hW]; exact below_new _ _)
  have hA : At2 25 W w.heap.size (.slice a n c) (.slice a2 n2 c2) := by rw [← hW]; exact At2.new _ _ _ _
  obtain ⟨a0, a1⟩ := hA.cells
  have HW := Lib.hid hW
  clear hA hW
  by_cases h0 : 0 ≤ at'
  · by_cases h1 : at' < (n : Int)
    · have HO := Lib.hid (show placeB n at' = true by simp [placeB, h0, h1])
      go_enter Try.func24, Try.ntmps24
      go_upto_region 1 with fail
      rw [HW.out]
      go_wp2_with fail
      go_ret
      exact ⟨by rw [HO.out]; rfl, HB0.out⟩
    · have HO := Lib.hid (show placeB n at' = false by simp [placeB, h1])
      go_enter Try.func24, Try.ntmps24
      go_upto_region 1 with fail
      rw [HW.out]
      go_wp2_with fail
      go_ret
      exact ⟨by rw [HO.out]; rfl, HB0.out⟩
  · have HO := Lib.hid (show placeB n at' = false by simp [placeB, h0])
    go_enter Try.func24, Try.ntmps24
    go_upto_region 1 with fail
    rw [HW.out]
    go_wp2_with fail
    go_ret
    exact ⟨by rw [HO.out]; rfl, HB0.out⟩

/-- What a fate makes of a sector. -/
def fateB (f : Int) (s x : ByteArray) : ByteArray := if f = 1 then x else if f = 2 then tornB s x else s
theorem whole_halves (s : ByteArray) (h : s.size = 128) : s.extract 0 128 = s := by
  apply ByteArray.ext
  rw [ByteArray.data_extract]
  exact Array.extract_eq_self_of_le (by have : s.data.size = 128 := h; omega)
set_option maxRecDepth 100000 in
set_option maxHeartbeats 2000000 in
theorem left_t (f : Int) (s x : ByteArray) (w : World) (hs : s.size = 128) (hx : x.size = 128) :
    Calls Try.prog 29 #[.int .i64 f, .string s, .string x] w fun e w' => e = .returned (.string (fateB f s x)) ∧ Below w.heap.size w w' := by
  have HT := Lib.hid (show tornB s x = x.extract 0 64 ++ s.extract 64 128 by rw [tornB, hs])
  have HS := Lib.hid (whole_halves s hs)
  have HX := Lib.hid (whole_halves x hx)
  by_cases h1 : f = 1
  · have HO := Lib.hid (show fateB f s x = x.extract 0 128 by rw [HX.out]; simp [fateB, h1])
    subst h1
    go_enter Try.func29, Try.ntmps29
    go_upto_region 1 with fail
    go_quiet (fail)
    go_wp2_with fail
    go_ret
    exact ⟨by rw [HO.out]; rfl, below_drewN (Below.refl _ _) _⟩
  · have q1 : (f == 1) = false := beq_eq_false_iff_ne.2 h1
    by_cases h2 : f = 2
    · have HO := Lib.hid (show fateB f s x = x.extract 0 64 ++ s.extract 64 128 by rw [← HT.out]; simp [fateB, h2])
      subst h2
      go_enter Try.func29, Try.ntmps29
      go_upto_region 1 with fail
      go_quiet (fail)
      go_wp2_with fail
      go_ret
      exact ⟨by rw [HO.out]; rfl, below_drewN (Below.refl _ _) _⟩
    · have q2 : (f == 2) = false := beq_eq_false_iff_ne.2 h2
      have HO := Lib.hid (show fateB f s x = s.extract 0 128 by rw [HS.out]; simp [fateB, h1, h2])
      clear h1 h2
      go_enter Try.func29, Try.ntmps29
      go_upto_region 1 with fail
      go_quiet (fail)
      go_wp2_with fail
      go_ret
      exact ⟨by rw [HO.out]; rfl, below_drewN (Below.refl _ _) _⟩
end Go.Proofs.Ytcjngaapiomkbaa
