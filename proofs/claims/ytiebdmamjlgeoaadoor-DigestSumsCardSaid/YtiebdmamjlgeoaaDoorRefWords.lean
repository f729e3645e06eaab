/-
  The document's own Of and Same, by contracts. Conditions: fewer than 2^40 bytes; rows of words of one length.
-/
import Derived.Test.YtiebdmamjlgeoaaDoorRefSum
import Derived.Test.YtiebdmamjlgeoaaDoorRefReads
import Derived.Test.YtiebdmamjlgeoaaDoorLawD
namespace Go.Proofs.YtiebdmamjlgeoaaDoor
open Go.RowKit

set_option maxRecDepth 100000 in
set_option maxHeartbeats 1000000 in
theorem refOf_any (s : ByteArray) (w : World) (hs : s.size < 1099511627776) :
    Calls Tryd.prog 12 #[.string s] w fun e w' => e = .returned (.string (ofB s)) ∧ Below w.heap.size w w' := by
  have S := Lib.hid (refSum_any s w hs)
  obtain ⟨x, hx⟩ : ∃ x : ByteArray, (⟨(shaL s.data.toList).toArray⟩ : ByteArray) = x := ⟨_, rfl⟩
  rw [hx] at S
  have xs : x.size = 32 := by rw [← hx]; show (shaL _).toArray.size = _; rw [List.size_toArray, shaL_length]
  have H := Lib.hid (fun w => refHex_any x w (by omega))
  obtain ⟨y, hy⟩ : ∃ y : ByteArray, (⟨(hexL x.data.toList).toArray⟩ : ByteArray) = y := ⟨_, rfl⟩
  have ys : y.size ≤ 64 := by
    rw [← hy]; show (hexL _).toArray.size ≤ _
    have h6 : x.data.toList.length = x.size := by simp
    rw [List.size_toArray, hexL_length]; omega
  have HO := Lib.hid (show ofB s = prefB ++ y by rw [← hy, ← hx]; rfl)
  rw [hy] at H
  clear hx hy xs
  go_enter Tryd.func12, Tryd.ntmps12
  go_wp2_with fail
  refine S.out.mono ?_
  rintro e w1 ⟨rfl, hb1⟩
  have B1 := Lib.hid hb1
  clear hb1 S
  go_wp2_with fail
  refine (H.out _).mono ?_
  rintro e w2 ⟨rfl, hb2⟩
  have B2 := Lib.hid (B1.out.trans (hb2.mono B1.out.size))
  clear hb2 H B1
  go_wp2_with fail
  go_ret
  exact ⟨by rw [HO.out]; rfl, B2.out⟩

set_option maxRecDepth 100000 in
set_option maxHeartbeats 1000000 in
theorem same_rows (l : List Int) (g h c d : Nat) (w : World) (hl : l.length ≤ 64) (hg : RowU w g l) (hh : RowU w h l) :
    Calls Tryd.prog 13 #[.slice (some ⟨g, 0, none⟩) l.length c, .slice (some ⟨h, 0, none⟩) l.length d] w fun e w' => e = .returned (.bool true) ∧ Below w.heap.size w w' := by
  have HG := Lib.hid hg
  have HH := Lib.hid hh
  obtain ⟨n, hn⟩ : ∃ n, l.length = n := ⟨_, rfl⟩
  rw [hn] at hl ⊢
  have HN := Lib.hid hn
  clear hg hh hn
  go_enter Tryd.func13, Tryd.ntmps13
  go_wp2_with fail
  go_loopw [13] (fun i wr => ∃ k : Nat, k ≤ n ∧ i = .int .i64 k ∧ Below w.heap.size w wr) (fun i _ => n - (intOf i).toNat)
  case atStart => exact ⟨0, Nat.zero_le _, rfl, Below.refl _ _⟩
  case round =>
    obtain ⟨k, hk, rfl, hb⟩ := hrel
    by_cases hlt : k < n
    · have cg := (HG.out.keep HG.out.1 hb).2 k (by rw [HN.out]; exact hlt)
      have ch := (HH.out.keep HH.out.1 hb).2 k (by rw [HN.out]; exact hlt)
      generalize l.getD k 0 = x at cg ch
      have HB := Lib.hid hb
      clear hb
      go_wp2_with fail
      go_quiet (fail)
      generalize nq = n1
      go_wp2_with fail
      go_roundw
      case rel => exact ⟨k + 1, by omega, by go_num, HB.out.trans ⟨rfl, rfl, rfl, Nat.le_refl _, fun _ _ => rfl⟩⟩
      case measure => simp [intOf]; omega
    · have hge : n ≤ k := by omega
      have HB := Lib.hid hb
      clear hb
      go_wp2_with fail
      go_ret
      exact ⟨rfl, HB.out⟩
end Go.Proofs.YtiebdmamjlgeoaaDoor
