/-
  The program's Print and Parse of manifests, by contracts. Conditions: the package-level variables as MLow says; words of fewer than 2^40 bytes, rows of at most 2^20.
-/
import Derived.Test.YtepcaglekgeamaaGreatDoorYMan2
import Derived.Test.YtepcaglekgeamaaGreatDoorYMan3
import Derived.Test.YtepcaglekgeamaaGreatDoorYPrt
import Derived.Test.YtepcaglekgeamaaGreatDoorYLike
namespace Go.Proofs.YtepcaglekgeamaaGreatDoor
open Go.RowKit

theorem printOut_valM (m : Man) (h : rightM m = true) : printOut (valM m) = (⟨(textM m).toArray⟩, 0) := by
  unfold printOut
  rw [if_pos (mayV_valM m h), textL_valM, if_pos (textM_le m h)]

structure Man.Few (m : Man) : Prop where
  small : m.Small
  layers : m.layers.length ≤ 1048576
  kids : m.kids.length ≤ 1048576

theorem ManAt.shape {w : World} {v : Value} {m : Man} (h : ManAt w v m) : ∃ (i : Bool) (c : ByteArray) (la : Option Addr) (nl lc : Nat) (ka : Option Addr) (nk kc : Nat), v = .agg #[.bool i, .string c, .slice la nl lc, .slice ka nk kc] ∧ m.index = i ∧ m.config = c ∧ m.layers.length = nl ∧ m.kids.length = nk := by
  obtain ⟨⟨lv, kv, rfl, hl, hk⟩, -, -, -⟩ := h
  obtain ⟨la, lc, rfl, -, -⟩ := hl.shape
  obtain ⟨ka, kc, rfl, -⟩ := hk.shape
  rw [List.length_map]
  exact ⟨_, _, la, _, lc, ka, _, kc, rfl, rfl, rfl, rfl, rfl⟩

set_option maxRecDepth 100000 in
set_option maxHeartbeats 4000000 in
theorem PrintM_t (m : Man) (v : Value) (w : World) (hv : ManAt w v m) (hf : m.Few) (he : MLow w) :
    Calls Tryz.prog 23 #[v] w fun e w' => e = .returned (.tuple #[.string (printM m).1, .int .i64 (printM m).2]) ∧ Below w.heap.size w w' := by
  obtain ⟨i, c, la, nl, lc, ka, nk, kc, rfl, -, -, -, -⟩ := hv.shape
  obtain ⟨W, hW⟩ : ∃ W, w.alloc (.cells #[.bool i, .string c, .slice la nl lc, .slice ka nk kc] 53) = W := ⟨_, rfl⟩
  have hb0 : Below w.heap.size w W := by rw [← hW]; exact below_new _ _
  have hM : At4 W w.heap.size (.bool i) (.string c) (.slice la nl lc) (.slice ka nk kc) := by rw [← hW]; exact At4.new _ _ _ _ _
  have R := Lib.hid (Right_t m _ W (hv.keep hb0) hf.small (he.below hb0))
  have WR := Lib.hid (fun w1 (h : Below w.heap.size w w1) => write_c m _ w1 (hv.keep h) hf.layers hf.kids)
  have PR := Lib.hid (fun w1 (h : Below w.heap.size w w1) v hv => Print_l (valM m) v w1 hv (he.t.below h))
  have HPV := Lib.hid (fun h => printOut_valM m h)
  obtain ⟨p0, p1, p2, p3⟩ := hM.cells
  have HM := Lib.hid hM
  have HB0 := Lib.hid hb0
  have HW := Lib.hid hW
  have HPM := Lib.hid (show ∀ r, rightM m = r → printM m = if r = true then (⟨(textM m).toArray⟩, 0) else (⟨#[]⟩, 1) from fun r h => by unfold printM; rw [h])
  obtain ⟨r, hr⟩ : ∃ r, rightM m = r := ⟨_, rfl⟩
  have HRR := Lib.hid hr
  rw [hr] at R
  clear hM hb0 hW hv hf he hr
  go_enter Tryz.func23, Tryz.ntmps23
  go_upto_region 1 with fail
  rw [HW.out]
  go_wp2_with fail
  refine R.out.mono ?_
  rintro e w1 ⟨rfl, hb1⟩
  have HB1 := Lib.hid (Below.then HB0.out hb1)
  obtain ⟨q0, q1, q2, q3⟩ := (HM.out.keep hb1).cells
  clear hb1 p0 p1 p2 p3
  cases r with
  | false =>
    have HO := Lib.hid (show printM m = (⟨#[]⟩, 1) from HPM.out false HRR.out)
    go_wp2_with fail
    go_ret2
    exact ⟨by rw [HO.out]; rfl, HB1.out⟩
  | true =>
    have HO := Lib.hid (show printM m = (⟨(textM m).toArray⟩, 0) from HPM.out true HRR.out)
    have HPO := Lib.hid (show printOut (valM m) = (⟨(textM m).toArray⟩, 0) from HPV.out HRR.out)
    go_wp2_with fail
    refine (WR.out _ HB1.out).mono ?_
    rintro e w2 ⟨v, rfl, hm⟩
    have HB2 := Lib.hid (Below.then HB1.out hm.below)
    have P := Lib.hid (PR.out w2 HB2.out v hm.is.isVal)
    rw [HPO.out] at P
    clear hm
    go_wp2_with fail
    refine P.out.mono ?_
    rintro e w3 ⟨rfl, hb3⟩
    have HB3 := Lib.hid (Below.then HB2.out hb3)
    clear hb3
    go_wp2_with fail
    go_ret2
    exact ⟨by rw [HO.out]; rfl, HB3.out⟩
end Go.Proofs.YtepcaglekgeamaaGreatDoor
