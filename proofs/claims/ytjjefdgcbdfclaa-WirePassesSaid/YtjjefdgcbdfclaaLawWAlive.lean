/-
  The laws' alive of nets, by a contract. Conditions: none.
-/
import Derived.Test.YtjjefdgcbdfclaaNetLaws
import Derived.Test.YtjjefdgcbdfclaaNetVar
import Derived.Test.YtjjefdgcbdfclaaNetInts
import Derived.Test.YtjjefdgcbdfclaaPrgWire
namespace Go.Proofs.Ytjjefdgcbdfclaa
open Go.RowKit Go.WideShapes

abbrev oneN : Nt := ⟨[⟨1, 3, ⟨#[120]⟩, 0⟩], 1, 0⟩
abbrev goneN : Nt := ⟨[], 1, 0⟩
theorem noN_at (w : World) : NtAt w (.agg #[nilV, .int .i64 0, .int .i64 0]) noN :=
  ⟨⟨nilV, rfl, Or.inl ⟨rfl, Or.inl rfl⟩⟩, by simp [noN], ⟨by decide, by decide⟩, ⟨by decide, by decide⟩⟩
theorem noN_right : noN.right = true := by rfl
theorem alive_send : sendA noN 3 ⟨#[120]⟩ = (oneN, 1, 0) := send_ok noN_right ⟨by decide, by decide⟩ (by decide) (by decide) (by decide)
theorem alive_take : takeA oneN 0 = (goneN, ⟨1, 3, ⟨#[120]⟩, 0⟩, 0) := by rfl
set_option maxRecDepth 100000 in
set_option maxHeartbeats 4000000 in
theorem alive13_t (w : World) : Calls Try.prog 16 #[] w fun e w' => e = .returned (.bool true) ∧ Below w.heap.size w w' := by
  have HB := Lib.hid (Below.refl w.heap.size w)
  go_enter Try.func16, Try.ntmps16
  have C0 := Send_t _ noN 3 ⟨#[120]⟩ w (noN_at _) ⟨by decide, by decide⟩ (by decide)
  rw [alive_send] at C0
  have C := Lib.hid C0
  clear C0
  go_wp2_with fail
  refine C.out.mono ?_
  rintro e w1 ⟨v1, rfl, hv1, hb1⟩
  obtain ⟨ya, yk, yc, yl, yt, rfl⟩ := hv1.three
  have HV1 := Lib.hid hv1
  clear hv1
  replace HB := Lib.hid (Below.then HB.out hb1)
  clear C hb1
  obtain ⟨w2, hw2⟩ : ∃ x, w1.alloc (.cells #[.slice ya yk yc, .int .i64 yl, .int .i64 yt] 24) = x := ⟨_, rfl⟩
  obtain ⟨Ba, hBa⟩ : ∃ x, w1.heap.size = x := ⟨_, rfl⟩
  have Ha := Lib.hid (show VarN w2 Ba oneN by rw [← hw2, ← hBa]; exact VarN.new HV1.out)
  have hb2 : Below w1.heap.size w1 w2 := by rw [← hw2]; exact below_new _ _
  have HLa := Lib.hid (show w.heap.size ≤ Ba by rw [← hBa]; exact HB.out.size)
  replace HB := Lib.hid (Below.then HB.out hb2)
  have HW2 := Lib.hid hw2
  clear hw2 hb2 HV1
  go_upto_region 2 with fail
  rw [HW2.out]
  clear hBa HW2
  obtain ⟨xa, xk, xc, xl, xt, hA, hV⟩ := Ha.out.is
  have C0 := Take_t _ oneN 0 w2 hV ⟨by decide, by decide⟩
  rw [alive_take] at C0
  unfold msV at C0
  have C := Lib.hid C0
  clear C0
  obtain ⟨a0, a1, a2⟩ := hA.cells
  clear hA hV
  go_wp2_with fail
  refine C.out.mono ?_
  rintro e w3 ⟨v1, rfl, hv1, hb1⟩
  obtain ⟨ya, yk, yc, yl, yt, rfl⟩ := hv1.three
  have HV1 := Lib.hid hv1
  clear hv1
  replace HB := Lib.hid (Below.then HB.out hb1)
  replace Ha := Lib.hid (Ha.out.keep hb1)
  clear C hb1 a0 a1 a2
  obtain ⟨w4, hw2⟩ : ∃ x, (w3.alloc (.cells #[.slice ya yk yc, .int .i64 yl, .int .i64 yt] 24)).alloc (.cells #[.int .i64 1, .int .i64 3, .string ⟨#[120]⟩, .int .i64 0] 30) = x := ⟨_, rfl⟩
  obtain ⟨Bb, hBb⟩ : ∃ x, w3.heap.size = x := ⟨_, rfl⟩
  have Hb := Lib.hid (show VarN w4 Bb goneN by rw [← hw2, ← hBb]; exact (VarN.new HV1.out).keep (below_new _ _))
  have Hm := Lib.hid (show At4 30 w4 (Bb + 1) (.int .i64 1) (.int .i64 3) (.string ⟨#[120]⟩) (.int .i64 0) by
    rw [← hw2, ← hBb]
    have e := At4.new 30 (w3.alloc (.cells #[.slice ya yk yc, .int .i64 yl, .int .i64 yt] 24)) (.int .i64 1) (.int .i64 3) (.string ⟨#[120]⟩) (.int .i64 0)
    rwa [World.size_alloc] at e)
  have hb2 : Below w3.heap.size w3 w4 := by rw [← hw2]; exact Below.then (below_new _ _) (below_new _ _)
  have HNab := Lib.hid (show Ba ≠ Bb by have := Ha.out.lt; omega)
  have HNba := Lib.hid (HNab.out.symm)
  replace Ha := Lib.hid (Ha.out.keep hb2)
  have HLb := Lib.hid (show w.heap.size ≤ Bb by rw [← hBb]; exact HB.out.size)
  replace HB := Lib.hid (Below.then HB.out hb2)
  have HW2 := Lib.hid hw2
  clear hw2 hb2 HV1
  go_upto_region 3 with fail
  rw [HW2.out]
  clear hBb HW2
  obtain ⟨x0, x1, x2, x3⟩ := Hm.out.cells
  have q0 : ((⟨#[120]⟩ : ByteArray).toList == (⟨#[120]⟩ : ByteArray).toList) = true := by simp
  go_wp2_with fail
  go_ret
  exact ⟨rfl, HB.out⟩
end Go.Proofs.Ytjjefdgcbdfclaa
