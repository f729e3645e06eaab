/-
  Is a text one of a pattern: by contracts. Conditions: none but sizes.
-/
import Derived.Test.YtjohjmoggldfcaaDoorGlobCut
namespace Go.Proofs.YtjohjmoggldfcaaDoor
open Go.RowKit

/-- Is a text one of a pattern? -/
def matchB (p s : ByteArray) : Bool := matchL p.data.toList s.data.toList
theorem right_parts {p : ByteArray} (h : rightB p = true) : 0 < p.size ∧ p.size ≤ 128 ∧ ∀ b ∈ p.data.toList, b.toNat < 128 := by
  unfold rightB rightL at h
  rw [Bool.and_eq_true, Bool.and_eq_true, Bool.and_eq_true] at h
  obtain ⟨⟨⟨h1, h2⟩, h3⟩, -⟩ := h
  rw [decide_eq_true_eq, size_lenG] at h2
  refine ⟨?_, h2, fun b hb => ?_⟩
  · rw [← size_lenG]
    cases hx : p.data.toList with
    | nil => rw [hx] at h1; cases h1
    | cons a l => simp
  · unfold seenL at h3
    have := List.all_eq_true.1 h3 b hb
    unfold seenC at this
    rw [decide_eq_true_eq] at this
    omega

set_option maxRecDepth 100000 in
set_option maxHeartbeats 2000000 in
theorem Match_g (p s : ByteArray) (w : World) (hp : p.size ≤ maxLen) (hs : s.size ≤ maxLen) (hM : SomeMax w) :
    Calls Tryd.prog 7 #[.string p, .string s] w fun e w' => e = .returned (.bool (matchB p s)) ∧ Below w.heap.size w w' := by
  have R := Lib.hid (Right_g p w hp)
  unfold maxLen at hp hs
  cases hr : rightB p with
  | false =>
    have HO := Lib.hid (show matchB p s = false by unfold matchB matchL; rw [show rightL p.data.toList = false from hr]; rfl)
    rw [hr] at R
    clear hr hM
    go_enter Tryd.func7, Tryd.ntmps7
    go_wp2_with fail
    refine R.out.mono ?_
    rintro e w1 ⟨rfl, rfl⟩
    go_wp2_with fail
    go_ret
    exact ⟨by rw [HO.out]; rfl, Below.refl _ _⟩
  | true =>
    obtain ⟨p0, p1, p2⟩ := right_parts hr
    by_cases h2 : 200 < s.size
    · have HO := Lib.hid (show matchB p s = false by unfold matchB matchL; rw [size_lenG, decide_eq_false (by omega)]; simp)
      rw [hr] at R
      clear hr hM p2
      go_enter Tryd.func7, Tryd.ntmps7
      go_wp2_with fail
      refine R.out.mono ?_
      rintro e w1 ⟨rfl, rfl⟩
      go_wp2_with fail
      go_ret
      exact ⟨by rw [HO.out]; rfl, Below.refl _ _⟩
    · have HO := Lib.hid (show matchB p s = fitsB (cutL p.data.toList) s.data.toList by unfold matchB matchL; rw [show rightL p.data.toList = true from hr, size_lenG, decide_eq_true (by omega)]; rfl)
      have C := Lib.hid (cut_any p w p0 p1 p2 hM)
      have F := Lib.hid (fun v w' (h : PcRow w' v (cutL p.data.toList)) => fits_any (cutL p.data.toList) v s w' (by omega) h)
      obtain ⟨b, hb⟩ : ∃ b, fitsB (cutL p.data.toList) s.data.toList = b := ⟨_, rfl⟩
      rw [hb] at F HO
      rw [hr] at R
      clear hr hM p2 hb
      go_enter Tryd.func7, Tryd.ntmps7
      go_wp2_with fail
      refine R.out.mono ?_
      rintro e w1 ⟨rfl, rfl⟩
      go_wp2_with fail
      refine C.out.mono ?_
      rintro e w1 ⟨v, rfl, hv, hb1⟩
      have HB := Lib.hid hb1
      have HV := Lib.hid hv
      clear hb1 hv
      go_wp2_with fail
      refine (F.out _ _ HV.out).mono ?_
      rintro e w2 ⟨rfl, hb2⟩
      have HB2 := Lib.hid (HB.out.trans (hb2.mono HB.out.size))
      clear hb2
      go_wp2_with fail
      go_ret
      exact ⟨by rw [HO.out]; rfl, HB2.out⟩

set_option maxRecDepth 100000 in
theorem isWrong_g (p : ByteArray) (w : World) (hp : p.size ≤ maxLen) :
    Calls Tryd.prog 31 #[.string p] w fun e w' => e = .returned (.bool (!rightB p)) ∧ w = w' := by
  have R := Lib.hid (Right_g p w hp)
  obtain ⟨b, hb⟩ : ∃ b, rightB p = b := ⟨_, rfl⟩
  rw [hb] at R ⊢
  clear hb hp
  go_enter Tryd.func31, Tryd.ntmps31
  go_wp2_with fail
  refine R.out.mono ?_
  rintro e w1 ⟨rfl, rfl⟩
  go_wp2_with fail
  go_ret
  exact ⟨rfl, rfl⟩

theorem alive_g (w : World) (hM : SomeMax w) :
    Calls Tryd.prog 8 #[] w fun e w' => e = .returned (.bool true) ∧ Below w.heap.size w w' := by
  have M := Lib.hid (fun (p s : ByteArray) (w1 : World) (h1 : p.size ≤ maxLen) (h2 : s.size ≤ maxLen) (hb : Below w.heap.size w w1) => Match_g p s w1 h1 h2 (hM.keep hb))
  have e1 : matchB ⟨#[108, 105, 98, 47, 42]⟩ ⟨#[108, 105, 98, 47, 97]⟩ = true := by kernel_rfl
  have e2 : matchB ⟨#[108, 105, 98, 47, 42]⟩ ⟨#[108, 105, 98, 47, 97, 47, 98]⟩ = false := by kernel_rfl
  have e3 : matchB ⟨#[108, 105, 98, 47, 42, 42]⟩ ⟨#[108, 105, 98, 47, 97, 47, 98]⟩ = true := by kernel_rfl
  have M1 := Lib.hid (M.out ⟨#[108, 105, 98, 47, 42]⟩ ⟨#[108, 105, 98, 47, 97]⟩ w (by decide) (by decide) (Below.refl _ _))
  have M2 := Lib.hid (fun w1 => M.out ⟨#[108, 105, 98, 47, 42]⟩ ⟨#[108, 105, 98, 47, 97, 47, 98]⟩ w1 (by decide) (by decide))
  have M3 := Lib.hid (fun w1 => M.out ⟨#[108, 105, 98, 47, 42, 42]⟩ ⟨#[108, 105, 98, 47, 97, 47, 98]⟩ w1 (by decide) (by decide))
  rw [e1] at M1
  rw [e2] at M2
  rw [e3] at M3
  clear e1 e2 e3 M hM
  go_enter Tryd.func8, Tryd.ntmps8
  go_wp2_with fail
  refine M1.out.mono ?_
  rintro e w1 ⟨rfl, hb1⟩
  have HB1 := Lib.hid hb1
  clear hb1
  go_wp2_with fail
  refine (M2.out _ HB1.out).mono ?_
  rintro e w2 ⟨rfl, hb2⟩
  have HB2 := Lib.hid (HB1.out.trans (hb2.mono HB1.out.size))
  clear hb2
  go_wp2_with fail
  refine (M3.out _ HB2.out).mono ?_
  rintro e w3 ⟨rfl, hb3⟩
  have HB3 := Lib.hid (HB2.out.trans (hb3.mono HB2.out.size))
  clear hb3
  go_wp2_with fail
  go_ret
  exact ⟨rfl, HB3.out⟩
end Go.Proofs.YtjohjmoggldfcaaDoor
