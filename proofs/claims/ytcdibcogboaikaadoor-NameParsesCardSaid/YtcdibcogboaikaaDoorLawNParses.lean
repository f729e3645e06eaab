/-
  NameParses' walk: it returns true, and nothing that was there changes. Conditions: where octet's errors lie; an int where the library keeps one.
-/
import Derived.Test.YtcdibcogboaikaaDoorLawN
import Derived.Test.YtcdibcogboaikaaDoorRefName3
namespace Go.Proofs.YtcdibcogboaikaaDoor
open Go.RowKit

set_option maxRecDepth 100000 in
set_option maxHeartbeats 4000000 in
theorem nparses_walk (aD aS aZ : Addr) (s : ByteArray) (w : World) (he : NEnv w aD aS aZ) (hs : s.size ≤ maxLen) :
    Calls Tryd.prog 4 #[.string s] w fun e w' => e = .returned (.bool true) ∧ Below w.heap.size w w' := by
  have S := Lib.hid (shortN_any s w hs)
  have hsz := shortN_size s
  have A := Lib.hid (fun w (he : NEnv w aD aS aZ) => aliveN_any aD aS aZ w he)
  have P := Lib.hid (fun w (he : NEnv w aD aS aZ) => Parse_any aD aS aZ (shortN s) w he (by omega))
  have R := Lib.hid (fun w => refParseN_any (shortN s) w (by omega))
  have hpc := parseN_cases (shortN s)
  have HE := Lib.hid he
  generalize shortN s = z at S P R hpc
  clear hsz he hs
  go_enter Tryd.func4, Tryd.ntmps4
  go_wp2_with fail
  refine S.out.mono ?_
  rintro e w1 ⟨rfl, rfl⟩
  go_wp2_with fail
  refine (P.out _ HE.out).mono ?_
  rintro e w1 ⟨rfl, hb1⟩
  have hne : parseN z = (emptyR, 5) ∨ ∃ x, parseN z = (x, 0) := by
    rcases hpc with h | h
    · exact Or.inr ⟨(parseN z).1, by rw [← h]⟩
    · exact Or.inl h
  rcases hne with h | ⟨⟨xr, xt, xd⟩, h⟩
  · rw [h]
    unfold emptyR RefB.val
    simp only []
    have HB1 := Lib.hid hb1
    have HQ := Lib.hid h
    clear hb1 h hpc P S
    go_wp2_with fail
    refine (R.out _).mono ?_
    rintro e w2 ⟨r2, b, rfl, hb, hbel⟩
    obtain ⟨rfl, rfl⟩ : b = false ∧ r2 = emptyR := by
      rcases hb with ⟨_, h⟩ | ⟨h, h2, _⟩
      · rw [HQ.out] at h; cases h
      · exact ⟨h, h2⟩
    clear hb
    unfold emptyR
    unfold RefB.val
    simp only []
    have HB2 := Lib.hid (Below.then HB1.out (Below.then (below_new _ _) hbel))
    have HN2 := Lib.hid ((At3.new w1 (.string ⟨#[]⟩) (.string ⟨#[]⟩) (.string ⟨#[]⟩) 23).keep hbel)
    clear hbel HQ
    go_wp2_with fail
    refine (A.out _ (HE.out.keep (Below.then HB2.out (below_new _ _)))).mono ?_
    rintro e w3 ⟨rfl, hb⟩
    have HB3 := Lib.hid (Below.then HB2.out (Below.then (below_new _ _) hb))
    have h1 := (HN2.out.keep (Below.then (below_new _ _) hb)).cells
    have h2 := ((At3.new w2 (.string ⟨#[]⟩) (.string ⟨#[]⟩) (.string ⟨#[]⟩) 23).keep hb).cells
    obtain ⟨⟨c0, c1, c2⟩, -⟩ := h1
    obtain ⟨⟨d0, d1, d2⟩, -⟩ := h2
    clear hb
    go_wp2_with fail
    go_ret
    exact ⟨by simp, HB3.out⟩
  · rw [h]
    unfold RefB.val
    simp only []
    have HB1 := Lib.hid hb1
    have HQ := Lib.hid h
    clear hb1 h hpc P S
    go_wp2_with fail
    refine (R.out _).mono ?_
    rintro e w2 ⟨r2, b, rfl, hb, hbel⟩
    obtain ⟨rfl, rfl⟩ : b = true ∧ r2 = ⟨xr, xt, xd⟩ := by
      rcases hb with ⟨h, h2⟩ | ⟨_, _, h⟩
      · rw [HQ.out] at h2; exact ⟨h, (Prod.mk.inj h2).1.symm⟩
      · rw [HQ.out] at h; cases h
    clear hb
    unfold RefB.val
    simp only []
    have HB2 := Lib.hid (Below.then HB1.out (Below.then (below_new _ _) hbel))
    have HN2 := Lib.hid ((At3.new w1 (.string xr) (.string xt) (.string xd) 23).keep hbel)
    clear hbel HQ
    go_wp2_with fail
    refine (A.out _ (HE.out.keep (Below.then HB2.out (below_new _ _)))).mono ?_
    rintro e w3 ⟨rfl, hb⟩
    have HB3 := Lib.hid (Below.then HB2.out (Below.then (below_new _ _) hb))
    have h1 := (HN2.out.keep (Below.then (below_new _ _) hb)).cells
    have h2 := ((At3.new w2 (.string xr) (.string xt) (.string xd) 23).keep hb).cells
    obtain ⟨⟨c0, c1, c2⟩, -⟩ := h1
    obtain ⟨⟨d0, d1, d2⟩, -⟩ := h2
    clear hb
    go_wp2_with fail
    go_ret
    exact ⟨by simp, HB3.out⟩
end Go.Proofs.YtcdibcogboaikaaDoor
