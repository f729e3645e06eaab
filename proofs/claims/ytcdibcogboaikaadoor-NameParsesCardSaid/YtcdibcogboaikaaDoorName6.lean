/-
  name.Parse by its contract, where the text is a reference's, and whole. Conditions: fewer than 2^32 - 15 bytes; octet's errors lie where they lie; an int where the library keeps one.
-/
import Derived.Test.YtcdibcogboaikaaDoorName5
namespace Go.Proofs.YtcdibcogboaikaaDoor
open Go.RowKit

set_option maxRecDepth 100000 in
set_option maxHeartbeats 4000000 in
theorem Parse_yes (aD aS aZ : Addr) (s repo tag dig : ByteArray) (w : World) (he : NEnv w aD aS aZ) (hs : s.size < 4294967281)
    (hc : cutR s = ⟨repo, tag, dig⟩) (hm : (cutR s).may = true) :
    Calls Tryd.prog 18 #[.string s] w fun e w' => e = .returned (.tuple #[(parseN s).1.val, .int .i64 (parseN s).2]) ∧ Below w.heap.size w w' := by
  have C := Lib.hid (fun w => cut_any s w hs)
  have hr := cutR_short s hs
  have M := Lib.hid (fun w (he : NEnv w aD aS aZ) => mayBe_any aD aS aZ (cutR s) w he hr)
  have HE := Lib.hid he
  have HO := Lib.hid (show parseN s = (⟨repo, tag, dig⟩, 0) by unfold parseN; rw [hm, hc]; rfl)
  rw [hm] at M
  rw [hc] at C M hr
  obtain ⟨h1, h2, h3⟩ := hr
  simp only [] at h1 h2 h3
  clear hc hm he hs
  unfold RefB.val at C M
  simp only [] at C M
  go_enter Tryd.func18, Tryd.ntmps18
  go_wp2_with fail
  refine (C.out _).mono ?_
  rintro e w1 ⟨rfl, hb⟩
  have HB := Lib.hid (Below.then (below_new _ _) hb)
  have HR := Lib.hid ((At3.new w (.string ⟨#[]⟩) (.string ⟨#[]⟩) (.string ⟨#[]⟩) 23).keep hb)
  clear hb
  go_wp2_with fail
  refine (M.out _ (HE.out.keep (Below.then HB.out (below_new _ _)))).mono ?_
  rintro e w2 ⟨rfl, hb⟩
  have HB2 := Lib.hid (Below.then HB.out (Below.then (below_new _ _) hb))
  have HR2 := Lib.hid (HR.out.keep (Below.then (below_new _ _) hb))
  have HQ2 := Lib.hid ((At3.new w1 (.string repo) (.string tag) (.string dig) 23).keep hb)
  obtain ⟨⟨c0, c1, c2⟩, -⟩ := (HQ2.out).cells
  have HH := Held.drew ⟨HQ2.out, HR2.out, HB2.out⟩
  obtain ⟨B1, hB1⟩ : ∃ B, w1.heap.size = B := ⟨_, rfl⟩
  obtain ⟨B0, hB0⟩ : ∃ B, w.heap.size = B := ⟨_, rfl⟩
  have hB := Lib.hid hB0
  rw [hB1] at HH c0 c1 c2
  rw [hB0] at HH
  rw [hB1, hB0]
  clear hb HR HB HR2 HQ2 HB2 M C HE hB0 hB1
  go_wp2_with fail
  go_region_with (go_at_call 30; refine (Held.clone _ _ (by assumption) (by assumption)).mono ?_; rintro e w3 ⟨rfl, HH, ⟨c0, c1, c2⟩, ⟨d0, d1, d2⟩, ⟨z0, z1, z2⟩⟩)
  all_goals
    go_wp2_with fail
    exact bodyPost_ret (results_ref (p := 2) (u := 3) rfl _ _ B0 23 _ (0, 0) _ rfl (set3 HH.two) Tryd.underlying23 rfl infoRef) rfl ⟨by rw [HO.out]; rfl, hB.out ▸ below3 HH.below _ _ _⟩
theorem Parse_any (aD aS aZ : Addr) (s : ByteArray) (w : World) (he : NEnv w aD aS aZ) (hs : s.size < 4294967281) :
    Calls Tryd.prog 18 #[.string s] w fun e w' => e = .returned (.tuple #[(parseN s).1.val, .int .i64 (parseN s).2]) ∧ Below w.heap.size w w' := by
  cases hm : (cutR s).may with
  | true => exact Parse_yes aD aS aZ s _ _ _ w he hs rfl hm
  | false => exact Parse_no aD aS aZ s _ _ _ w he hs rfl hm
end Go.Proofs.YtcdibcogboaikaaDoor
