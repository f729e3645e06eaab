/-
  What the names' laws share: short and alive by contracts. Conditions: none but sizes, and where octet's errors lie.
-/
import Derived.Test.YtcdibcogboaikaaDoorName6
namespace Go.Proofs.YtcdibcogboaikaaDoor
open Go.RowKit

def shortN (s : ByteArray) : ByteArray := s.extract 0 (min s.size 220)
theorem shortN_size (s : ByteArray) : (shortN s).size ≤ 220 := by unfold shortN; rw [ByteArray.size_extract]; omega
theorem shortN_any (s : ByteArray) (w : World) (hs : s.size ≤ maxLen) :
    Calls Tryd.prog 9 #[.string s] w fun e w' => e = .returned (.string (shortN s)) ∧ w = w' := by
  unfold maxLen at hs
  obtain ⟨q, hq⟩ : ∃ q, min s.size 220 = q := ⟨_, rfl⟩
  have HO := Lib.hid (show shortN s = s.extract 0 q by unfold shortN; rw [hq])
  have hq' : min ((s.size : Nat) : Int) 220 = (q : Int) := by omega
  have hqs : q ≤ s.size := by omega
  clear hq
  go_enter Tryd.func9, Tryd.ntmps9
  go_wp2_with fail
  go_ret
  exact ⟨by rw [HO.out]; rfl, rfl⟩

theorem parseN_alive : parseN { data := #[108, 105, 98, 47, 103, 111, 95, 95, 120, 58, 49, 46, 48] } = (⟨{ data := #[108, 105, 98, 47, 103, 111, 95, 95, 120] }, { data := #[49, 46, 48] }, ⟨#[]⟩⟩, 0) := by kernel_rfl
theorem repoB_a : repoB { data := #[97] } = true := by kernel_rfl

set_option maxRecDepth 100000 in
theorem aliveN_any (aD aS aZ : Addr) (w : World) (he : NEnv w aD aS aZ) :
    Calls Tryd.prog 15 #[] w fun e w' => e = .returned (.bool true) ∧ Below w.heap.size w w' := by
  have P := Lib.hid (fun w (he : NEnv w aD aS aZ) => Parse_any aD aS aZ { data := #[108, 105, 98, 47, 103, 111, 95, 95, 120, 58, 49, 46, 48] } w he (by decide))
  rw [parseN_alive] at P
  unfold RefB.val at P
  simp only [] at P
  have R := Lib.hid (fun w (he : NEnv w aD aS aZ) => Repo_any { data := #[97] } w (by decide) he.max)
  rw [repoB_a] at R
  have HE := Lib.hid he
  clear he
  go_enter Tryd.func15, Tryd.ntmps15
  go_wp2_with fail
  refine (P.out _ HE.out).mono ?_
  rintro e w1 ⟨rfl, hb⟩
  have HB := Lib.hid hb
  clear hb
  go_wp2_with fail
  refine (R.out _ (HE.out.keep (Below.then HB.out (below_new _ _)))).mono ?_
  rintro e w2 ⟨rfl, hb⟩
  have HB2 := Lib.hid (Below.then HB.out (Below.then (below_new _ _) hb))
  clear hb
  go_wp2_with fail
  go_ret
  exact ⟨rfl, HB2.out⟩
end Go.Proofs.YtcdibcogboaikaaDoor
