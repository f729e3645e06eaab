/-
  NameMay's walk: it returns true, and nothing that was there changes. Conditions: where octet's errors lie; an int where the library keeps one.
-/
import Derived.Test.YtcdibcogboaikaaDoorLawN
import Derived.Test.YtcdibcogboaikaaDoorLawNBack
import Derived.Test.YtcdibcogboaikaaDoorRefName2
import Derived.StillTailTactics
namespace Go.Proofs.YtcdibcogboaikaaDoor
open Go.RowKit

theorem shortR_small (r : RefB) : (shortR r).Small := by
  have h1 := shortN_size r.repo
  have h2 := shortN_size r.tag
  have h3 := shortN_size r.dig
  exact ⟨by show (shortN r.repo).size ≤ _; omega, by show (shortN r.tag).size ≤ _; omega, by show (shortN r.dig).size ≤ _; omega⟩

set_option maxRecDepth 100000 in
set_option maxHeartbeats 4000000 in
theorem nmay_walk (aD aS aZ : Addr) (s : ByteArray) (r : RefB) (w : World) (he : NEnv w aD aS aZ) (hs : s.size ≤ maxLen) (hr : r.repo.size ≤ maxLen ∧ r.tag.size ≤ maxLen ∧ r.dig.size ≤ maxLen) :
    Calls Tryd.prog 3 #[.string s, r.val] w fun e w' => e = .returned (.bool true) ∧ Below w.heap.size w w' := by
  obtain ⟨repo, tag, dig⟩ := r
  obtain ⟨h1, h2, h3⟩ := hr
  simp only [] at h1 h2 h3
  have hn := At3.new w (.string repo) (.string tag) (.string dig) 23
  have hb0 := below_new w (.cells #[.string repo, .string tag, .string dig] 23)
  obtain ⟨W, hW⟩ : ∃ W, w.alloc (.cells #[.string repo, .string tag, .string dig] 23) = W := ⟨_, rfl⟩
  obtain ⟨B, hB⟩ : ∃ B, w.heap.size = B := ⟨_, rfl⟩
  have S := Lib.hid (fun w => shortN_any s w hs)
  unfold RefB.val
  simp only []
  go_enter Tryd.func3, Tryd.ntmps3
  go_wp2_with fail
  rw [hW] at hn hb0
  rw [hB] at hn
  have hl := hn.cells
  obtain ⟨⟨c0, c1, c2⟩, z0, z1, z2⟩ := hl
  have HN := Lib.hid hn
  have HB0 := Lib.hid hb0
  have HE := Lib.hid he
  have hBB := Lib.hid hB
  clear hW hB hn hb0 he
  refine (S.out _).mono ?_
  rintro e w9 ⟨rfl, rfl⟩
  go_wp2_with fail
  have S1 := Lib.hid (fun w => (shortN_any repo w h1).mono fun _ _ ⟨a, b⟩ => (⟨a, b.symm⟩ : _ ∧ _))
  have S2 := Lib.hid (fun w => (shortN_any tag w h2).mono fun _ _ ⟨a, b⟩ => (⟨a, b.symm⟩ : _ ∧ _))
  have S3 := Lib.hid (fun w => (shortN_any dig w h3).mono fun _ _ ⟨a, b⟩ => (⟨a, b.symm⟩ : _ ∧ _))
  go_still_tail 9, (by kernel_rfl)
  still_call (S1.out _)
  repeat still_step
  still_call (S2.out _)
  repeat still_step
  still_call (S3.out _)
  refine wpStill_nil ?_
  go_wp2_with fail
  have hn1 : At3 ((((W.setCell ⟨B, 0, none⟩ (.string (shortN repo))).setCell ⟨B, 1, none⟩ (.string (shortN tag))).setCell ⟨B, 2, none⟩ (.string (shortN dig))).drew) B (.string (shortN repo)) (.string (shortN tag)) (.string (shortN dig)) 23 := set3 HN.out
  have hb1 : Below w.heap.size w ((((W.setCell ⟨B, 0, none⟩ (.string (shortN repo))).setCell ⟨B, 1, none⟩ (.string (shortN tag))).setCell ⟨B, 2, none⟩ (.string (shortN dig))).drew) := by
    have := hBB.out
    subst this
    exact (below3 HB0.out _ _ _).drew
  have hr := shortR_short ⟨repo, tag, dig⟩
  have hm := shortR_small ⟨repo, tag, dig⟩
  have P := Lib.hid (fun w (he : NEnv w aD aS aZ) => Print_any aD aS aZ (shortR ⟨repo, tag, dig⟩) w he hr)
  have G := Lib.hid (fun w (_he : NEnv w aD aS aZ) => right_any (shortR ⟨repo, tag, dig⟩) w hm)
  have X := Lib.hid (fun w (_he : NEnv w aD aS aZ) => text_any (shortR ⟨repo, tag, dig⟩) w hm)
  unfold shortR at P G X
  simp only [] at P G X
  generalize shortN repo = R at hn1 hb1 P G X ⊢
  generalize shortN tag = T at hn1 hb1 P G X ⊢
  generalize shortN dig = D at hn1 hb1 P G X ⊢
  have hpr : printR ⟨R, T, D⟩ = if (RefB.mk R T D).may then ((RefB.mk R T D).text, 0) else (⟨#[]⟩, 1) := rfl
  unfold RefB.val at P G X
  simp only [] at P G X
  obtain ⟨m, hmm⟩ : ∃ m, (RefB.mk R T D).may = m := ⟨_, rfl⟩
  obtain ⟨tx, htx⟩ : ∃ tx, (RefB.mk R T D).text = tx := ⟨_, rfl⟩
  rw [hmm, htx] at hpr
  rw [hmm] at G
  rw [htx] at X
  have hsz := shortN_size s
  have A := Lib.hid (fun w (he : NEnv w aD aS aZ) => aliveN_any aD aS aZ w he)
  have RX := Lib.hid (fun w (he : NEnv w aD aS aZ) => Repo_any (shortN s) w (by unfold maxLen; omega) he.max)
  have RR := Lib.hid (fun w (_he : NEnv w aD aS aZ) => refRepo_any (shortN s) w (by omega))
  have TX := Lib.hid (fun w => Tag_any (shortN s) w (by unfold maxLen; omega))
  have TR := Lib.hid (fun w => refTag_any (shortN s) w (by omega))
  generalize shortN s = z at RX RR TX TR hsz ⊢
  obtain ⟨p, hp⟩ : ∃ p, repoB z = p := ⟨_, rfl⟩
  obtain ⟨q, hq⟩ : ∃ q, tagB z = q := ⟨_, rfl⟩
  rw [hp] at RX RR
  rw [hq] at TX TR
  generalize (((W.setCell ⟨B, 0, none⟩ (.string R)).setCell ⟨B, 1, none⟩ (.string T)).setCell ⟨B, 2, none⟩ (.string D)).drew = W1 at hn1 hb1 ⊢
  have HB0' := Lib.hid hb1
  have HN0 := Lib.hid hn1
  clear hr hm S1 S2 S3 c0 c1 c2 z0 z1 z2 HN HB0 h1 h2 h3 hBB hp hq hsz hb1 hn1 hmm htx hs S
  have HB0 := HB0'
  clear HB0'
  cases m with
  | false =>
    simp only [Bool.false_eq_true, if_false] at hpr
    rw [hpr] at P
    simp only [] at P
    clear hpr X
    cases p <;> cases q
    all_goals
      refine (P.out _ (HE.out.keep HB0.out)).mono ?_
      rintro e w1 ⟨rfl, hb⟩
      have HB1 := Lib.hid (Below.then HB0.out hb)
      have HN1 := Lib.hid (HN0.out.keep hb)
      have hl1 := HN1.out.cells
      obtain ⟨⟨c00, c01, c02⟩, -⟩ := hl1
      clear hb
      go_wp2_with fail
      refine (RX.out _ (HE.out.keep HB1.out)).mono ?_
      rintro e w2 ⟨rfl, hb⟩
      have HB2 := Lib.hid (Below.then HB1.out hb)
      have HN2 := Lib.hid (HN1.out.keep hb)
      have hl2 := HN2.out.cells
      obtain ⟨⟨c10, c11, c12⟩, -⟩ := hl2
      clear hb
      clear c00 c01 c02
      go_wp2_with fail
      refine (RR.out _ (HE.out.keep HB2.out)).mono ?_
      rintro e w3 ⟨rfl, hb⟩
      have HB3 := Lib.hid (Below.then HB2.out hb)
      have HN3 := Lib.hid (HN2.out.keep hb)
      have hl3 := HN3.out.cells
      obtain ⟨⟨c20, c21, c22⟩, -⟩ := hl3
      clear hb
      clear c10 c11 c12
      go_wp2_with fail
      refine (TX.out _).mono ?_
      rintro e w4 ⟨rfl, rfl⟩
      go_wp2_with fail
      refine (TR.out _).mono ?_
      rintro e w4 ⟨rfl, rfl⟩
      go_wp2_with fail
      refine (A.out _ (HE.out.keep HB3.out)).mono ?_
      rintro e w4 ⟨rfl, hb⟩
      have HB4 := Lib.hid (Below.then HB3.out hb)
      have HN4 := Lib.hid (HN3.out.keep hb)
      have hl4 := HN4.out.cells
      obtain ⟨⟨c30, c31, c32⟩, -⟩ := hl4
      clear hb
      clear c20 c21 c22
      go_wp2_with fail
      refine (G.out _ (HE.out.keep HB4.out)).mono ?_
      rintro e w5 ⟨rfl, hb⟩
      have HB5 := Lib.hid (Below.then HB4.out hb)
      have HN5 := Lib.hid (HN4.out.keep hb)
      have hl5 := HN5.out.cells
      obtain ⟨⟨c40, c41, c42⟩, -⟩ := hl5
      clear hb
      clear c30 c31 c32
      go_wp2_with fail
      go_ret
      exact ⟨by simp, HB5.out⟩
  | true =>
    simp only [if_true] at hpr
    rw [hpr] at P
    simp only [] at P
    clear hpr
    cases p <;> cases q
    all_goals
      refine (P.out _ (HE.out.keep HB0.out)).mono ?_
      rintro e w1 ⟨rfl, hb⟩
      have HB1 := Lib.hid (Below.then HB0.out hb)
      have HN1 := Lib.hid (HN0.out.keep hb)
      have hl1 := HN1.out.cells
      obtain ⟨⟨c00, c01, c02⟩, -⟩ := hl1
      clear hb
      go_wp2_with fail
      refine (RX.out _ (HE.out.keep HB1.out)).mono ?_
      rintro e w2 ⟨rfl, hb⟩
      have HB2 := Lib.hid (Below.then HB1.out hb)
      have HN2 := Lib.hid (HN1.out.keep hb)
      have hl2 := HN2.out.cells
      obtain ⟨⟨c10, c11, c12⟩, -⟩ := hl2
      clear hb
      clear c00 c01 c02
      go_wp2_with fail
      refine (RR.out _ (HE.out.keep HB2.out)).mono ?_
      rintro e w3 ⟨rfl, hb⟩
      have HB3 := Lib.hid (Below.then HB2.out hb)
      have HN3 := Lib.hid (HN2.out.keep hb)
      have hl3 := HN3.out.cells
      obtain ⟨⟨c20, c21, c22⟩, -⟩ := hl3
      clear hb
      clear c10 c11 c12
      go_wp2_with fail
      refine (TX.out _).mono ?_
      rintro e w4 ⟨rfl, rfl⟩
      go_wp2_with fail
      refine (TR.out _).mono ?_
      rintro e w4 ⟨rfl, rfl⟩
      go_wp2_with fail
      refine (A.out _ (HE.out.keep HB3.out)).mono ?_
      rintro e w4 ⟨rfl, hb⟩
      have HB4 := Lib.hid (Below.then HB3.out hb)
      have HN4 := Lib.hid (HN3.out.keep hb)
      have hl4 := HN4.out.cells
      obtain ⟨⟨c30, c31, c32⟩, -⟩ := hl4
      clear hb
      clear c20 c21 c22
      go_wp2_with fail
      refine (G.out _ (HE.out.keep HB4.out)).mono ?_
      rintro e w5 ⟨rfl, hb⟩
      have HB5 := Lib.hid (Below.then HB4.out hb)
      have HN5 := Lib.hid (HN4.out.keep hb)
      have hl5 := HN5.out.cells
      obtain ⟨⟨c40, c41, c42⟩, -⟩ := hl5
      clear hb
      clear c30 c31 c32
      go_wp2_with fail
      refine (X.out _ (HE.out.keep HB5.out)).mono ?_
      rintro e w6 ⟨rfl, hb⟩
      have HB6 := Lib.hid (Below.then HB5.out hb)
      have HN6 := Lib.hid (HN5.out.keep hb)
      have hl6 := HN6.out.cells
      obtain ⟨⟨c50, c51, c52⟩, -⟩ := hl6
      clear hb
      clear c40 c41 c42
      go_wp2_with fail
      go_ret
      exact ⟨by simp, HB6.out⟩
end Go.Proofs.YtcdibcogboaikaaDoor
