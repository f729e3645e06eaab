/-
  NameBack's walk: it returns true, and nothing that was there changes. Conditions: where octet's errors lie; an int where the library keeps one.
-/
import Derived.Test.YtcdibcogboaikaaDoorLawN
import Derived.Test.YtcdibcogboaikaaDoorNameLaws
import Derived.StillTailTactics
namespace Go.Proofs.YtcdibcogboaikaaDoor
open Go.RowKit

/-- A reference, each text cut. -/
def shortR (r : RefB) : RefB := ⟨shortN r.repo, shortN r.tag, shortN r.dig⟩
theorem shortR_short (r : RefB) : (shortR r).Short := by
  have h1 := shortN_size r.repo
  have h2 := shortN_size r.tag
  have h3 := shortN_size r.dig
  exact ⟨by show (shortN r.repo).size < _; omega, by show (shortN r.tag).size < _; omega, by show (shortN r.dig).size < _; omega⟩
theorem printR_size (r : RefB) : (printR (shortR r)).1.size < 4294967281 := by
  have h1 := shortN_size r.repo
  have h2 := shortN_size r.tag
  have h3 := shortN_size r.dig
  unfold printR
  have h0 : (⟨#[]⟩ : ByteArray).size = 0 := rfl
  cases (shortR r).may with
  | false => simp only [Bool.false_eq_true, if_false]; rw [h0]; omega
  | true =>
    simp only [if_true]
    unfold RefB.text shortR
    simp only []
    split
    · rw [ByteArray.size_append, ByteArray.size_append]; show _ + 1 + _ < _; omega
    · rw [ByteArray.size_append, ByteArray.size_append]; show _ + 1 + _ < _; omega

set_option maxRecDepth 100000 in
set_option maxHeartbeats 4000000 in
theorem nback_walk (aD aS aZ : Addr) (r : RefB) (s : ByteArray) (w : World) (he : NEnv w aD aS aZ) (hr : r.repo.size ≤ maxLen ∧ r.tag.size ≤ maxLen ∧ r.dig.size ≤ maxLen) (hs : s.size ≤ maxLen) :
    Calls Tryd.prog 5 #[r.val, .string s] w fun e w' => e = .returned (.bool true) ∧ Below w.heap.size w w' := by
  obtain ⟨repo, tag, dig⟩ := r
  obtain ⟨h1, h2, h3⟩ := hr
  simp only [] at h1 h2 h3
  have hn := At3.new w (.string repo) (.string tag) (.string dig) 23
  have hb0 := below_new w (.cells #[.string repo, .string tag, .string dig] 23)
  obtain ⟨W, hW⟩ : ∃ W, w.alloc (.cells #[.string repo, .string tag, .string dig] 23) = W := ⟨_, rfl⟩
  obtain ⟨B, hB⟩ : ∃ B, w.heap.size = B := ⟨_, rfl⟩
  unfold RefB.val
  simp only []
  go_enter Tryd.func5, Tryd.ntmps5
  go_wp2_with fail
  rw [hW] at hn hb0
  rw [hB] at hn
  have hl := hn.cells
  obtain ⟨⟨c0, c1, c2⟩, z0, z1, z2⟩ := hl
  have HN := Lib.hid hn
  have HB0 := Lib.hid hb0
  have HE := Lib.hid he
  have hBB := Lib.hid hB
  clear hW hB hn hb0 he
  have S1 := Lib.hid (fun w => (shortN_any repo w h1).mono fun _ _ ⟨a, b⟩ => (⟨a, b.symm⟩ : _ ∧ _))
  have S2 := Lib.hid (fun w => (shortN_any tag w h2).mono fun _ _ ⟨a, b⟩ => (⟨a, b.symm⟩ : _ ∧ _))
  have S3 := Lib.hid (fun w => (shortN_any dig w h3).mono fun _ _ ⟨a, b⟩ => (⟨a, b.symm⟩ : _ ∧ _))
  go_still_tail 9, (by kernel_rfl)
  still_call (S1.out _)
  repeat still_step
  still_call (S2.out _)
  repeat still_step
  still_call (S3.out _)
  refine wpStill_nil ?_
  go_wp2_with fail
  have hn1 : At3 ((((W.setCell ⟨B, 0, none⟩ (.string (shortN repo))).setCell ⟨B, 1, none⟩ (.string (shortN tag))).setCell ⟨B, 2, none⟩ (.string (shortN dig))).drew) B (.string (shortN repo)) (.string (shortN tag)) (.string (shortN dig)) 23 := set3 HN.out
  have hb1 : Below w.heap.size w ((((W.setCell ⟨B, 0, none⟩ (.string (shortN repo))).setCell ⟨B, 1, none⟩ (.string (shortN tag))).setCell ⟨B, 2, none⟩ (.string (shortN dig))).drew) := by
    have := hBB.out
    subst this
    exact (below3 HB0.out _ _ _).drew
  have hr := shortR_short ⟨repo, tag, dig⟩
  have P := Lib.hid (fun w (he : NEnv w aD aS aZ) => Print_any aD aS aZ (shortR ⟨repo, tag, dig⟩) w he hr)
  have hps := printR_size ⟨repo, tag, dig⟩
  have hpc := printR_cases (shortR ⟨repo, tag, dig⟩)
  have hpp := @parse_print (shortR ⟨repo, tag, dig⟩)
  unfold shortR at P hps hpc hpp
  simp only [] at P hps hpc hpp
  generalize shortN repo = R at hn1 hb1 P hps hpc hpp ⊢
  generalize shortN tag = T at hn1 hb1 P hps hpc hpp ⊢
  generalize shortN dig = D at hn1 hb1 P hps hpc hpp ⊢
  unfold RefB.val at P
  simp only [] at P
  obtain ⟨⟨t, n⟩, htn⟩ : ∃ x, printR ⟨R, T, D⟩ = x := ⟨_, rfl⟩
  rw [htn] at P hps hpc hpp
  simp only [] at P hps hpc hpp
  clear hr htn S1 S2 S3 c0 c1 c2 HN HB0 h1 h2 h3 hBB
  have S := Lib.hid (fun w => shortN_any s w hs)
  have hsz := shortN_size s
  have A := Lib.hid (fun w (he : NEnv w aD aS aZ) => aliveN_any aD aS aZ w he)
  have Q := Lib.hid (fun w (he : NEnv w aD aS aZ) => Parse_any aD aS aZ (shortN s) w he (by omega))
  have hqc := parseN_cases (shortN s)
  have hqp := @print_parse (shortN s)
  have hqs : (parseN (shortN s)).1.Short := by
    unfold parseN
    cases (cutR (shortN s)).may with
    | true => exact cutR_short _ (by omega)
    | false => exact ⟨show (⟨#[]⟩ : ByteArray).size < _ by decide, show (⟨#[]⟩ : ByteArray).size < _ by decide, show (⟨#[]⟩ : ByteArray).size < _ by decide⟩
  obtain ⟨⟨x, k⟩, hx⟩ : ∃ x, parseN (shortN s) = x := ⟨_, rfl⟩
  rw [hx] at Q hqc hqp hqs
  simp only [] at Q hqc hqp hqs
  have P2 := Lib.hid (fun w (he : NEnv w aD aS aZ) => Print_any aD aS aZ x w he hqs)
  clear hx
  generalize shortN s = z at S hsz Q hqp ⊢
  generalize (((W.setCell ⟨B, 0, none⟩ (.string R)).setCell ⟨B, 1, none⟩ (.string T)).setCell ⟨B, 2, none⟩ (.string D)).drew = W1 at hn1 hb1 ⊢
  have HB1 := Lib.hid hb1
  have HN1 := Lib.hid hn1
  clear hb1 hn1 hs hsz z0 z1 z2
  rcases hqc with rfl | hqc
  · have hq := hqp rfl
    rw [hq] at P2
    obtain ⟨xr, xt, xd⟩ := x
    unfold RefB.val at P2 Q
    simp only [] at P2 Q
    clear hq hqp hqs
    rcases hpc with rfl | hpc
    · have hpq := hpp rfl
      have P3 := Lib.hid (fun w (he : NEnv w aD aS aZ) => Parse_any aD aS aZ t w he hps)
      rw [hpq] at P3
      unfold RefB.val at P3
      simp only [] at P3
      clear hpq hps hpp
      refine (P.out _ (HE.out.keep HB1.out)).mono ?_
      rintro e w1 ⟨rfl, hb⟩
      have HB2 := Lib.hid (Below.then HB1.out hb)
      have HN2 := Lib.hid (HN1.out.keep hb)
      clear hb
      go_wp2_with fail
      refine (P3.out _ (HE.out.keep HB2.out)).mono ?_
      rintro e w2 ⟨rfl, hb⟩
      have HB3 := Lib.hid (Below.then HB2.out hb)
      have HN3 := Lib.hid (HN2.out.keep hb)
      have hl := HN3.out.cells
      obtain ⟨⟨c0, c1, c2⟩, -⟩ := hl
      have hlt := HN3.out.lt
      clear hb
      go_wp2_with fail
      have HB4 := Lib.hid (Below.then HB3.out (below_new _ (.cells #[.string R, .string T, .string D] 23)))
      clear c0 c1 c2 hlt
      refine (S.out _).mono ?_
      rintro e w9 ⟨rfl, rfl⟩
      go_wp2_with fail
      refine (Q.out _ (HE.out.keep HB4.out)).mono ?_
      rintro e w3 ⟨rfl, hb⟩
      have HB5 := Lib.hid (Below.then HB4.out hb)
      clear hb
      go_wp2_with fail
      refine (P2.out _ (HE.out.keep (Below.then HB5.out (below_new _ _)))).mono ?_
      rintro e w4 ⟨rfl, hb⟩
      have HB6 := Lib.hid (Below.then HB5.out (Below.then (below_new _ _) hb))
      clear hb
      go_wp2_with fail
      refine (A.out _ (HE.out.keep HB6.out)).mono ?_
      rintro e w5 ⟨rfl, hb⟩
      have HB7 := Lib.hid (Below.then HB6.out hb)
      clear hb
      go_wp2_with fail
      refine (S.out _).mono ?_
      rintro e w9 ⟨rfl, rfl⟩
      go_wp2_with fail
      go_ret
      exact ⟨by simp, HB7.out⟩
    · simp only [Prod.mk.injEq] at hpc
      obtain ⟨rfl, rfl⟩ := hpc
      clear hps hpp
      refine (P.out _ (HE.out.keep HB1.out)).mono ?_
      rintro e w1 ⟨rfl, hb⟩
      have HB4 := Lib.hid (Below.then HB1.out hb)
      clear hb
      go_wp2_with fail
      refine (S.out _).mono ?_
      rintro e w9 ⟨rfl, rfl⟩
      go_wp2_with fail
      refine (Q.out _ (HE.out.keep HB4.out)).mono ?_
      rintro e w3 ⟨rfl, hb⟩
      have HB5 := Lib.hid (Below.then HB4.out hb)
      clear hb
      go_wp2_with fail
      refine (P2.out _ (HE.out.keep (Below.then HB5.out (below_new _ _)))).mono ?_
      rintro e w4 ⟨rfl, hb⟩
      have HB6 := Lib.hid (Below.then HB5.out (Below.then (below_new _ _) hb))
      clear hb
      go_wp2_with fail
      refine (A.out _ (HE.out.keep HB6.out)).mono ?_
      rintro e w5 ⟨rfl, hb⟩
      have HB7 := Lib.hid (Below.then HB6.out hb)
      clear hb
      go_wp2_with fail
      refine (S.out _).mono ?_
      rintro e w9 ⟨rfl, rfl⟩
      go_wp2_with fail
      go_ret
      exact ⟨by simp, HB7.out⟩
  · simp only [Prod.mk.injEq] at hqc
    obtain ⟨rfl, rfl⟩ := hqc
    unfold emptyR RefB.val at Q
    simp only [] at Q
    clear hqp hqs P2
    rcases hpc with rfl | hpc
    · have hpq := hpp rfl
      have P3 := Lib.hid (fun w (he : NEnv w aD aS aZ) => Parse_any aD aS aZ t w he hps)
      rw [hpq] at P3
      unfold RefB.val at P3
      simp only [] at P3
      clear hpq hps hpp
      refine (P.out _ (HE.out.keep HB1.out)).mono ?_
      rintro e w1 ⟨rfl, hb⟩
      have HB2 := Lib.hid (Below.then HB1.out hb)
      have HN2 := Lib.hid (HN1.out.keep hb)
      clear hb
      go_wp2_with fail
      refine (P3.out _ (HE.out.keep HB2.out)).mono ?_
      rintro e w2 ⟨rfl, hb⟩
      have HB3 := Lib.hid (Below.then HB2.out hb)
      have HN3 := Lib.hid (HN2.out.keep hb)
      have hl := HN3.out.cells
      obtain ⟨⟨c0, c1, c2⟩, -⟩ := hl
      have hlt := HN3.out.lt
      clear hb
      go_wp2_with fail
      have HB4 := Lib.hid (Below.then HB3.out (below_new _ (.cells #[.string R, .string T, .string D] 23)))
      clear c0 c1 c2 hlt
      refine (S.out _).mono ?_
      rintro e w9 ⟨rfl, rfl⟩
      go_wp2_with fail
      refine (Q.out _ (HE.out.keep HB4.out)).mono ?_
      rintro e w3 ⟨rfl, hb⟩
      have HB5 := Lib.hid (Below.then HB4.out hb)
      clear hb
      go_wp2_with fail
      refine (A.out _ (HE.out.keep (Below.then HB5.out (below_new _ _)))).mono ?_
      rintro e w4 ⟨rfl, hb⟩
      have HB6 := Lib.hid (Below.then HB5.out (Below.then (below_new _ _) hb))
      have hl := ((At3.new w3 (.string ⟨#[]⟩) (.string ⟨#[]⟩) (.string ⟨#[]⟩) 23).keep hb).cells
      obtain ⟨⟨c0, c1, c2⟩, -⟩ := hl
      clear hb
      go_wp2_with fail
      go_ret
      exact ⟨by simp, HB6.out⟩
    · simp only [Prod.mk.injEq] at hpc
      obtain ⟨rfl, rfl⟩ := hpc
      clear hps hpp
      refine (P.out _ (HE.out.keep HB1.out)).mono ?_
      rintro e w1 ⟨rfl, hb⟩
      have HB4 := Lib.hid (Below.then HB1.out hb)
      clear hb
      go_wp2_with fail
      refine (S.out _).mono ?_
      rintro e w9 ⟨rfl, rfl⟩
      go_wp2_with fail
      refine (Q.out _ (HE.out.keep HB4.out)).mono ?_
      rintro e w3 ⟨rfl, hb⟩
      have HB5 := Lib.hid (Below.then HB4.out hb)
      clear hb
      go_wp2_with fail
      refine (A.out _ (HE.out.keep (Below.then HB5.out (below_new _ _)))).mono ?_
      rintro e w4 ⟨rfl, hb⟩
      have HB6 := Lib.hid (Below.then HB5.out (Below.then (below_new _ _) hb))
      have hl := ((At3.new w3 (.string ⟨#[]⟩) (.string ⟨#[]⟩) (.string ⟨#[]⟩) 23).keep hb).cells
      obtain ⟨⟨c0, c1, c2⟩, -⟩ := hl
      clear hb
      go_wp2_with fail
      go_ret
      exact ⟨by simp, HB6.out⟩
end Go.Proofs.YtcdibcogboaikaaDoor
