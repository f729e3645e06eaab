/-
  References: mayBe, Print and Parse by contracts. Conditions: fewer than 2^32 - 15 bytes a text; octet's errors lie where they lie; an int where the library keeps one.
-/
import Derived.Test.YtcdibcogboaikaaDoorName3
namespace Go.Proofs.YtcdibcogboaikaaDoor
open Go.RowKit

theorem empty_of (s : ByteArray) (h : s.size = 0) : s = ⟨#[]⟩ := ByteArray.ext (Array.eq_empty_of_size_eq_zero h)
theorem not_empty (s : ByteArray) (h : s.size ≠ 0) : (s.toList == []) = false ∧ s.toList.isEmpty = false := by
  have hlen : s.data.toList.length = s.size := (Lib.size_eq s).symm
  constructor
  · rw [beq_eq_false_iff_ne, Lib.toList_data]; intro e; rw [e] at hlen; simp at hlen; omega
  · rw [List.isEmpty_eq_false_iff, Lib.toList_data]; intro e; rw [e] at hlen; simp at hlen; omega
/-- Texts that are short enough for the walks. -/
structure RefB.Short (r : RefB) : Prop where
  repo : r.repo.size < 4294967281
  tag : r.tag.size < 4294967281
  dig : r.dig.size < 4294967281

set_option maxRecDepth 100000 in
theorem mayBe_any (aD aS aZ : Addr) (r : RefB) (w : World) (he : NEnv w aD aS aZ) (hr : r.Short) :
    Calls Tryd.prog 21 #[r.val] w fun e w' => e = .returned (.bool r.may) ∧ Below w.heap.size w w' := by
  obtain ⟨repo, tag, dig⟩ := r
  obtain ⟨h1, h2, h3⟩ := hr
  simp only [] at h1 h2 h3
  have R := Lib.hid (fun w (he : NEnv w aD aS aZ) => Repo_any repo w (by unfold maxLen; omega) he.max)
  have T := Lib.hid (fun w => Tag_any tag w (by unfold maxLen; omega))
  have D := Lib.hid (fun w (he : NEnv w aD aS aZ) => parse_any aD aS aZ dig w he.env (by omega))
  have HE := Lib.hid he
  unfold RefB.val
  simp only []
  have HM := Lib.hid (show (RefB.mk repo tag dig).may = (repoB repo && (if dig.size = 0 then tagB tag else (parseD dig).2 == 0 && decide (tag.size = 0))) from rfl)
  obtain ⟨b, hb⟩ : ∃ b, repoB repo = b := ⟨_, rfl⟩
  rw [hb] at R HM
  clear he hb h1 h2 h3
  cases b with
  | false =>
    have HO := Lib.hid (show (RefB.mk repo tag dig).may = false by rw [HM.out]; rfl)
    go_enter Tryd.func21, Tryd.ntmps21
    go_wp2_with fail
    refine (R.out _ (HE.out.keep ((Below.refl _ _).alloc (Nat.le_refl _) _))).mono ?_
    rintro e w1 ⟨rfl, hb⟩
    obtain ⟨⟨c0, c1, c2⟩, -, hb0, -⟩ := laid3 hb
    have HB := Lib.hid hb0
    clear hb hb0
    go_wp2_with fail
    go_ret
    exact ⟨by rw [HO.out]; rfl, HB.out⟩
  | true =>
    by_cases hd : dig.size = 0
    · have HO := Lib.hid (show (RefB.mk repo tag dig).may = tagB tag by rw [HM.out, if_pos hd]; rfl)
      obtain rfl := empty_of dig hd
      clear hd
      go_enter Tryd.func21, Tryd.ntmps21
      go_wp2_with fail
      refine (R.out _ (HE.out.keep ((Below.refl _ _).alloc (Nat.le_refl _) _))).mono ?_
      rintro e w1 ⟨rfl, hb⟩
      obtain ⟨⟨c0, c1, c2⟩, -, hb0, -⟩ := laid3 hb
      have HB := Lib.hid hb0
      clear hb hb0
      go_wp2_with fail
      refine (T.out _).mono ?_
      rintro e w2 ⟨rfl, rfl⟩
      go_wp2_with fail
      go_ret
      exact ⟨by rw [HO.out]; rfl, HB.out⟩
    · obtain ⟨e1, e2⟩ := not_empty dig hd
      have HO := Lib.hid (show (RefB.mk repo tag dig).may = ((parseD dig).2 == 0 && decide (tag.size = 0)) by rw [HM.out, if_neg hd]; rfl)
      obtain ⟨x, n, hx, hn⟩ := parseD_cases dig
      rw [hx] at D HO
      clear hx hd HM
      have ht : (tag.toList == []) = decide (tag.size = 0) ∧ tag.toList.isEmpty = decide (tag.size = 0) := by
        by_cases h : tag.size = 0
        · obtain rfl := empty_of tag h; rw [Lib.toList_data]; exact ⟨rfl, rfl⟩
        · rw [decide_eq_false h]; exact not_empty tag h
      obtain ⟨t1, t2⟩ := ht
      obtain ⟨q, hq⟩ : ∃ q, decide (tag.size = 0) = q := ⟨_, rfl⟩
      rw [hq] at t1 t2 HO
      clear hq
      rcases hn with ⟨rfl, _⟩ | ⟨rfl, _⟩
      all_goals
        go_enter Tryd.func21, Tryd.ntmps21
        go_wp2_with fail
        refine (R.out _ (HE.out.keep ((Below.refl _ _).alloc (Nat.le_refl _) _))).mono ?_
        rintro e w1 ⟨rfl, hb⟩
        obtain ⟨⟨c0, c1, c2⟩, -, hb0, -⟩ := laid3 hb
        have HB := Lib.hid hb0
        clear hb hb0
        go_wp2_with fail
        refine (D.out _ (HE.out.keep HB.out)).mono ?_
        rintro e w2 ⟨rfl, hb⟩
        have HB2 := Lib.hid (HB.out.trans (hb.mono HB.out.size))
        have c1' := (hb.cell (World.block_lt_of_cell? _ _ c1)).trans c1
        clear hb c0 c1 c2
        go_wp2_with fail
        all_goals
          go_ret
          exact ⟨by rw [HO.out]; rfl, HB2.out⟩

/-- A reference's text. -/
def RefB.text (r : RefB) : ByteArray := if r.dig.size = 0 then r.repo ++ { data := #[58] } ++ r.tag else r.repo ++ { data := #[64] } ++ r.dig
def printR (r : RefB) : ByteArray × Int := if r.may then (r.text, 0) else (⟨#[]⟩, 1)
set_option maxRecDepth 100000 in
theorem Print_any (aD aS aZ : Addr) (r : RefB) (w : World) (he : NEnv w aD aS aZ) (hr : r.Short) :
    Calls Tryd.prog 10 #[r.val] w fun e w' => e = .returned (.tuple #[.string (printR r).1, .int .i64 (printR r).2]) ∧ Below w.heap.size w w' := by
  have M := Lib.hid (fun w (he : NEnv w aD aS aZ) => mayBe_any aD aS aZ r w he hr)
  have HE := Lib.hid he
  obtain ⟨b, hb⟩ : ∃ b, r.may = b := ⟨_, rfl⟩
  obtain ⟨repo, tag, dig⟩ := r
  obtain ⟨h1, h2, h3⟩ := hr
  simp only [] at h1 h2 h3
  have HO := Lib.hid (show printR ⟨repo, tag, dig⟩ = if b then ((RefB.mk repo tag dig).text, 0) else (⟨#[]⟩, 1) by unfold printR; rw [hb])
  rw [hb] at M
  unfold RefB.val at M ⊢
  simp only [] at M ⊢
  clear hb he
  cases b with
  | false =>
    go_enter Tryd.func10, Tryd.ntmps10
    go_wp2_with fail
    refine (M.out _ (HE.out.keep ((Below.refl _ _).alloc (Nat.le_refl _) _))).mono ?_
    rintro e w1 ⟨rfl, hb⟩
    obtain ⟨⟨c0, c1, c2⟩, -, hb0, -⟩ := laid3 hb
    have HB := Lib.hid hb0
    clear hb hb0
    go_wp2_with fail
    go_ret2
    exact ⟨by rw [HO.out]; rfl, HB.out⟩
  | true =>
    by_cases hd : dig.size = 0
    · have HO2 := Lib.hid (show printR ⟨repo, tag, dig⟩ = (repo ++ { data := #[58] } ++ tag, 0) by rw [HO.out]; unfold RefB.text; simp only [if_pos hd]; rfl)
      obtain rfl := empty_of dig hd
      clear hd HO
      go_enter Tryd.func10, Tryd.ntmps10
      go_wp2_with fail
      refine (M.out _ (HE.out.keep ((Below.refl _ _).alloc (Nat.le_refl _) _))).mono ?_
      rintro e w1 ⟨rfl, hb⟩
      obtain ⟨⟨c0, c1, c2⟩, -, hb0, -⟩ := laid3 hb
      have HB := Lib.hid hb0
      clear hb hb0
      go_wp2_with fail
      go_ret2
      exact ⟨by rw [HO2.out]; rfl, HB.out⟩
    · have HO2 := Lib.hid (show printR ⟨repo, tag, dig⟩ = (repo ++ { data := #[64] } ++ dig, 0) by rw [HO.out]; unfold RefB.text; simp only [if_neg hd]; rfl)
      obtain ⟨e1, e2⟩ := not_empty dig hd
      clear hd HO
      go_enter Tryd.func10, Tryd.ntmps10
      go_wp2_with fail
      refine (M.out _ (HE.out.keep ((Below.refl _ _).alloc (Nat.le_refl _) _))).mono ?_
      rintro e w1 ⟨rfl, hb⟩
      obtain ⟨⟨c0, c1, c2⟩, -, hb0, -⟩ := laid3 hb
      have HB := Lib.hid hb0
      clear hb hb0
      go_wp2_with fail
      go_ret2
      exact ⟨by rw [HO2.out]; rfl, HB.out⟩
end Go.Proofs.YtcdibcogboaikaaDoor
