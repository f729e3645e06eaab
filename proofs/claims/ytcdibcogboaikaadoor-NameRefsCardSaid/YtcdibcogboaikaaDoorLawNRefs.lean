/-
  NameRefs' walk: it returns true, and nothing that was there changes. Conditions: where octet's errors and the digest's tables lie; an int where the library keeps one.
-/
import Derived.Test.YtcdibcogboaikaaDoorLawN
import Derived.Test.YtcdibcogboaikaaDoorNameLaws
namespace Go.Proofs.YtcdibcogboaikaaDoor
open Go.RowKit

theorem ofB_may (data : ByteArray) : (ofB data).size = 71 ∧ (parseD (ofB data)).2 = 0 := ⟨ofB_size data, by rw [parseD_of]⟩

set_option maxRecDepth 100000 in
set_option maxHeartbeats 4000000 in
theorem nrefs_walk (aD aS aZ : Addr) (repo tag data : ByteArray) (w : World) (he : NEnv w aD aS aZ) (ht : Tabs w) (hr : repo.size ≤ maxLen) (hg : tag.size ≤ maxLen) (hd : data.size ≤ maxLen) :
    Calls Tryd.prog 8 #[.string repo, .string tag, .string data] w fun e w' => e = .returned (.bool true) ∧ Below w.heap.size w w' := by
  have SR := Lib.hid (fun w => shortN_any repo w hr)
  have ST := Lib.hid (fun w => shortN_any tag w hg)
  have SD := Lib.hid (fun w => shortN_any data w hd)
  have zr := shortN_size repo
  have zt := shortN_size tag
  have zd := shortN_size data
  obtain ⟨x, hx⟩ : ∃ x, shortN repo = x := ⟨_, rfl⟩
  obtain ⟨y, hy⟩ : ∃ y, shortN tag = y := ⟨_, rfl⟩
  obtain ⟨z, hz⟩ : ∃ z, shortN data = z := ⟨_, rfl⟩
  rw [hx] at SR zr
  rw [hy] at ST zt
  rw [hz] at SD zd
  have O := Lib.hid (fun w (ht : Tabs w) => of_any z w ht (by omega))
  obtain ⟨d71, dok⟩ := ofB_may z
  obtain ⟨d, hdd⟩ : ∃ d, ofB z = d := ⟨_, rfl⟩
  rw [hdd] at O d71 dok
  have h0 : (⟨#[]⟩ : ByteArray).size = 0 := rfl
  have z1 : ∀ c : UInt8, ({ data := #[c] } : ByteArray).size = 1 := fun _ => rfl
  have s1 : (RefB.mk x y ⟨#[]⟩).Short := ⟨by show x.size < _; omega, by show y.size < _; omega, by show (⟨#[]⟩ : ByteArray).size < _; omega⟩
  have s2 : (RefB.mk x ⟨#[]⟩ d).Short := ⟨by show x.size < _; omega, by show (⟨#[]⟩ : ByteArray).size < _; omega, by show d.size < _; omega⟩
  have s3 : (RefB.mk x y d).Short := ⟨by show x.size < _; omega, by show y.size < _; omega, by show d.size < _; omega⟩
  have s4 : (RefB.mk x ⟨#[]⟩ ⟨#[]⟩).Short := ⟨by show x.size < _; omega, by show (⟨#[]⟩ : ByteArray).size < _; omega, by show (⟨#[]⟩ : ByteArray).size < _; omega⟩
  have P1 := Lib.hid (fun w (he : NEnv w aD aS aZ) => Print_any aD aS aZ ⟨x, y, ⟨#[]⟩⟩ w he s1)
  have P2 := Lib.hid (fun w (he : NEnv w aD aS aZ) => Print_any aD aS aZ ⟨x, ⟨#[]⟩, d⟩ w he s2)
  have P3 := Lib.hid (fun w (he : NEnv w aD aS aZ) => Print_any aD aS aZ ⟨x, y, d⟩ w he s3)
  have P4 := Lib.hid (fun w (he : NEnv w aD aS aZ) => Print_any aD aS aZ ⟨x, ⟨#[]⟩, ⟨#[]⟩⟩ w he s4)
  have RX := Lib.hid (fun w (he : NEnv w aD aS aZ) => Repo_any x w (by unfold maxLen; omega) he.max)
  have TY := Lib.hid (fun w => Tag_any y w (by unfold maxLen; omega))
  have AL := Lib.hid (fun w (he : NEnv w aD aS aZ) => aliveN_any aD aS aZ w he)
  have Q := Lib.hid (fun w (he : NEnv w aD aS aZ) => Parse_any aD aS aZ (x ++ { data := #[58] } ++ y ++ { data := #[64] } ++ d) w he (by simp only [ByteArray.size_append, z1]; omega))
  have hq : parseN (x ++ { data := #[58] } ++ y ++ { data := #[64] } ++ d) = (emptyR, 5) := by unfold parseN; rw [both_none]; rfl
  rw [hq] at Q
  unfold emptyR RefB.val at Q
  simp only [] at Q
  have hd0 : d.size ≠ 0 := by omega
  have m1 : (RefB.mk x y ⟨#[]⟩).may = (repoB x && tagB y) := rfl
  have m2 : (RefB.mk x ⟨#[]⟩ d).may = repoB x := by unfold RefB.may; simp only [if_neg hd0, dok, h0]; simp
  have m3 : (RefB.mk x y d).may = (repoB x && decide (y.size = 0)) := by unfold RefB.may; simp only [if_neg hd0, dok]; simp
  have m4 : (RefB.mk x ⟨#[]⟩ ⟨#[]⟩).may = false := by
    show (repoB x && tagB ⟨#[]⟩) = false
    rw [tagB_empty, Bool.and_false]
  have r1 : printR ⟨x, y, ⟨#[]⟩⟩ = if repoB x && tagB y then (x ++ { data := #[58] } ++ y, 0) else (⟨#[]⟩, 1) := by unfold printR; rw [m1]; rfl
  have r2 : printR ⟨x, ⟨#[]⟩, d⟩ = if repoB x then (x ++ { data := #[64] } ++ d, 0) else (⟨#[]⟩, 1) := by unfold printR RefB.text; rw [m2]; simp only [if_neg hd0]
  have r3 : printR ⟨x, y, d⟩ = if repoB x && decide (y.size = 0) then (x ++ { data := #[64] } ++ d, 0) else (⟨#[]⟩, 1) := by unfold printR RefB.text; rw [m3]; simp only [if_neg hd0]
  have r4 : printR ⟨x, ⟨#[]⟩, ⟨#[]⟩⟩ = (⟨#[]⟩, 1) := by unfold printR; rw [m4]; rfl
  have hte : tagB y = true → y.size ≠ 0 := fun h e => by rw [empty_of y e, tagB_empty] at h; cases h
  obtain ⟨p, hp⟩ : ∃ p, repoB x = p := ⟨_, rfl⟩
  obtain ⟨q, hqq⟩ : ∃ q, tagB y = q := ⟨_, rfl⟩
  rw [hp, hqq] at r1
  rw [hp] at r2 r3 RX
  rw [hqq] at TY hte
  have HE := Lib.hid he
  have HT := Lib.hid ht
  have hye : (y.toList == []) = decide (y.size = 0) ∧ y.toList.isEmpty = decide (y.size = 0) := by
    by_cases h : y.size = 0
    · obtain rfl := empty_of y h; rw [Lib.toList_data]; exact ⟨rfl, rfl⟩
    · rw [decide_eq_false h]; exact not_empty y h
  obtain ⟨e1, e2⟩ := hye
  obtain ⟨v, hv⟩ : ∃ v, decide (y.size = 0) = v := ⟨_, rfl⟩
  rw [hv] at e1 e2 r3
  have d72 : d.size ≤ 71 := by omega
  clear he ht hq hd0 m1 m2 m3 m4 hp hqq hx hy hz hdd s1 s2 s3 s4 hr hg hd zd d71 dok z1 h0
  unfold RefB.val at P1 P2 P3 P4
  simp only [] at P1 P2 P3 P4
  rw [r4] at P4
  simp only [] at P4
  cases p with
  | false =>
    simp only [Bool.false_and, Bool.false_eq_true, if_false] at r1 r2 r3
    rw [r1] at P1
    rw [r2] at P2
    rw [r3] at P3
    simp only [] at P1 P2 P3
    clear r1 r2 r3 r4 hte hv
    go_enter Tryd.func8, Tryd.ntmps8
    go_wp2_with fail
    refine (SR.out _).mono ?_
    rintro e w9 ⟨rfl, rfl⟩
    go_wp2_with fail
    refine (ST.out _).mono ?_
    rintro e w9 ⟨rfl, rfl⟩
    go_wp2_with fail
    refine (SD.out _).mono ?_
    rintro e w9 ⟨rfl, rfl⟩
    go_wp2_with fail
    refine (O.out _ HT.out).mono ?_
    rintro e w1 ⟨rfl, hb⟩
    have HB1 := Lib.hid hb
    clear hb
    go_wp2_with fail
    refine (P1.out _ (HE.out.keep HB1.out)).mono ?_
    rintro e w2 ⟨rfl, hb⟩
    have HB2 := Lib.hid (Below.then HB1.out hb)
    clear hb
    go_wp2_with fail
    refine (P2.out _ (HE.out.keep HB2.out)).mono ?_
    rintro e w3 ⟨rfl, hb⟩
    have HB3 := Lib.hid (Below.then HB2.out hb)
    clear hb
    go_wp2_with fail
    refine (P3.out _ (HE.out.keep HB3.out)).mono ?_
    rintro e w4 ⟨rfl, hb⟩
    have HB4 := Lib.hid (Below.then HB3.out hb)
    clear hb
    go_wp2_with fail
    refine (P4.out _ (HE.out.keep HB4.out)).mono ?_
    rintro e w5 ⟨rfl, hb⟩
    have HB5 := Lib.hid (Below.then HB4.out hb)
    clear hb
    go_wp2_with fail
    refine (RX.out _ (HE.out.keep HB5.out)).mono ?_
    rintro e w6 ⟨rfl, hb⟩
    have HB6 := Lib.hid (Below.then HB5.out hb)
    clear hb
    go_wp2_with fail
    refine (RX.out _ (HE.out.keep HB6.out)).mono ?_
    rintro e w7 ⟨rfl, hb⟩
    have HB7 := Lib.hid (Below.then HB6.out hb)
    clear hb
    go_wp2_with fail
    refine (AL.out _ (HE.out.keep HB7.out)).mono ?_
    rintro e w8 ⟨rfl, hb⟩
    have HB8 := Lib.hid (Below.then HB7.out hb)
    clear hb
    go_wp2_with fail
    refine (Q.out _ (HE.out.keep HB8.out)).mono ?_
    rintro e w9 ⟨rfl, hb⟩
    have HB9 := Lib.hid (Below.then HB8.out hb)
    clear hb
    go_wp2_with fail
    go_ret
    exact ⟨by simp, Below.then HB9.out (below_new _ _)⟩
  | true =>
    simp only [Bool.true_and, if_true] at r1 r2 r3
    cases q with
    | true =>
      have hv2 := hte rfl
      obtain rfl : v = false := by rw [← hv]; exact decide_eq_false hv2
      simp only [Bool.false_eq_true, if_false, if_true] at r1 r3
      rw [r1] at P1
      rw [r2] at P2
      rw [r3] at P3
      simp only [] at P1 P2 P3
      clear r1 r2 r3 r4 hte hv hv2
      go_enter Tryd.func8, Tryd.ntmps8
      go_wp2_with fail
      refine (SR.out _).mono ?_
      rintro e w9 ⟨rfl, rfl⟩
      go_wp2_with fail
      refine (ST.out _).mono ?_
      rintro e w9 ⟨rfl, rfl⟩
      go_wp2_with fail
      refine (SD.out _).mono ?_
      rintro e w9 ⟨rfl, rfl⟩
      go_wp2_with fail
      refine (O.out _ HT.out).mono ?_
      rintro e w1 ⟨rfl, hb⟩
      have HB1 := Lib.hid hb
      clear hb
      go_wp2_with fail
      refine (P1.out _ (HE.out.keep HB1.out)).mono ?_
      rintro e w2 ⟨rfl, hb⟩
      have HB2 := Lib.hid (Below.then HB1.out hb)
      clear hb
      go_wp2_with fail
      refine (P2.out _ (HE.out.keep HB2.out)).mono ?_
      rintro e w3 ⟨rfl, hb⟩
      have HB3 := Lib.hid (Below.then HB2.out hb)
      clear hb
      go_wp2_with fail
      refine (P3.out _ (HE.out.keep HB3.out)).mono ?_
      rintro e w4 ⟨rfl, hb⟩
      have HB4 := Lib.hid (Below.then HB3.out hb)
      clear hb
      go_wp2_with fail
      refine (P4.out _ (HE.out.keep HB4.out)).mono ?_
      rintro e w5 ⟨rfl, hb⟩
      have HB5 := Lib.hid (Below.then HB4.out hb)
      clear hb
      go_wp2_with fail
      refine (RX.out _ (HE.out.keep HB5.out)).mono ?_
      rintro e w6 ⟨rfl, hb⟩
      have HB6 := Lib.hid (Below.then HB5.out hb)
      clear hb
      go_wp2_with fail
      refine (TY.out _).mono ?_
      rintro e w7 ⟨rfl, rfl⟩
      go_wp2_with fail
      refine (RX.out _ (HE.out.keep HB6.out)).mono ?_
      rintro e w7 ⟨rfl, hb⟩
      have HB7 := Lib.hid (Below.then HB6.out hb)
      clear hb
      go_wp2_with fail
      refine (AL.out _ (HE.out.keep HB7.out)).mono ?_
      rintro e w8 ⟨rfl, hb⟩
      have HB8 := Lib.hid (Below.then HB7.out hb)
      clear hb
      go_wp2_with fail
      refine (Q.out _ (HE.out.keep HB8.out)).mono ?_
      rintro e w9 ⟨rfl, hb⟩
      have HB9 := Lib.hid (Below.then HB8.out hb)
      clear hb
      go_wp2_with fail
      go_ret
      exact ⟨by simp, Below.then HB9.out (below_new _ _)⟩
    | false =>
      simp only [Bool.false_eq_true, if_false] at r1
      rw [r1] at P1
      rw [r2] at P2
      rw [r3] at P3
      simp only [] at P1 P2
      clear r1 r2 r3 r4 hte hv
      cases v with
      | true =>
        simp only [if_true] at P3
        go_enter Tryd.func8, Tryd.ntmps8
        go_wp2_with fail
        refine (SR.out _).mono ?_
        rintro e w9 ⟨rfl, rfl⟩
        go_wp2_with fail
        refine (ST.out _).mono ?_
        rintro e w9 ⟨rfl, rfl⟩
        go_wp2_with fail
        refine (SD.out _).mono ?_
        rintro e w9 ⟨rfl, rfl⟩
        go_wp2_with fail
        refine (O.out _ HT.out).mono ?_
        rintro e w1 ⟨rfl, hb⟩
        have HB1 := Lib.hid hb
        clear hb
        go_wp2_with fail
        refine (P1.out _ (HE.out.keep HB1.out)).mono ?_
        rintro e w2 ⟨rfl, hb⟩
        have HB2 := Lib.hid (Below.then HB1.out hb)
        clear hb
        go_wp2_with fail
        refine (P2.out _ (HE.out.keep HB2.out)).mono ?_
        rintro e w3 ⟨rfl, hb⟩
        have HB3 := Lib.hid (Below.then HB2.out hb)
        clear hb
        go_wp2_with fail
        refine (P3.out _ (HE.out.keep HB3.out)).mono ?_
        rintro e w4 ⟨rfl, hb⟩
        have HB4 := Lib.hid (Below.then HB3.out hb)
        clear hb
        go_wp2_with fail
        refine (P4.out _ (HE.out.keep HB4.out)).mono ?_
        rintro e w5 ⟨rfl, hb⟩
        have HB5 := Lib.hid (Below.then HB4.out hb)
        clear hb
        go_wp2_with fail
        refine (RX.out _ (HE.out.keep HB5.out)).mono ?_
        rintro e w6 ⟨rfl, hb⟩
        have HB6 := Lib.hid (Below.then HB5.out hb)
        clear hb
        go_wp2_with fail
        refine (TY.out _).mono ?_
        rintro e w7 ⟨rfl, rfl⟩
        go_wp2_with fail
        refine (RX.out _ (HE.out.keep HB6.out)).mono ?_
        rintro e w7 ⟨rfl, hb⟩
        have HB7 := Lib.hid (Below.then HB6.out hb)
        clear hb
        go_wp2_with fail
        refine (AL.out _ (HE.out.keep HB7.out)).mono ?_
        rintro e w8 ⟨rfl, hb⟩
        have HB8 := Lib.hid (Below.then HB7.out hb)
        clear hb
        go_wp2_with fail
        refine (Q.out _ (HE.out.keep HB8.out)).mono ?_
        rintro e w9 ⟨rfl, hb⟩
        have HB9 := Lib.hid (Below.then HB8.out hb)
        clear hb
        go_wp2_with fail
        go_ret
        exact ⟨by simp, Below.then HB9.out (below_new _ _)⟩
      | false =>
        simp only [Bool.false_eq_true, if_false] at P3
        go_enter Tryd.func8, Tryd.ntmps8
        go_wp2_with fail
        refine (SR.out _).mono ?_
        rintro e w9 ⟨rfl, rfl⟩
        go_wp2_with fail
        refine (ST.out _).mono ?_
        rintro e w9 ⟨rfl, rfl⟩
        go_wp2_with fail
        refine (SD.out _).mono ?_
        rintro e w9 ⟨rfl, rfl⟩
        go_wp2_with fail
        refine (O.out _ HT.out).mono ?_
        rintro e w1 ⟨rfl, hb⟩
        have HB1 := Lib.hid hb
        clear hb
        go_wp2_with fail
        refine (P1.out _ (HE.out.keep HB1.out)).mono ?_
        rintro e w2 ⟨rfl, hb⟩
        have HB2 := Lib.hid (Below.then HB1.out hb)
        clear hb
        go_wp2_with fail
        refine (P2.out _ (HE.out.keep HB2.out)).mono ?_
        rintro e w3 ⟨rfl, hb⟩
        have HB3 := Lib.hid (Below.then HB2.out hb)
        clear hb
        go_wp2_with fail
        refine (P3.out _ (HE.out.keep HB3.out)).mono ?_
        rintro e w4 ⟨rfl, hb⟩
        have HB4 := Lib.hid (Below.then HB3.out hb)
        clear hb
        go_wp2_with fail
        refine (P4.out _ (HE.out.keep HB4.out)).mono ?_
        rintro e w5 ⟨rfl, hb⟩
        have HB5 := Lib.hid (Below.then HB4.out hb)
        clear hb
        go_wp2_with fail
        refine (RX.out _ (HE.out.keep HB5.out)).mono ?_
        rintro e w6 ⟨rfl, hb⟩
        have HB6 := Lib.hid (Below.then HB5.out hb)
        clear hb
        go_wp2_with fail
        refine (TY.out _).mono ?_
        rintro e w7 ⟨rfl, rfl⟩
        go_wp2_with fail
        refine (RX.out _ (HE.out.keep HB6.out)).mono ?_
        rintro e w7 ⟨rfl, hb⟩
        have HB7 := Lib.hid (Below.then HB6.out hb)
        clear hb
        go_wp2_with fail
        refine (AL.out _ (HE.out.keep HB7.out)).mono ?_
        rintro e w8 ⟨rfl, hb⟩
        have HB8 := Lib.hid (Below.then HB7.out hb)
        clear hb
        go_wp2_with fail
        refine (Q.out _ (HE.out.keep HB8.out)).mono ?_
        rintro e w9 ⟨rfl, hb⟩
        have HB9 := Lib.hid (Below.then HB8.out hb)
        clear hb
        go_wp2_with fail
        go_ret
        exact ⟨by simp, Below.then HB9.out (below_new _ _)⟩
end Go.Proofs.YtcdibcogboaikaaDoor
