/-
  NameParts' walk: it returns true, and nothing that was there changes. Conditions: where octet's errors lie; an int where the library keeps one.
-/
import Derived.Test.YtcdibcogboaikaaDoorLawN
import Derived.Test.YtcdibcogboaikaaDoorNameLaws
namespace Go.Proofs.YtcdibcogboaikaaDoor
open Go.RowKit

set_option maxRecDepth 100000 in
theorem nparts_walk (aD aS aZ : Addr) (a b : ByteArray) (w : World) (he : NEnv w aD aS aZ) (ha : a.size ≤ maxLen) (hb : b.size ≤ maxLen) :
    Calls Tryd.prog 6 #[.string a, .string b] w fun e w' => e = .returned (.bool true) ∧ Below w.heap.size w w' := by
  have SA := Lib.hid (shortN_any a w ha)
  have SB := Lib.hid (fun w => shortN_any b w hb)
  have za := shortN_size a
  have zb := shortN_size b
  obtain ⟨x, hx⟩ : ∃ x, shortN a = x := ⟨_, rfl⟩
  obtain ⟨y, hy⟩ : ∃ y, shortN b = y := ⟨_, rfl⟩
  rw [hx] at SA za
  rw [hy] at SB zb
  have A := Lib.hid (fun w (he : NEnv w aD aS aZ) => aliveN_any aD aS aZ w he)
  have RX := Lib.hid (fun w (he : NEnv w aD aS aZ) => Repo_any x w (by unfold maxLen; omega) he.max)
  have RY := Lib.hid (fun w (he : NEnv w aD aS aZ) => Repo_any y w (by unfold maxLen; omega) he.max)
  have R1 := Lib.hid (fun w (he : NEnv w aD aS aZ) => Repo_any (x ++ { data := #[47] } ++ y) w (by rw [ByteArray.size_append, ByteArray.size_append]; show _ + 1 + _ ≤ _; unfold maxLen; omega) he.max)
  have R2 := Lib.hid (fun w (he : NEnv w aD aS aZ) => Repo_any (x ++ { data := #[47, 47] } ++ y) w (by rw [ByteArray.size_append, ByteArray.size_append]; show _ + 2 + _ ≤ _; unfold maxLen; omega) he.max)
  have R3 := Lib.hid (fun w (he : NEnv w aD aS aZ) => Repo_any ({ data := #[47] } ++ x) w (by rw [ByteArray.size_append]; show 1 + _ ≤ _; unfold maxLen; omega) he.max)
  have R4 := Lib.hid (fun w (he : NEnv w aD aS aZ) => Repo_any (x ++ { data := #[47] }) w (by rw [ByteArray.size_append]; show _ + 1 ≤ _; unfold maxLen; omega) he.max)
  rw [repoB_slash] at R1
  rw [repoB_two] at R2
  rw [repoB_ahead] at R3
  rw [repoB_behind] at R4
  obtain ⟨p, hp⟩ : ∃ p, repoB x = p := ⟨_, rfl⟩
  obtain ⟨q, hq⟩ : ∃ q, repoB y = q := ⟨_, rfl⟩
  rw [hp] at RX R1
  rw [hq] at RY R1
  have hs : decide ((x.size : Int) + (y.size : Int) + 1 ≤ 128) = decide (x.size + y.size + 1 ≤ 128) := decide_eq_decide.2 (by omega)
  obtain ⟨z, hz⟩ : ∃ z, decide (x.size + y.size + 1 ≤ 128) = z := ⟨_, rfl⟩
  rw [hz] at R1 hs
  have HE := Lib.hid he
  clear he hx hy hp hq hz ha hb
  cases p with
  | false =>
    rw [show (false && q && z) = false from rfl] at R1
    clear hs
    go_enter Tryd.func6, Tryd.ntmps6
    go_wp2_with fail
    refine SA.out.mono ?_
    rintro e w1 ⟨rfl, rfl⟩
    go_wp2_with fail
    refine (SB.out _).mono ?_
    rintro e w1 ⟨rfl, rfl⟩
    have HB0 := Lib.hid (Below.refl w.heap.size w)
    go_wp2_with fail
    refine (RX.out _ (HE.out.keep HB0.out)).mono ?_
    rintro e w1 ⟨rfl, hb⟩
    have HB1 := Lib.hid (Below.then HB0.out hb)
    clear hb
    go_wp2_with fail
    refine (A.out _ (HE.out.keep HB1.out)).mono ?_
    rintro e w2 ⟨rfl, hb⟩
    have HB2 := Lib.hid (Below.then HB1.out hb)
    clear hb
    go_wp2_with fail
    refine (R1.out _ (HE.out.keep HB2.out)).mono ?_
    rintro e w3 ⟨rfl, hb⟩
    have HB3 := Lib.hid (Below.then HB2.out hb)
    clear hb
    go_wp2_with fail
    refine (R2.out _ (HE.out.keep HB3.out)).mono ?_
    rintro e w4 ⟨rfl, hb⟩
    have HB4 := Lib.hid (Below.then HB3.out hb)
    clear hb
    go_wp2_with fail
    refine (R3.out _ (HE.out.keep HB4.out)).mono ?_
    rintro e w5 ⟨rfl, hb⟩
    have HB5 := Lib.hid (Below.then HB4.out hb)
    clear hb
    go_wp2_with fail
    refine (R4.out _ (HE.out.keep HB5.out)).mono ?_
    rintro e w6 ⟨rfl, hb⟩
    have HB6 := Lib.hid (Below.then HB5.out hb)
    clear hb
    go_wp2_with fail
    go_ret
    exact ⟨rfl, HB6.out⟩
  | true =>
    cases q with
    | false =>
      rw [show (true && false && z) = false from rfl] at R1
      clear hs
      go_enter Tryd.func6, Tryd.ntmps6
      go_wp2_with fail
      refine SA.out.mono ?_
      rintro e w1 ⟨rfl, rfl⟩
      go_wp2_with fail
      refine (SB.out _).mono ?_
      rintro e w1 ⟨rfl, rfl⟩
      have HB0 := Lib.hid (Below.refl w.heap.size w)
      go_wp2_with fail
      refine (RX.out _ (HE.out.keep HB0.out)).mono ?_
      rintro e w1 ⟨rfl, hb⟩
      have HB1 := Lib.hid (Below.then HB0.out hb)
      clear hb
      go_wp2_with fail
      refine (RY.out _ (HE.out.keep HB1.out)).mono ?_
      rintro e w2 ⟨rfl, hb⟩
      have HB2 := Lib.hid (Below.then HB1.out hb)
      clear hb
      go_wp2_with fail
      refine (A.out _ (HE.out.keep HB2.out)).mono ?_
      rintro e w3 ⟨rfl, hb⟩
      have HB3 := Lib.hid (Below.then HB2.out hb)
      clear hb
      go_wp2_with fail
      refine (R1.out _ (HE.out.keep HB3.out)).mono ?_
      rintro e w4 ⟨rfl, hb⟩
      have HB4 := Lib.hid (Below.then HB3.out hb)
      clear hb
      go_wp2_with fail
      refine (R2.out _ (HE.out.keep HB4.out)).mono ?_
      rintro e w5 ⟨rfl, hb⟩
      have HB5 := Lib.hid (Below.then HB4.out hb)
      clear hb
      go_wp2_with fail
      refine (R3.out _ (HE.out.keep HB5.out)).mono ?_
      rintro e w6 ⟨rfl, hb⟩
      have HB6 := Lib.hid (Below.then HB5.out hb)
      clear hb
      go_wp2_with fail
      refine (R4.out _ (HE.out.keep HB6.out)).mono ?_
      rintro e w7 ⟨rfl, hb⟩
      have HB7 := Lib.hid (Below.then HB6.out hb)
      clear hb
      go_wp2_with fail
      go_ret
      exact ⟨rfl, HB7.out⟩
    | true =>
      rw [show (true && true && z) = z from rfl] at R1
      cases z
      all_goals
        go_enter Tryd.func6, Tryd.ntmps6
        go_wp2_with fail
        refine SA.out.mono ?_
        rintro e w1 ⟨rfl, rfl⟩
        go_wp2_with fail
        refine (SB.out _).mono ?_
        rintro e w1 ⟨rfl, rfl⟩
        have HB0 := Lib.hid (Below.refl w.heap.size w)
        go_wp2_with fail
        refine (RX.out _ (HE.out.keep HB0.out)).mono ?_
        rintro e w1 ⟨rfl, hb⟩
        have HB1 := Lib.hid (Below.then HB0.out hb)
        clear hb
        go_wp2_with fail
        refine (RY.out _ (HE.out.keep HB1.out)).mono ?_
        rintro e w2 ⟨rfl, hb⟩
        have HB2 := Lib.hid (Below.then HB1.out hb)
        clear hb
        go_wp2_with fail
        refine (A.out _ (HE.out.keep HB2.out)).mono ?_
        rintro e w3 ⟨rfl, hb⟩
        have HB3 := Lib.hid (Below.then HB2.out hb)
        clear hb
        go_wp2_with fail
        refine (R1.out _ (HE.out.keep HB3.out)).mono ?_
        rintro e w4 ⟨rfl, hb⟩
        have HB4 := Lib.hid (Below.then HB3.out hb)
        clear hb
        go_wp2_with fail
        refine (R2.out _ (HE.out.keep HB4.out)).mono ?_
        rintro e w5 ⟨rfl, hb⟩
        have HB5 := Lib.hid (Below.then HB4.out hb)
        clear hb
        go_wp2_with fail
        refine (R3.out _ (HE.out.keep HB5.out)).mono ?_
        rintro e w6 ⟨rfl, hb⟩
        have HB6 := Lib.hid (Below.then HB5.out hb)
        clear hb
        go_wp2_with fail
        refine (R4.out _ (HE.out.keep HB6.out)).mono ?_
        rintro e w7 ⟨rfl, hb⟩
        have HB7 := Lib.hid (Below.then HB6.out hb)
        clear hb
        go_wp2_with fail
        go_ret
        exact ⟨rfl, HB7.out⟩
end Go.Proofs.YtcdibcogboaikaaDoor
