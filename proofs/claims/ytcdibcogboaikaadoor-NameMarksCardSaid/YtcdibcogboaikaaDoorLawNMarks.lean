/-
  NameMarks' walk: it returns true, and nothing that was there changes. Conditions: where octet's errors lie; an int where the library keeps one.
-/
import Derived.Test.YtcdibcogboaikaaDoorLawN
import Derived.Test.YtcdibcogboaikaaDoorNameLaws
namespace Go.Proofs.YtcdibcogboaikaaDoor
open Go.RowKit

theorem mod_at (m : Int) (hm : m = 4 ∨ m = 6) (a : Int) : ∃ (p : Int) (k : Nat), a.tmod m = p ∧ -m < p ∧ p < m ∧ (p + m) % m = (k : Int) ∧ (p + m).tmod m = (k : Int) ∧ (k : Int) < m := by
  have h1 := Int.tmod_lt_of_pos a (show 0 < m by omega)
  have h2 : -m < a.tmod m := by
    have := Int.lt_tmod_of_pos a (show 0 < m by omega)
    omega
  obtain ⟨p, hp⟩ : ∃ p, a.tmod m = p := ⟨_, rfl⟩
  rw [hp] at h1 h2
  have h3 : 0 ≤ (p + m) % m := Int.emod_nonneg _ (by omega)
  have h4 : (p + m) % m < m := Int.emod_lt_of_pos _ (by omega)
  refine ⟨p, ((p + m) % m).toNat, hp, h2, h1, by omega, ?_, by omega⟩
  rw [Int.tmod_eq_emod_of_nonneg (by omega)]; omega

/-- The marks of the statement. -/
def markB : Nat → ByteArray
  | 0 => { data := #[46] }
  | 1 => { data := #[95] }
  | 2 => { data := #[95, 95] }
  | _ => { data := #[45] }
def dashB (k : Nat) : ByteArray := ⟨(List.replicate k 45).toArray⟩
theorem dashB_succ (k : Nat) : dashB k ++ { data := #[45] } = dashB (k + 1) := by
  refine ba_ext ?_
  rw [append_list]
  show List.replicate k 45 ++ [45] = List.replicate (k + 1) 45
  rw [← List.replicate_succ']
theorem marks_one : ∀ A : Fin 4, repoB ({ data := #[97] } ++ markB A.1 ++ { data := #[98, 49] }) = true ∧ repoB (markB A.1 ++ { data := #[98, 49] }) = false ∧ repoB ({ data := #[97] } ++ markB A.1) = false ∧ (markB A.1).size ≤ 2
  | ⟨0, _⟩ => ⟨by kernel_rfl, by kernel_rfl, by kernel_rfl, Nat.le_of_ble_eq_true rfl⟩
  | ⟨1, _⟩ => ⟨by kernel_rfl, by kernel_rfl, by kernel_rfl, Nat.le_of_ble_eq_true rfl⟩
  | ⟨2, _⟩ => ⟨by kernel_rfl, by kernel_rfl, by kernel_rfl, Nat.le_of_ble_eq_true rfl⟩
  | ⟨3, _⟩ => ⟨by kernel_rfl, by kernel_rfl, by kernel_rfl, Nat.le_of_ble_eq_true rfl⟩
theorem marks_dash : ∀ k : Fin 6, repoB ({ data := #[97] } ++ dashB (k.1 + 1) ++ { data := #[98, 49] }) = true
  | ⟨0, _⟩ => by kernel_rfl
  | ⟨1, _⟩ => by kernel_rfl
  | ⟨2, _⟩ => by kernel_rfl
  | ⟨3, _⟩ => by kernel_rfl
  | ⟨4, _⟩ => by kernel_rfl
  | ⟨5, _⟩ => by kernel_rfl
def TwoMarks (A B : Nat) : Prop := repoB ({ data := #[97] } ++ (markB A ++ markB B) ++ { data := #[98, 49] }) = ((markB A ++ markB B).data.toList == [95, 95] || (markB A ++ markB B).data.toList == [45, 45]) ∧
  repoB ({ data := #[97] } ++ markB A ++ { data := #[98, 49] } ++ markB B ++ { data := #[97] }) = true
theorem marks_two : ∀ A B : Fin 4, TwoMarks A.1 B.1
  | ⟨0, _⟩, ⟨0, _⟩ => ⟨by kernel_rfl, by kernel_rfl⟩
  | ⟨0, _⟩, ⟨1, _⟩ => ⟨by kernel_rfl, by kernel_rfl⟩
  | ⟨0, _⟩, ⟨2, _⟩ => ⟨by kernel_rfl, by kernel_rfl⟩
  | ⟨0, _⟩, ⟨3, _⟩ => ⟨by kernel_rfl, by kernel_rfl⟩
  | ⟨1, _⟩, ⟨0, _⟩ => ⟨by kernel_rfl, by kernel_rfl⟩
  | ⟨1, _⟩, ⟨1, _⟩ => ⟨by kernel_rfl, by kernel_rfl⟩
  | ⟨1, _⟩, ⟨2, _⟩ => ⟨by kernel_rfl, by kernel_rfl⟩
  | ⟨1, _⟩, ⟨3, _⟩ => ⟨by kernel_rfl, by kernel_rfl⟩
  | ⟨2, _⟩, ⟨0, _⟩ => ⟨by kernel_rfl, by kernel_rfl⟩
  | ⟨2, _⟩, ⟨1, _⟩ => ⟨by kernel_rfl, by kernel_rfl⟩
  | ⟨2, _⟩, ⟨2, _⟩ => ⟨by kernel_rfl, by kernel_rfl⟩
  | ⟨2, _⟩, ⟨3, _⟩ => ⟨by kernel_rfl, by kernel_rfl⟩
  | ⟨3, _⟩, ⟨0, _⟩ => ⟨by kernel_rfl, by kernel_rfl⟩
  | ⟨3, _⟩, ⟨1, _⟩ => ⟨by kernel_rfl, by kernel_rfl⟩
  | ⟨3, _⟩, ⟨2, _⟩ => ⟨by kernel_rfl, by kernel_rfl⟩
  | ⟨3, _⟩, ⟨3, _⟩ => ⟨by kernel_rfl, by kernel_rfl⟩

set_option maxRecDepth 100000 in
set_option maxHeartbeats 4000000 in
theorem nmarks_walk (aD aS aZ : Addr) (a b many : Int) (w : World) (he : NEnv w aD aS aZ) :
    Calls Tryd.prog 7 #[.int .i64 a, .int .i64 b, .int .i64 many] w fun e w' => e = .returned (.bool true) ∧ Below w.heap.size w w' := by
  obtain ⟨pa, A, a1, a2, a3, a4, a5, a6⟩ := mod_at 4 (Or.inl rfl) a
  obtain ⟨pb, B, b1, b2, b3, b4, b5, b6⟩ := mod_at 4 (Or.inl rfl) b
  obtain ⟨pm, K, m1, m2, m3, m4, m5, m6⟩ := mod_at 6 (Or.inr rfl) many
  obtain ⟨f1, f4, f5, fs⟩ := marks_one ⟨A, by omega⟩
  obtain ⟨-, -, -, gs⟩ := marks_one ⟨B, by omega⟩
  have f2 := marks_dash ⟨K, by omega⟩
  obtain ⟨f3, f6⟩ := marks_two ⟨A, by omega⟩ ⟨B, by omega⟩
  simp only [] at f1 f2 f3 f4 f5 f6 fs gs
  have hcA : (w.alloc (.cells #[.string { data := #[46] }, .string { data := #[95] }, .string { data := #[95, 95] }, .string { data := #[45] }] 9)).cell? ⟨w.heap.size, A, none⟩ = some (.string (markB A)) := by
    rw [World.cell?_alloc_at _ _ _ _ rfl]
    match A, a6 with
    | 0, _ => rfl
    | 1, _ => rfl
    | 2, _ => rfl
    | 3, _ => rfl
  have hcB : (w.alloc (.cells #[.string { data := #[46] }, .string { data := #[95] }, .string { data := #[95, 95] }, .string { data := #[45] }] 9)).cell? ⟨w.heap.size, B, none⟩ = some (.string (markB B)) := by
    rw [World.cell?_alloc_at _ _ _ _ rfl]
    match B, b6 with
    | 0, _ => rfl
    | 1, _ => rfl
    | 2, _ => rfl
    | 3, _ => rfl
  have hb0 := below_new w (.cells #[.string { data := #[46] }, .string { data := #[95] }, .string { data := #[95, 95] }, .string { data := #[45] }] 9)
  have hds : (dashB (K + 1)).size ≤ 6 := by show (List.replicate (K + 1) (45 : UInt8)).toArray.size ≤ 6; simp; omega
  obtain ⟨x, hx⟩ : ∃ x, markB A = x := ⟨_, rfl⟩
  obtain ⟨y, hy⟩ : ∃ y, markB B = y := ⟨_, rfl⟩
  rw [hx] at f1 f3 f4 f5 f6 fs hcA
  rw [hy] at f3 f6 gs hcB
  have z1 : ({ data := #[97] } : ByteArray).size = 1 := rfl
  have z2 : ({ data := #[98, 49] } : ByteArray).size = 2 := rfl
  have C1 := Lib.hid (fun w (he : NEnv w aD aS aZ) => Repo_any ({ data := #[97] } ++ x ++ { data := #[98, 49] }) w (by simp only [ByteArray.size_append, z1, z2]; unfold maxLen; omega) he.max)
  have C2 := Lib.hid (fun w (he : NEnv w aD aS aZ) => Repo_any ({ data := #[97] } ++ dashB (K + 1) ++ { data := #[98, 49] }) w (by simp only [ByteArray.size_append, z1, z2]; unfold maxLen; omega) he.max)
  have C3 := Lib.hid (fun w (he : NEnv w aD aS aZ) => Repo_any ({ data := #[97] } ++ (x ++ y) ++ { data := #[98, 49] }) w (by simp only [ByteArray.size_append, z1, z2]; unfold maxLen; omega) he.max)
  have C4 := Lib.hid (fun w (he : NEnv w aD aS aZ) => Repo_any (x ++ { data := #[98, 49] }) w (by simp only [ByteArray.size_append, z2]; unfold maxLen; omega) he.max)
  have C5 := Lib.hid (fun w (he : NEnv w aD aS aZ) => Repo_any ({ data := #[97] } ++ x) w (by simp only [ByteArray.size_append, z1]; unfold maxLen; omega) he.max)
  have C6 := Lib.hid (fun w (he : NEnv w aD aS aZ) => Repo_any ({ data := #[97] } ++ x ++ { data := #[98, 49] } ++ y ++ { data := #[97] }) w (by simp only [ByteArray.size_append, z1, z2]; unfold maxLen; omega) he.max)
  rw [← Lib.toList_data] at f3
  obtain ⟨t1, ht1⟩ : ∃ t, ((x ++ y).toList == [95, 95]) = t := ⟨_, rfl⟩
  obtain ⟨t2, ht2⟩ : ∃ t, ((x ++ y).toList == [45, 45]) = t := ⟨_, rfl⟩
  rw [ht1, ht2] at f3
  rw [f1] at C1
  rw [f2] at C2
  rw [f3] at C3
  rw [f4] at C4
  rw [f5] at C5
  rw [f6] at C6
  obtain ⟨D, hD⟩ : ∃ D, dashB (K + 1) = D := ⟨_, rfl⟩
  rw [hD] at C2
  have HDS := Lib.hid hD
  have A0 := Lib.hid (fun w (he : NEnv w aD aS aZ) => aliveN_any aD aS aZ w he)
  have HE := Lib.hid he
  clear he f1 f2 f3 f4 f5 f6 hx hy hD hds z1 z2
  cases t1 <;> cases t2
  all_goals
    go_enter Tryd.func7, Tryd.ntmps7
    go_wp2_with fail
    obtain ⟨W, hW⟩ : ∃ W, w.alloc (.cells #[.string { data := #[46] }, .string { data := #[95] }, .string { data := #[95, 95] }, .string { data := #[45] }] 9) = W := ⟨_, rfl⟩
    rw [hW] at hcA hcB hb0 ⊢
    have HB0 := Lib.hid hb0
    clear hb0 hW a1 a2 a3 a4 a5 b1 b2 b3 b4 b5 m1 m2 m3 m4 m5
    go_loop [10, 30] (fun d i => ∃ k : Nat, k ≤ K + 1 ∧ d = .string (dashB k) ∧ i = .int .i64 k) (fun _ i => K + 1 - (intOf i).toNat)
    case atStart => exact ⟨0, Nat.zero_le _, rfl, rfl⟩
    case round =>
      obtain ⟨k, hk, rfl, rfl⟩ := hrel
      have hds := Lib.hid (dashB_succ k)
      have hkz : (dashB k).size ≤ 6 := by show (List.replicate k (45 : UInt8)).toArray.size ≤ 6; simp; omega
      by_cases hlt : k < K + 1
      · go_wp2_with fail
        go_round
        case rel => exact ⟨k + 1, by omega, by rw [← hds.out], by go_num⟩
        case measure => simp [intOf]; omega
      · obtain rfl : k = K + 1 := by omega
        rw [HDS.out] at hkz ⊢
        clear hds
        go_wp2_with fail
        go_quiet (fail)
        have HB1 := Lib.hid (below_drewN HB0.out nq)
        generalize W.drewN nq = W2 at HB1 ⊢
        clear hcA hcB HB0 hlt hk HDS
        go_wp2_with fail
        refine (A0.out _ (HE.out.keep HB1.out)).mono ?_
        rintro e w2 ⟨rfl, hb⟩
        have HB2 := Lib.hid (Below.then HB1.out hb)
        clear hb
        go_wp2_with fail
        refine (C1.out _ (HE.out.keep HB2.out)).mono ?_
        rintro e w3 ⟨rfl, hb⟩
        have HB3 := Lib.hid (Below.then HB2.out hb)
        clear hb
        go_wp2_with fail
        refine (C2.out _ (HE.out.keep HB3.out)).mono ?_
        rintro e w4 ⟨rfl, hb⟩
        have HB4 := Lib.hid (Below.then HB3.out hb)
        clear hb
        go_wp2_with fail
        refine (C3.out _ (HE.out.keep HB4.out)).mono ?_
        rintro e w5 ⟨rfl, hb⟩
        have HB5 := Lib.hid (Below.then HB4.out hb)
        clear hb
        go_wp2_with fail
        refine (C4.out _ (HE.out.keep HB5.out)).mono ?_
        rintro e w6 ⟨rfl, hb⟩
        have HB6 := Lib.hid (Below.then HB5.out hb)
        clear hb
        go_wp2_with fail
        refine (C5.out _ (HE.out.keep HB6.out)).mono ?_
        rintro e w7 ⟨rfl, hb⟩
        have HB7 := Lib.hid (Below.then HB6.out hb)
        clear hb
        go_wp2_with fail
        refine (C6.out _ (HE.out.keep HB7.out)).mono ?_
        rintro e w8 ⟨rfl, hb⟩
        have HB8 := Lib.hid (Below.then HB7.out hb)
        clear hb
        go_wp2_with fail
        go_ret
        exact ⟨rfl, HB8.out⟩
end Go.Proofs.YtcdibcogboaikaaDoor
