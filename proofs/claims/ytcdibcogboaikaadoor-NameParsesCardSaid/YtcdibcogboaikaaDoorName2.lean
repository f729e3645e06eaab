/-
  Tag and Repo by contracts. Conditions: none but sizes, and an int where the library keeps one.
-/
import Derived.Test.YtcdibcogboaikaaDoorName
import Derived.Lib.SplitLaws
namespace Go.Proofs.YtcdibcogboaikaaDoor
open Go.RowKit

theorem all_take (f : UInt8 → Bool) (s : ByteArray) (k : Nat) (h : k < s.size) : (s.data.toList.take (k + 1)).all f = ((s.data.toList.take k).all f && f s[k]) := by
  have h6 : k < s.data.toList.length := by rw [← Lib.size_eq]; exact h
  have e : s.data.toList[k]'h6 = s[k] := by
    have := Lib.data_getElem? s k h
    rw [List.getElem?_eq_getElem h6] at this
    exact Option.some.inj this
  rw [List.take_succ_eq_append_getElem h6, List.all_append, e]; simp
theorem all_not (f : UInt8 → Bool) (s : ByteArray) (k : Nat) (h : (s.data.toList.take k).all f = false) : s.data.toList.all f = false := by
  rw [List.all_eq_false] at h ⊢
  obtain ⟨x, hx, hf⟩ := h
  exact ⟨x, List.mem_of_mem_take hx, hf⟩

set_option maxRecDepth 100000 in
theorem Tag_any (s : ByteArray) (w : World) (hs : s.size ≤ maxLen) :
    Calls Tryd.prog 13 #[.string s] w fun e w' => e = .returned (.bool (tagB s)) ∧ w = w' := by
  unfold maxLen at hs
  have hlen : s.data.toList.length = s.size := (Lib.size_eq s).symm
  by_cases h0 : s.size = 0
  · obtain rfl : s = ⟨#[]⟩ := ByteArray.ext (Array.eq_empty_of_size_eq_zero h0)
    have HO := Lib.hid (show tagB ⟨#[]⟩ = false by decide)
    clear hlen
    go_enter Tryd.func13, Tryd.ntmps13
    go_wp2_with fail
    go_ret
    exact ⟨by rw [HO.out]; rfl, rfl⟩
  · have e1 : (s.toList == []) = false := by
      rw [beq_eq_false_iff_ne, Lib.toList_data]; intro e; rw [e] at hlen; simp at hlen; omega
    have e2 : s.toList.isEmpty = false := by
      rw [List.isEmpty_eq_false_iff, Lib.toList_data]; intro e; rw [e] at hlen; simp at hlen; omega
    by_cases h1 : 128 < s.size
    · have HO := Lib.hid (show tagB s = false by unfold tagB tagL; rw [hlen]; simp; omega)
      clear hlen
      go_enter Tryd.func13, Tryd.ntmps13
      go_wp2_with fail
      go_ret
      exact ⟨by rw [HO.out]; rfl, rfl⟩
    · have hp : 0 < s.size := by omega
      have hd : s.data.toList.head? = some (s[0]'hp) := by rw [List.head?_eq_getElem?]; exact Lib.data_getElem? s 0 hp
      have HT := Lib.hid (show tagB s = (!(s[0]'hp == 46) && !(s[0]'hp == 45) && s.data.toList.all inTagB) by
        unfold tagB tagL
        rw [hlen, hd]
        have q1 : decide (0 < s.size) = true := decide_eq_true hp
        have q2 : decide (s.size ≤ 128) = true := decide_eq_true (by omega)
        rw [q1, q2]
        simp only [Bool.true_and, Option.some_beq_some])
      obtain ⟨c, hc⟩ : ∃ c, s[0]'hp = c := ⟨_, rfl⟩
      rw [hc] at HT
      have k : ∀ d : UInt8, ((c.toNat : Int) == (d.toNat : Int)) = (c == d) := fun d => by
        rw [Bool.eq_iff_iff, beq_iff_eq, beq_iff_eq, ← UInt8.toNat_inj]; omega
      have k2 : ((c.toNat : Int) == 46) = (c == 46) := k 46
      have k3 : ((c.toNat : Int) == 45) = (c == 45) := k 45
      obtain ⟨y, hy⟩ : ∃ b, (c == 46) = b := ⟨_, rfl⟩
      obtain ⟨z, hz⟩ : ∃ b, (c == 45) = b := ⟨_, rfl⟩
      rw [hy] at k2 HT
      rw [hz] at k3 HT
      clear hd hlen k hy hz
      cases y with
      | true =>
        have HO := Lib.hid (show tagB s = false by rw [HT.out]; rfl)
        go_enter Tryd.func13, Tryd.ntmps13
        go_wp2_with fail
        go_ret
        exact ⟨by rw [HO.out]; rfl, rfl⟩
      | false =>
        cases z with
        | true =>
          have HO := Lib.hid (show tagB s = false by rw [HT.out]; rfl)
          go_enter Tryd.func13, Tryd.ntmps13
          go_wp2_with fail
          go_ret
          exact ⟨by rw [HO.out]; rfl, rfl⟩
        | false =>
          have HT2 := Lib.hid (show tagB s = s.data.toList.all inTagB by rw [HT.out]; simp)
          clear HT
          go_enter Tryd.func13, Tryd.ntmps13
          go_wp2_with fail
          go_loop [23] (fun i => ∃ k : Nat, k ≤ s.size ∧ i = .int .i64 k ∧ (s.data.toList.take k).all inTagB = true) (fun i => s.size - (intOf i).toNat)
          case atStart => exact ⟨0, Nat.zero_le _, rfl, rfl⟩
          case round =>
            obtain ⟨k, hk, rfl, hall⟩ := hrel
            by_cases hlt : k < s.size
            · have ht := all_take inTagB s k hlt
              rw [hall, Bool.true_and] at ht
              have R := Lib.hid (fun w => inTag_any s[k] w)
              obtain ⟨b, hb⟩ : ∃ b, inTagB s[k] = b := ⟨_, rfl⟩
              rw [hb] at R ht
              have HN := Lib.hid ht
              clear ht hall hb
              cases b with
              | true =>
                go_wp2_with fail
                refine (R.out _).mono ?_
                rintro e w1 ⟨rfl, rfl⟩
                go_wp2_with fail
                go_round
                case rel => exact ⟨k + 1, by omega, by go_num, HN.out⟩
                case measure => simp [intOf]; omega
              | false =>
                have HO := Lib.hid (show tagB s = false by rw [HT2.out]; exact all_not inTagB s (k + 1) HN.out)
                go_wp2_with fail
                refine (R.out _).mono ?_
                rintro e w1 ⟨rfl, rfl⟩
                go_wp2_with fail
                go_ret
                exact ⟨by rw [HO.out]; rfl, rfl⟩
            · have HO := Lib.hid (show tagB s = true by
                rw [HT2.out]
                rw [List.take_of_length_le (by rw [← Lib.size_eq]; omega)] at hall
                exact hall)
              clear hall
              go_wp2_with fail
              go_ret
              exact ⟨by rw [HO.out]; rfl, rfl⟩

/-! ### A name's parts -/
theorem index_ne (b c : UInt8) (l : List UInt8) (h : b ≠ c) : Lib.index (b :: l) [c] = if Lib.index l [c] == -1 then -1 else Lib.index l [c] + 1 := by
  have hp : ([c] : List UInt8).isPrefixOf (b :: l) = false := by simp [List.isPrefixOf, Ne.symm h]
  rw [Lib.index, hp]; simp
theorem index_eq (c : UInt8) (l : List UInt8) : Lib.index (c :: l) [c] = 0 := by rw [Lib.index]; simp [List.isPrefixOf]
theorem splitK_ne (b c : UInt8) (h : b ≠ c) : ∀ (k : Nat) (l x : List UInt8) (t : List (List UInt8)), Lib.splitK [c] 0 k l = x :: t → Lib.splitK [c] 0 k (b :: l) = (b :: x) :: t
  | 0, l, x, t, e => by
    simp only [Lib.splitK, List.cons.injEq] at e ⊢
    exact ⟨by simp [e.1], e.2⟩
  | k + 1, l, x, t, e => by
    have hge := Lib.index_ge l [c]
    by_cases hm : Lib.index l [c] = -1
    · unfold Lib.splitK at e ⊢
      rw [index_ne b c l h]
      simp only [hm, beq_self_eq_true, if_true, List.cons.injEq] at e ⊢
      exact ⟨by simp [e.1], e.2⟩
    · have hb : (Lib.index l [c] == -1) = false := beq_eq_false_iff_ne.2 hm
      have hb2 : (Lib.index l [c] + 1 == -1) = false := beq_eq_false_iff_ne.2 (by omega)
      unfold Lib.splitK at e ⊢
      rw [index_ne b c l h]
      obtain ⟨i, hi⟩ : ∃ i : Nat, Lib.index l [c] = i := ⟨(Lib.index l [c]).toNat, by omega⟩
      rw [hi] at hb hb2 e ⊢
      have e1 : ((i : Int) + 1).toNat = i + 1 := by omega
      have e2 : ((i : Int)).toNat = i := by omega
      simp only [hb, hb2, if_false, Bool.false_eq_true, e1, e2, Nat.add_zero, List.cons.injEq] at e ⊢
      refine ⟨by rw [← e.1]; rfl, ?_⟩
      rw [← e.2]
      congr 1
theorem goC_now (b : UInt8) : ∀ (l now x : List UInt8) (t : List (List UInt8)), goC b [] l = x :: t → goC b now l = (now ++ x) :: t
  | [], now, x, t, e => by
    simp only [goC, List.cons.injEq] at e ⊢
    exact ⟨by rw [← e.1]; simp, e.2⟩
  | c :: l, now, x, t, e => by
    by_cases hc : c = b
    · simp only [goC, if_pos hc, List.cons.injEq] at e ⊢
      exact ⟨by rw [← e.1]; simp, e.2⟩
    · simp only [goC, if_neg hc, List.nil_append] at e ⊢
      obtain ⟨y, u, hy⟩ : ∃ y u, goC b [] l = y :: u := List.exists_cons_of_ne_nil (goC_ne b l [])
      rw [goC_now b l _ y u hy] at e ⊢
      simp only [List.cons.injEq] at e ⊢
      exact ⟨by rw [← e.1]; simp, e.2⟩
theorem split_goC (c : UInt8) : ∀ l : List UInt8, Lib.splitK [c] 0 (l.count c) l = goC c [] l
  | [] => rfl
  | b :: l => by
    by_cases h : b = c
    · subst h
      have e := index_eq b l
      rw [List.count_cons_self]
      simp only [Lib.splitK, goC, if_true, e]
      simp only [show ((0 : Int) == -1) = false by decide, Bool.false_eq_true, if_false, Int.toNat_zero, Nat.add_zero, List.take_zero, List.length_singleton, Nat.zero_add]
      rw [List.drop_one, List.tail_cons, split_goC b l]
    · rw [List.count_cons_of_ne (by simpa using h)]
      obtain ⟨y, u, hy⟩ : ∃ y u, goC c [] l = y :: u := List.exists_cons_of_ne_nil (goC_ne c l [])
      rw [splitK_ne b c h _ l y u (by rw [split_goC c l]; exact hy)]
      simp only [goC, if_neg h, List.nil_append]
      rw [goC_now c l [b] y u hy]; rfl
/-- A name's parts as strings.Split cuts them. -/
def pieces (s : ByteArray) : List ByteArray := Lib.splitB { data := #[47] } 0 (Lib.countB s { data := #[47] }) s
theorem pieces_length (s : ByteArray) : (pieces s).length = Lib.countB s { data := #[47] } + 1 := Lib.splitB_all { data := #[47] } (by decide) 0 _ s rfl
theorem pieces_all (s : ByteArray) : ((pieces s).all fun p => partL p.data.toList) = repoL s.data.toList := by
  have h := Lib.splitB_data { data := #[47] } 0 (Lib.countB s { data := #[47] }) s
  have hc : Lib.countB s { data := #[47] } = s.data.toList.count 47 := Lib.count_one 47 s.data.toList
  rw [repoL_parts, ← split_goC 47 s.data.toList, ← hc]
  show ((Lib.splitB _ 0 _ s).all fun p => partL p.data.toList) = (Lib.splitK ({ data := #[47] } : ByteArray).data.toList 0 _ s.data.toList).all partL
  rw [← h, List.all_map]; rfl
theorem pieces_size : ∀ (k : Nat) (s : ByteArray), ∀ p ∈ Lib.splitB { data := #[47] } 0 k s, p.size ≤ s.size
  | 0, s, p, hp => by rw [Lib.splitB_zero, List.mem_singleton] at hp; subst hp; exact Nat.le_refl _
  | k + 1, s, p, hp => by
    rcases Lib.indexB_cases s { data := #[47] } with hix | ⟨i, hix, hroom⟩
    · rw [Lib.splitB_miss _ _ _ _ hix, List.mem_singleton] at hp; subst hp; exact Nat.le_refl _
    · rw [Lib.splitB_hit _ _ _ _ i hix] at hp
      rcases List.mem_cons.1 hp with rfl | hp
      · rw [ByteArray.size_extract]; omega
      · have := pieces_size k _ p hp
        rw [ByteArray.size_extract] at this; omega

/-- What the walks want of the package-level variables that are not listed: an int where the library keeps one. -/
def SomeMax (w : World) : Prop := ∃ m, w.cell? ⟨4, 0, none⟩ = some (.int .i64 m)
theorem SomeMax.keep {w w' : World} (h : SomeMax w) (hb : Below w.heap.size w w') : SomeMax w' := by
  obtain ⟨m, hm⟩ := h
  exact ⟨m, (hb.cell (World.block_lt_of_cell? _ _ hm)).trans hm⟩

set_option maxRecDepth 100000 in
theorem Repo_any (s : ByteArray) (w : World) (hs : s.size ≤ maxLen) (hM : SomeMax w) :
    Calls Tryd.prog 11 #[.string s] w fun e w' => e = .returned (.bool (repoB s)) ∧ Below w.heap.size w w' := by
  unfold maxLen at hs
  by_cases h1 : 128 < s.size
  · have HO := Lib.hid (show repoB s = false by unfold repoB; simp; omega)
    go_enter Tryd.func11, Tryd.ntmps11
    go_wp2_with fail
    go_ret
    exact ⟨by rw [HO.out]; rfl, Below.refl _ _⟩
  · obtain ⟨m, hm⟩ := hM
    have S := Lib.hid (Tryd.strings_Split s { data := #[47] } m w (by omega) hm (by decide))
    have hP := pieces_length s
    have hz := pieces_size (Lib.countB s { data := #[47] }) s
    have HA := Lib.hid (show repoB s = (pieces s).all fun p => partL p.data.toList by
      rw [pieces_all]; unfold repoB
      rw [show decide (s.size ≤ 128) = true from decide_eq_true (by omega), Bool.true_and])
    have hb0 := Lib.hid (show Below w.heap.size w (w.alloc (.cells ((Lib.splitB { data := #[47] } 0 (Lib.countB s { data := #[47] }) s).map Value.string).toArray 9)) from (Below.refl _ _).alloc (Nat.le_refl _) _)
    have hcell : ∀ i (h : i < (Lib.splitB { data := #[47] } 0 (Lib.countB s { data := #[47] }) s).length), (w.alloc (.cells ((Lib.splitB { data := #[47] } 0 (Lib.countB s { data := #[47] }) s).map Value.string).toArray 9)).cell? ⟨w.heap.size, i, none⟩ = some (.string (Lib.splitB { data := #[47] } 0 (Lib.countB s { data := #[47] }) s)[i]) := fun i h => by
      rw [World.cell?_alloc_at _ _ _ _ rfl]; simp [h]
    unfold pieces at hP HA
    obtain ⟨n, hn⟩ : ∃ n, Lib.countB s { data := #[47] } + 1 = n := ⟨_, rfl⟩
    have hni : ((Lib.countB s { data := #[47] } : Nat) : Int) + 1 = (n : Int) := by omega
    have hn2 : n ≤ 129 := by have := Lib.countB_le { data := #[47] } (by decide) s.size s (Nat.le_refl _); omega
    rw [hn] at hP S
    obtain ⟨P, hPd⟩ : ∃ P, Lib.splitB { data := #[47] } 0 (Lib.countB s { data := #[47] }) s = P := ⟨_, rfl⟩
    rw [hPd] at S hP hz HA hb0 hcell
    obtain ⟨W, hW⟩ : ∃ W, w.alloc (.cells (P.map Value.string).toArray 9) = W := ⟨_, rfl⟩
    obtain ⟨B, hB⟩ : ∃ B, w.heap.size = B := ⟨_, rfl⟩
    rw [hW] at S hb0 hcell
    rw [hB] at S hcell hb0 ⊢
    have HC := Lib.hid hcell
    have HZ := Lib.hid hz
    clear hcell hz hPd hW hm hn hni hB
    go_enter Tryd.func11, Tryd.ntmps11
    go_wp2_with fail
    refine S.out.mono ?_
    rintro e w1 ⟨rfl, rfl⟩
    go_wp2_with fail
    go_loop [11] (fun i => ∃ k : Nat, k ≤ n ∧ i = .int .i64 k ∧ ((P.take k).all fun p => partL p.data.toList) = true) (fun i => n - (intOf i).toNat)
    case atStart => exact ⟨0, Nat.zero_le _, rfl, rfl⟩
    case round =>
      obtain ⟨k, hk, rfl, hall⟩ := hrel
      by_cases hlt : k < n
      · have hk2 : k < P.length := by omega
        have hc := HC.out k hk2
        have hps := HZ.out P[k] (List.getElem_mem hk2)
        have R := Lib.hid (fun w => part_any P[k] w (by unfold maxLen; omega))
        have ht : ((P.take (k + 1)).all fun p => partL p.data.toList) = partL P[k].data.toList := by
          rw [List.take_succ_eq_append_getElem hk2, List.all_append, hall]; simp
        obtain ⟨b, hb⟩ : ∃ b, partL P[k].data.toList = b := ⟨_, rfl⟩
        rw [hb] at R ht
        obtain ⟨q, hq⟩ : ∃ q, P[k] = q := ⟨_, rfl⟩
        rw [hq] at hc R
        have HN := Lib.hid ht
        clear ht hall hb hq hps
        cases b with
        | true =>
          go_wp2_with fail
          refine (R.out _).mono ?_
          rintro e w2 ⟨rfl, rfl⟩
          go_wp2_with fail
          go_round
          case rel => exact ⟨k + 1, by omega, by go_num, HN.out⟩
          case measure => simp [intOf]; omega
        | false =>
          have HO := Lib.hid (show repoB s = false by
            rw [HA.out, List.all_eq_false]
            have := HN.out
            rw [List.all_eq_false] at this
            obtain ⟨x, hx, hf⟩ := this
            exact ⟨x, List.mem_of_mem_take hx, hf⟩)
          go_wp2_with fail
          refine (R.out _).mono ?_
          rintro e w2 ⟨rfl, rfl⟩
          go_wp2_with fail
          go_ret
          exact ⟨by rw [HO.out]; rfl, hb0.out⟩
      · have HO := Lib.hid (show repoB s = true by
          rw [HA.out]
          rw [List.take_of_length_le (by omega)] at hall
          exact hall)
        clear hall
        go_wp2_with fail
        go_ret
        exact ⟨by rw [HO.out]; rfl, hb0.out⟩
end Go.Proofs.YtcdibcogboaikaaDoor
