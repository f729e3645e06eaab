/-
  The document's own Repo, Tag, Right and Text, by contracts. Conditions: none but sizes.
-/
import Derived.Test.YtcdibcogboaikaaDoorRefSplit
namespace Go.Proofs.YtcdibcogboaikaaDoor
open Go.RowKit

set_option maxRecDepth 100000 in
theorem refRepo_any (s : ByteArray) (w : World) (hs : s.size ≤ 300) :
    Calls Tryd.prog 12 #[.string s] w fun e w' => e = .returned (.bool (repoB s)) ∧ Below w.heap.size w w' := by
  have S := Lib.hid (refSplit_any s w hs)
  go_enter Tryd.func12, Tryd.ntmps12
  go_wp2_with fail
  refine S.out.mono ?_
  rintro e w1 ⟨ps, v, rfl, hrow, hmap, hsz, hlen, hb⟩
  have hall : (ps.all fun p => partL p.data.toList) = repoL s.data.toList := by rw [repoL_parts, ← hmap, List.all_map]; rfl
  have hne : ps ≠ [] := by rintro rfl; exact goC_ne 47 s.data.toList [] hmap.symm
  rcases hrow with ⟨-, e0⟩ | ⟨B, o, cap, rfl, h2, h3, h4⟩
  · exact absurd e0 hne
  have HA := Lib.hid hall
  have HC := Lib.hid h4
  have HZ := Lib.hid hsz
  have HB := Lib.hid hb
  obtain ⟨n, hn⟩ : ∃ n, ps.length = n := ⟨_, rfl⟩
  rw [hn] at h2 hlen ⊢
  unfold maxLen at h3
  clear hall h4 hsz hb hmap hne S
  go_wp2_with fail
  go_loop [8] (fun i => ∃ k : Nat, k ≤ n ∧ i = .int .i64 k ∧ ((ps.take k).all fun p => partL p.data.toList) = true) (fun i => n - (intOf i).toNat)
  case atStart => exact ⟨0, Nat.zero_le _, rfl, rfl⟩
  case round =>
    obtain ⟨k, hk, rfl, hall⟩ := hrel
    by_cases hlt : k < n
    · have hk2 : k < ps.length := by omega
      have hc := HC.out k hk2
      have hps := HZ.out ps[k] (List.getElem_mem hk2)
      have R := Lib.hid (fun w => refPart_any ps[k] w (by omega))
      have ht : ((ps.take (k + 1)).all fun p => partL p.data.toList) = partL ps[k].data.toList := by
        rw [List.take_succ_eq_append_getElem hk2, List.all_append, hall]; simp
      obtain ⟨b, hb⟩ : ∃ b, partL ps[k].data.toList = b := ⟨_, rfl⟩
      rw [hb] at R ht
      obtain ⟨q, hq⟩ : ∃ q, ps[k] = q := ⟨_, rfl⟩
      rw [hq] at hc R
      have HN := Lib.hid ht
      clear ht hall hb hq hps
      cases b with
      | true =>
        go_wp2_with fail
        refine (R.out _).mono ?_
        rintro e w2 ⟨rfl, rfl⟩
        go_wp2_with fail
        go_round
        case rel => exact ⟨k + 1, by omega, by go_num, HN.out⟩
        case measure => simp [intOf]; omega
      | false =>
        have HO := Lib.hid (show repoB s = false by
          unfold repoB
          rw [← HA.out]
          have : (ps.all fun p => partL p.data.toList) = false := by
            rw [List.all_eq_false]
            have := HN.out
            rw [List.all_eq_false] at this
            obtain ⟨x, hx, hf⟩ := this
            exact ⟨x, List.mem_of_mem_take hx, hf⟩
          rw [this, Bool.and_false])
        go_wp2_with fail
        refine (R.out _).mono ?_
        rintro e w2 ⟨rfl, rfl⟩
        go_wp2_with fail
        go_ret
        exact ⟨by rw [HO.out]; rfl, HB.out⟩
    · have HO := Lib.hid (show repoB s = decide ((s.size : Int) ≤ 128) by
        unfold repoB
        rw [← HA.out]
        rw [List.take_of_length_le (by omega)] at hall
        rw [hall, Bool.and_true]
        exact decide_eq_decide.2 (by omega))
      clear hall
      go_wp2_with fail
      go_ret
      exact ⟨by rw [HO.out]; rfl, HB.out⟩

set_option maxRecDepth 100000 in
theorem refTag_any (s : ByteArray) (w : World) (hs : s.size ≤ 300) :
    Calls Tryd.prog 14 #[.string s] w fun e w' => e = .returned (.bool (tagB s)) ∧ w = w' := by
  have hlen : s.data.toList.length = s.size := (Lib.size_eq s).symm
  have HT := Lib.hid (show tagB s = (decide (0 < s.size) && decide (s.size ≤ 128) && !(s.data.toList.head? == some 46) && !(s.data.toList.head? == some 45) && s.data.toList.all inTagB) by
    unfold tagB tagL; rw [hlen])
  clear hlen
  go_enter Tryd.func14, Tryd.ntmps14
  go_wp2_with fail
  go_loop [3] (fun i => ∃ k : Nat, k ≤ s.size ∧ i = .int .i64 k ∧ (s.data.toList.take k).all inTagB = true) (fun i => s.size - (intOf i).toNat)
  case atStart => exact ⟨0, Nat.zero_le _, rfl, rfl⟩
  case round =>
    obtain ⟨k, hk, rfl, hall⟩ := hrel
    by_cases hlt : k < s.size
    · have ht := all_take inTagB s k hlt
      rw [hall, Bool.true_and] at ht
      have R := Lib.hid (fun w => small_any s[k] w)
      obtain ⟨c, hc⟩ : ∃ c, s[k] = c := ⟨_, rfl⟩
      rw [hc] at ht R
      have hc8 := c.toNat_lt
      have hne : ∀ d : UInt8, c ≠ d → ((c.toNat : Int) != (d.toNat : Int)) = true := fun d hd => bne_iff_ne.2 fun e => hd (UInt8.toNat_inj.1 (by omega))
      clear hall
      rcases byte_class c with rfl | rfl | rfl | ⟨⟨n1, n2, n3⟩, -⟩
      · have HN := Lib.hid (ht.trans (show inTagB 46 = true by decide))
        rw [show smallB 46 = false by decide] at R
        clear ht hne
        go_wp2_with fail
        refine (R.out _).mono ?_
        rintro e w2 ⟨rfl, rfl⟩
        go_wp2_with fail
        go_round
        case rel => exact ⟨k + 1, by omega, by go_num, HN.out⟩
        case measure => simp [intOf]; omega
      · have HN := Lib.hid (ht.trans (show inTagB 95 = true by decide))
        rw [show smallB 95 = false by decide] at R
        clear ht hne
        go_wp2_with fail
        refine (R.out _).mono ?_
        rintro e w2 ⟨rfl, rfl⟩
        go_wp2_with fail
        go_round
        case rel => exact ⟨k + 1, by omega, by go_num, HN.out⟩
        case measure => simp [intOf]; omega
      · have HN := Lib.hid (ht.trans (show inTagB 45 = true by decide))
        rw [show smallB 45 = false by decide] at R
        clear ht hne
        go_wp2_with fail
        refine (R.out _).mono ?_
        rintro e w2 ⟨rfl, rfl⟩
        go_wp2_with fail
        go_round
        case rel => exact ⟨k + 1, by omega, by go_num, HN.out⟩
        case measure => simp [intOf]; omega
      · have k1 : ((c.toNat : Int) != 46) = true := hne 46 n1
        have k2 : ((c.toNat : Int) != 95) = true := hne 95 n2
        have k3 : ((c.toNat : Int) != 45) = true := hne 45 n3
        have hi : inTagB c = (smallB c || decide (65 ≤ c.toNat ∧ c.toNat ≤ 90)) := by
          have q1 : (c == 46) = false := beq_eq_false_iff_ne.2 n1
          have q2 : (c == 95) = false := beq_eq_false_iff_ne.2 n2
          have q3 : (c == 45) = false := beq_eq_false_iff_ne.2 n3
          unfold inTagB
          rw [q1, q2, q3, Bool.or_false, Bool.or_false, Bool.or_false]
        rw [hi] at ht
        obtain ⟨b, hb⟩ : ∃ b, smallB c = b := ⟨_, rfl⟩
        rw [hb] at ht R
        clear hi hb hne n1 n2 n3
        cases b with
        | true =>
          have HN := Lib.hid (ht.trans (Bool.true_or _))
          clear ht
          go_wp2_with fail
          refine (R.out _).mono ?_
          rintro e w2 ⟨rfl, rfl⟩
          go_wp2_with fail
          go_round
          case rel => exact ⟨k + 1, by omega, by go_num, HN.out⟩
          case measure => simp [intOf]; omega
        | false =>
          rw [Bool.false_or] at ht
          by_cases h65 : 65 ≤ c.toNat ∧ c.toNat ≤ 90
          · have HN := Lib.hid (ht.trans (decide_eq_true h65))
            obtain ⟨h65, h90⟩ := h65
            clear ht
            go_wp2_with fail
            refine (R.out _).mono ?_
            rintro e w2 ⟨rfl, rfl⟩
            go_wp2_with fail
            go_round
            case rel => exact ⟨k + 1, by omega, by go_num, HN.out⟩
            case measure => simp [intOf]; omega
          · have HO := Lib.hid (show tagB s = false by
              rw [HT.out, all_not inTagB s (k + 1) (ht.trans (decide_eq_false h65)), Bool.and_false])
            clear ht
            by_cases h1 : c.toNat < 65
            all_goals
              go_wp2_with fail
              refine (R.out _).mono ?_
              rintro e w2 ⟨rfl, rfl⟩
              go_wp2_with fail
              go_ret
              exact ⟨by rw [HO.out]; rfl, rfl⟩
    · rw [List.take_of_length_le (by rw [← Lib.size_eq]; omega)] at hall
      by_cases h0 : s.size = 0
      · have HO := Lib.hid (show tagB s = false by rw [HT.out, h0]; rfl)
        clear hall
        go_wp2_with fail
        go_ret
        exact ⟨by rw [HO.out]; rfl, rfl⟩
      · by_cases h1 : 128 < s.size
        · have HO := Lib.hid (show tagB s = false by rw [HT.out, decide_eq_false (show ¬ s.size ≤ 128 by omega)]; simp)
          clear hall
          go_wp2_with fail
          go_ret
          exact ⟨by rw [HO.out]; rfl, rfl⟩
        · have hp : 0 < s.size := by omega
          have hd : s.data.toList.head? = some (s[0]'hp) := by rw [List.head?_eq_getElem?]; exact Lib.data_getElem? s 0 hp
          have hT := HT.out
          rw [hall, hd, decide_eq_true hp, decide_eq_true (show s.size ≤ 128 by omega)] at hT
          simp only [Bool.true_and, Bool.and_true, Option.some_beq_some] at hT
          obtain ⟨c, hc⟩ : ∃ c, s[0]'hp = c := ⟨_, rfl⟩
          rw [hc] at hT
          have k : ∀ d : UInt8, ((c.toNat : Int) != (d.toNat : Int)) = !(c == d) := fun d => by
            rw [Bool.eq_iff_iff, bne_iff_ne, Bool.not_eq_true', beq_eq_false_iff_ne, Ne, Ne, ← UInt8.toNat_inj]; omega
          have k2 : ((c.toNat : Int) != 46) = !(c == 46) := k 46
          have k3 : ((c.toNat : Int) != 45) = !(c == 45) := k 45
          obtain ⟨y, hy⟩ : ∃ b, (c == 46) = b := ⟨_, rfl⟩
          obtain ⟨z, hz⟩ : ∃ b, (c == 45) = b := ⟨_, rfl⟩
          rw [hy] at k2 hT
          rw [hz] at k3 hT
          have HO := Lib.hid hT
          clear hall hd hT k hy hz HT
          cases y <;> cases z
          all_goals
            simp only [Bool.not_true, Bool.not_false] at k2 k3
            go_wp2_with fail
            go_ret
            exact ⟨by rw [HO.out]; rfl, rfl⟩

/-- Texts that the document's own functions bear. -/
structure RefB.Small (r : RefB) : Prop where
  repo : r.repo.size ≤ 300
  tag : r.tag.size ≤ 300
  dig : r.dig.size ≤ 300

set_option maxRecDepth 100000 in
set_option maxHeartbeats 1000000 in
theorem right_any (r : RefB) (w : World) (hr : r.Small) :
    Calls Tryd.prog 16 #[r.val] w fun e w' => e = .returned (.bool r.may) ∧ Below w.heap.size w w' := by
  obtain ⟨repo, tag, dig⟩ := r
  obtain ⟨h1, h2, h3⟩ := hr
  simp only [] at h1 h2 h3
  have P := Lib.hid (fun w => refParse_any dig w)
  have R := Lib.hid (fun w => refRepo_any repo w h1)
  have T := Lib.hid (fun w => refTag_any tag w h2)
  have HM := Lib.hid (show (RefB.mk repo tag dig).may = (repoB repo && (if dig.size = 0 then tagB tag else (parseD dig).2 == 0 && decide (tag.size = 0))) from rfl)
  have hd0 : dig.size = 0 → (parseD dig).2 = 6 := fun h => by rw [parseD_no (Or.inr (by omega))]
  have ht : (tag.toList == []) = decide (tag.size = 0) ∧ tag.toList.isEmpty = decide (tag.size = 0) := by
    by_cases h : tag.size = 0
    · obtain rfl := empty_of tag h; rw [Lib.toList_data]; exact ⟨rfl, rfl⟩
    · rw [decide_eq_false h]; exact not_empty tag h
  have hd : (dig.toList == []) = decide (dig.size = 0) ∧ dig.toList.isEmpty = decide (dig.size = 0) := by
    by_cases h : dig.size = 0
    · obtain rfl := empty_of dig h; rw [Lib.toList_data]; exact ⟨rfl, rfl⟩
    · rw [decide_eq_false h]; exact not_empty dig h
  obtain ⟨t1, t2⟩ := ht
  obtain ⟨d1, d2⟩ := hd
  obtain ⟨p, hp⟩ : ∃ p, repoB repo = p := ⟨_, rfl⟩
  obtain ⟨q, hq⟩ : ∃ q, tagB tag = q := ⟨_, rfl⟩
  rw [hp] at R HM
  rw [hq] at T HM
  obtain ⟨u, hu⟩ : ∃ u, decide (tag.size = 0) = u := ⟨_, rfl⟩
  obtain ⟨v, hv⟩ : ∃ v, decide (dig.size = 0) = v := ⟨_, rfl⟩
  have hM : ∀ b : Bool, (b = true ∧ (parseD dig).2 = 0 ∨ b = false ∧ (parseD dig).2 = 6) → (RefB.mk repo tag dig).may = (p && (if v then q else b && u)) ∧ (v = true → b = false) := fun b hb => by
    rw [HM.out]
    refine ⟨?_, fun hvt => ?_⟩
    · rw [← hv, ← hu]
      rcases hb with ⟨rfl, h⟩ | ⟨rfl, h⟩
      · rw [h]; by_cases hd : dig.size = 0 <;> simp [hd]
      · rw [h]; by_cases hd : dig.size = 0 <;> simp [hd]
    · rcases hb with ⟨rfl, h⟩ | ⟨rfl, h⟩
      · rw [← hv] at hvt
        rw [hd0 (of_decide_eq_true hvt)] at h; cases h
      · rfl
  rw [hu] at t1 t2
  rw [hv] at d1 d2
  have HM2 := Lib.hid hM
  clear hM HM hp hq hu hv hd0 h1 h2 h3
  unfold RefB.val
  simp only []
  go_enter Tryd.func16, Tryd.ntmps16
  go_wp2_with fail
  refine (P.out _).mono ?_
  rintro e w1 ⟨y, b, rfl, hb, hbel⟩
  obtain ⟨hO, hvb⟩ := HM2.out b (by
    rcases hb with ⟨rfl, h⟩ | ⟨rfl, h⟩
    · exact Or.inl ⟨rfl, by rw [h]⟩
    · exact Or.inr ⟨rfl, by rw [h]⟩)
  have HB1 := Lib.hid (Below.then (below_new _ _) hbel)
  have HN1 := Lib.hid ((At3.new w (.string repo) (.string tag) (.string dig) 23).keep hbel)
  obtain ⟨⟨c0, c1, c2⟩, -⟩ := (HN1.out).cells
  clear hb hbel HM2 P
  go_wp2_with fail
  refine (R.out _).mono ?_
  rintro e w2 ⟨rfl, hbel⟩
  have HB2 := Lib.hid (Below.then HB1.out hbel)
  have HN2 := Lib.hid (HN1.out.keep hbel)
  clear hbel c0 c1 c2
  obtain ⟨⟨c0, c1, c2⟩, -⟩ := (HN2.out).cells
  cases p with
  | false =>
    have HO := Lib.hid (show (RefB.mk repo tag dig).may = false by rw [hO]; rfl)
    clear hO hvb
    go_wp2_with fail
    go_ret
    exact ⟨by rw [HO.out]; rfl, HB2.out⟩
  | true =>
    cases v with
    | true =>
      obtain rfl := hvb rfl
      have HO := Lib.hid (show (RefB.mk repo tag dig).may = q by rw [hO]; rfl)
      clear hO hvb
      cases q
      all_goals
        cases u
        all_goals
          go_wp2_with fail
          refine (T.out _).mono ?_
          rintro e w3 ⟨rfl, rfl⟩
          go_wp2_with fail
          go_ret
          exact ⟨by rw [HO.out]; rfl, HB2.out⟩
    | false =>
      have HO := Lib.hid (show (RefB.mk repo tag dig).may = (b && u) by rw [hO]; rfl)
      clear hO hvb
      cases u
      all_goals
        cases b
        all_goals
          go_wp2_with fail
          go_ret
          exact ⟨by rw [HO.out]; rfl, HB2.out⟩

set_option maxRecDepth 100000 in
theorem text_any (r : RefB) (w : World) (hr : r.Small) :
    Calls Tryd.prog 17 #[r.val] w fun e w' => e = .returned (.string r.text) ∧ Below w.heap.size w w' := by
  obtain ⟨repo, tag, dig⟩ := r
  obtain ⟨h1, h2, h3⟩ := hr
  simp only [] at h1 h2 h3
  unfold RefB.val
  simp only []
  by_cases hd : dig.size = 0
  · have HO := Lib.hid (show (RefB.mk repo tag dig).text = repo ++ { data := #[58] } ++ tag by unfold RefB.text; simp only [if_pos hd])
    obtain rfl := empty_of dig hd
    clear hd
    go_enter Tryd.func17, Tryd.ntmps17
    go_wp2_with fail
    go_ret
    exact ⟨by rw [HO.out]; rfl, below_new _ _⟩
  · have HO := Lib.hid (show (RefB.mk repo tag dig).text = repo ++ { data := #[64] } ++ dig by unfold RefB.text; simp only [if_neg hd])
    obtain ⟨d1, d2⟩ := not_empty dig hd
    clear hd
    go_enter Tryd.func17, Tryd.ntmps17
    go_wp2_with fail
    go_ret
    exact ⟨by rw [HO.out]; rfl, below_new _ _⟩
end Go.Proofs.YtcdibcogboaikaaDoor
