/-
  The document's own Parse of references, by a contract. Conditions: none but sizes.
-/
import Derived.Test.YtcdibcogboaikaaDoorRefName2
import Derived.BigRegion
namespace Go.Proofs.YtcdibcogboaikaaDoor
open Go.RowKit

/-- The reference that the document tries at a place. -/
def candR (s : ByteArray) (k : Nat) : RefB :=
  if s.data.toList[k]? = some 64 then ⟨s.extract 0 k, ⟨#[]⟩, s.extract (k + 1) s.size⟩ else ⟨s.extract 0 k, s.extract (k + 1) s.size, ⟨#[]⟩⟩
def goodR (s : ByteArray) (k : Nat) : Bool := (candR s k).may && decide ((candR s k).text = s)
theorem good_yes {s : ByteArray} {k : Nat} (h : goodR s k = true) : parseN s = (candR s k, 0) := by
  unfold goodR at h
  rw [Bool.and_eq_true, decide_eq_true_eq] at h
  have e := cut_text h.1
  rw [h.2] at e
  unfold parseN
  rw [e, h.1]; rfl
theorem good_no {s : ByteArray} (h : ∀ k, k < s.size → goodR s k = false) : parseN s = (emptyR, 5) := by
  unfold parseN
  cases hm : (cutR s).may with
  | false => rfl
  | true =>
    exfalso
    have ht := text_cut hm
    rcases cutR_cases s with ⟨e, -⟩ | ⟨i, hi, -, ⟨hx, e⟩ | ⟨hx, e⟩⟩
    · rw [e] at hm
      obtain ⟨-, h2⟩ := RefB.may_cases hm
      rcases h2 with ⟨-, h2⟩ | ⟨h2, -⟩
      · exact absurd h2 (by simp [tagB_empty])
      · exact absurd rfl h2
    · have hc : candR s i = cutR s := by
        unfold candR
        rw [if_neg (by rw [hx]; decide), e]
      have := h i hi
      unfold goodR at this
      rw [hc, hm, ht] at this
      simp at this
    · have hc : candR s i = cutR s := by
        unfold candR
        rw [if_pos hx, e]
      have := h i hi
      unfold goodR at this
      rw [hc, hm, ht] at this
      simp at this
theorem candR_small (s : ByteArray) (k : Nat) (hs : s.size ≤ 300) : (candR s k).Small := by
  have h0 : (⟨#[]⟩ : ByteArray).size = 0 := rfl
  unfold candR
  split <;> exact ⟨by simp only [ByteArray.size_extract]; omega, by simp only [ByteArray.size_extract, h0]; omega, by simp only [ByteArray.size_extract, h0]; omega⟩

/-- What the document's own Parse answers. -/
def RefParseNEnd (s : ByteArray) (w : World) (e : Ending) (w' : World) : Prop :=
  ∃ (r : RefB) (b : Bool), e = .returned (.tuple #[r.val, .bool b]) ∧ (b = true ∧ parseN s = (r, 0) ∨ b = false ∧ r = emptyR ∧ parseN s = (emptyR, 5)) ∧ Below w.heap.size w w'

theorem At3.set_other {w : World} {B g i : Nat} {a b c v : Value} {t : TypeId} (h : At3 w B a b c t) (hne : B ≠ g) : At3 (w.setCell ⟨g, i, none⟩ v) B a b c t := by
  unfold At3 at h ⊢
  rw [heap_setCell_other _ _ _ _ hne]; exact h

set_option maxRecDepth 100000 in
set_option maxHeartbeats 4000000 in
theorem refParseN_any (s : ByteArray) (w : World) (hs : s.size ≤ 300) :
    Calls Tryd.prog 19 #[.string s] w (RefParseNEnd s w) := by
  go_enter Tryd.func19, Tryd.ntmps19
  go_wp2_with fail
  have hn0 := At3.new w (.string ⟨#[]⟩) (.string ⟨#[]⟩) (.string ⟨#[]⟩) 23
  have hb0 := below_new w (.cells #[.string ⟨#[]⟩, .string ⟨#[]⟩, .string ⟨#[]⟩] 23)
  go_loopw [4] (fun iv wr => ∃ k : Nat, k ≤ s.size ∧ iv = .int .i64 k ∧ At3 wr w.heap.size (.string ⟨#[]⟩) (.string ⟨#[]⟩) (.string ⟨#[]⟩) 23 ∧ Below w.heap.size w wr ∧ ∀ j, j < k → goodR s j = false) (fun i _ => s.size - (intOf i).toNat)
  case atStart => exact ⟨0, Nat.zero_le _, rfl, hn0, hb0, fun j hj => absurd hj (Nat.not_lt_zero _)⟩
  case round =>
    obtain ⟨k, hk, rfl, hn, hb, hno⟩ := hrel
    have HN := Lib.hid hn
    have HB := Lib.hid hb
    have HNO := Lib.hid hno
    clear hn hb hno hn0 hb0
    have hB0 := HN.out.lt
    by_cases hlt : k < s.size
    · have hcs := candR_small s k hs
      have hsk : s.data.toList[k]? = some s[k] := Lib.data_getElem? s k hlt
      have hcd : candR s k = if s[k] = 64 then ⟨s.extract 0 k, ⟨#[]⟩, s.extract (k + 1) s.size⟩ else ⟨s.extract 0 k, s.extract (k + 1) s.size, ⟨#[]⟩⟩ := by
        unfold candR; rw [hsk]; simp
      have h64 : ((s[k].toNat : Int) == 64) = (s[k] == 64) := by
        rw [Bool.eq_iff_iff, beq_iff_eq, beq_iff_eq, ← UInt8.toNat_inj]
        show _ ↔ s[k].toNat = 64
        omega
      by_cases h : s[k] = 64
      · have hq : (s[k] == 64) = true := by rw [h]; rfl
        rw [hq] at h64
        rw [if_pos h] at hcd
        clear hq h hsk
        go_wp2_with fail
        go_region
        go_wp2_with fail
        have hbV := (below_new wr (.cells #[.string (s.extract 0 k), .string (s.extract (k + 1) s.size), .string ⟨#[]⟩] 23)).drew
        have hkV : At3 (wr.alloc (.cells #[.string (s.extract 0 k), .string (s.extract (k + 1) s.size), .string ⟨#[]⟩] 23)).drew wr.heap.size _ _ _ _ := At3.new wr (.string (s.extract 0 k)) (.string (s.extract (k + 1) s.size)) (.string ⟨#[]⟩) 23
        have hnV := HN.out.keep hbV
        have hbW := Below.then HB.out hbV
        generalize (wr.alloc (.cells #[.string (s.extract 0 k), .string (s.extract (k + 1) s.size), .string ⟨#[]⟩] 23)).drew = V at hbV hkV hnV hbW ⊢
        have hle := HB.out.size
        obtain ⟨g, hg⟩ : ∃ g, wr.heap.size = g := ⟨_, rfl⟩
        rw [hg] at hkV hB0 hle ⊢
        have hl := hkV.cells
        obtain ⟨⟨c0, c1, c2⟩, z0, z1, z2⟩ := hl
        have hne : w.heap.size ≠ g := by omega
        go_region
        have HKV := Lib.hid (show At3 (((V.setCell ⟨g, 0, none⟩ (.string (s.extract 0 k))).setCell ⟨g, 1, none⟩ (.string ⟨#[]⟩)).setCell ⟨g, 2, none⟩ (.string (s.extract (k + 1) s.size))).drew g _ _ _ _ from set3 hkV)
        have HNV := Lib.hid (show At3 (((V.setCell ⟨g, 0, none⟩ (.string (s.extract 0 k))).setCell ⟨g, 1, none⟩ (.string ⟨#[]⟩)).setCell ⟨g, 2, none⟩ (.string (s.extract (k + 1) s.size))).drew w.heap.size _ _ _ _ from ((hnV.set_other hne).set_other hne).set_other hne)
        have HBV := Lib.hid (show Below w.heap.size w (((V.setCell ⟨g, 0, none⟩ (.string (s.extract 0 k))).setCell ⟨g, 1, none⟩ (.string ⟨#[]⟩)).setCell ⟨g, 2, none⟩ (.string (s.extract (k + 1) s.size))).drew from (((hbW.setCell hle _).setCell hle _).setCell hle _).drew)
        generalize (((V.setCell ⟨g, 0, none⟩ (.string (s.extract 0 k))).setCell ⟨g, 1, none⟩ (.string ⟨#[]⟩)).setCell ⟨g, 2, none⟩ (.string (s.extract (k + 1) s.size))).drew = V2 at HKV HNV HBV ⊢
        clear hbV hkV hnV hbW c0 c1 c2 z0 z1 z2 hg
        have hl := HKV.out.cells
        obtain ⟨⟨c0, c1, c2⟩, -⟩ := hl
        go_wp2_with fail
        clear c0 c1 c2
        have G := Lib.hid (fun w => right_any (candR s k) w hcs)
        have X := Lib.hid (fun w => text_any (candR s k) w hcs)
        have HG := Lib.hid (show goodR s k = ((candR s k).may && decide ((candR s k).text = s)) from rfl)
        have hy := @good_yes s k
        rw [hcd] at G X HG hy
        unfold RefB.val at G X
        simp only [] at G X
        obtain ⟨m, hm⟩ : ∃ m, (RefB.mk (s.extract 0 k) ⟨#[]⟩ (s.extract (k + 1) s.size)).may = m := ⟨_, rfl⟩
        obtain ⟨tx, htx⟩ : ∃ tx, (RefB.mk (s.extract 0 k) ⟨#[]⟩ (s.extract (k + 1) s.size)).text = tx := ⟨_, rfl⟩
        have hcmp : (tx.toList == s.toList) = decide (tx = s) := by
          rw [Bool.eq_iff_iff, beq_iff_eq, decide_eq_true_eq, Lib.toList_data, Lib.toList_data]
          exact ⟨fun h => ba_ext h, fun h => by rw [h]⟩
        obtain ⟨u, hu⟩ : ∃ u, decide (tx = s) = u := ⟨_, rfl⟩
        rw [hm, htx, hu] at HG
        rw [hm] at G
        rw [htx] at X
        rw [hu] at hcmp
        have HY := Lib.hid hy
        clear hm htx hcd hcs hy hu
        refine (G.out _).mono ?_
        rintro e w2 ⟨rfl, hb⟩
        have HB2 := Lib.hid (Below.then HBV.out hb)
        have HN2 := Lib.hid (HNV.out.keep hb)
        have HK2 := Lib.hid (HKV.out.keep hb)
        clear hb
        have hl2 := HK2.out.cells
        obtain ⟨⟨c0, c1, c2⟩, -⟩ := hl2
        cases m with
        | false =>
          have HF := Lib.hid (show goodR s k = false by rw [HG.out]; rfl)
          go_wp2_with fail
          go_roundw
          case rel =>
            refine ⟨k + 1, by omega, by go_num, HN2.out, HB2.out, fun j hj => ?_⟩
            by_cases e : j = k
            · subst e; exact HF.out
            · exact HNO.out j (by omega)
          case measure => simp [intOf]; omega
        | true =>
          go_wp2_with fail
          refine (X.out _).mono ?_
          rintro e w3 ⟨rfl, hb⟩
          have HB3 := Lib.hid (Below.then HB2.out hb)
          have HN3 := Lib.hid (HN2.out.keep hb)
          have HK3 := Lib.hid (HK2.out.keep hb)
          clear hb c0 c1 c2
          cases u with
          | false =>
            have HF := Lib.hid (show goodR s k = false by rw [HG.out]; rfl)
            go_wp2_with fail
            go_roundw
            case rel =>
              refine ⟨k + 1, by omega, by go_num, HN3.out, HB3.out, fun j hj => ?_⟩
              by_cases e : j = k
              · subst e; exact HF.out
              · exact HNO.out j (by omega)
            case measure => simp [intOf]; omega
          | true =>
            have HT := Lib.hid (HY.out (by rw [HG.out]; rfl))
            have hl3 := HK3.out.cells
            obtain ⟨⟨c0, c1, c2⟩, -⟩ := hl3
            have hl4 := HN3.out.cells
            obtain ⟨⟨d0, d1, d2⟩, z0, z1, z2⟩ := hl4
            go_wp2_with fail
            exact bodyPost_ret (results_ref (p := 2) (u := 3) rfl _ _ w.heap.size 23 _ (0, 0) _ rfl (set3 HN3.out) Tryd.underlying23 rfl infoRef) rfl ⟨⟨s.extract 0 k, ⟨#[]⟩, s.extract (k + 1) s.size⟩, true, rfl, Or.inl ⟨rfl, HT.out⟩, below3 HB3.out _ _ _⟩
      · have hq : (s[k] == 64) = false := by rw [beq_eq_false_iff_ne]; exact h
        rw [hq] at h64
        rw [if_neg h] at hcd
        clear hq h hsk
        go_wp2_with fail
        go_region
        go_wp2_with fail
        have hbV := (below_new wr (.cells #[.string (s.extract 0 k), .string (s.extract (k + 1) s.size), .string ⟨#[]⟩] 23)).drew
        have hkV : At3 (wr.alloc (.cells #[.string (s.extract 0 k), .string (s.extract (k + 1) s.size), .string ⟨#[]⟩] 23)).drew wr.heap.size _ _ _ _ := At3.new wr (.string (s.extract 0 k)) (.string (s.extract (k + 1) s.size)) (.string ⟨#[]⟩) 23
        have HNV := Lib.hid (HN.out.keep hbV)
        have HBV := Lib.hid (Below.then HB.out hbV)
        have HKV := Lib.hid hkV
        generalize (wr.alloc (.cells #[.string (s.extract 0 k), .string (s.extract (k + 1) s.size), .string ⟨#[]⟩] 23)).drew = V at HKV HNV HBV ⊢
        obtain ⟨g, hg⟩ : ∃ g, wr.heap.size = g := ⟨_, rfl⟩
        rw [hg] at HKV hB0 ⊢
        clear hbV hkV hg
        have G := Lib.hid (fun w => right_any (candR s k) w hcs)
        have X := Lib.hid (fun w => text_any (candR s k) w hcs)
        have HG := Lib.hid (show goodR s k = ((candR s k).may && decide ((candR s k).text = s)) from rfl)
        have hy := @good_yes s k
        rw [hcd] at G X HG hy
        unfold RefB.val at G X
        simp only [] at G X
        obtain ⟨m, hm⟩ : ∃ m, (RefB.mk (s.extract 0 k) (s.extract (k + 1) s.size) ⟨#[]⟩).may = m := ⟨_, rfl⟩
        obtain ⟨tx, htx⟩ : ∃ tx, (RefB.mk (s.extract 0 k) (s.extract (k + 1) s.size) ⟨#[]⟩).text = tx := ⟨_, rfl⟩
        have hcmp : (tx.toList == s.toList) = decide (tx = s) := by
          rw [Bool.eq_iff_iff, beq_iff_eq, decide_eq_true_eq, Lib.toList_data, Lib.toList_data]
          exact ⟨fun h => ba_ext h, fun h => by rw [h]⟩
        obtain ⟨u, hu⟩ : ∃ u, decide (tx = s) = u := ⟨_, rfl⟩
        rw [hm, htx, hu] at HG
        rw [hm] at G
        rw [htx] at X
        rw [hu] at hcmp
        have HY := Lib.hid hy
        clear hm htx hcd hcs hy hu
        refine (G.out _).mono ?_
        rintro e w2 ⟨rfl, hb⟩
        have HB2 := Lib.hid (Below.then HBV.out hb)
        have HN2 := Lib.hid (HNV.out.keep hb)
        have HK2 := Lib.hid (HKV.out.keep hb)
        clear hb
        have hl2 := HK2.out.cells
        obtain ⟨⟨c0, c1, c2⟩, -⟩ := hl2
        cases m with
        | false =>
          have HF := Lib.hid (show goodR s k = false by rw [HG.out]; rfl)
          go_wp2_with fail
          go_roundw
          case rel =>
            refine ⟨k + 1, by omega, by go_num, HN2.out, HB2.out, fun j hj => ?_⟩
            by_cases e : j = k
            · subst e; exact HF.out
            · exact HNO.out j (by omega)
          case measure => simp [intOf]; omega
        | true =>
          go_wp2_with fail
          refine (X.out _).mono ?_
          rintro e w3 ⟨rfl, hb⟩
          have HB3 := Lib.hid (Below.then HB2.out hb)
          have HN3 := Lib.hid (HN2.out.keep hb)
          have HK3 := Lib.hid (HK2.out.keep hb)
          clear hb c0 c1 c2
          cases u with
          | false =>
            have HF := Lib.hid (show goodR s k = false by rw [HG.out]; rfl)
            go_wp2_with fail
            go_roundw
            case rel =>
              refine ⟨k + 1, by omega, by go_num, HN3.out, HB3.out, fun j hj => ?_⟩
              by_cases e : j = k
              · subst e; exact HF.out
              · exact HNO.out j (by omega)
            case measure => simp [intOf]; omega
          | true =>
            have HT := Lib.hid (HY.out (by rw [HG.out]; rfl))
            have hl3 := HK3.out.cells
            obtain ⟨⟨c0, c1, c2⟩, -⟩ := hl3
            have hl4 := HN3.out.cells
            obtain ⟨⟨d0, d1, d2⟩, z0, z1, z2⟩ := hl4
            go_wp2_with fail
            exact bodyPost_ret (results_ref (p := 2) (u := 3) rfl _ _ w.heap.size 23 _ (0, 0) _ rfl (set3 HN3.out) Tryd.underlying23 rfl infoRef) rfl ⟨⟨s.extract 0 k, s.extract (k + 1) s.size, ⟨#[]⟩⟩, true, rfl, Or.inl ⟨rfl, HT.out⟩, below3 HB3.out _ _ _⟩
    · have HO := Lib.hid (good_no (s := s) (fun j hj => HNO.out j (by omega)))
      have hl := HN.out.cells
      obtain ⟨⟨d0, d1, d2⟩, z0, z1, z2⟩ := hl
      go_wp2_with fail
      exact bodyPost_ret (results_ref (p := 2) (u := 3) rfl _ _ w.heap.size 23 _ (0, 0) _ rfl (set3 HN.out) Tryd.underlying23 rfl infoRef) rfl ⟨emptyR, false, rfl, Or.inr ⟨rfl, rfl, HO.out⟩, below3 HB.out _ _ _⟩
end Go.Proofs.YtcdibcogboaikaaDoor
