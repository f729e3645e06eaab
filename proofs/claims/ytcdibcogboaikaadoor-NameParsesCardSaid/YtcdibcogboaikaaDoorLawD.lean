/-
  What the digest's laws share: short and alive by contracts; what a digest tells. Conditions: the tables lie where they lie.
-/
import Derived.Test.YtcdibcogboaikaaDoorParse
namespace Go.Proofs.YtcdibcogboaikaaDoor
open Go.RowKit


theorem halfB_hexDig {c : UInt8} {x : Nat} (h : halfB c = some x) : hexDig x = c := by
  unfold halfB at h
  split at h
  · simp only [Option.some.injEq] at h
    subst h
    unfold hexDig
    rw [if_pos (by omega), show 48 + (c.toNat - 48) = c.toNat by omega, UInt8.ofNat_toNat]
  · split at h
    · simp only [Option.some.injEq] at h
      subst h
      unfold hexDig
      rw [if_neg (by omega), show 87 + (c.toNat - 87) = c.toNat by omega, UInt8.ofNat_toNat]
    · cases h
theorem hexL_unhexL : ∀ (l r : List UInt8), unhexL l = some r → hexL r = l
  | [], r, h => by simp [unhexL] at h; subst h; rfl
  | [_], r, h => by simp [unhexL] at h
  | a :: b :: l, r, h => by
    cases ha : halfB a with
    | none => simp [unhexL, ha] at h
    | some x =>
      cases hb : halfB b with
      | none => simp [unhexL, hb] at h
      | some y =>
        cases hl : unhexL l with
        | none => simp [unhexL, hl] at h
        | some q =>
          simp only [unhexL, ha, hb, hl, Option.some.injEq] at h
          subst h
          have hx := halfB_lt ha
          have hy := halfB_lt hb
          have e : (UInt8.ofNat (16 * x + y)).toNat = 16 * x + y := UInt8.toNat_ofNat_of_lt' (by show _ < 256; omega)
          simp only [hexL, e]
          rw [show (16 * x + y) / 16 = x by omega, show (16 * x + y) % 16 = y by omega, halfB_hexDig ha, halfB_hexDig hb, hexL_unhexL l q hl]
theorem ofB_toList (x : ByteArray) : (ofB x).data.toList = prefB.data.toList ++ hexL (shaL x.data.toList) := by
  unfold ofB
  simp
theorem ofB_size (x : ByteArray) : (ofB x).size = 71 := by
  have h6 : (ofB x).data.toList.length = (ofB x).size := by simp
  rw [← h6, ofB_toList, List.length_append, hexL_length, shaL_length]; rfl
theorem drop_pref (l : List UInt8) : (prefB.data.toList ++ l).drop 7 = l := List.drop_left' rfl
theorem parseD_of (x : ByteArray) : parseD (ofB x) = (sumB x, 0) := by
  have hp : Lib.hasPrefix (ofB x).data.toList prefB.data.toList = true := by
    rw [ofB_toList]; exact List.isPrefixOf_iff_prefix.2 (List.prefix_append _ _)
  unfold parseD
  rw [if_pos ⟨hp, ofB_size x⟩, ofB_toList, drop_pref, unhexL_hexL]
  rfl
/-- Another byte anywhere in a digest. -/
theorem parseD_other (x : ByteArray) (k : Nat) (c : UInt8) (hk : k < 71) (hc : (ofB x).data.toList[k]? ≠ some c) :
    ∃ (r : ByteArray) (e : Int), parseD ⟨((ofB x).data.toList.set k c).toArray⟩ = (r, e) ∧ (e = 6 ∧ r = ⟨#[]⟩ ∨ e = 0 ∧ r ≠ sumB x ∧ 7 ≤ k) := by
  obtain ⟨r, e, hpe, h⟩ := parseD_cases ⟨((ofB x).data.toList.set k c).toArray⟩
  refine ⟨r, e, hpe, ?_⟩
  rcases h with ⟨rfl, hr⟩ | ⟨rfl, rfl⟩
  · right
    have hl : (ofB x).data.toList.length = 71 := by have h6 : (ofB x).data.toList.length = (ofB x).size := by simp
                                                    rw [h6, ofB_size]
    unfold parseD at hpe
    split at hpe
    · rename_i hcond
      have hp := List.isPrefixOf_iff_prefix.1 hcond.1
      have h7 : 7 ≤ k := by
        refine Nat.le_of_not_lt fun hlt => hc ?_
        obtain ⟨t, ht⟩ := hp
        have h1 : (prefB.data.toList ++ t)[k]? = some c := by
          rw [ht]
          show ((ofB x).data.toList.set k c)[k]? = some c
          rw [List.getElem?_set_self (by omega)]
        rw [List.getElem?_append_left (by show k < 7; exact hlt)] at h1
        rw [ofB_toList, List.getElem?_append_left (by show k < 7; exact hlt)]
        exact h1
      refine ⟨rfl, ?_, h7⟩
      intro er
      apply hc
      have e1 : ((ofB x).data.toList.set k c).drop 7 = (hexL (shaL x.data.toList)).set (k - 7) c := by
        rw [ofB_toList, List.set_append_right _ _ (by show 7 ≤ k; exact h7), drop_pref]; rfl
      simp only [] at hpe
      rw [e1] at hpe
      cases hu : unhexL ((hexL (shaL x.data.toList)).set (k - 7) c) with
      | none => rw [hu] at hpe; simp at hpe
      | some l =>
        rw [hu] at hpe
        simp only [Prod.mk.injEq, and_true] at hpe
        have hle : l = shaL x.data.toList := by
          have : (⟨l.toArray⟩ : ByteArray) = sumB x := hpe.trans er
          unfold sumB at this
          simpa using this
        have h2 := hexL_unhexL _ _ hu
        rw [hle] at h2
        rw [ofB_toList, List.getElem?_append_right (by show 7 ≤ k; exact h7)]
        show (hexL (shaL x.data.toList))[k - 7]? = some c
        rw [h2, List.getElem?_set_self (by rw [hexL_length, shaL_length]; omega)]
    · simp at hpe
  · exact Or.inl ⟨rfl, rfl⟩
theorem fitsD_of (x y : ByteArray) : fitsD (ofB x) y = if sumB y = sumB x then 0 else 10 := by
  unfold fitsD; rw [parseD_of]; rfl
/-- The sum of one text that was just laid. -/
theorem sum_one (y : ByteArray) (w : World) (ht : Tabs w) (hy : y.size < 1099511627776) :
    Calls Tryd.prog 32 #[.slice (some ⟨w.heap.size, 0, none⟩) 1 1] (w.alloc (.cells #[.string y] 9)) fun e w' => e = .returned (.string (sumB y)) ∧ Below w.heap.size w w' := by
  have hb0 : Below w.heap.size w (w.alloc (.cells #[.string y] 9)) := (Below.refl _ _).alloc (Nat.le_refl _) _
  have hx : (⟨(shaL (catL [y])).toArray⟩ : ByteArray) = sumB y := by unfold sumB; simp [catL]
  have h := digestSum_any _ [y] _ (one_row w y 9) (ht.keep ht.many hb0) (by
    show ([y].flatMap fun s => s.data.toList).length < _
    have h6 : y.data.toList.length = y.size := by simp
    simp only [List.flatMap_cons, List.flatMap_nil, List.append_nil]; omega)
  rw [hx] at h
  exact h.mono fun e w' ⟨h1, h2⟩ => ⟨h1, hb0.trans (h2.mono (by simp))⟩
end Go.Proofs.YtcdibcogboaikaaDoor
