/-
  digest.Of, Parse and Fits by their contracts. Conditions: fewer than 2^40 bytes; the tables and octet's errors lie where they lie.
-/
import Derived.Test.YtcdibcogboaikaaDoorDigest
import Derived.Test.YtcdibcogboaikaaDoorBytes
import Derived.Test.YtcdibcogboaikaaDoorHex
namespace Go.Proofs.YtcdibcogboaikaaDoor
open Go.RowKit

/-- What a digest begins with. -/
def prefB : ByteArray := { data := #[115, 104, 97, 50, 53, 54, 58] }
/-- A text's digest. -/
def ofB (s : ByteArray) : ByteArray := prefB ++ ⟨(hexL (shaL s.data.toList)).toArray⟩

theorem one_row (w : World) (s : ByteArray) (t : TypeId) : StrRow (w.alloc (.cells #[.string s] t)) (.slice (some ⟨w.heap.size, 0, none⟩) 1 1) [s] :=
  Or.inr ⟨w.heap.size, 0, 1, rfl, Nat.le_refl _, by decide, fun i hi => by
    obtain rfl : i = 0 := by simpa using hi
    rw [World.cell?_alloc_at _ _ _ _ rfl]; rfl⟩

set_option maxRecDepth 100000 in
set_option maxHeartbeats 1000000 in
theorem of_any (s : ByteArray) (w : World) (ht : Tabs w) (hs : s.size < 1099511627776) :
    Calls Tryd.prog 20 #[.string s] w fun e w' => e = .returned (.string (ofB s)) ∧ Below w.heap.size w w' := by
  have hb0 : Below w.heap.size w (w.alloc (.cells #[.string s] 9)) := (Below.refl _ _).alloc (Nat.le_refl _) _
  have S := Lib.hid (digestSum_any _ [s] _ (one_row w s 9) (ht.keep ht.many hb0) (by
    show ([s].flatMap fun s => s.data.toList).length < _
    have h6 : s.data.toList.length = s.size := by simp
    simp only [List.flatMap_cons, List.flatMap_nil, List.append_nil]; omega))
  obtain ⟨x, hx⟩ : ∃ x : ByteArray, (⟨(shaL (catL [s])).toArray⟩ : ByteArray) = x := ⟨_, rfl⟩
  rw [hx] at S
  have xs : x.size = 32 := by rw [← hx]; show (shaL _).toArray.size = _; rw [List.size_toArray, shaL_length]
  have H := Lib.hid (fun w => Hex_any x w (by omega))
  obtain ⟨y, hy⟩ : ∃ y : ByteArray, (⟨(hexL x.data.toList).toArray⟩ : ByteArray) = y := ⟨_, rfl⟩
  have ys : y.size ≤ 64 := by
    rw [← hy]; show (hexL _).toArray.size ≤ _
    have h6 : x.data.toList.length = x.size := by simp
    rw [List.size_toArray, hexL_length]; omega
  have HO := Lib.hid (show ofB s = prefB ++ y by rw [← hy, ← hx]; unfold ofB; simp [catL])
  rw [hy] at H
  have B0 := Lib.hid hb0
  clear hx hb0 ht hy xs
  go_enter Tryd.func20, Tryd.ntmps20
  go_wp2_with fail
  refine S.out.mono ?_
  rintro e w1 ⟨rfl, hb1⟩
  have B1 := Lib.hid (B0.out.trans (hb1.mono (by simp)))
  clear hb1 S B0
  go_wp2_with fail
  refine (H.out _).mono ?_
  rintro e w2 ⟨rfl, hb2⟩
  have B2 := Lib.hid (B1.out.trans (hb2.mono B1.out.size))
  clear hb2 H B1
  go_wp2_with fail
  go_ret
  exact ⟨by rw [HO.out]; rfl, B2.out⟩

/-- What Parse answers. -/
def parseD (s : ByteArray) : ByteArray × Int :=
  if Lib.hasPrefix s.data.toList prefB.data.toList = true ∧ s.size = 71 then
    match unhexL (s.data.toList.drop 7) with
    | some l => (⟨l.toArray⟩, 0)
    | none => (⟨#[]⟩, 6)
  else (⟨#[]⟩, 6)

theorem parseD_no {s : ByteArray} (h : Lib.hasPrefix s.data.toList prefB.data.toList = false ∨ s.size ≠ 71) : parseD s = (⟨#[]⟩, 6) := by
  unfold parseD
  rw [if_neg]
  rintro ⟨h1, h2⟩
  rcases h with h | h
  · rw [h1] at h; cases h
  · exact h h2
set_option maxRecDepth 100000 in
set_option maxHeartbeats 1000000 in
theorem parse_any (aD aS aZ : Addr) (s : ByteArray) (w : World) (he : Env w aD aS aZ) (hs : s.size < 1099511627776) :
    Calls Tryd.prog 33 #[.string s] w fun e w' => e = .returned (.tuple #[.string (parseD s).1, .int .i64 (parseD s).2]) ∧ Below w.heap.size w w' := by
  have C := Lib.hid (Tryd.strings_CutPrefix s prefB w)
  have p7 : prefB.data.toList.length = 7 := rfl
  cases hp : Lib.hasPrefix s.data.toList prefB.data.toList with
  | false =>
    have HO := Lib.hid (parseD_no (Or.inl hp))
    obtain ⟨d, hd⟩ : ∃ d : ByteArray, (⟨(Lib.trimPrefix s.data.toList prefB.data.toList).toArray⟩ : ByteArray) = d := ⟨_, rfl⟩
    rw [hd, hp] at C
    clear hp hd p7
    unfold prefB at C
    go_enter Tryd.func33, Tryd.ntmps33
    go_wp2_with fail
    refine C.out.mono ?_
    rintro e w1 ⟨rfl, rfl⟩
    go_wp2_with fail
    go_ret2
    exact ⟨by rw [HO.out]; rfl, Below.refl _ _⟩
  | true =>
    have hle : 7 ≤ s.size := by
      have h1 := List.IsPrefix.length_le (List.isPrefixOf_iff_prefix.1 hp)
      rw [p7] at h1
      have h6 : s.data.toList.length = s.size := by simp
      omega
    obtain ⟨d, hd⟩ : ∃ d : ByteArray, (⟨(Lib.trimPrefix s.data.toList prefB.data.toList).toArray⟩ : ByteArray) = d := ⟨_, rfl⟩
    have hdl : d.data.toList = s.data.toList.drop 7 := by rw [← hd]; unfold Lib.trimPrefix; rw [if_pos hp, p7]
    have hds : d.size = s.size - 7 := by
      have h6 : s.data.toList.length = s.size := by simp
      have h7 : d.data.toList.length = d.size := by simp
      rw [← h7, hdl, List.length_drop, h6]
    rw [hd, hp] at C
    by_cases h71 : s.size = 71
    · have hpd : parseD s = match unhexL (s.data.toList.drop 7) with | some l => (⟨l.toArray⟩, 0) | none => (⟨#[]⟩, 6) := by unfold parseD; rw [if_pos ⟨hp, h71⟩]
      have B := Lib.hid (Bytes_any aD aS aZ d w he (by omega))
      have d64 : ((d.size : Int) != 64) = false := by rw [bne_eq_false_iff_eq]; omega
      cases hu : unhexL (s.data.toList.drop 7) with
      | none =>
        rw [hu] at hpd
        have hb : bytesOut d = (⟨#[]⟩, 4) := by unfold bytesOut; rw [hdl, hu]
        rw [hb] at B
        have HO := Lib.hid hpd
        clear hpd hb hu h71 hds hdl hd hp p7 he
        unfold prefB at C
        go_enter Tryd.func33, Tryd.ntmps33
        go_wp2_with fail
        refine C.out.mono ?_
        rintro e w1 ⟨rfl, rfl⟩
        go_wp2_with fail
        refine B.out.mono ?_
        rintro e w2 ⟨rfl, hb2⟩
        have HB := Lib.hid hb2
        clear hb2
        go_wp2_with fail
        go_ret2
        exact ⟨by rw [HO.out]; rfl, HB.out⟩
      | some l =>
        rw [hu] at hpd
        have hb : bytesOut d = (⟨l.toArray⟩, 0) := by unfold bytesOut; rw [hdl, hu]
        rw [hb] at B
        have HO := Lib.hid hpd
        clear hpd hb hu h71 hds hdl hd hp p7 he
        unfold prefB at C
        go_enter Tryd.func33, Tryd.ntmps33
        go_wp2_with fail
        refine C.out.mono ?_
        rintro e w1 ⟨rfl, rfl⟩
        go_wp2_with fail
        refine B.out.mono ?_
        rintro e w2 ⟨rfl, hb2⟩
        have HB := Lib.hid hb2
        clear hb2
        go_wp2_with fail
        go_ret2
        exact ⟨by rw [HO.out]; rfl, HB.out⟩
    · have HO := Lib.hid (parseD_no (Or.inr h71))
      have d64 : ((d.size : Int) != 64) = true := by rw [bne_iff_ne]; omega
      clear h71 hds hdl hd hp p7 he
      unfold prefB at C
      go_enter Tryd.func33, Tryd.ntmps33
      go_wp2_with fail
      refine C.out.mono ?_
      rintro e w1 ⟨rfl, rfl⟩
      go_wp2_with fail
      go_ret2
      exact ⟨by rw [HO.out]; rfl, Below.refl _ _⟩

theorem unhexL_length : ∀ (l r : List UInt8), unhexL l = some r → l.length = 2 * r.length
  | [], r, h => by simp [unhexL] at h; subst h; rfl
  | [_], r, h => by simp [unhexL] at h
  | a :: b :: l, r, h => by
    cases ha : halfB a with
    | none => simp [unhexL, ha] at h
    | some x =>
      cases hb : halfB b with
      | none => simp [unhexL, hb] at h
      | some y =>
        cases hl : unhexL l with
        | none => simp [unhexL, hl] at h
        | some q =>
          simp only [unhexL, ha, hb, hl, Option.some.injEq] at h
          subst h
          have ih := unhexL_length l q hl
          simp only [List.length_cons]; omega
theorem parseD_cases (s : ByteArray) : ∃ (r : ByteArray) (e : Int), parseD s = (r, e) ∧ (e = 0 ∧ r.size = 32 ∨ e = 6 ∧ r = ⟨#[]⟩) := by
  by_cases h : Lib.hasPrefix s.data.toList prefB.data.toList = true ∧ s.size = 71
  · cases hu : unhexL (s.data.toList.drop 7) with
    | none => exact ⟨_, _, by unfold parseD; rw [if_pos h, hu], Or.inr ⟨rfl, rfl⟩⟩
    | some l =>
      refine ⟨⟨l.toArray⟩, 0, by unfold parseD; rw [if_pos h, hu], Or.inl ⟨rfl, ?_⟩⟩
      have h1 := unhexL_length _ _ hu
      have h6 : s.data.toList.length = s.size := by simp
      rw [List.length_drop, h6, h.2] at h1
      show l.toArray.size = 32
      rw [List.size_toArray]; omega
  · exact ⟨_, _, by unfold parseD; rw [if_neg h], Or.inr ⟨rfl, rfl⟩⟩
/-- A text's sum. -/
def sumB (s : ByteArray) : ByteArray := ⟨(shaL s.data.toList).toArray⟩
theorem sumB_size (s : ByteArray) : (sumB s).size = 32 := by show (shaL _).toArray.size = 32; rw [List.size_toArray, shaL_length]
/-- What Fits answers. -/
def fitsD (s data : ByteArray) : Int := if (parseD s).2 = 0 then (if sumB data = (parseD s).1 then 0 else 10) else (parseD s).2
theorem toList_beq (a b : ByteArray) : (a.toList == b.toList) = decide (a = b) := by
  rw [Lib.toList_data, Lib.toList_data]
  by_cases h : a = b
  · subst h; simp
  · rw [decide_eq_false h, beq_eq_false_iff_ne]
    intro e
    apply h
    cases a; cases b
    simp only [ByteArray.mk.injEq]
    exact Array.toList_inj.1 e
end Go.Proofs.YtcdibcogboaikaaDoor
