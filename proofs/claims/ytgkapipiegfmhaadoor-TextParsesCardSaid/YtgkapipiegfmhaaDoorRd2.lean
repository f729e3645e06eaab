/-
  The program's reader: a word and a number, by contracts. Conditions: the package-level variables as TEnv says.
-/
import Derived.Test.YtgkapipiegfmhaaDoorTEnv
namespace Go.Proofs.YtgkapipiegfmhaaDoor
open Go.RowKit

theorem clone_t (s : ByteArray) (w : World) (hs : s.size ≤ 1099511627776) :
    Calls Tryd.prog 31 #[.string s] w fun e w' => e = .returned (.string s) ∧ Below w.heap.size w w' := by
  have H := Lib.hid (Tryd.stringslite_Clone s w (by omega))
  go_enter Tryd.func31, Tryd.ntmps31
  go_wp2_with fail
  refine H.out.mono ?_
  rintro e w1 ⟨rfl, hb⟩
  have HB := Lib.hid hb
  clear hb
  go_wp2_with fail
  go_ret
  exact ⟨rfl, HB.out⟩

/-- What strings.Cut answers at a quote. -/
theorem cut_t (s : ByteArray) (w : World) (hs : s.size ≤ 1073741824) (h : TEnv w) :
    Calls Tryd.prog 30 #[.string s, .string ⟨#[34]⟩] w fun e w' => ∃ (x r : ByteArray) (b : Bool), e = .returned (.tuple #[.string x, .string r, .bool b]) ∧
      (match wordEnd s.data.toList with | some p => x.data.toList = p.1 ∧ r.data.toList = p.2 ∧ b = true | none => b = false) ∧ Below w.heap.size w w' := by
  obtain ⟨m, hm⟩ := h.max
  refine (Tryd.strings_Cut s ⟨#[34]⟩ m w (by omega) hm).mono ?_
  rintro e w' ⟨rfl, n, rfl⟩
  refine ⟨_, _, _, rfl, ?_, ⟨rfl, rfl, rfl, Nat.le_refl _, fun _ _ => rfl⟩⟩
  have hq := cut_quote s.data.toList
  rw [show (⟨#[34]⟩ : ByteArray).data.toList = [34] from rfl, hq]
  cases wordEnd s.data.toList with
  | none => rfl
  | some p => exact ⟨rfl, rfl, rfl⟩

/-- How a word ends. -/
structure WordEnds (B : Nat) (s : ByteArray) (w : World) (e : Ending) (w' : World) : Prop where
  gone : Gone B w w'
  is : match quoteL s.data.toList with
    | some p => e = .returned (.string ⟨p.1.toArray⟩) ∧ RdAt w' B ⟨p.2.toArray⟩
    | none => e = stop 6

theorem headB_cons (s : ByteArray) (c : UInt8) : headB s c = match s.data.toList with | [] => false | a :: _ => a == c := by
  unfold headB
  cases s.data.toList with
  | nil => rfl
  | cons a l => rw [List.head?_cons, Bool.eq_iff_iff, beq_iff_eq, beq_iff_eq, Option.some.injEq]

set_option maxRecDepth 100000 in
theorem word_t (B : Nat) (s : ByteArray) (w : World) (hs : s.size ≤ 1073741824) (h : RdAt w B s) (he : TEnv w) (hB : 8 ≤ B) :
    Calls Tryd.prog 22 #[.pointer (some ⟨B, 0, none⟩)] w fun e w' => WordEnds B s w e w' := by
  have hc := h.cell
  have C := Lib.hid (take_any B s 34 34 (by rfl) w h)
  cases hb : headB s 34 with
  | false =>
    rw [hb] at C
    simp only [Bool.false_eq_true, if_false] at C
    have HO := Lib.hid (show quoteL s.data.toList = none by
      rw [headB_cons] at hb
      cases hl : s.data.toList with
      | nil => rfl
      | cons a l => rw [hl] at hb; rw [quoteL, if_neg (by simpa using hb)])
    clear hb
    go_enter Tryd.func22, Tryd.ntmps22
    go_wp2_with fail
    refine C.out.mono ?_
    rintro e w1 ⟨rfl, rfl⟩
    exact ⟨rfl, ⟨Gone.refl _ _, by rw [HO.out]; rfl⟩⟩
  | true =>
    rw [hb] at C
    simp only [if_true] at C
    have hq : quoteL s.data.toList = wordEnd (restB s).data.toList := by
      rw [headB_cons] at hb
      rw [restB_list]
      cases hl : s.data.toList with
      | nil => rw [hl] at hb; cases hb
      | cons a l => rw [hl] at hb; rw [quoteL, if_pos (by simpa using hb), List.tail_cons]
    have hrs : (restB s).size ≤ s.size := by
      have h1 := restB_list s
      have h2 := Lib.size_eq (restB s)
      have h3 := Lib.size_eq s
      rw [h1, List.length_tail] at h2
      omega
    have g1 := Gone.set B 0 w (.string (restB s))
    have r1 := h.set (restB s)
    obtain ⟨W1, hW1⟩ : ∃ W1, w.setCell ⟨B, 0, none⟩ (.string (restB s)) = W1 := ⟨_, rfl⟩
    rw [hW1] at C g1 r1
    have e1 := he.gone g1 hB
    obtain ⟨t, ht⟩ : ∃ t, restB s = t := ⟨_, rfl⟩
    rw [ht] at r1 hq hrs
    have c1 := r1.cell
    have z1 := r1.frozen
    have D := Lib.hid (cut_t t W1 (by omega) e1)
    have HQ := Lib.hid hq
    have G1 := Lib.hid g1
    have R1 := Lib.hid r1
    clear hb hq hW1 ht g1 r1 e1
    go_enter Tryd.func22, Tryd.ntmps22
    go_wp2_with fail
    refine C.out.mono ?_
    rintro e w1 ⟨rfl, rfl⟩
    go_wp2_with fail
    refine D.out.mono ?_
    rintro e w2 ⟨x, r, b, rfl, hm, hb2⟩
    have HM := Lib.hid hm
    have c2 := (hb2.cell (World.block_lt_of_cell? _ _ c1)).trans c1
    have R2 := Lib.hid (R1.out.kept (hb2.block B R1.out.lt))
    have z2 := R2.out.frozen
    have G2 := Lib.hid (G1.out.trans (Gone.below (B := B) hb2))
    clear hm hb2
    cases b with
    | false =>
      have HO := Lib.hid (show quoteL s.data.toList = none by
        rw [HQ.out]
        have := HM.out
        cases hw : wordEnd t.data.toList with
        | none => rfl
        | some p => rw [hw] at this; exact absurd this.2.2 (by simp))
      go_wp2_with fail
      exact ⟨rfl, ⟨G2.out, by rw [HO.out]; rfl⟩⟩
    | true =>
      obtain ⟨p, hp⟩ : ∃ p, wordEnd t.data.toList = some p := by
        have := HM.out
        cases hw : wordEnd t.data.toList with
        | none => rw [hw] at this; cases this
        | some p => exact ⟨p, rfl⟩
      have hx := HM.out
      rw [hp] at hx
      have HX := Lib.hid (bytes_eq x p.1 hx.1)
      have HR := Lib.hid (bytes_eq r p.2 hx.2.1)
      have hxs : x.size ≤ 1099511627776 := by
        have h1 := wordEnd_sound _ p.1 p.2 hp
        have h2 := Lib.size_eq t
        have h3 := Lib.size_eq x
        rw [hx.1] at h3
        rw [h1] at h2
        simp at h2
        omega
      have HO := Lib.hid (show quoteL s.data.toList = some p by rw [HQ.out, hp])
      have R3 := Lib.hid (R2.out.set r)
      have G3 := Lib.hid (G2.out.trans (Gone.set B 0 w2 (.string r)))
      have K := Lib.hid (clone_t x (w2.setCell ⟨B, 0, none⟩ (.string r)) hxs)
      clear hx hp hxs
      go_wp2_with fail
      refine K.out.mono ?_
      rintro e w3 ⟨rfl, hb3⟩
      have R4 := Lib.hid (R3.out.kept (hb3.block B R3.out.lt))
      have G4 := Lib.hid (G3.out.trans (Gone.below (B := B) hb3))
      clear hb3
      go_wp2_with fail
      go_ret
      refine ⟨G4.out, ?_⟩
      rw [HO.out]
      exact ⟨by rw [← HX.out]; rfl, by rw [← HR.out]; exact R4.out⟩

/-- How a number ends. -/
structure WholeEnds (B : Nat) (s : ByteArray) (w : World) (e : Ending) (w' : World) : Prop where
  gone : Gone B w w'
  is : match wholeL s.data.toList with
    | some p => ∃ n, p.1 = .mk 1 n ⟨#[]⟩ [] [] ∧ -9223372036854775808 ≤ n ∧ n ≤ 9223372036854775807 ∧ e = .returned (.int .i64 n) ∧ RdAt w' B ⟨p.2.toArray⟩
    | none => e = stop 6

theorem trimLeft_t (s : ByteArray) (w : World) :
    Calls Tryd.prog 35 #[.string s, .string ⟨#[48, 49, 50, 51, 52, 53, 54, 55, 56, 57]⟩] w fun e w' => e = .returned (.string ⟨(s.data.toList.dropWhile digitC).toArray⟩) ∧ Below w.heap.size w w' := by
  refine (Any.strings_TrimLeft_laid Tryd.lays161 (by kernel_rfl) s ⟨#[48, 49, 50, 51, 52, 53, 54, 55, 56, 57]⟩ w (by decide) (ascii_of_all (by decide))).mono ?_
  rintro e w' ⟨rfl, hb⟩
  exact ⟨by rw [show (⟨#[48, 49, 50, 51, 52, 53, 54, 55, 56, 57]⟩ : ByteArray).data.toList = [48, 49, 50, 51, 52, 53, 54, 55, 56, 57] from rfl, trimLeft_digits], hb⟩
theorem trimSuffix_t (s r : ByteArray) (hs : s.size ≤ 1073741824) (hr : r.data.toList = s.data.toList.dropWhile digitC) (w : World) :
    Calls Tryd.prog 36 #[.string s, .string r] w fun e w' => e = .returned (.string ⟨(s.data.toList.takeWhile digitC).toArray⟩) ∧ w' = w := by
  refine (Tryd.strings_TrimSuffix s r w (by omega)).mono ?_
  rintro e w' ⟨rfl, rfl⟩
  exact ⟨by rw [hr, trimSuffix_digits], rfl⟩

set_option maxRecDepth 100000 in
theorem whole_t (B : Nat) (s : ByteArray) (w : World) (hs : s.size ≤ 1073741824) (h : RdAt w B s) (he : TEnv w) :
    Calls Tryd.prog 25 #[.pointer (some ⟨B, 0, none⟩)] w fun e w' => WholeEnds B s w e w' := by
  have hc := h.cell
  have C := Lib.hid (trimLeft_t s w)
  obtain ⟨r, hr⟩ : ∃ r : ByteArray, (⟨(s.data.toList.dropWhile digitC).toArray⟩ : ByteArray) = r := ⟨_, rfl⟩
  obtain ⟨x, hx⟩ : ∃ x : ByteArray, (⟨(s.data.toList.takeWhile digitC).toArray⟩ : ByteArray) = x := ⟨_, rfl⟩
  have hrl : r.data.toList = s.data.toList.dropWhile digitC := by rw [← hr]
  have hxl : x.data.toList = s.data.toList.takeWhile digitC := by rw [← hx]
  have D := Lib.hid (fun w => trimSuffix_t s r hs hrl w)
  have hxs : x.size ≤ 281474976710656 := by
    have h2 := Lib.size_eq x
    have h3 := Lib.size_eq s
    have h4 := congrArg List.length (List.takeWhile_append_dropWhile (p := digitC) (l := s.data.toList))
    rw [List.length_append] at h4
    rw [hxl] at h2
    omega
  have A1 := Lib.hid (fun w h => atoi_any x hxs w h)
  have HW := Lib.hid (show wholeL s.data.toList = match Lib.atoiAll x.data.toList with | .ok n => if Lib.itoa n = x.data.toList then some (.mk 1 n ⟨#[]⟩ [] [], r.data.toList) else none | Lib.NumEnd.syntax => none | .range => none by
    unfold wholeL; rw [hxl, hrl]; cases Lib.atoiAll (s.data.toList.takeWhile digitC) <;> rfl)
  have HE := Lib.hid he
  have R0 := Lib.hid h
  rw [hr] at C
  rw [hx] at D
  clear hr hx hrl hxl hxs he h
  go_enter Tryd.func25, Tryd.ntmps25
  go_wp2_with fail
  refine C.out.mono ?_
  rintro e w1 ⟨rfl, hb1⟩
  have c1 := (hb1.cell (World.block_lt_of_cell? _ _ hc)).trans hc
  have R1 := Lib.hid (R0.out.kept (hb1.block B R0.out.lt))
  have E1 := Lib.hid (HE.out.below hb1)
  have G1 := Lib.hid (Gone.below (B := B) hb1)
  clear hb1 hc
  go_wp2_with fail
  refine (D.out w1).mono ?_
  rintro e w2 ⟨rfl, rfl⟩
  go_wp2_with fail
  refine (A1.out w2 E1.out).mono ?_
  rintro e w3 ⟨ha, hb3⟩
  have R3 := Lib.hid (R1.out.kept (hb3.block B R1.out.lt))
  have E3 := Lib.hid (E1.out.below hb3)
  have G3 := Lib.hid (G1.out.trans (Gone.below (B := B) hb3))
  clear hb3 c1
  rcases ha with ⟨n, ha, rfl⟩ | ⟨n, p, ha, rfl⟩
  · have HA := Lib.hid ha
    obtain ⟨n0, n1⟩ := Lib.atoiAll_bounds ha
    have I := Lib.hid (itoa_any n n0 n1 w3 E3.out)
    have hI := (show (⟨(Lib.itoa n).toArray⟩ : ByteArray).data.toList = Lib.itoa n from rfl)
    obtain ⟨y, hy⟩ : ∃ y : ByteArray, (⟨(Lib.itoa n).toArray⟩ : ByteArray) = y := ⟨_, rfl⟩
    rw [hy] at I hI
    have HI := Lib.hid hI
    have hq : (y.toList == x.toList) = decide (Lib.itoa n = x.data.toList) := by
      rw [beqB, ← hI]
      exact decide_eq_decide.2 ⟨fun h => by rw [h], fun h => ByteArray.ext (Array.ext' h)⟩
    clear ha hI hy
    by_cases hi : Lib.itoa n = x.data.toList
    · rw [decide_eq_true hi] at hq
      have HO := Lib.hid (show wholeL s.data.toList = some (.mk 1 n ⟨#[]⟩ [] [], r.data.toList) by rw [HW.out, HA.out]; simp only; rw [if_pos hi])
      clear hi
      go_wp2_with fail
      refine I.out.mono ?_
      rintro e w4 ⟨rfl, hb4⟩
      have R4 := Lib.hid (R3.out.kept (hb4.block B R3.out.lt))
      have G4 := Lib.hid (G3.out.trans (Gone.below (B := B) hb4))
      have c4 := R4.out.cell
      have z4 := R4.out.frozen
      clear hb4
      go_wp2_with fail
      go_ret
      refine ⟨G4.out.trans (Gone.set B 0 w4 (.string r)), ?_⟩
      rw [HO.out]
      exact ⟨n, rfl, n0, n1, rfl, by have er := bytes_eq r r.data.toList rfl; rw [← er]; exact R4.out.set r⟩
    · rw [decide_eq_false hi] at hq
      have HO := Lib.hid (show wholeL s.data.toList = none by rw [HW.out, HA.out]; simp only; rw [if_neg hi])
      clear hi
      go_wp2_with fail
      refine I.out.mono ?_
      rintro e w4 ⟨rfl, hb4⟩
      have G4 := Lib.hid (G3.out.trans (Gone.below (B := B) hb4))
      clear hb4
      go_wp2_with fail
      exact ⟨rfl, ⟨G4.out, by rw [HO.out]; rfl⟩⟩
  · have HO := Lib.hid (show wholeL s.data.toList = none by
      rw [HW.out]
      rcases hh : Lib.atoiAll x.data.toList with m | - | -
      · exact absurd hh (ha m)
      · rfl
      · rfl)
    clear ha
    go_wp2_with fail
    exact ⟨rfl, ⟨G3.out, by rw [HO.out]; rfl⟩⟩
end Go.Proofs.YtgkapipiegfmhaaDoor
