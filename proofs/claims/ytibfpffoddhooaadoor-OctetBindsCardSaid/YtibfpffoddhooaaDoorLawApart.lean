/-
  OctetApart returns true at every input: the walk. Conditions: the package-level errors lie where they lie.
-/
import Derived.Test.YtibfpffoddhooaaDoorLawParts
import Derived.Test.YtibfpffoddhooaaDoorLoose
namespace Go.Proofs.YtibfpffoddhooaaDoor
open Go.RowKit

theorem strs_shape {w : World} {v : Value} {ss : List ByteArray} (h : StrRow w v ss) : ∃ a c, v = .slice a ss.length c := by
  rcases h with ⟨rfl, rfl⟩ | ⟨b, o, cap, rfl, _⟩
  · exact ⟨_, _, rfl⟩
  · exact ⟨_, _, rfl⟩

/-- One text, laid by the call itself. -/
theorem one_row (w : World) (x : ByteArray) : StrRow (w.alloc (.cells #[.string x] 9)) (.slice (some ⟨w.heap.size, 0, none⟩) 1 1) [x] :=
  Or.inr ⟨w.heap.size, 0, 1, rfl, Nat.le_refl _, by unfold maxLen; omega, fun i hi => by
    have : i = 0 := by simpa using hi
    subst this
    rw [World.cell?_alloc_at _ _ _ _ rfl]; rfl⟩

set_option maxRecDepth 100000 in
set_option maxHeartbeats 4000000 in
theorem apart_walk (aD aS aZ : Addr) (v u : Value) (ss ts : List ByteArray) (s : ByteArray) (w : World) (he : Env w aD aS aZ) (hr : StrRow w v ss) (hz : ∀ s ∈ ss, s.size ≤ maxLen) (gr : StrRow w u ts) (gz : ∀ s ∈ ts, s.size ≤ maxLen) (hs : s.size ≤ maxLen) :
    Calls Tryd.prog 6 #[v, u, .string s] w fun e w' => e = .returned (.bool true) ∧ Below w.heap.size w w' := by
  unfold maxLen at hs
  obtain ⟨a1, c1, rfl⟩ := strs_shape hr
  obtain ⟨a2, c2, rfl⟩ := strs_shape gr
  obtain ⟨q, hq⟩ : ∃ q, min s.size 4096 = q := ⟨_, rfl⟩
  have hq' : min ((s.size : Nat) : Int) 4096 = (q : Int) := by omega
  have hqs : q ≤ s.size := by omega
  obtain ⟨x, hx⟩ : ∃ x, s.extract 0 q = x := ⟨_, rfl⟩
  have hxs : x.size ≤ 4096 := by rw [← hx, ByteArray.size_extract]; omega
  have F1 := Lib.hid (few_any _ ss w hr hz)
  have F2 := Lib.hid (fun w gr => few_any (.slice a2 ts.length c2) ts w gr gz)
  have HE := Lib.hid he
  have GR := Lib.hid gr
  clear he hr hz gr gz hq
  go_enter Tryd.func6, Tryd.ntmps6
  go_wp2_with fail
  refine F1.out.mono ?_
  rintro ev w1 ⟨⟨v1, rfl, hL, x1, n1, d1, rfl⟩, hb1⟩
  have HE1 := Lib.hid (HE.out.keep hb1)
  have GR1 := Lib.hid (GR.out.keep hb1)
  have HL1 := Lib.hid hL
  have B1 := Lib.hid hb1
  clear hL hb1
  go_wp2_with fail
  refine (F2.out w1 GR1.out).mono ?_
  rintro ev w2 ⟨⟨v2, rfl, hM, x2, n2, d2, rfl⟩, hb2⟩
  have HE2 := Lib.hid (HE1.out.keep hb2)
  have HL2 := Lib.hid (HL1.out.keep hb2)
  have HM2 := Lib.hid hM
  have B2 := Lib.hid (B1.out.trans (hb2.mono B1.out.size))
  clear hM hb2
  obtain ⟨L, hLe⟩ : ∃ L, fewB ss = L := ⟨_, rfl⟩
  obtain ⟨M, hMe⟩ : ∃ M, fewB ts = M := ⟨_, rfl⟩
  have hLz : ∀ s ∈ L, s.size ≤ 4100 := by rw [← hLe]; exact fewB_size ss
  have hMz : ∀ s ∈ M, s.size ≤ 4100 := by rw [← hMe]; exact fewB_size ts
  rw [hLe] at HL2
  rw [hMe] at HM2
  have BL := Lib.hid (fun w he h => Bind_any aD aS aZ (.slice (some x1) n1 d1) L w he h (fun s hs => by have := hLz s hs; unfold maxLen; omega))
  have BM := Lib.hid (fun w he h => Bind_any aD aS aZ (.slice (some x2) n2 d2) M w he h (fun s hs => by have := hMz s hs; unfold maxLen; omega))
  clear hLe hMe hLz hMz F1 F2 GR GR1 HL1 HE HE1 B1
  go_wp2_with fail
  refine (BL.out w2 HE2.out HL2.out).mono ?_
  rintro ev w3 ⟨rfl, hb3⟩
  have HE3 := Lib.hid (HE2.out.keep hb3)
  have HL3 := Lib.hid (HL2.out.keep hb3)
  have HM3 := Lib.hid (HM2.out.keep hb3)
  have B3 := Lib.hid (B2.out.trans (hb3.mono B2.out.size))
  clear hb3 HE2 HL2 HM2 B2
  go_wp2_with fail
  refine (BM.out w3 HE3.out HM3.out).mono ?_
  rintro ev w4 ⟨rfl, hb4⟩
  have HE4 := Lib.hid (HE3.out.keep hb4)
  have HL4 := Lib.hid (HL3.out.keep hb4)
  have HM4 := Lib.hid (HM3.out.keep hb4)
  have B4 := Lib.hid (B3.out.trans (hb4.mono B3.out.size))
  clear hb4 HE3 HL3 HM3 B3
  have A4 := Lib.hid (alive_any aD aS aZ w4 HE4.out)
  by_cases mL : mayB L = true
  · by_cases mM : mayB M = true
    · have iL := mayB_iff mL
      have iM := mayB_iff mM
      have e1 : bindOut L = (⟨(bindL L).toArray⟩, 0) := by simp [bindOut, mL]
      have e2 : bindOut M = (⟨(bindL M).toArray⟩, 0) := by simp [bindOut, mM]
      have e3 : bindOut [x] = (⟨(bindL [x]).toArray⟩, 0) := by
        have : mayB [x] = true := mayB_true (fun y hy => by rw [List.mem_singleton.1 hy]; exact hxs) (by simp)
        simp [bindOut, this]
      have e4 : bindOut (L ++ [x]) = (⟨(bindL L).toArray⟩ ++ ⟨(bindL [x]).toArray⟩, 0) ∧ L.length < 64 ∨ bindOut (L ++ [x]) = (⟨#[]⟩, 2) ∧ L.length = 64 := by
        by_cases h64 : L.length < 64
        · left
          have : mayB (L ++ [x]) = true := mayB_true (fun y hy => by
            rcases List.mem_append.1 hy with hy | hy
            · exact iL.1 y hy
            · rw [List.mem_singleton.1 hy]; exact hxs) (by simp; omega)
          refine ⟨?_, h64⟩
          unfold bindOut
          rw [if_pos this, bindL_append]
          congr 1
        · right
          have : mayB (L ++ [x]) = false := mayB_long (by simp; omega)
          exact ⟨by simp [bindOut, this], by have := iL.2; omega⟩
      have hinj : ((⟨(bindL L).toArray⟩ : ByteArray).toList == (⟨(bindL M).toArray⟩ : ByteArray).toList) = decide (L = M) := by
        rw [ByteArray.toList_mk, ByteArray.toList_mk]
        by_cases h : L = M
        · simp [h]
        · have h2 : (bindL L == bindL M) = false := by
            rw [beq_eq_false_iff_ne]; intro e; exact h (bindL_inj L M iL.1 iL.2 iM.1 iM.2 e)
          rw [h2]; simp [h]
      have hAz : (⟨(bindL L).toArray⟩ : ByteArray).size ≤ 4098 * 64 := by
        show (bindL L).toArray.size ≤ _
        rw [List.size_toArray]; exact Nat.le_trans (bindL_length_le L iL.1) (Nat.mul_le_mul_left _ iL.2)
      have hOz : (⟨(bindL [x]).toArray⟩ : ByteArray).size ≤ 4098 := by
        show (bindL [x]).toArray.size ≤ _
        rw [List.size_toArray]; exact bindL_length_le [x] (fun y hy => by rw [List.mem_singleton.1 hy]; exact hxs)
      obtain ⟨A, hA⟩ : ∃ A : ByteArray, ⟨(bindL L).toArray⟩ = A := ⟨_, rfl⟩
      obtain ⟨B, hB⟩ : ∃ B : ByteArray, ⟨(bindL M).toArray⟩ = B := ⟨_, rfl⟩
      obtain ⟨O, hO⟩ : ∃ O : ByteArray, ⟨(bindL [x]).toArray⟩ = O := ⟨_, rfl⟩
      rw [hA] at e1 e4 hinj hAz
      rw [hB] at e2 hinj
      rw [hO] at e3 e4 hOz
      rw [e1, e2]
      have hLx : ∀ y ∈ L ++ [x], y.size ≤ maxLen := fun y hy => by
        unfold maxLen
        rcases List.mem_append.1 hy with hy | hy
        · have := iL.1 y hy; omega
        · rw [List.mem_singleton.1 hy]; omega
      have BLx := Lib.hid (fun v w he h => Bind_any aD aS aZ v (L ++ [x]) w he h hLx)
      have BX := Lib.hid (fun v w he h => Bind_any aD aS aZ v [x] w he h (fun y hy => by rw [List.mem_singleton.1 hy]; unfold maxLen; omega))
      rw [e3] at BX
      have SM := Lib.hid (fun w h g => Same_any (.slice (some x1) n1 d1) (.slice (some x2) n2 d2) L M w h g)
      have hL64 : L.length ≤ 64 := iL.2
      have E4 := Lib.hid e4
      have INJ := Lib.hid hinj
      clear e1 e2 e3 e4 hinj hLx hA hB hO mL mM iL iM BL BM A4
      have hrow : ∃ b o cap, (Value.slice (some x1) n1 d1) = .slice (some ⟨b, o, none⟩) L.length cap ∧ ∀ i (h : i < L.length), w4.cell? ⟨b, o + i, none⟩ = some (.string L[i]) := by
        rcases HL4.out with ⟨h0, _⟩ | ⟨b, o, cap, h1, _, _, h4⟩
        · simp at h0
        · exact ⟨b, o, cap, h1, h4⟩
      obtain ⟨b, o, cap, hvs, hcs⟩ := hrow
      have hcells : ∀ o', ∀ (j : Nat) (y : Value), (strC L)[j]? = some y → (w4.alloc o').cell? ((⟨b, o, none⟩ : Addr).add j) = some y := fun o' j y hy => by
        have hj : j < L.length := by have := (List.getElem?_eq_some_iff.1 hy).1; rwa [strC_length] at this
        have e : (⟨b, o, none⟩ : Addr).add j = ⟨b, o + j, none⟩ := by unfold Addr.add; split <;> simp_all
        have hc := hcs j hj
        have hy' : y = .string L[j] := by
          simp only [strC, List.getElem?_map] at hy
          rw [List.getElem?_eq_getElem hj] at hy
          simpa using hy.symm
        rw [e, hy', World.cell?_alloc_lt _ _ _ (World.block_lt_of_cell? _ _ hc)]
        exact hc
      have HC := Lib.hid hcells
      clear hcells hcs
      simp only [Value.slice.injEq, Option.some.injEq] at hvs
      obtain ⟨rfl, rfl, rfl⟩ := hvs
      obtain ⟨i0, hi, hz0, hz1, hz2⟩ := info_parts infoStr
      go_wp2_with (at_builtin; refine wpList_append_own _ rfl _ _ 36 rfl w4.heap.size 9 i0 (.string ⟨#[]⟩) 1 16 Tryd.underlying36 hi hz0 hz1 hz2 rfl (by decide) _ 0 [] rfl (World.ownsRow_lit w4 #[] 0 (Nat.le_refl _) (Nat.zero_le _) rfl) ⟨b, o, none⟩ L.length d1 (strC L) rfl ?c1 ?c2 ?c3 ?c4 ?c5 ?c6 ?_)
      case c1 => rw [strC_length, Nat.mul_one]
      case c2 => exact HC.out _
      case c3 => intro y hy; obtain ⟨t, _, rfl⟩ := List.mem_map.1 hy; rfl
      case c4 => unfold maxLen; omega
      case c5 => omega
      case c6 => simp
      intro v' w5 hown hgrow hnil
      have hb5 : Below w4.heap.size w4 w5 := ((Below.refl _ _).alloc (Nat.le_refl _) _).grown hgrow (by simp) (fun _ e => by cases e; exact Nat.le_refl _)
      have hv : ∃ g c, v' = .slice (some ⟨g, 0, none⟩) L.length c := by
        rcases hown.2 with ⟨h0, _⟩ | ⟨g, c, cur, hv, _⟩
        · exact (hnil h0).elim
        · exact ⟨g, c, hv⟩
      obtain ⟨g, c, rfl⟩ := hv
      clear hnil hgrow HC
      have HO := Lib.hid hown
      have hbs5 := hb5.size
      have HB5 := Lib.hid hb5
      clear hown hb5
      go_wp2_with (at_builtin; refine wpList_append_own _ rfl _ _ 36 rfl w4.heap.size 9 i0 (.string ⟨#[]⟩) 1 16 Tryd.underlying36 hi hz0 hz1 hz2 rfl (by decide) _ L.length (strC L) rfl (HO.out.alloc _) ⟨w5.heap.size, 0, none⟩ 1 1 [.string x] rfl rfl ?c1 ?c2 ?c3 ?c4 ?c5 ?_)
      case c1 =>
        intro i y hi'
        match i, hi' with
        | 0, hi' => simp at hi'; subst hi'; rw [addr0_add, World.cell?_alloc_at _ _ _ _ rfl]; rfl
        | i + 1, hi' => simp at hi'
      case c2 => intro y hy; simp at hy; subst hy; rfl
      case c3 => unfold maxLen; omega
      case c4 => omega
      case c5 => simp; omega
      intro v' w6 hown hgrow _
      have hb6 : Below w4.heap.size w4 w6 := (HB5.out.alloc hbs5 _).grown hgrow (by simp; omega) (fun k hk => by cases hk; exact (HO.out.lt g rfl).1)
      have hv : ∃ a c, v' = .slice a (L.length + 1) c := by
        rcases hown.2 with ⟨_, h0⟩ | ⟨g, c, cur, hv, _⟩
        · omega
        · exact ⟨_, _, hv⟩
      obtain ⟨a6, c6, rfl⟩ := hv
      have hrow6 : StrRow w6 (.slice a6 (L.length + 1) c6) (L ++ [x]) := StrRow.of_own (n := L.length + 1) (by simpa [strC] using hown) (by simp)
      have HE6 := Lib.hid (HE4.out.keep hb6)
      have HL6 := Lib.hid (HL4.out.keep hb6)
      have HM6 := Lib.hid (HM4.out.keep hb6)
      have B6 := Lib.hid (B4.out.trans (hb6.mono B4.out.size))
      have P1 := Lib.hid (BLx.out _ w6 HE6.out hrow6)
      clear hown hgrow hrow6 hb6 HE4 HL4 HM4 B4 BLx HO HB5
      rcases E4.out with ⟨e4, hlt⟩ | ⟨e4, h64⟩
      · -- room for one more
        rw [e4] at P1
        clear e4
        go_wp2_with fail
        refine P1.out.mono ?_
        rintro ev w7 ⟨rfl, hb7⟩
        have HE7 := Lib.hid (HE6.out.keep hb7)
        have HL7 := Lib.hid (HL6.out.keep hb7)
        have HM7 := Lib.hid (HM6.out.keep hb7)
        have B7 := Lib.hid (B6.out.trans (hb7.mono B6.out.size))
        have a7 : Below w7.heap.size w7 (w7.alloc (.cells #[.string x] 9)) := (Below.refl _ _).alloc (Nat.le_refl _) _
        have HE7a := Lib.hid (HE7.out.keep a7)
        have HL7a := Lib.hid (HL7.out.keep a7)
        have HM7a := Lib.hid (HM7.out.keep a7)
        have B7a := Lib.hid (B7.out.trans (a7.mono B7.out.size))
        have P2 := Lib.hid (BX.out _ _ HE7a.out (one_row w7 x))
        clear hb7 a7 P1 HE6 HL6 HM6 B6 BX HE7 HL7 HM7 B7
        go_wp2_with fail
        refine P2.out.mono ?_
        rintro ev w8 ⟨rfl, hb8⟩
        have HE8 := Lib.hid (HE7a.out.keep hb8)
        have HL8 := Lib.hid (HL7a.out.keep hb8)
        have HM8 := Lib.hid (HM7a.out.keep hb8)
        have B8 := Lib.hid (B7a.out.trans (hb8.mono B7a.out.size))
        clear hb8 P2 HE7a HL7a HM7a B7a
        go_wp2_with fail
        refine (alive_any aD aS aZ w8 HE8.out).mono ?_
        rintro ev w9 ⟨rfl, hb9⟩
        have HL9 := Lib.hid (HL8.out.keep hb9)
        have HM9 := Lib.hid (HM8.out.keep hb9)
        have B9 := Lib.hid (B8.out.trans (hb9.mono B8.out.size))
        have P3 := Lib.hid (SM.out w9 HL9.out HM9.out)
        have inj := INJ.out
        clear hb9 HE8 HL8 HM8 B8 SM
        go_wp2_with fail
        refine P3.out.mono ?_
        rintro ev w10 ⟨rfl, hb10⟩
        have B10 := Lib.hid (B9.out.trans (hb10.mono B9.out.size))
        clear hb10
        go_wp2_with fail
        go_ret
        exact ⟨rfl, B10.out⟩
      · -- no room
        have t64 : (((L.length : Nat) : Int) == 64) = true := by rw [beq_iff_eq]; omega
        have H64 := Lib.hid h64
        clear h64
        rw [e4] at P1
        clear e4
        go_wp2_with fail
        refine P1.out.mono ?_
        rintro ev w7 ⟨rfl, hb7⟩
        have HE7 := Lib.hid (HE6.out.keep hb7)
        have HL7 := Lib.hid (HL6.out.keep hb7)
        have HM7 := Lib.hid (HM6.out.keep hb7)
        have B7 := Lib.hid (B6.out.trans (hb7.mono B6.out.size))
        have a7 : Below w7.heap.size w7 (w7.alloc (.cells #[.string x] 9)) := (Below.refl _ _).alloc (Nat.le_refl _) _
        have HE7a := Lib.hid (HE7.out.keep a7)
        have HL7a := Lib.hid (HL7.out.keep a7)
        have HM7a := Lib.hid (HM7.out.keep a7)
        have B7a := Lib.hid (B7.out.trans (a7.mono B7.out.size))
        have P2 := Lib.hid (BX.out _ _ HE7a.out (one_row w7 x))
        clear hb7 a7 P1 HE6 HL6 HM6 B6 BX HE7 HL7 HM7 B7
        go_wp2_with fail
        refine P2.out.mono ?_
        rintro ev w8 ⟨rfl, hb8⟩
        have HE8 := Lib.hid (HE7a.out.keep hb8)
        have HL8 := Lib.hid (HL7a.out.keep hb8)
        have HM8 := Lib.hid (HM7a.out.keep hb8)
        have B8 := Lib.hid (B7a.out.trans (hb8.mono B7a.out.size))
        clear hb8 P2 HE7a HL7a HM7a B7a
        go_wp2_with fail
        refine (alive_any aD aS aZ w8 HE8.out).mono ?_
        rintro ev w9 ⟨rfl, hb9⟩
        have HL9 := Lib.hid (HL8.out.keep hb9)
        have HM9 := Lib.hid (HM8.out.keep hb9)
        have B9 := Lib.hid (B8.out.trans (hb9.mono B8.out.size))
        have P3 := Lib.hid (SM.out w9 HL9.out HM9.out)
        have inj := INJ.out
        clear hb9 HE8 HL8 HM8 B8 SM
        go_wp2_with fail
        refine P3.out.mono ?_
        rintro ev w10 ⟨rfl, hb10⟩
        have B10 := Lib.hid (B9.out.trans (hb10.mono B9.out.size))
        clear hb10
        go_wp2_with fail
        go_ret
        exact ⟨rfl, B10.out⟩
    · have e1 : bindOut L = (⟨(bindL L).toArray⟩, 0) := by simp [bindOut, mL]
      have e2 : bindOut M = (⟨#[]⟩, 2) := by simp [bindOut, mM]
      rw [e1, e2]
      clear e1 e2 mL mM
      go_wp2_with fail
      refine A4.out.mono ?_
      rintro ev w5 ⟨rfl, hb5⟩
      go_wp2_with fail
      go_ret
      exact ⟨rfl, B4.out.trans (hb5.mono B4.out.size)⟩
  · have e1 : bindOut L = (⟨#[]⟩, 2) := by simp [bindOut, mL]
    rw [e1]
    clear e1 mL
    go_wp2_with fail
    refine A4.out.mono ?_
    rintro ev w5 ⟨rfl, hb5⟩
    go_wp2_with fail
    go_ret
    exact ⟨rfl, B4.out.trans (hb5.mono B4.out.size)⟩
end Go.Proofs.YtibfpffoddhooaaDoor
