/-
  DigestBack returns true at every input: the walk. Conditions: the tables and octet's errors lie where they lie.
-/
import Derived.Test.YtiebdmamjlgeoaaDoorLawD
namespace Go.Proofs.YtiebdmamjlgeoaaDoor
open Go.RowKit

theorem join_cat : ∀ ss : List ByteArray, Lib.join (ss.map (·.data.toList)) (⟨#[]⟩ : ByteArray).data.toList = catL ss
  | [] => rfl
  | s :: r => by
    rw [List.map_cons, Lib.join_cons]
    unfold Lib.joinTail catL
    simp [List.flatMap_def, Function.comp_def]
theorem catL_length_le (N : Nat) : ∀ ss : List ByteArray, (∀ s ∈ ss, s.size ≤ N) → (catL ss).length ≤ N * ss.length
  | [], _ => by simp [catL]
  | s :: r, h => by
    have h1 := h s (by simp)
    have h2 := catL_length_le N r fun x hx => h x (by simp [hx])
    have e : (catL (s :: r)).length = s.size + (catL r).length := by simp [catL]
    rw [e, List.length_cons, Nat.mul_succ]; omega

set_option maxRecDepth 100000 in
set_option maxHeartbeats 8000000 in
theorem back_walk (aD aS aZ : Addr) (v : Value) (ss : List ByteArray) (s : ByteArray) (w : World) (he : Env w aD aS aZ) (ht : Tabs w) (h : StrRow w v ss) (hsz : ∀ s ∈ ss, s.size ≤ maxLen) (hs : s.size ≤ maxLen) :
    Calls Tryd.prog 5 #[v, .string s] w fun e w' => e = .returned (.bool true) ∧ Below w.heap.size w w' := by
  have hl := h.len
  unfold maxLen at hl hsz hs
  obtain ⟨i0, hi, hz0, hz1, hz2⟩ := info_parts infoStr
  have C1 := Lib.hid (fun w => short_any s w (by omega))
  have hxs := shortB_size s
  generalize shortB s = q at C1 hxs
  obtain ⟨r, e1, hpe, hv⟩ := parseD_cases q
  have C2 := Lib.hid (fun w he => parse_any aD aS aZ q w he (by omega))
  rw [hpe] at C2
  have HV := Lib.hid hv
  have HE := Lib.hid he
  have HT := Lib.hid ht
  clear he ht hpe hv hxs
  rcases h with ⟨rfl, rfl⟩ | ⟨b, o, cap, rfl, h2, h3, h4⟩
  · have m0 : min (0 : Int) 6 = 0 := by decide
    have HL1 := Lib.hid (show StrRow (w.alloc (.cells #[] 9)) (.slice (some ⟨w.heap.size, 0, none⟩) 0 0) [] from Or.inr ⟨w.heap.size, 0, 0, rfl, Nat.le_refl _, Nat.zero_le _, fun i hi => absurd hi (Nat.not_lt_zero _)⟩)
    have B1 := Lib.hid (show Below w.heap.size w (w.alloc (.cells #[] 9)) from (Below.refl _ _).alloc (Nat.le_refl _) _)
    have HLZ := Lib.hid (show (catL []).length < 576460752303423488 by decide)
    have HLZ2 := Lib.hid (show (catL []).length ≤ 600 by decide)
    have HJ := Lib.hid (show Calls Tryd.prog 21 #[.slice (some ⟨w.heap.size, 0, none⟩) 0 0, .string ⟨#[]⟩] (w.alloc (.cells #[] 9)) fun e w' => e = .returned (.string ⟨(catL []).toArray⟩) ∧ Below (w.alloc (.cells #[] 9)).heap.size (w.alloc (.cells #[] 9)) w' from
      (Tryd.strings_Join_none (some ⟨w.heap.size, 0, none⟩) 0 ⟨#[]⟩ (w.alloc (.cells #[] 9))).mono fun e w' ⟨h1, h2⟩ => ⟨h1, h2 ▸ Below.refl _ _⟩)
    obtain ⟨L, hL⟩ : ∃ L : List ByteArray, [] = L := ⟨_, rfl⟩
    rw [hL] at HL1 HLZ HLZ2 HJ
    clear hL
    go_enter Tryd.func5, Tryd.ntmps5
    go_wp2_with fail
    generalize w.alloc (.cells #[] 9) = wr at HL1 B1 HJ ⊢
    refine wp_loop_rounds 1 ?_
    rw [rounds_succ]
    -- here: B1 : Hid (Below w.heap.size w wr), HL1 : Hid (StrRow wr VV L), HJ : the join, HLZ : bound of catL L
    have HE1 := Lib.hid (HE.out.keep B1.out)
    have HT1 := Lib.hid (HT.out.keep HT.out.many B1.out)
    have SL := Lib.hid (fun w' (h : Below wr.heap.size wr w') => digestSum_any _ L w' (HL1.out.keep h) (HT1.out.keep HT1.out.many h) HLZ.out)
    obtain ⟨A, hA⟩ : ∃ A : ByteArray, (⟨(catL L).toArray⟩ : ByteArray) = A := ⟨_, rfl⟩
    have hAs : A.size ≤ 600 := by have := HLZ2.out; rw [← hA]; show (catL L).toArray.size ≤ 600; rw [List.size_toArray]; exact this
    have hAl : A.data.toList = catL L := by rw [← hA]
    have hSA : (⟨(shaL (catL L)).toArray⟩ : ByteArray) = sumB A := by unfold sumB; rw [hAl]
    rw [hSA] at SL
    rw [hA] at HJ
    clear hA hAl hSA
    go_wp2_with fail
    refine HJ.out.mono ?_
    rintro e w2 ⟨rfl, hb2⟩
    have SL2 := Lib.hid (SL.out w2 hb2)
    have HE2 := Lib.hid (HE1.out.keep hb2)
    have HT2 := Lib.hid (HT1.out.keep HT1.out.many hb2)
    have B2 := Lib.hid (B1.out.trans (hb2.mono B1.out.size))
    clear hb2 HE1 HT1 B1 SL HJ HL1
    have OA := Lib.hid (fun w ht => of_any A w ht (by omega))
    have ds := ofB_size A
    have PD := Lib.hid (fun w he => parse_any aD aS aZ (ofB A) w he (by omega))
    have FD := Lib.hid (fun w he ht => fits_any aD aS aZ (ofB A) A w he ht (by omega) (by omega))
    rw [parseD_of] at PD
    rw [fitsD_of, if_pos rfl] at FD
    have SO := Lib.hid (fun w ht => sum_one A w ht (by omega))
    have r32 : (((sumB A).size : Int) != 32) = false := by rw [bne_eq_false_iff_eq, sumB_size]; rfl
    have rr : ((sumB A).toList == (sumB A).toList) = true := by rw [toList_beq]; simp
    clear ds
    generalize ofB A = d at OA PD FD
    generalize sumB A = x at SL2 PD SO r32 rr
    go_wp2_with fail
    refine SL2.out.mono ?_
    rintro e w3 ⟨rfl, hb3⟩
    have HE3 := Lib.hid (HE2.out.keep hb3)
    have HT3 := Lib.hid (HT2.out.keep HT2.out.many hb3)
    have B3 := Lib.hid (B2.out.trans (hb3.mono B2.out.size))
    clear hb3 HE2 HT2 B2 SL2
    go_wp2_with fail
    refine (SO.out _ HT3.out).mono ?_
    rintro e w4 ⟨rfl, hb4⟩
    have HE4 := Lib.hid (HE3.out.keep hb4)
    have HT4 := Lib.hid (HT3.out.keep HT3.out.many hb4)
    have B4 := Lib.hid (B3.out.trans (hb4.mono B3.out.size))
    clear hb4 HE3 HT3 B3
    go_wp2_with fail
    refine (SO.out _ HT4.out).mono ?_
    rintro e w5 ⟨rfl, hb5⟩
    have HE5 := Lib.hid (HE4.out.keep hb5)
    have HT5 := Lib.hid (HT4.out.keep HT4.out.many hb5)
    have B5 := Lib.hid (B4.out.trans (hb5.mono B4.out.size))
    clear hb5 HE4 HT4 B4
    go_wp2_with fail
    refine (OA.out _ HT5.out).mono ?_
    rintro e w6 ⟨rfl, hb6⟩
    have HE6 := Lib.hid (HE5.out.keep hb6)
    have HT6 := Lib.hid (HT5.out.keep HT5.out.many hb6)
    have B6 := Lib.hid (B5.out.trans (hb6.mono B5.out.size))
    clear hb6 HE5 HT5 B5
    go_wp2_with fail
    refine (FD.out _ HE6.out HT6.out).mono ?_
    rintro e w7 ⟨rfl, hb7⟩
    have HE7 := Lib.hid (HE6.out.keep hb7)
    have HT7 := Lib.hid (HT6.out.keep HT6.out.many hb7)
    have B7 := Lib.hid (B6.out.trans (hb7.mono B6.out.size))
    clear hb7 HE6 HT6 B6
    go_wp2_with fail
    refine (alive_any _ HT7.out).mono ?_
    rintro e w8 ⟨rfl, hb8⟩
    have HE8 := Lib.hid (HE7.out.keep hb8)
    have HT8 := Lib.hid (HT7.out.keep HT7.out.many hb8)
    have B8 := Lib.hid (B7.out.trans (hb8.mono B7.out.size))
    clear hb8 HE7 HT7 B7
    go_wp2_with fail
    refine (OA.out _ HT8.out).mono ?_
    rintro e w9 ⟨rfl, hb9⟩
    have HE9 := Lib.hid (HE8.out.keep hb9)
    have HT9 := Lib.hid (HT8.out.keep HT8.out.many hb9)
    have B9 := Lib.hid (B8.out.trans (hb9.mono B8.out.size))
    clear hb9 HE8 HT8 B8
    go_wp2_with fail
    refine (PD.out _ HE9.out).mono ?_
    rintro e w10 ⟨rfl, hb10⟩
    have HE10 := Lib.hid (HE9.out.keep hb10)
    have HT10 := Lib.hid (HT9.out.keep HT9.out.many hb10)
    have B10 := Lib.hid (B9.out.trans (hb10.mono B9.out.size))
    clear hb10 HE9 HT9 B9
    go_wp2_with fail
    refine (C1.out _).mono ?_
    rintro e w11 ⟨rfl, rfl⟩
    go_wp2_with fail
    refine (C2.out _ HE10.out).mono ?_
    rintro e w12 ⟨rfl, hb12⟩
    have HT12 := Lib.hid (HT10.out.keep HT10.out.many hb12)
    have B12 := Lib.hid (B10.out.trans (hb12.mono B10.out.size))
    clear hb12 HE10 HT10 B10
    rcases HV.out with ⟨rfl, hr'⟩ | ⟨rfl, hr'⟩
    all_goals
      clear hr'
      go_wp2_with fail
      refine (SO.out _ HT12.out).mono ?_
      rintro e w13 ⟨rfl, hb13⟩
      have B13 := Lib.hid (B12.out.trans (hb13.mono B12.out.size))
      clear hb13
      go_wp2_with fail
      go_ret
      exact ⟨rfl, B13.out⟩
  · obtain ⟨m, hm⟩ : ∃ m, min ss.length 6 = m := ⟨_, rfl⟩
    have hm' : min ((ss.length : Nat) : Int) 6 = (m : Int) := by omega
    have hms : m ≤ ss.length := by omega
    have hm6 : m ≤ 6 := by omega
    have hlm : (ss.take m).length = m := by simp; omega
    have hcells : ∀ o', ∀ (j : Nat) (u : Value), (strC (ss.take m))[j]? = some u → (w.alloc o').cell? ⟨b, o + j, none⟩ = some u := fun o' j u hu => by
      have hj : j < m := by
        have := (List.getElem?_eq_some_iff.1 hu).1; rw [strC_length, hlm] at this; exact this
      have hc := h4 j (by omega)
      have hu' : u = .string ss[j] := by
        simp only [strC, List.getElem?_map, List.getElem?_take] at hu
        rw [if_pos hj, List.getElem?_eq_getElem (by omega)] at hu
        simpa using hu.symm
      rw [hu', World.cell?_alloc_lt _ _ _ (World.block_lt_of_cell? _ _ hc)]
      exact hc
    have HC := Lib.hid hcells
    have HZ := Lib.hid hsz
    have HLM := Lib.hid hlm
    clear h4 hsz hcells hlm hm
    unfold maxLen at h3
    go_enter Tryd.func5, Tryd.ntmps5
    go_wp2_with (at_builtin; refine wpList_append_own _ rfl _ _ 36 rfl w.heap.size 9 i0 (.string ⟨#[]⟩) 1 16 Tryd.underlying36 hi hz0 hz1 hz2 rfl (by decide) _ 0 [] rfl (World.ownsRow_lit w #[] 0 (Nat.le_refl _) (Nat.zero_le _) rfl) ⟨b, o, none⟩ m cap (strC (ss.take m)) rfl ?c1 ?c2 ?c3 ?c4 ?c5 ?c6 ?_)
    case c1 => rw [strC_length, HLM.out]
    case c2 => exact HC.out _
    case c3 => intro u hu; obtain ⟨t, _, rfl⟩ := List.mem_map.1 hu; rfl
    case c4 => unfold maxLen; omega
    case c5 => omega
    intro v' w1 hown hgrow hnil
    have hb1 : Below w.heap.size w w1 := ((Below.refl _ _).alloc (Nat.le_refl _) _).grown hgrow (by simp) (fun _ e => by cases e; exact Nat.le_refl _)
    have hv : ∃ g c, v' = .slice (some ⟨g, 0, none⟩) m c := by
      rcases hown.2 with ⟨h0, _⟩ | ⟨g, c, cur, hv, _⟩
      · exact (hnil h0).elim
      · exact ⟨g, c, hv⟩
    obtain ⟨g, c, rfl⟩ := hv
    clear hnil hgrow
    have hgB : w.heap.size ≤ g := (hown.lt g rfl).1
    go_wp2_with fail
    go_loopw [21] (fun i wr => ∃ k : Nat, k ≤ m ∧ i = .int .i64 k ∧ wr.ownsRow w.heap.size 9 1 (.slice (some ⟨g, 0, none⟩) m c) m (strC (cutNTo 100 (ss.take m) k)) ∧ Below w.heap.size w wr) (fun i _ => m - (intOf i).toNat)
    case atStart => exact ⟨0, Nat.zero_le _, rfl, by simpa [cutNTo] using hown, hb1⟩
    case round =>
      obtain ⟨k, hk, rfl, ho, hb⟩ := hrel
      clear hown hb1
      by_cases hlt : k < m
      · have hkl : k < (ss.take m).length := by rw [HLM.out]; exact hlt
        have hc := (ho.cellAt k (by omega)).trans (cutNTo_get 100 (ss.take m) k hkl)
        have hfz := ho.frozenAt k
        have st := Lib.hid (ho.stored k (.string (cutN 100 (ss.take m)[k])))
        have hset := Lib.hid (cutNTo_set 100 (ss.take m) k hkl)
        have hsk := HZ.out (ss.take m)[k] (List.mem_of_mem_take (List.getElem_mem hkl))
        obtain ⟨x, hx⟩ : ∃ x, (ss.take m)[k] = x := ⟨_, rfl⟩
        rw [hx] at hc hsk st hset
        have hmx : min ((x.size : Nat) : Int) 100 = ((min x.size 100 : Nat) : Int) := by omega
        have hcut : x.extract 0 (min x.size 100) = cutN 100 x := rfl
        have hmx2 : (((min x.size 100 : Nat) : Int)).toNat = min x.size 100 := by omega
        clear hx
        go_wp2_with fail
        go_roundw
        case rel => exact ⟨k + 1, by omega, by go_num, by rw [← hset.out]; exact st.out.1, hb.grown st.out.2 hb.size (fun _ e => by cases e; exact hgB)⟩
        case measure => simp [intOf]; omega
      · have hkm : k = m := by omega
        obtain ⟨L, hL⟩ : ∃ L, (ss.take m).map (cutN 100) = L := ⟨_, rfl⟩
        have hLl : L.length = m := by rw [← hL, List.length_map, HLM.out]
        have hLs : ∀ x ∈ L, x.size ≤ 100 := by
          intro x hx
          rw [← hL] at hx
          obtain ⟨t, _, rfl⟩ := List.mem_map.1 hx
          exact cutN_size _ _
        have hrow : StrRow wr (.slice (some ⟨g, 0, none⟩) m c) L := by
          have e := cutNTo_all 100 (ss.take m)
          rw [HLM.out, hL] at e
          rw [hkm, e] at ho
          exact StrRow.of_own ho hLl
        have hcat := catL_length_le 100 L hLs
        have hgw : g < wr.heap.size := (ho.lt g rfl).2
        have hmc : m ≤ c := by
          rcases ho.2 with ⟨h0, _⟩ | ⟨g', c', cur, hv, _, _, hnc, _⟩
          · cases h0
          · cases hv; exact hnc
        have HJ := Lib.hid (show Calls Tryd.prog 21 #[.slice (some ⟨g, 0, none⟩) m c, .string ⟨#[]⟩] wr fun e w' => e = .returned (.string ⟨(catL L).toArray⟩) ∧ Below wr.heap.size wr w' by
          have h := Tryd.strings_Join g 0 c L ⟨#[]⟩ wr (fun j x hx => by
            have hj : j < L.length := (List.getElem?_eq_some_iff.1 hx).1
            rcases hrow with ⟨h0, _⟩ | ⟨b', o', cap', hv, _, _, hcell⟩
            · cases h0
            · cases hv
              rw [hcell j hj, (List.getElem?_eq_some_iff.1 hx).2]) hgw (by omega) (by omega) (by rw [join_cat]; omega)
          rw [join_cat, hLl] at h
          exact h)
        have HLZ := Lib.hid (show (catL L).length < 576460752303423488 by omega)
        have HLZ2 := Lib.hid (show (catL L).length ≤ 600 by omega)
        have HL1 := Lib.hid hrow
        have B1 := Lib.hid hb
        have hge : m ≤ k := by omega
        clear ho hb hL hLl hLs hrow hcat hgw hkm
        -- here: B1 : Hid (Below w.heap.size w wr), HL1 : Hid (StrRow wr VV L), HJ : the join, HLZ : bound of catL L
        have HE1 := Lib.hid (HE.out.keep B1.out)
        have HT1 := Lib.hid (HT.out.keep HT.out.many B1.out)
        have SL := Lib.hid (fun w' (h : Below wr.heap.size wr w') => digestSum_any _ L w' (HL1.out.keep h) (HT1.out.keep HT1.out.many h) HLZ.out)
        obtain ⟨A, hA⟩ : ∃ A : ByteArray, (⟨(catL L).toArray⟩ : ByteArray) = A := ⟨_, rfl⟩
        have hAs : A.size ≤ 600 := by have := HLZ2.out; rw [← hA]; show (catL L).toArray.size ≤ 600; rw [List.size_toArray]; exact this
        have hAl : A.data.toList = catL L := by rw [← hA]
        have hSA : (⟨(shaL (catL L)).toArray⟩ : ByteArray) = sumB A := by unfold sumB; rw [hAl]
        rw [hSA] at SL
        rw [hA] at HJ
        clear hA hAl hSA
        go_wp2_with fail
        refine HJ.out.mono ?_
        rintro e w2 ⟨rfl, hb2⟩
        have SL2 := Lib.hid (SL.out w2 hb2)
        have HE2 := Lib.hid (HE1.out.keep hb2)
        have HT2 := Lib.hid (HT1.out.keep HT1.out.many hb2)
        have B2 := Lib.hid (B1.out.trans (hb2.mono B1.out.size))
        clear hb2 HE1 HT1 B1 SL HJ HL1
        have OA := Lib.hid (fun w ht => of_any A w ht (by omega))
        have ds := ofB_size A
        have PD := Lib.hid (fun w he => parse_any aD aS aZ (ofB A) w he (by omega))
        have FD := Lib.hid (fun w he ht => fits_any aD aS aZ (ofB A) A w he ht (by omega) (by omega))
        rw [parseD_of] at PD
        rw [fitsD_of, if_pos rfl] at FD
        have SO := Lib.hid (fun w ht => sum_one A w ht (by omega))
        have r32 : (((sumB A).size : Int) != 32) = false := by rw [bne_eq_false_iff_eq, sumB_size]; rfl
        have rr : ((sumB A).toList == (sumB A).toList) = true := by rw [toList_beq]; simp
        clear ds
        generalize ofB A = d at OA PD FD
        generalize sumB A = x at SL2 PD SO r32 rr
        go_wp2_with fail
        refine SL2.out.mono ?_
        rintro e w3 ⟨rfl, hb3⟩
        have HE3 := Lib.hid (HE2.out.keep hb3)
        have HT3 := Lib.hid (HT2.out.keep HT2.out.many hb3)
        have B3 := Lib.hid (B2.out.trans (hb3.mono B2.out.size))
        clear hb3 HE2 HT2 B2 SL2
        go_wp2_with fail
        refine (SO.out _ HT3.out).mono ?_
        rintro e w4 ⟨rfl, hb4⟩
        have HE4 := Lib.hid (HE3.out.keep hb4)
        have HT4 := Lib.hid (HT3.out.keep HT3.out.many hb4)
        have B4 := Lib.hid (B3.out.trans (hb4.mono B3.out.size))
        clear hb4 HE3 HT3 B3
        go_wp2_with fail
        refine (SO.out _ HT4.out).mono ?_
        rintro e w5 ⟨rfl, hb5⟩
        have HE5 := Lib.hid (HE4.out.keep hb5)
        have HT5 := Lib.hid (HT4.out.keep HT4.out.many hb5)
        have B5 := Lib.hid (B4.out.trans (hb5.mono B4.out.size))
        clear hb5 HE4 HT4 B4
        go_wp2_with fail
        refine (OA.out _ HT5.out).mono ?_
        rintro e w6 ⟨rfl, hb6⟩
        have HE6 := Lib.hid (HE5.out.keep hb6)
        have HT6 := Lib.hid (HT5.out.keep HT5.out.many hb6)
        have B6 := Lib.hid (B5.out.trans (hb6.mono B5.out.size))
        clear hb6 HE5 HT5 B5
        go_wp2_with fail
        refine (FD.out _ HE6.out HT6.out).mono ?_
        rintro e w7 ⟨rfl, hb7⟩
        have HE7 := Lib.hid (HE6.out.keep hb7)
        have HT7 := Lib.hid (HT6.out.keep HT6.out.many hb7)
        have B7 := Lib.hid (B6.out.trans (hb7.mono B6.out.size))
        clear hb7 HE6 HT6 B6
        go_wp2_with fail
        refine (alive_any _ HT7.out).mono ?_
        rintro e w8 ⟨rfl, hb8⟩
        have HE8 := Lib.hid (HE7.out.keep hb8)
        have HT8 := Lib.hid (HT7.out.keep HT7.out.many hb8)
        have B8 := Lib.hid (B7.out.trans (hb8.mono B7.out.size))
        clear hb8 HE7 HT7 B7
        go_wp2_with fail
        refine (OA.out _ HT8.out).mono ?_
        rintro e w9 ⟨rfl, hb9⟩
        have HE9 := Lib.hid (HE8.out.keep hb9)
        have HT9 := Lib.hid (HT8.out.keep HT8.out.many hb9)
        have B9 := Lib.hid (B8.out.trans (hb9.mono B8.out.size))
        clear hb9 HE8 HT8 B8
        go_wp2_with fail
        refine (PD.out _ HE9.out).mono ?_
        rintro e w10 ⟨rfl, hb10⟩
        have HE10 := Lib.hid (HE9.out.keep hb10)
        have HT10 := Lib.hid (HT9.out.keep HT9.out.many hb10)
        have B10 := Lib.hid (B9.out.trans (hb10.mono B9.out.size))
        clear hb10 HE9 HT9 B9
        go_wp2_with fail
        refine (C1.out _).mono ?_
        rintro e w11 ⟨rfl, rfl⟩
        go_wp2_with fail
        refine (C2.out _ HE10.out).mono ?_
        rintro e w12 ⟨rfl, hb12⟩
        have HT12 := Lib.hid (HT10.out.keep HT10.out.many hb12)
        have B12 := Lib.hid (B10.out.trans (hb12.mono B10.out.size))
        clear hb12 HE10 HT10 B10
        rcases HV.out with ⟨rfl, hr'⟩ | ⟨rfl, hr'⟩
        all_goals
          clear hr'
          go_wp2_with fail
          refine (SO.out _ HT12.out).mono ?_
          rintro e w13 ⟨rfl, hb13⟩
          have B13 := Lib.hid (B12.out.trans (hb13.mono B12.out.size))
          clear hb13
          go_wp2_with fail
          go_ret
          exact ⟨rfl, B13.out⟩
end Go.Proofs.YtiebdmamjlgeoaaDoor
