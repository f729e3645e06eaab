/-
  The document's 'Read' of a row, by a contract. Conditions: texts of at most 2^30 bytes; the package-level variables as TEnv says; one depth less by its contract.
  The document's 'Read' of an object, by a contract. Conditions: texts of at most 2^30 bytes; the package-level variables as TEnv says; one depth less by its contract.
  The document's own 'Read' at every place, and its Parse, by contracts. Conditions: texts of at most 2^30 bytes; the package-level variables as TEnv says.
-/
import Derived.Test.YtepcaglekgeamaaGreatDoorYRefT2
import Derived.Test.YtepcaglekgeamaaGreatDoorYTxt2
import Derived.Test.YtepcaglekgeamaaGreatDoorYTxt7
namespace Go.Proofs.YtepcaglekgeamaaGreatDoor
open Go.RowKit

set_option maxRecDepth 100000 in
set_option maxHeartbeats 8000000 in
theorem read_row (s : ByteArray) (k d : Nat) (dk : Int) (hdk : dk = d + 1) (hd : d ≤ 100) (hs : s.size ≤ 1073741824) (hk : k < s.size) (hc : s[k] = 91) (w : World) (he : TEnv w)
    (IH : ∀ (j : Nat) (w : World), j ≤ s.size → TEnv w → Calls Tryz.prog 52 #[.string s, .int .i64 j, .int .i64 (dk - 1)] w fun e w' => ReadT s j d w e w') :
    Calls Tryz.prog 52 #[.string s, .int .i64 k, .int .i64 dk] w fun e w' => ReadT s k (d + 1) w e w' := by
  obtain ⟨W0, hW0⟩ : ∃ W0, (w.alloc (.cells #[.int .i64 0, .int .i64 0, .string ⟨#[]⟩, .slice none 0 0, .slice none 0 0, .int .i64 0] 87)).alloc (.cells #[.int .i64 3, .int .i64 0, .string ⟨#[]⟩, .slice none 0 0, .slice none 0 0] 71) = W0 := ⟨_, rfl⟩
  have hq1 : ∀ o, (w.alloc o).heap.size = w.heap.size + 1 := fun o => by simp
  have hs0 : W0.heap.size = w.heap.size + 2 := by rw [← hW0]; simp
  have hb0 : Below w.heap.size w W0 := by rw [← hW0]; exact Below.then (below_new _ _) (below_new _ _)
  have hz0 : At6 W0 w.heap.size (.int .i64 0) (.int .i64 0) (.string ⟨#[]⟩) (.slice none 0 0) (.slice none 0 0) (.int .i64 0) := by rw [← hW0]; exact (At6.new _ _ _ _ _ _ _).keep (below_new _ _)
  have h50 : At5 W0 (w.heap.size + 1) (.int .i64 3) (.int .i64 0) (.string ⟨#[]⟩) (.slice none 0 0) (.slice none 0 0) := by
    rw [← hW0]
    have e := At5.new (w.alloc (.cells #[.int .i64 0, .int .i64 0, .string ⟨#[]⟩, .slice none 0 0, .slice none 0 0, .int .i64 0] 87)) (.int .i64 3) (.int .i64 0) (.string ⟨#[]⟩) (.slice none 0 0) (.slice none 0 0)
    rwa [hq1] at e
  have HST0 := Lib.hid (show StL 3 w [] [] W0 from ⟨hb0, by omega, hz0, _, _, [], h50, RowOf.start _ _ _, ⟨World.ownsRow_nil _ _ _ _, by simp⟩⟩)
  have hdr := drop_cons s k hk
  rw [hc] at hdr
  have e1 : (dk == 0) = false := by rw [beq_eq_false_iff_ne]; omega
  have hwr : IntKind.i64.wrap (dk - 1) = dk - 1 := by rw [IntKind.wrap_i64]; omega
  have HIH := Lib.hid IH
  have HE := Lib.hid he
  have HW0 := Lib.hid hW0
  have HDR := Lib.hid hdr
  obtain ⟨z0, z1, z2, z3, z4, z5⟩ := hz0.cells
  obtain ⟨a0, a1, a2, a3, a4⟩ := h50.cells
  have f0 := hz0.frozen 0
  have f1 := hz0.frozen 1
  have f2 := hz0.frozen 2
  have f3 := hz0.frozen 3
  have f4 := hz0.frozen 4
  have f5 := hz0.frozen 5
  clear hz0 h50 hb0 hs0 hW0 hdr IH he hdk hq1
  go_enter Tryz.func52, Tryz.ntmps52
  go_upto_region 13 with fail
  rw [HW0.out]
  by_cases hem : ∃ h : k + 1 < s.size, s[k + 1] = 93
  · obtain ⟨hk1, hc1⟩ := hem
    have hdr1 := drop_cons s (k + 1) hk1
    rw [hc1] at hdr1
    have HO := Lib.hid (show readL (d + 1) (s.data.toList.drop k) = some (.mk 3 0 ⟨#[]⟩ [] [], s.data.toList.drop (k + 2)) by
      rw [HDR.out, readL, if_neg (by decide), if_neg (by decide), hdr1]; rfl)
    clear hdr1
    go_wp2_with fail
    refine bodyPost_ret (results_cell_row (p := 6) rfl _ _ w.heap.size 87 _ (0, 0) _ rfl (set6_six HST0.out.zero _ _ _ _ _ _) Tryz.underlying87 rfl tSize) rfl ?_
    obtain ⟨hv, hn, xs, h5, hr, hnm⟩ := HST0.out.row
    refine ⟨set6_below HST0.out.below rfl _ _ _ _ _ _, ?_⟩
    rw [HO.out]
    refine ⟨_, _, _, _, _, ?_, ValIn.plain _ _ 3 0 ⟨#[]⟩ (by decide) (by decide) (by decide)⟩
    simp only [List.length_drop]
    rw [show s.size - (s.data.toList.length - (k + 2)) = k + 1 + 1 by rw [← Lib.size_eq]; omega]
    rfl
  · have HIT := Lib.hid (show readL (d + 1) (s.data.toList.drop k) = (itemsL (readL d) false 93 17 [] [] (s.data.toList.drop (k + 1))).map fun p => (.mk 3 0 ⟨#[]⟩ p.1 p.2.1, p.2.2) by
      rw [HDR.out, readL_row d _ (fun h => hem (by
        by_cases hk1 : k + 1 < s.size
        · rw [drop_cons s (k + 1) hk1, List.head?_cons] at h
          exact ⟨hk1, Option.some.inj h⟩
        · rw [drop_end s (k + 1) (by omega)] at h; cases h))])
    by_cases hk1 : k + 1 < s.size
    · obtain ⟨c1, hc1⟩ : ∃ c, s[k + 1] = c := ⟨_, rfl⟩
      have hne : c1 ≠ 93 := fun e => hem ⟨hk1, by rw [hc1, e]⟩
      have hne' : c1.toNat ≠ 93 := fun e => hne (UInt8.toNat_inj.1 e)
      have q1 : ((c1.toNat : Int) == 93) = false := beq_eq_false_iff_ne.2 (by omega)
      clear hem hne hne'
      go_wp2_with fail
      go_loopw [1] (fun iv wr => ∃ (j : Nat) (items : List Val), iv = .int .i64 j ∧ k + 1 ≤ j ∧ j ≤ s.size ∧ items.length ≤ 17 ∧ StL 3 w items [] wr ∧ itemsL (readL d) false 93 (17 - items.length) items [] (s.data.toList.drop j) = itemsL (readL d) false 93 17 [] [] (s.data.toList.drop (k + 1))) (fun i _ => s.size - (intOf i).toNat)
      case atStart => exact ⟨k + 1, [], by go_num, Nat.le_refl _, by omega, by simp, HST0.out, rfl⟩
      case round =>
        obtain ⟨j, items, rfl, hkj, hj, hl17, hst, heq⟩ := hrel
        have HEQ := Lib.hid heq
        have HST := Lib.hid hst
        obtain ⟨hv, hn, xs, h5, hr, hnm⟩ := hst.row
        obtain ⟨ha, hcv, rfl⟩ : ∃ ha hc, hv = .slice ha items.length hc := by
          rcases hr.own.2 with ⟨e, h0⟩ | ⟨g, cap, cur, e, -⟩
          · exact ⟨none, 0, by rw [e, h0]⟩
          · exact ⟨_, _, e⟩
        obtain ⟨na, nn, nc, rfl⟩ : ∃ na nn nc, hn = .slice na nn nc := by
          rcases hnm.own.2 with ⟨e, h0⟩ | ⟨g, cap, cur, e, -⟩
          · exact ⟨none, 0, 0, e⟩
          · exact ⟨_, _, _, e⟩
        obtain ⟨m, hm⟩ : ∃ m, items.length = m := ⟨_, rfl⟩
        have HM := Lib.hid hm
        rw [hm] at h5 hl17 hr
        have HR := Lib.hid hr
        have HNM := Lib.hid hnm
        have H5 := Lib.hid h5
        obtain ⟨a0, a1, a2, a3, a4⟩ := h5.cells
        obtain ⟨z0, z1, z2, z3, z4, z5⟩ := hst.zero.cells
        have f0 := hst.zero.frozen 0
        have f1 := hst.zero.frozen 1
        have f2 := hst.zero.frozen 2
        have f3 := hst.zero.frozen 3
        have f4 := hst.zero.frozen 4
        have f5 := hst.zero.frozen 5
        have CI := Lib.hid (HIH.out j wr hj (HE.out.below hst.below))
        have hsz := hst.size
        clear heq hst hr hnm h5 hm
        by_cases hm17 : m < 17
        rotate_left
        · have HO := Lib.hid (show readL (d + 1) (s.data.toList.drop k) = none by
            rw [HIT.out, ← HEQ.out, HM.out, show 17 - m = 0 by omega, itemsL]; rfl)
          go_wp2_with fail
          refine bodyPost_ret (results_cell_row (p := 6) rfl _ _ w.heap.size 87 _ (0, 0) _ rfl (set6_six HST.out.zero _ _ _ _ _ _) Tryz.underlying87 rfl tSize) rfl ?_
          exact ⟨set6_below HST.out.below rfl _ _ _ _ _ _, by rw [HO.out]; rfl⟩
        obtain ⟨f, hf⟩ : ∃ f, 17 - m = f + 1 := ⟨16 - m, by omega⟩
        have HIS := Lib.hid (show itemsL (readL d) false 93 17 [] [] (s.data.toList.drop (k + 1)) = match readL d (s.data.toList.drop j) with
            | none => none
            | some (_, []) => none
            | some (x, c :: r) => if c = 93 then some (items ++ [x], [], r) else if c = 44 then itemsL (readL d) false 93 f (items ++ [x]) [] r else none by rw [← HEQ.out, HM.out, hf, items_row]; rfl)
        have HF := Lib.hid hf
        clear hf
        go_wp2_with fail
        refine CI.out.mono ?_
        intro e w2 hx
        have hi := hx.is
        have HB2 := Lib.hid hx.below
        have hst2 := HST.out.next hx.below
        have HST2 := Lib.hid hst2
        clear hx z0 z1 z2 z3 z4 z5 f0 f1 f2 f3 f4 f5 a0 a1 a2 a3 a4
        cases hrd : readL d (s.data.toList.drop j) with
        | none =>
          rw [hrd] at hi
          obtain rfl : e = .returned (.agg #[.int .i64 0, .int .i64 0, .string ⟨#[]⟩, .slice none 0 0, .slice none 0 0, .int .i64 (-1)]) := hi
          have HO := Lib.hid (show readL (d + 1) (s.data.toList.drop k) = none by rw [HIT.out, HIS.out, hrd]; rfl)
          have hst3 := hst2.next (below_new w2 (.cells #[.int .i64 0, .int .i64 0, .string ⟨#[]⟩, .slice none 0 0, .slice none 0 0, .int .i64 (-1)] 87))
          have HST3 := Lib.hid hst3
          obtain ⟨z0, z1, z2, z3, z4, z5⟩ := hst3.zero.cells
          have f0 := hst3.zero.frozen 0
          have f1 := hst3.zero.frozen 1
          have f2 := hst3.zero.frozen 2
          have f3 := hst3.zero.frozen 3
          have f4 := hst3.zero.frozen 4
          have f5 := hst3.zero.frozen 5
          clear hrd hst2 hst3
          go_wp2_with fail
          refine bodyPost_ret (results_cell_row (p := 6) rfl _ _ w.heap.size 87 _ (0, 0) _ rfl (set6_six HST3.out.zero _ _ _ _ _ _) Tryz.underlying87 rfl tSize) rfl ?_
          exact ⟨set6_below HST3.out.below rfl _ _ _ _ _ _, by rw [HO.out]; rfl⟩
        | some p =>
          obtain ⟨T, r⟩ := p
          rw [hrd] at hi
          obtain ⟨c0, c1, c2, c3, c4, rfl, hvT⟩ := hi
          obtain ⟨xk, xn, xs', xia, xna, xli, xic, xnn, xnc, hsh⟩ := hvT.isVal.shape
          simp only [Value.agg.injEq, Array.mk.injEq, List.cons.injEq, and_true] at hsh
          obtain ⟨rfl, rfl, rfl, rfl, rfl⟩ := hsh
          obtain ⟨a, haq, hja, has, hra⟩ := readL_rest s j d T r hrd
          have hja := hja hj
          rw [haq]
          obtain ⟨W3, hW3⟩ : ∃ W3, w2.alloc (.cells #[.int .i64 xk, .int .i64 xn, .string xs', .slice xia xli xic, .slice xna xnn xnc, .int .i64 a] 87) = W3 := ⟨_, rfl⟩
          have hb3 : Below w2.heap.size w2 W3 := by rw [← hW3]; exact below_new _ _
          have hX3 : At6 W3 w2.heap.size (.int .i64 xk) (.int .i64 xn) (.string xs') (.slice xia xli xic) (.slice xna xnn xnc) (.int .i64 a) := by rw [← hW3]; exact At6.new _ _ _ _ _ _ _
          have hst3 := hst2.next hb3
          have HST3 := Lib.hid hst3
          have HVT := Lib.hid (hvT.keep (S' := fun b => wr.heap.size ≤ b) fun b hS hl => ⟨hb3.block b hl, hS⟩)
          have HW3 := Lib.hid hW3
          have HB3 := Lib.hid (Below.then HB2.out hb3)
          have HX3 := Lib.hid hX3
          obtain ⟨x0, x1, x2, x3, x4, x5⟩ := hX3.cells
          obtain ⟨a0, a1, a2, a3, a4⟩ := (H5.out.keep (Below.then HB2.out hb3)).cells
          obtain ⟨z0, z1, z2, z3, z4, z5⟩ := hst3.zero.cells
          have f0 := hst3.zero.frozen 0
          have f1 := hst3.zero.frozen 1
          have f2 := hst3.zero.frozen 2
          have f3 := hst3.zero.frozen 3
          have f4 := hst3.zero.frozen 4
          have f5 := hst3.zero.frozen 5
          clear hst2 hvT hW3 hX3 hst3 haq
          by_cases hal : a < s.size
          rotate_left
          · have HO := Lib.hid (show readL (d + 1) (s.data.toList.drop k) = none by
              rw [HIT.out, HIS.out, hrd, hra, drop_end s a (by omega)]; rfl)
            clear hrd hra
            go_upto_region 23 with fail
            rw [HW3.out]
            go_wp2_with fail
            refine bodyPost_ret (results_cell_row (p := 6) rfl _ _ w.heap.size 87 _ (0, 0) _ rfl (set6_six HST3.out.zero _ _ _ _ _ _) Tryz.underlying87 rfl tSize) rfl ?_
            exact ⟨set6_below HST3.out.below rfl _ _ _ _ _ _, by rw [HO.out]; rfl⟩
          obtain ⟨c2, hc2⟩ : ∃ c, s[a] = c := ⟨_, rfl⟩
          have hra2 : r = c2 :: s.data.toList.drop (a + 1) := by rw [hra, drop_cons s a hal, hc2]
          have HD := Lib.hid (show itemsL (readL d) false 93 17 [] [] (s.data.toList.drop (k + 1)) = if c2 = 93 then some (items ++ [T], [], s.data.toList.drop (a + 1)) else if c2 = 44 then itemsL (readL d) false 93 f (items ++ [T]) [] (s.data.toList.drop (a + 1)) else none by rw [HIS.out, hrd, hra2])
          have hO3 : W3.ownsRow (w.heap.size + 2) 71 5 (.slice ha m hcv) m xs := by
            have := (HR.out.keep (w' := W3) (fun k _ hl _ => HB3.out.block k hl) (Or.inl rfl)).own
            rwa [HM.out] at this
          obtain ⟨i0, hi, hz0, hz1, hz2⟩ := info_parts valInfo
          have hwz := HST3.out.size
          have h53 := H5.out.keep HB3.out
          have H53 := Lib.hid h53
          obtain ⟨-, -, -, c3v, -⟩ := h53.cells
          have c3a : ∀ o, (W3.alloc o).cell? ⟨w.heap.size + 1, 3, none⟩ = some (.slice ha m hcv) := fun o => ((below_new W3 o).cell (World.block_lt_of_cell? _ _ c3v)).trans c3v
          have hc8 := c2.toNat_lt
          clear hrd hra hra2 h53
          go_upto_region 23 with fail
          rw [HW3.out]
          go_wp2_with (at_builtin; refine wpList_append_lies _ (by rfl) _ _ 69 (by rfl) (w.heap.size + 2) 71 i0 _ 5 80 Tryz.underlying69 hi hz0 hz1 hz2 rfl (by decide) _ m xs (by rfl) (hO3.alloc _) ⟨W3.heap.size, 0, none⟩ 1 1 [.int .i64 xk, .int .i64 xn, .string xs', .slice xia xli xic, .slice xna xnn xnc] (by rfl) (by rfl) (World.news_of_block (heap_alloc_new W3 _)) (by simp [Value.oneCell']) (by decide) (by unfold maxLen; omega) (by omega) (Nat.le_trans hwz (below_new W3 _).size) (W3.heap.size + 1) (by simp) ?_)
          intro g3 c3 w5 hown3 hgrow3 hat3 hlt3
          have hVne : ¬ some (w.heap.size + 1) = (Value.slice ha m hcv).ownBlock := fun e => own_not hO3 (by omega) e
          have u4' : w5.cell? ⟨w.heap.size + 1, 3, none⟩ = some (.slice ha m hcv) := hgrow3.cell (c3a _) hVne
          have uf : w5.frozen? ⟨w.heap.size + 1, 3, none⟩ = false := by
            have e := (hgrow3.block (w.heap.size + 1) (by have := H53.out.lt; simp; omega) hVne).trans ((Below.heap_alloc _ _ _ H53.out.lt).trans H53.out)
            simp [World.frozen?, e]
          obtain ⟨W6, hW6⟩ : ∃ W6, w5.setCell ⟨w.heap.size + 1, 3, none⟩ (.slice (some ⟨g3, 0, none⟩) (m + 1) c3) = W6 := ⟨_, rfl⟩
          have hst6 : StL 3 w (items ++ [T]) [] W6 := by
            rw [← hW6]
            exact StL.item HST.out (by have := H5.out; exact this) HR.out HNM.out HM.out (Below.refl _ _) HB3.out HVT.out hown3 hgrow3 hat3
          have hX6 : At6 W6 w2.heap.size (.int .i64 xk) (.int .i64 xn) (.string xs') (.slice xia xli xic) (.slice xna xnn xnc) (.int .i64 a) := by
            have hxl := HX3.out.lt
            have hww := HST2.out.size
            have hxo : ¬ some w2.heap.size = (Value.slice ha m hcv).ownBlock := fun e => by
              have h1 := (HR.out.own.lt w2.heap.size (by rw [e])).2
              have h2 := HB2.out.size
              omega
            rw [← hW6]
            exact (Below.heap_setCell _ _ _ _ (by show w2.heap.size ≠ w.heap.size + 1; omega)).trans ((hgrow3.block w2.heap.size (by simp; omega) hxo).trans ((Below.heap_alloc _ _ _ hxl).trans HX3.out))
          obtain ⟨hv6, hn6, xs6, h56, hr6, hnm6⟩ := hst6.row
          obtain ⟨ha6, l6, hc6, rfl⟩ : ∃ ha l hc, hv6 = .slice ha l hc := by
            rcases hr6.own.2 with ⟨e, h0⟩ | ⟨g, cap, cur, e, -⟩
            · exact ⟨none, 0, 0, e⟩
            · exact ⟨_, _, _, e⟩
          obtain ⟨na6, nn6, nc6, rfl⟩ : ∃ na nn nc, hn6 = .slice na nn nc := by
            rcases hnm6.own.2 with ⟨e, h0⟩ | ⟨g, cap, cur, e, -⟩
            · exact ⟨none, 0, 0, e⟩
            · exact ⟨_, _, _, e⟩
          have HST6 := Lib.hid hst6
          have HR6 := Lib.hid hr6
          have HNM6 := Lib.hid hnm6
          have HW6 := Lib.hid hW6
          clear z0 z1 z2 z3 z4 z5 f0 f1 f2 f3 f4 f5 a0 a1 a2 a3 a4
          obtain ⟨a0, a1, a2, a3, a4⟩ := h56.cells
          obtain ⟨y0, y1, y2, y3, y4, y5⟩ := hX6.cells
          obtain ⟨z0, z1, z2, z3, z4, z5⟩ := hst6.zero.cells
          have f0 := hst6.zero.frozen 0
          have f1 := hst6.zero.frozen 1
          have f2 := hst6.zero.frozen 2
          have f3 := hst6.zero.frozen 3
          have f4 := hst6.zero.frozen 4
          have f5 := hst6.zero.frozen 5
          clear hst6 hX6 h56 hr6 hnm6 hW6 hown3 hgrow3 hat3 hlt3 hVne c3a c3v hO3 hi hz0 hz1 hz2
          by_cases h93 : c2 = 93
          · have HO := Lib.hid (show readL (d + 1) (s.data.toList.drop k) = some (.mk 3 0 ⟨#[]⟩ (items ++ [T]) [], s.data.toList.drop (a + 1)) by rw [HIT.out, HD.out, if_pos h93]; rfl)
            subst h93
            go_upto_region 26 with fail
            rw [HW6.out]
            go_wp2_with fail
            refine bodyPost_ret (results_cell_row (p := 6) rfl _ _ w.heap.size 87 _ (0, 0) _ rfl (set6_six HST6.out.zero _ _ _ _ _ _) Tryz.underlying87 rfl tSize) rfl ?_
            obtain ⟨hbF, hvF⟩ := StL.val (Or.inl rfl) HST6.out HR6.out HNM6.out (.int .i64 3) (.int .i64 0) (.string ⟨#[]⟩) (.slice ha6 l6 hc6) (.slice na6 nn6 nc6) (.int .i64 (↑a + 1))
            refine ⟨hbF, ?_⟩
            rw [HO.out]
            refine ⟨_, _, _, _, _, ?_, hvF⟩
            simp only [List.length_drop]
            rw [show s.size - (s.data.toList.length - (a + 1)) = a + 1 by rw [← Lib.size_eq]; omega]
            rfl
          · have h93' : c2.toNat ≠ 93 := fun e => h93 (UInt8.toNat_inj.1 e)
            have q1 : ((c2.toNat : Int) == 93) = false := beq_eq_false_iff_ne.2 (by omega)
            by_cases h44 : c2 = 44
            · have HN1 := Lib.hid (show itemsL (readL d) false 93 (17 - (items ++ [T]).length) (items ++ [T]) [] (s.data.toList.drop (a + 1)) = itemsL (readL d) false 93 17 [] [] (s.data.toList.drop (k + 1)) by
                rw [HD.out, if_neg h93, if_pos h44, List.length_append, HM.out]
                congr 1
                have := HF.out
                simp only [List.length_cons, List.length_nil]
                omega)
              have HLN := Lib.hid (show (items ++ [T]).length ≤ 17 by rw [List.length_append, HM.out]; simp; omega)
              subst h44
              clear h93 h93'
              go_upto_region 26 with fail
              rw [HW6.out]
              go_wp2_with fail
              go_roundw
              case rel => exact ⟨a + 1, items ++ [T], by go_num, by omega, by omega, HLN.out, HST6.out, HN1.out⟩
              case measure => simp [intOf]; omega
            · have h44' : c2.toNat ≠ 44 := fun e => h44 (UInt8.toNat_inj.1 e)
              have q2 : ((c2.toNat : Int) != 44) = true := bne_iff_ne.2 (by omega)
              have HO := Lib.hid (show readL (d + 1) (s.data.toList.drop k) = none by rw [HIT.out, HD.out, if_neg h93, if_neg h44]; rfl)
              clear h93 h93' h44 h44'
              go_upto_region 26 with fail
              rw [HW6.out]
              go_wp2_with fail
              refine bodyPost_ret (results_cell_row (p := 6) rfl _ _ w.heap.size 87 _ (0, 0) _ rfl (set6_six HST6.out.zero _ _ _ _ _ _) Tryz.underlying87 rfl tSize) rfl ?_
              exact ⟨set6_below HST6.out.below rfl _ _ _ _ _ _, by rw [HO.out]; rfl⟩
    · clear hem
      go_wp2_with fail
      go_loopw [1] (fun iv wr => ∃ (j : Nat) (items : List Val), iv = .int .i64 j ∧ k + 1 ≤ j ∧ j ≤ s.size ∧ items.length ≤ 17 ∧ StL 3 w items [] wr ∧ itemsL (readL d) false 93 (17 - items.length) items [] (s.data.toList.drop j) = itemsL (readL d) false 93 17 [] [] (s.data.toList.drop (k + 1))) (fun i _ => s.size - (intOf i).toNat)
      case atStart => exact ⟨k + 1, [], by go_num, Nat.le_refl _, by omega, by simp, HST0.out, rfl⟩
      case round =>
        obtain ⟨j, items, rfl, hkj, hj, hl17, hst, heq⟩ := hrel
        have HEQ := Lib.hid heq
        have HST := Lib.hid hst
        obtain ⟨hv, hn, xs, h5, hr, hnm⟩ := hst.row
        obtain ⟨ha, hcv, rfl⟩ : ∃ ha hc, hv = .slice ha items.length hc := by
          rcases hr.own.2 with ⟨e, h0⟩ | ⟨g, cap, cur, e, -⟩
          · exact ⟨none, 0, by rw [e, h0]⟩
          · exact ⟨_, _, e⟩
        obtain ⟨na, nn, nc, rfl⟩ : ∃ na nn nc, hn = .slice na nn nc := by
          rcases hnm.own.2 with ⟨e, h0⟩ | ⟨g, cap, cur, e, -⟩
          · exact ⟨none, 0, 0, e⟩
          · exact ⟨_, _, _, e⟩
        obtain ⟨m, hm⟩ : ∃ m, items.length = m := ⟨_, rfl⟩
        have HM := Lib.hid hm
        rw [hm] at h5 hl17 hr
        have HR := Lib.hid hr
        have HNM := Lib.hid hnm
        have H5 := Lib.hid h5
        obtain ⟨a0, a1, a2, a3, a4⟩ := h5.cells
        obtain ⟨z0, z1, z2, z3, z4, z5⟩ := hst.zero.cells
        have f0 := hst.zero.frozen 0
        have f1 := hst.zero.frozen 1
        have f2 := hst.zero.frozen 2
        have f3 := hst.zero.frozen 3
        have f4 := hst.zero.frozen 4
        have f5 := hst.zero.frozen 5
        have CI := Lib.hid (HIH.out j wr hj (HE.out.below hst.below))
        have hsz := hst.size
        clear heq hst hr hnm h5 hm
        by_cases hm17 : m < 17
        rotate_left
        · have HO := Lib.hid (show readL (d + 1) (s.data.toList.drop k) = none by
            rw [HIT.out, ← HEQ.out, HM.out, show 17 - m = 0 by omega, itemsL]; rfl)
          go_wp2_with fail
          refine bodyPost_ret (results_cell_row (p := 6) rfl _ _ w.heap.size 87 _ (0, 0) _ rfl (set6_six HST.out.zero _ _ _ _ _ _) Tryz.underlying87 rfl tSize) rfl ?_
          exact ⟨set6_below HST.out.below rfl _ _ _ _ _ _, by rw [HO.out]; rfl⟩
        obtain ⟨f, hf⟩ : ∃ f, 17 - m = f + 1 := ⟨16 - m, by omega⟩
        have HIS := Lib.hid (show itemsL (readL d) false 93 17 [] [] (s.data.toList.drop (k + 1)) = match readL d (s.data.toList.drop j) with
            | none => none
            | some (_, []) => none
            | some (x, c :: r) => if c = 93 then some (items ++ [x], [], r) else if c = 44 then itemsL (readL d) false 93 f (items ++ [x]) [] r else none by rw [← HEQ.out, HM.out, hf, items_row]; rfl)
        have HF := Lib.hid hf
        clear hf
        go_wp2_with fail
        refine CI.out.mono ?_
        intro e w2 hx
        have hi := hx.is
        have HB2 := Lib.hid hx.below
        have hst2 := HST.out.next hx.below
        have HST2 := Lib.hid hst2
        clear hx z0 z1 z2 z3 z4 z5 f0 f1 f2 f3 f4 f5 a0 a1 a2 a3 a4
        cases hrd : readL d (s.data.toList.drop j) with
        | none =>
          rw [hrd] at hi
          obtain rfl : e = .returned (.agg #[.int .i64 0, .int .i64 0, .string ⟨#[]⟩, .slice none 0 0, .slice none 0 0, .int .i64 (-1)]) := hi
          have HO := Lib.hid (show readL (d + 1) (s.data.toList.drop k) = none by rw [HIT.out, HIS.out, hrd]; rfl)
          have hst3 := hst2.next (below_new w2 (.cells #[.int .i64 0, .int .i64 0, .string ⟨#[]⟩, .slice none 0 0, .slice none 0 0, .int .i64 (-1)] 87))
          have HST3 := Lib.hid hst3
          obtain ⟨z0, z1, z2, z3, z4, z5⟩ := hst3.zero.cells
          have f0 := hst3.zero.frozen 0
          have f1 := hst3.zero.frozen 1
          have f2 := hst3.zero.frozen 2
          have f3 := hst3.zero.frozen 3
          have f4 := hst3.zero.frozen 4
          have f5 := hst3.zero.frozen 5
          clear hrd hst2 hst3
          go_wp2_with fail
          refine bodyPost_ret (results_cell_row (p := 6) rfl _ _ w.heap.size 87 _ (0, 0) _ rfl (set6_six HST3.out.zero _ _ _ _ _ _) Tryz.underlying87 rfl tSize) rfl ?_
          exact ⟨set6_below HST3.out.below rfl _ _ _ _ _ _, by rw [HO.out]; rfl⟩
        | some p =>
          obtain ⟨T, r⟩ := p
          rw [hrd] at hi
          obtain ⟨c0, c1, c2, c3, c4, rfl, hvT⟩ := hi
          obtain ⟨xk, xn, xs', xia, xna, xli, xic, xnn, xnc, hsh⟩ := hvT.isVal.shape
          simp only [Value.agg.injEq, Array.mk.injEq, List.cons.injEq, and_true] at hsh
          obtain ⟨rfl, rfl, rfl, rfl, rfl⟩ := hsh
          obtain ⟨a, haq, hja, has, hra⟩ := readL_rest s j d T r hrd
          have hja := hja hj
          rw [haq]
          obtain ⟨W3, hW3⟩ : ∃ W3, w2.alloc (.cells #[.int .i64 xk, .int .i64 xn, .string xs', .slice xia xli xic, .slice xna xnn xnc, .int .i64 a] 87) = W3 := ⟨_, rfl⟩
          have hb3 : Below w2.heap.size w2 W3 := by rw [← hW3]; exact below_new _ _
          have hX3 : At6 W3 w2.heap.size (.int .i64 xk) (.int .i64 xn) (.string xs') (.slice xia xli xic) (.slice xna xnn xnc) (.int .i64 a) := by rw [← hW3]; exact At6.new _ _ _ _ _ _ _
          have hst3 := hst2.next hb3
          have HST3 := Lib.hid hst3
          have HVT := Lib.hid (hvT.keep (S' := fun b => wr.heap.size ≤ b) fun b hS hl => ⟨hb3.block b hl, hS⟩)
          have HW3 := Lib.hid hW3
          have HB3 := Lib.hid (Below.then HB2.out hb3)
          have HX3 := Lib.hid hX3
          obtain ⟨x0, x1, x2, x3, x4, x5⟩ := hX3.cells
          obtain ⟨a0, a1, a2, a3, a4⟩ := (H5.out.keep (Below.then HB2.out hb3)).cells
          obtain ⟨z0, z1, z2, z3, z4, z5⟩ := hst3.zero.cells
          have f0 := hst3.zero.frozen 0
          have f1 := hst3.zero.frozen 1
          have f2 := hst3.zero.frozen 2
          have f3 := hst3.zero.frozen 3
          have f4 := hst3.zero.frozen 4
          have f5 := hst3.zero.frozen 5
          clear hst2 hvT hW3 hX3 hst3 haq
          by_cases hal : a < s.size
          rotate_left
          · have HO := Lib.hid (show readL (d + 1) (s.data.toList.drop k) = none by
              rw [HIT.out, HIS.out, hrd, hra, drop_end s a (by omega)]; rfl)
            clear hrd hra
            go_upto_region 23 with fail
            rw [HW3.out]
            go_wp2_with fail
            refine bodyPost_ret (results_cell_row (p := 6) rfl _ _ w.heap.size 87 _ (0, 0) _ rfl (set6_six HST3.out.zero _ _ _ _ _ _) Tryz.underlying87 rfl tSize) rfl ?_
            exact ⟨set6_below HST3.out.below rfl _ _ _ _ _ _, by rw [HO.out]; rfl⟩
          exact absurd hal (by omega)
end Go.Proofs.YtepcaglekgeamaaGreatDoor
namespace Go.Proofs.YtepcaglekgeamaaGreatDoor
open Go.RowKit

set_option maxRecDepth 100000 in
set_option maxHeartbeats 8000000 in
theorem read_obj (s : ByteArray) (k d : Nat) (dk : Int) (hdk : dk = d + 1) (hd : d ≤ 100) (hs : s.size ≤ 1073741824) (hk : k < s.size) (hc : s[k] = 123) (w : World) (he : TEnv w)
    (IH : ∀ (j : Nat) (w : World), j ≤ s.size → TEnv w → Calls Tryz.prog 52 #[.string s, .int .i64 j, .int .i64 (dk - 1)] w fun e w' => ReadT s j d w e w') :
    Calls Tryz.prog 52 #[.string s, .int .i64 k, .int .i64 dk] w fun e w' => ReadT s k (d + 1) w e w' := by
  obtain ⟨W0, hW0⟩ : ∃ W0, (w.alloc (.cells #[.int .i64 0, .int .i64 0, .string ⟨#[]⟩, .slice none 0 0, .slice none 0 0, .int .i64 0] 87)).alloc (.cells #[.int .i64 4, .int .i64 0, .string ⟨#[]⟩, .slice none 0 0, .slice none 0 0] 71) = W0 := ⟨_, rfl⟩
  have hq1 : ∀ o, (w.alloc o).heap.size = w.heap.size + 1 := fun o => by simp
  have hs0 : W0.heap.size = w.heap.size + 2 := by rw [← hW0]; simp
  have hb0 : Below w.heap.size w W0 := by rw [← hW0]; exact Below.then (below_new _ _) (below_new _ _)
  have hz0 : At6 W0 w.heap.size (.int .i64 0) (.int .i64 0) (.string ⟨#[]⟩) (.slice none 0 0) (.slice none 0 0) (.int .i64 0) := by rw [← hW0]; exact (At6.new _ _ _ _ _ _ _).keep (below_new _ _)
  have h50 : At5 W0 (w.heap.size + 1) (.int .i64 4) (.int .i64 0) (.string ⟨#[]⟩) (.slice none 0 0) (.slice none 0 0) := by
    rw [← hW0]
    have e := At5.new (w.alloc (.cells #[.int .i64 0, .int .i64 0, .string ⟨#[]⟩, .slice none 0 0, .slice none 0 0, .int .i64 0] 87)) (.int .i64 4) (.int .i64 0) (.string ⟨#[]⟩) (.slice none 0 0) (.slice none 0 0)
    rwa [hq1] at e
  have HST0 := Lib.hid (show StL 4 w [] [] W0 from ⟨hb0, by omega, hz0, _, _, [], h50, RowOf.start _ _ _, ⟨World.ownsRow_nil _ _ _ _, by simp⟩⟩)
  have hdr := drop_cons s k hk
  rw [hc] at hdr
  have e1 : (dk == 0) = false := by rw [beq_eq_false_iff_ne]; omega
  have hwr : IntKind.i64.wrap (dk - 1) = dk - 1 := by rw [IntKind.wrap_i64]; omega
  have HIH := Lib.hid IH
  have HE := Lib.hid he
  have HW0 := Lib.hid hW0
  have HDR := Lib.hid hdr
  obtain ⟨z0, z1, z2, z3, z4, z5⟩ := hz0.cells
  obtain ⟨a0, a1, a2, a3, a4⟩ := h50.cells
  have f0 := hz0.frozen 0
  have f1 := hz0.frozen 1
  have f2 := hz0.frozen 2
  have f3 := hz0.frozen 3
  have f4 := hz0.frozen 4
  have f5 := hz0.frozen 5
  clear hz0 h50 hb0 hs0 hW0 hdr IH he hdk hq1
  go_enter Tryz.func52, Tryz.ntmps52
  go_upto_region 13 with fail
  rw [HW0.out]
  by_cases hem : ∃ h : k + 1 < s.size, s[k + 1] = 125
  · obtain ⟨hk1, hc1⟩ := hem
    have hdr1 := drop_cons s (k + 1) hk1
    rw [hc1] at hdr1
    have HO := Lib.hid (show readL (d + 1) (s.data.toList.drop k) = some (.mk 4 0 ⟨#[]⟩ [] [], s.data.toList.drop (k + 2)) by
      rw [HDR.out, readL, if_neg (by decide), if_neg (by decide), hdr1]; rfl)
    clear hdr1
    go_wp2_with fail
    refine bodyPost_ret (results_cell_row (p := 6) rfl _ _ w.heap.size 87 _ (0, 0) _ rfl (set6_six HST0.out.zero _ _ _ _ _ _) Tryz.underlying87 rfl tSize) rfl ?_
    obtain ⟨hv, hn, xs, h5, hr, hnm⟩ := HST0.out.row
    refine ⟨set6_below HST0.out.below rfl _ _ _ _ _ _, ?_⟩
    rw [HO.out]
    refine ⟨_, _, _, _, _, ?_, ValIn.plain _ _ 4 0 ⟨#[]⟩ (by decide) (by decide) (by decide)⟩
    simp only [List.length_drop]
    rw [show s.size - (s.data.toList.length - (k + 2)) = k + 1 + 1 by rw [← Lib.size_eq]; omega]
    rfl
  · have HIT := Lib.hid (show readL (d + 1) (s.data.toList.drop k) = (itemsL (readL d) true 125 17 [] [] (s.data.toList.drop (k + 1))).map fun p => (.mk 4 0 ⟨#[]⟩ p.1 p.2.1, p.2.2) by
      rw [HDR.out, readL_obj d _ (fun h => hem (by
        by_cases hk1 : k + 1 < s.size
        · rw [drop_cons s (k + 1) hk1, List.head?_cons] at h
          exact ⟨hk1, Option.some.inj h⟩
        · rw [drop_end s (k + 1) (by omega)] at h; cases h))])
    by_cases hk1 : k + 1 < s.size
    · obtain ⟨c1, hc1⟩ : ∃ c, s[k + 1] = c := ⟨_, rfl⟩
      have hne : c1 ≠ 125 := fun e => hem ⟨hk1, by rw [hc1, e]⟩
      have hne' : c1.toNat ≠ 125 := fun e => hne (UInt8.toNat_inj.1 e)
      have q1 : ((c1.toNat : Int) == 125) = false := beq_eq_false_iff_ne.2 (by omega)
      clear hem hne hne'
      go_wp2_with fail
      go_loopw [1] (fun iv wr => ∃ (j : Nat) (items : List Val) (names : List ByteArray), iv = .int .i64 j ∧ k + 1 ≤ j ∧ j ≤ s.size ∧ items.length ≤ 17 ∧ names.length = items.length ∧ StL 4 w items names wr ∧ itemsL (readL d) true 125 (17 - items.length) items names (s.data.toList.drop j) = itemsL (readL d) true 125 17 [] [] (s.data.toList.drop (k + 1))) (fun i _ => s.size - (intOf i).toNat)
      case atStart => exact ⟨k + 1, [], [], by go_num, Nat.le_refl _, by omega, by simp, rfl, HST0.out, rfl⟩
      case round =>
        obtain ⟨j, items, names, rfl, hkj, hj, hl17, hnl, hst, heq⟩ := hrel
        have HEQ := Lib.hid heq
        have HST := Lib.hid hst
        obtain ⟨hv, hn, xs, h5, hr, hnm⟩ := hst.row
        obtain ⟨ha, hcv, rfl⟩ : ∃ ha hc, hv = .slice ha items.length hc := by
          rcases hr.own.2 with ⟨e, h0⟩ | ⟨g, cap, cur, e, -⟩
          · exact ⟨none, 0, by rw [e, h0]⟩
          · exact ⟨_, _, e⟩
        obtain ⟨na, nc, rfl⟩ : ∃ na nc, hn = .slice na names.length nc := by
          rcases hnm.own.2 with ⟨e, h0⟩ | ⟨g, cap, cur, e, -⟩
          · exact ⟨none, 0, by rw [e, h0]⟩
          · exact ⟨_, _, e⟩
        obtain ⟨m, hm⟩ : ∃ m, items.length = m := ⟨_, rfl⟩
        have HM := Lib.hid hm
        rw [hnl, hm] at h5
        rw [hnl] at hr
        rw [hm] at hl17 hr hnl
        rw [hnl] at hnm
        have HNL := Lib.hid hnl
        have HR := Lib.hid hr
        have HNM := Lib.hid hnm
        have H5 := Lib.hid h5
        obtain ⟨a0, a1, a2, a3, a4⟩ := h5.cells
        obtain ⟨z0, z1, z2, z3, z4, z5⟩ := hst.zero.cells
        have f0 := hst.zero.frozen 0
        have f1 := hst.zero.frozen 1
        have f2 := hst.zero.frozen 2
        have f3 := hst.zero.frozen 3
        have f4 := hst.zero.frozen 4
        have f5 := hst.zero.frozen 5
        have QI := Lib.hid (quote_t s j hs hj wr)
        have hsz := hst.size
        clear heq hst hr hnm h5 hm hnl
        by_cases hm17 : m < 17
        rotate_left
        · have HO := Lib.hid (show readL (d + 1) (s.data.toList.drop k) = none by
            rw [HIT.out, ← HEQ.out, HM.out, show 17 - m = 0 by omega, itemsL]; rfl)
          go_wp2_with fail
          refine bodyPost_ret (results_cell_row (p := 6) rfl _ _ w.heap.size 87 _ (0, 0) _ rfl (set6_six HST.out.zero _ _ _ _ _ _) Tryz.underlying87 rfl tSize) rfl ?_
          exact ⟨set6_below HST.out.below rfl _ _ _ _ _ _, by rw [HO.out]; rfl⟩
        obtain ⟨f, hf⟩ : ∃ f, 17 - m = f + 1 := ⟨16 - m, by omega⟩
        have HF := Lib.hid hf
        have HNM0 := Lib.hid HNM.out
        clear hf
        go_wp2_with fail
        refine QI.out.mono ?_
        rintro e w1 ⟨rfl, hbq⟩
        have HBQ := Lib.hid hbq
        have hst1 := HST.out.next hbq
        have HST1 := Lib.hid hst1
        clear z0 z1 z2 z3 z4 z5 f0 f1 f2 f3 f4 f5 a0 a1 a2 a3 a4 hbq
        cases hqd : quoteL (s.data.toList.drop j) with
        | none =>
          have HO := Lib.hid (show readL (d + 1) (s.data.toList.drop k) = none by
            rw [HIT.out, ← HEQ.out, items_none _ _ _ _ _ _ (fun q s' h => by rw [hqd] at h; cases h)]; rfl)
          have hqt : quoteT s j = noT := by unfold quoteT; rw [hqd]
          have hst3 := hst1.next (below_new w1 (.cells #[.int .i64 0, .int .i64 0, .string ⟨#[]⟩, .slice none 0 0, .slice none 0 0, .int .i64 (-1)] 87))
          have HST3 := Lib.hid hst3
          obtain ⟨z0, z1, z2, z3, z4, z5⟩ := hst3.zero.cells
          have f0 := hst3.zero.frozen 0
          have f1 := hst3.zero.frozen 1
          have f2 := hst3.zero.frozen 2
          have f3 := hst3.zero.frozen 3
          have f4 := hst3.zero.frozen 4
          have f5 := hst3.zero.frozen 5
          rw [hqt]
          unfold noT
          clear hqd hst1 hst3 hqt
          go_wp2_with fail
          refine bodyPost_ret (results_cell_row (p := 6) rfl _ _ w.heap.size 87 _ (0, 0) _ rfl (set6_six HST3.out.zero _ _ _ _ _ _) Tryz.underlying87 rfl tSize) rfl ?_
          exact ⟨set6_below HST3.out.below rfl _ _ _ _ _ _, by rw [HO.out]; rfl⟩
        | some qp =>
          obtain ⟨ql, qr⟩ := qp
          obtain ⟨b, hbe, hjb, hbs, hqr, hqz⟩ := quoteL_rest s j ql qr hqd
          have hqt : quoteT s j = .agg #[.int .i64 2, .int .i64 0, .string ⟨ql.toArray⟩, .slice none 0 0, .slice none 0 0, .int .i64 b] := by unfold quoteT; rw [hqd]; simp only [hbe]
          obtain ⟨q, hqe⟩ : ∃ q : ByteArray, (⟨ql.toArray⟩ : ByteArray) = q := ⟨_, rfl⟩
          have HQZ := Lib.hid (show q.size ≤ 1073741824 by rw [← hqe, Lib.size_eq]; simp only; omega)
          rw [hqt, hqe]
          obtain ⟨V, hV⟩ : ∃ V, w1.alloc (.cells #[.int .i64 2, .int .i64 0, .string q, .slice none 0 0, .slice none 0 0, .int .i64 b] 87) = V := ⟨_, rfl⟩
          have hbV : Below w1.heap.size w1 V := by rw [← hV]; exact below_new _ _
          have hXV : At6 V w1.heap.size (.int .i64 2) (.int .i64 0) (.string q) (.slice none 0 0) (.slice none 0 0) (.int .i64 b) := by rw [← hV]; exact At6.new _ _ _ _ _ _ _
          have hstV := hst1.next hbV
          have HSTV := Lib.hid hstV
          have HV := Lib.hid hV
          have HBV := Lib.hid (Below.then HBQ.out hbV)
          obtain ⟨x0, x1, x2, x3, x4, x5⟩ := hXV.cells
          obtain ⟨a0, a1, a2, a3, a4⟩ := (H5.out.keep (Below.then HBQ.out hbV)).cells
          obtain ⟨z0, z1, z2, z3, z4, z5⟩ := hstV.zero.cells
          have f0 := hstV.zero.frozen 0
          have f1 := hstV.zero.frozen 1
          have f2 := hstV.zero.frozen 2
          have f3 := hstV.zero.frozen 3
          have f4 := hstV.zero.frozen 4
          have f5 := hstV.zero.frozen 5
          have HQE := Lib.hid hqe
          have HQD := Lib.hid hqd
          have HXV := Lib.hid hXV
          clear hst1 hV hbV hXV hstV hqt hbe hqe hqd
          by_cases hbl : b < s.size
          rotate_left
          · have HO := Lib.hid (show readL (d + 1) (s.data.toList.drop k) = none by
              rw [HIT.out, ← HEQ.out, items_none _ _ _ _ _ _ (fun q' s' h => by rw [HQD.out, hqr, drop_end s b (by omega)] at h; simp at h)]; rfl)
            clear hqr
            go_upto_region 18 with fail
            rw [HV.out]
            go_wp2_with fail
            refine bodyPost_ret (results_cell_row (p := 6) rfl _ _ w.heap.size 87 _ (0, 0) _ rfl (set6_six HSTV.out.zero _ _ _ _ _ _) Tryz.underlying87 rfl tSize) rfl ?_
            exact ⟨set6_below HSTV.out.below rfl _ _ _ _ _ _, by rw [HO.out]; rfl⟩
          obtain ⟨cq, hcq⟩ : ∃ c, s[b] = c := ⟨_, rfl⟩
          have hqr2 : qr = cq :: s.data.toList.drop (b + 1) := by rw [hqr, drop_cons s b hbl, hcq]
          have hcq8 := cq.toNat_lt
          by_cases h58 : cq = 58
          rotate_left
          · have h58' : cq.toNat ≠ 58 := fun e => h58 (UInt8.toNat_inj.1 e)
            have q2 : ((cq.toNat : Int) != 58) = true := bne_iff_ne.2 (by omega)
            have HO := Lib.hid (show readL (d + 1) (s.data.toList.drop k) = none by
              rw [HIT.out, ← HEQ.out, items_none _ _ _ _ _ _ (fun q' s' h => by rw [HQD.out, hqr2] at h; simp at h; exact h58 h.2.1)]; rfl)
            clear hqr hqr2 h58 h58'
            go_upto_region 18 with fail
            rw [HV.out]
            go_wp2_with fail
            refine bodyPost_ret (results_cell_row (p := 6) rfl _ _ w.heap.size 87 _ (0, 0) _ rfl (set6_six HSTV.out.zero _ _ _ _ _ _) Tryz.underlying87 rfl tSize) rfl ?_
            exact ⟨set6_below HSTV.out.below rfl _ _ _ _ _ _, by rw [HO.out]; rfl⟩
          subst h58
          have HQ58 := Lib.hid (show quoteL (s.data.toList.drop j) = some (ql, 58 :: s.data.toList.drop (b + 1)) by rw [HQD.out, hqr2])
          have hON : V.ownsRow (w.heap.size + 2) 9 1 (.slice na m nc) m (names.map Value.string) := by
            have := (HNM.out.keep (w' := V) (fun k _ _ hl => HBV.out.block k hl)).own
            rwa [HNL.out] at this
          obtain ⟨i0, hi, hz0, hz1, hz2⟩ := info_parts strInfo
          have hwz := HSTV.out.size
          have h5V := H5.out.keep HBV.out
          have H5V := Lib.hid h5V
          obtain ⟨-, -, -, -, c4v⟩ := h5V.cells
          clear hqr hqr2 h5V
          go_upto_region 18 with fail
          rw [HV.out]
          go_wp2_with (at_builtin; refine wpList_append_lies _ (by rfl) _ _ 27 (by rfl) (w.heap.size + 2) 9 i0 _ 1 16 Tryz.underlying27 hi hz0 hz1 hz2 rfl (by decide) _ m (names.map Value.string) (by rfl) (hON.alloc _) ⟨V.heap.size, 0, none⟩ 1 1 [.string q] (by rfl) (by rfl) (World.news_of_block (heap_alloc_new V _)) (by simp [Value.oneCell']) (by decide) (by unfold maxLen; omega) (by omega) (Nat.le_trans hwz (below_new V _).size) (V.heap.size + 1) (by simp) ?_)
          intro g2 c2' w4 hown2 hgrow2 hat2 hlt2
          have hVne2 : ¬ some (w.heap.size + 1) = (Value.slice na m nc).ownBlock := fun e => own_not hON (by omega) e
          have c4a : ∀ o, (V.alloc o).cell? ⟨w.heap.size + 1, 4, none⟩ = some (.slice na m nc) := fun o => ((below_new V o).cell (World.block_lt_of_cell? _ _ c4v)).trans c4v
          have u4n : w4.cell? ⟨w.heap.size + 1, 4, none⟩ = some (.slice na m nc) := hgrow2.cell (c4a _) hVne2
          have ufn : w4.frozen? ⟨w.heap.size + 1, 4, none⟩ = false := by
            have e := (hgrow2.block (w.heap.size + 1) (by have := H5V.out.lt; simp; omega) hVne2).trans ((Below.heap_alloc _ _ _ H5V.out.lt).trans H5V.out)
            simp [World.frozen?, e]
          obtain ⟨ws, hws⟩ : ∃ ws, w4.setCell ⟨w.heap.size + 1, 4, none⟩ (.slice (some ⟨g2, 0, none⟩) (m + 1) c2') = ws := ⟨_, rfl⟩
          have hstn : StL 4 w items (names ++ [q]) ws := by
            rw [← hws]
            exact StL.name HST.out (by have := H5.out; exact this) HR.out HNM.out HNL.out HBQ.out (show Below w1.heap.size w1 V by rw [← HV.out]; exact below_new _ _) HQZ.out hown2 hgrow2 hat2
          have y5 : ws.cell? ⟨w1.heap.size, 5, none⟩ = some (.int .i64 b) := by
            have hxl := HXV.out.lt
            have hxo : ¬ some w1.heap.size = (Value.slice na m nc).ownBlock := fun e => by
              have h1 := (HNM0.out.own.lt w1.heap.size (by rw [e])).2
              have h2 := HBQ.out.size
              omega
            have e : At6 ws w1.heap.size (.int .i64 2) (.int .i64 0) (.string q) (.slice none 0 0) (.slice none 0 0) (.int .i64 b) := by
              rw [← hws]
              exact (Below.heap_setCell _ _ _ _ (by show w1.heap.size ≠ w.heap.size + 1; have := HST1.out.size; omega)).trans ((hgrow2.block w1.heap.size (by simp; omega) hxo).trans ((Below.heap_alloc _ _ _ hxl).trans HXV.out))
            exact e.cells.2.2.2.2.2
          obtain ⟨nms, hnms⟩ : ∃ nms, names ++ [q] = nms := ⟨_, rfl⟩
          have HNMS := Lib.hid hnms
          have HNZ := Lib.hid (show nms.length = m + 1 by rw [← hnms, List.length_append, HNL.out]; rfl)
          rw [hnms] at hstn
          have HST := Lib.hid hstn
          have HWS := Lib.hid hws
          obtain ⟨hv, hn, xs, h5, hr, hnm⟩ := hstn.row
          obtain ⟨ha, hcv, rfl⟩ : ∃ ha hc, hv = .slice ha items.length hc := by
            rcases hr.own.2 with ⟨e, h0⟩ | ⟨g, cap, cur, e, -⟩
            · exact ⟨none, 0, by rw [e, h0]⟩
            · exact ⟨_, _, e⟩
          obtain ⟨na, nn, nc, rfl⟩ : ∃ na nn nc, hn = .slice na nn nc := by
            rcases hnm.own.2 with ⟨e, h0⟩ | ⟨g, cap, cur, e, -⟩
            · exact ⟨none, 0, 0, e⟩
            · exact ⟨_, _, _, e⟩
          rw [HM.out] at h5 hr
          have HR := Lib.hid hr
          have HNM := Lib.hid hnm
          have H5 := Lib.hid h5
          clear z0 z1 z2 z3 z4 z5 f0 f1 f2 f3 f4 f5 a0 a1 a2 a3 a4
          obtain ⟨a0, a1, a2, a3, a4⟩ := h5.cells
          obtain ⟨z0, z1, z2, z3, z4, z5⟩ := hstn.zero.cells
          have f0 := hstn.zero.frozen 0
          have f1 := hstn.zero.frozen 1
          have f2 := hstn.zero.frozen 2
          have f3 := hstn.zero.frozen 3
          have f4 := hstn.zero.frozen 4
          have f5 := hstn.zero.frozen 5
          have CI := Lib.hid (HIH.out (b + 1) ws (by omega) (HE.out.below hstn.below))
          have hsz := hstn.size
          have HIS := Lib.hid (show itemsL (readL d) true 125 17 [] [] (s.data.toList.drop (k + 1)) = match readL d (s.data.toList.drop (b + 1)) with
              | none => none
              | some (_, []) => none
              | some (x, c :: r) => if c = 125 then some (items ++ [x], nms, r) else if c = 44 then itemsL (readL d) true 125 f (items ++ [x]) nms r else none by rw [← HEQ.out, HM.out, HF.out, items_obj _ _ _ _ _ _ _ _ HQ58.out, HQE.out, HNMS.out]; rfl)
          clear hstn hr hnm h5 hnms hws hown2 hgrow2 hat2 hlt2 hVne2 c4a c4v hON hi hz0 hz1 hz2 x0 x1 x2 x3 x4 x5
          go_upto_region 21 with fail
          rw [HWS.out]
          go_wp2_with fail
          refine CI.out.mono ?_
          intro e w2 hx
          have hi := hx.is
          have HB2 := Lib.hid hx.below
          have hst2 := HST.out.next hx.below
          have HST2 := Lib.hid hst2
          clear hx z0 z1 z2 z3 z4 z5 f0 f1 f2 f3 f4 f5 a0 a1 a2 a3 a4
          cases hrd : readL d (s.data.toList.drop (b + 1)) with
          | none =>
            rw [hrd] at hi
            obtain rfl : e = .returned (.agg #[.int .i64 0, .int .i64 0, .string ⟨#[]⟩, .slice none 0 0, .slice none 0 0, .int .i64 (-1)]) := hi
            have HO := Lib.hid (show readL (d + 1) (s.data.toList.drop k) = none by rw [HIT.out, HIS.out, hrd]; rfl)
            have hst3 := hst2.next (below_new w2 (.cells #[.int .i64 0, .int .i64 0, .string ⟨#[]⟩, .slice none 0 0, .slice none 0 0, .int .i64 (-1)] 87))
            have HST3 := Lib.hid hst3
            obtain ⟨z0, z1, z2, z3, z4, z5⟩ := hst3.zero.cells
            have f0 := hst3.zero.frozen 0
            have f1 := hst3.zero.frozen 1
            have f2 := hst3.zero.frozen 2
            have f3 := hst3.zero.frozen 3
            have f4 := hst3.zero.frozen 4
            have f5 := hst3.zero.frozen 5
            clear hrd hst2 hst3
            go_wp2_with fail
            refine bodyPost_ret (results_cell_row (p := 6) rfl _ _ w.heap.size 87 _ (0, 0) _ rfl (set6_six HST3.out.zero _ _ _ _ _ _) Tryz.underlying87 rfl tSize) rfl ?_
            exact ⟨set6_below HST3.out.below rfl _ _ _ _ _ _, by rw [HO.out]; rfl⟩
          | some p =>
            obtain ⟨T, r⟩ := p
            rw [hrd] at hi
            obtain ⟨c0, c1, c2, c3, c4, rfl, hvT⟩ := hi
            obtain ⟨xk, xn, xs', xia, xna, xli, xic, xnn, xnc, hsh⟩ := hvT.isVal.shape
            simp only [Value.agg.injEq, Array.mk.injEq, List.cons.injEq, and_true] at hsh
            obtain ⟨rfl, rfl, rfl, rfl, rfl⟩ := hsh
            obtain ⟨a, haq, hja, has, hra⟩ := readL_rest s (b + 1) d T r hrd
            have hja := hja (by omega)
            rw [haq]
            obtain ⟨W3, hW3⟩ : ∃ W3, w2.alloc (.cells #[.int .i64 xk, .int .i64 xn, .string xs', .slice xia xli xic, .slice xna xnn xnc, .int .i64 a] 87) = W3 := ⟨_, rfl⟩
            have hb3 : Below w2.heap.size w2 W3 := by rw [← hW3]; exact below_new _ _
            have hX3 : At6 W3 w2.heap.size (.int .i64 xk) (.int .i64 xn) (.string xs') (.slice xia xli xic) (.slice xna xnn xnc) (.int .i64 a) := by rw [← hW3]; exact At6.new _ _ _ _ _ _ _
            have hst3 := hst2.next hb3
            have HST3 := Lib.hid hst3
            have HVT := Lib.hid (hvT.keep (S' := fun b => ws.heap.size ≤ b) fun b hS hl => ⟨hb3.block b hl, hS⟩)
            have HW3 := Lib.hid hW3
            have HB3 := Lib.hid (Below.then HB2.out hb3)
            have HX3 := Lib.hid hX3
            obtain ⟨x0, x1, x2, x3, x4, x5⟩ := hX3.cells
            obtain ⟨a0, a1, a2, a3, a4⟩ := (H5.out.keep (Below.then HB2.out hb3)).cells
            obtain ⟨z0, z1, z2, z3, z4, z5⟩ := hst3.zero.cells
            have f0 := hst3.zero.frozen 0
            have f1 := hst3.zero.frozen 1
            have f2 := hst3.zero.frozen 2
            have f3 := hst3.zero.frozen 3
            have f4 := hst3.zero.frozen 4
            have f5 := hst3.zero.frozen 5
            clear hst2 hvT hW3 hX3 hst3 haq
            by_cases hal : a < s.size
            rotate_left
            · have HO := Lib.hid (show readL (d + 1) (s.data.toList.drop k) = none by
                rw [HIT.out, HIS.out, hrd, hra, drop_end s a (by omega)]; rfl)
              clear hrd hra
              go_upto_region 23 with fail
              rw [HW3.out]
              go_wp2_with fail
              refine bodyPost_ret (results_cell_row (p := 6) rfl _ _ w.heap.size 87 _ (0, 0) _ rfl (set6_six HST3.out.zero _ _ _ _ _ _) Tryz.underlying87 rfl tSize) rfl ?_
              exact ⟨set6_below HST3.out.below rfl _ _ _ _ _ _, by rw [HO.out]; rfl⟩
            obtain ⟨c2, hc2⟩ : ∃ c, s[a] = c := ⟨_, rfl⟩
            have hra2 : r = c2 :: s.data.toList.drop (a + 1) := by rw [hra, drop_cons s a hal, hc2]
            have HD := Lib.hid (show itemsL (readL d) true 125 17 [] [] (s.data.toList.drop (k + 1)) = if c2 = 125 then some (items ++ [T], nms, s.data.toList.drop (a + 1)) else if c2 = 44 then itemsL (readL d) true 125 f (items ++ [T]) nms (s.data.toList.drop (a + 1)) else none by rw [HIS.out, hrd, hra2])
            have hO3 : W3.ownsRow (w.heap.size + 2) 71 5 (.slice ha m hcv) m xs := by
              have := (HR.out.keep (w' := W3) (fun k _ hl _ => HB3.out.block k hl) (Or.inl rfl)).own
              rwa [HM.out] at this
            obtain ⟨i0, hi, hz0, hz1, hz2⟩ := info_parts valInfo
            have hwz := HST3.out.size
            have h53 := H5.out.keep HB3.out
            have H53 := Lib.hid h53
            obtain ⟨-, -, -, c3v, -⟩ := h53.cells
            have c3a : ∀ o, (W3.alloc o).cell? ⟨w.heap.size + 1, 3, none⟩ = some (.slice ha m hcv) := fun o => ((below_new W3 o).cell (World.block_lt_of_cell? _ _ c3v)).trans c3v
            have hc8 := c2.toNat_lt
            clear hrd hra hra2 h53
            go_upto_region 23 with fail
            rw [HW3.out]
            go_wp2_with (at_builtin; refine wpList_append_lies _ (by rfl) _ _ 69 (by rfl) (w.heap.size + 2) 71 i0 _ 5 80 Tryz.underlying69 hi hz0 hz1 hz2 rfl (by decide) _ m xs (by rfl) (hO3.alloc _) ⟨W3.heap.size, 0, none⟩ 1 1 [.int .i64 xk, .int .i64 xn, .string xs', .slice xia xli xic, .slice xna xnn xnc] (by rfl) (by rfl) (World.news_of_block (heap_alloc_new W3 _)) (by simp [Value.oneCell']) (by decide) (by unfold maxLen; omega) (by omega) (Nat.le_trans hwz (below_new W3 _).size) (W3.heap.size + 1) (by simp) ?_)
            intro g3 c3 w5 hown3 hgrow3 hat3 hlt3
            have hVne : ¬ some (w.heap.size + 1) = (Value.slice ha m hcv).ownBlock := fun e => own_not hO3 (by omega) e
            have u4' : w5.cell? ⟨w.heap.size + 1, 3, none⟩ = some (.slice ha m hcv) := hgrow3.cell (c3a _) hVne
            have uf : w5.frozen? ⟨w.heap.size + 1, 3, none⟩ = false := by
              have e := (hgrow3.block (w.heap.size + 1) (by have := H53.out.lt; simp; omega) hVne).trans ((Below.heap_alloc _ _ _ H53.out.lt).trans H53.out)
              simp [World.frozen?, e]
            obtain ⟨W6, hW6⟩ : ∃ W6, w5.setCell ⟨w.heap.size + 1, 3, none⟩ (.slice (some ⟨g3, 0, none⟩) (m + 1) c3) = W6 := ⟨_, rfl⟩
            have hst6 : StL 4 w (items ++ [T]) nms W6 := by
              rw [← hW6]
              exact StL.item HST.out (by have := H5.out; exact this) HR.out HNM.out HM.out (Below.refl _ _) HB3.out HVT.out hown3 hgrow3 hat3
            have hX6 : At6 W6 w2.heap.size (.int .i64 xk) (.int .i64 xn) (.string xs') (.slice xia xli xic) (.slice xna xnn xnc) (.int .i64 a) := by
              have hxl := HX3.out.lt
              have hww := HST2.out.size
              have hxo : ¬ some w2.heap.size = (Value.slice ha m hcv).ownBlock := fun e => by
                have h1 := (HR.out.own.lt w2.heap.size (by rw [e])).2
                have h2 := HB2.out.size
                omega
              rw [← hW6]
              exact (Below.heap_setCell _ _ _ _ (by show w2.heap.size ≠ w.heap.size + 1; omega)).trans ((hgrow3.block w2.heap.size (by simp; omega) hxo).trans ((Below.heap_alloc _ _ _ hxl).trans HX3.out))
            obtain ⟨hv6, hn6, xs6, h56, hr6, hnm6⟩ := hst6.row
            obtain ⟨ha6, l6, hc6, rfl⟩ : ∃ ha l hc, hv6 = .slice ha l hc := by
              rcases hr6.own.2 with ⟨e, h0⟩ | ⟨g, cap, cur, e, -⟩
              · exact ⟨none, 0, 0, e⟩
              · exact ⟨_, _, _, e⟩
            obtain ⟨na6, nn6, nc6, rfl⟩ : ∃ na nn nc, hn6 = .slice na nn nc := by
              rcases hnm6.own.2 with ⟨e, h0⟩ | ⟨g, cap, cur, e, -⟩
              · exact ⟨none, 0, 0, e⟩
              · exact ⟨_, _, _, e⟩
            have HST6 := Lib.hid hst6
            have HR6 := Lib.hid hr6
            have HNM6 := Lib.hid hnm6
            have HW6 := Lib.hid hW6
            clear z0 z1 z2 z3 z4 z5 f0 f1 f2 f3 f4 f5 a0 a1 a2 a3 a4
            obtain ⟨a0, a1, a2, a3, a4⟩ := h56.cells
            obtain ⟨y0, y1, y2, y3, y4, y5⟩ := hX6.cells
            obtain ⟨z0, z1, z2, z3, z4, z5⟩ := hst6.zero.cells
            have f0 := hst6.zero.frozen 0
            have f1 := hst6.zero.frozen 1
            have f2 := hst6.zero.frozen 2
            have f3 := hst6.zero.frozen 3
            have f4 := hst6.zero.frozen 4
            have f5 := hst6.zero.frozen 5
            clear hst6 hX6 h56 hr6 hnm6 hW6 hown3 hgrow3 hat3 hlt3 hVne c3a c3v hO3 hi hz0 hz1 hz2
            by_cases h125 : c2 = 125
            · have HO := Lib.hid (show readL (d + 1) (s.data.toList.drop k) = some (.mk 4 0 ⟨#[]⟩ (items ++ [T]) nms, s.data.toList.drop (a + 1)) by rw [HIT.out, HD.out, if_pos h125]; rfl)
              subst h125
              go_upto_region 26 with fail
              rw [HW6.out]
              go_wp2_with fail
              refine bodyPost_ret (results_cell_row (p := 6) rfl _ _ w.heap.size 87 _ (0, 0) _ rfl (set6_six HST6.out.zero _ _ _ _ _ _) Tryz.underlying87 rfl tSize) rfl ?_
              obtain ⟨hbF, hvF⟩ := StL.val (Or.inr rfl) HST6.out HR6.out HNM6.out (.int .i64 4) (.int .i64 0) (.string ⟨#[]⟩) (.slice ha6 l6 hc6) (.slice na6 nn6 nc6) (.int .i64 (↑a + 1))
              refine ⟨hbF, ?_⟩
              rw [HO.out]
              refine ⟨_, _, _, _, _, ?_, hvF⟩
              simp only [List.length_drop]
              rw [show s.size - (s.data.toList.length - (a + 1)) = a + 1 by rw [← Lib.size_eq]; omega]
              rfl
            · have h125' : c2.toNat ≠ 125 := fun e => h125 (UInt8.toNat_inj.1 e)
              have q1 : ((c2.toNat : Int) == 125) = false := beq_eq_false_iff_ne.2 (by omega)
              by_cases h44 : c2 = 44
              · have HN1 := Lib.hid (show itemsL (readL d) true 125 (17 - (items ++ [T]).length) (items ++ [T]) nms (s.data.toList.drop (a + 1)) = itemsL (readL d) true 125 17 [] [] (s.data.toList.drop (k + 1)) by
                  rw [HD.out, if_neg h125, if_pos h44, List.length_append, HM.out]
                  congr 1
                  have := HF.out
                  simp only [List.length_cons, List.length_nil]
                  omega)
                have HLN := Lib.hid (show (items ++ [T]).length ≤ 17 by rw [List.length_append, HM.out]; simp; omega)
                have HNE := Lib.hid (show nms.length = (items ++ [T]).length by rw [HNZ.out, List.length_append, HM.out]; rfl)
                subst h44
                clear h125 h125'
                go_upto_region 26 with fail
                rw [HW6.out]
                go_wp2_with fail
                go_roundw
                case rel => exact ⟨a + 1, items ++ [T], nms, by go_num, by omega, by omega, HLN.out, HNE.out, HST6.out, HN1.out⟩
                case measure => simp [intOf]; omega
              · have h44' : c2.toNat ≠ 44 := fun e => h44 (UInt8.toNat_inj.1 e)
                have q2 : ((c2.toNat : Int) != 44) = true := bne_iff_ne.2 (by omega)
                have HO := Lib.hid (show readL (d + 1) (s.data.toList.drop k) = none by rw [HIT.out, HD.out, if_neg h125, if_neg h44]; rfl)
                clear h125 h125' h44 h44'
                go_upto_region 26 with fail
                rw [HW6.out]
                go_wp2_with fail
                refine bodyPost_ret (results_cell_row (p := 6) rfl _ _ w.heap.size 87 _ (0, 0) _ rfl (set6_six HST6.out.zero _ _ _ _ _ _) Tryz.underlying87 rfl tSize) rfl ?_
                exact ⟨set6_below HST6.out.below rfl _ _ _ _ _ _, by rw [HO.out]; rfl⟩
    · clear hem
      go_wp2_with fail
      go_loopw [1] (fun iv wr => ∃ (j : Nat) (items : List Val) (names : List ByteArray), iv = .int .i64 j ∧ k + 1 ≤ j ∧ j ≤ s.size ∧ items.length ≤ 17 ∧ names.length = items.length ∧ StL 4 w items names wr ∧ itemsL (readL d) true 125 (17 - items.length) items names (s.data.toList.drop j) = itemsL (readL d) true 125 17 [] [] (s.data.toList.drop (k + 1))) (fun i _ => s.size - (intOf i).toNat)
      case atStart => exact ⟨k + 1, [], [], by go_num, Nat.le_refl _, by omega, by simp, rfl, HST0.out, rfl⟩
      case round =>
        obtain ⟨j, items, names, rfl, hkj, hj, hl17, hnl, hst, heq⟩ := hrel
        have HEQ := Lib.hid heq
        have HST := Lib.hid hst
        obtain ⟨hv, hn, xs, h5, hr, hnm⟩ := hst.row
        obtain ⟨ha, hcv, rfl⟩ : ∃ ha hc, hv = .slice ha items.length hc := by
          rcases hr.own.2 with ⟨e, h0⟩ | ⟨g, cap, cur, e, -⟩
          · exact ⟨none, 0, by rw [e, h0]⟩
          · exact ⟨_, _, e⟩
        obtain ⟨na, nc, rfl⟩ : ∃ na nc, hn = .slice na names.length nc := by
          rcases hnm.own.2 with ⟨e, h0⟩ | ⟨g, cap, cur, e, -⟩
          · exact ⟨none, 0, by rw [e, h0]⟩
          · exact ⟨_, _, e⟩
        obtain ⟨m, hm⟩ : ∃ m, items.length = m := ⟨_, rfl⟩
        have HM := Lib.hid hm
        rw [hnl, hm] at h5
        rw [hnl] at hr
        rw [hm] at hl17 hr hnl
        rw [hnl] at hnm
        have HNL := Lib.hid hnl
        have HR := Lib.hid hr
        have HNM := Lib.hid hnm
        have H5 := Lib.hid h5
        obtain ⟨a0, a1, a2, a3, a4⟩ := h5.cells
        obtain ⟨z0, z1, z2, z3, z4, z5⟩ := hst.zero.cells
        have f0 := hst.zero.frozen 0
        have f1 := hst.zero.frozen 1
        have f2 := hst.zero.frozen 2
        have f3 := hst.zero.frozen 3
        have f4 := hst.zero.frozen 4
        have f5 := hst.zero.frozen 5
        have QI := Lib.hid (quote_t s j hs hj wr)
        have hsz := hst.size
        clear heq hst hr hnm h5 hm hnl
        by_cases hm17 : m < 17
        rotate_left
        · have HO := Lib.hid (show readL (d + 1) (s.data.toList.drop k) = none by
            rw [HIT.out, ← HEQ.out, HM.out, show 17 - m = 0 by omega, itemsL]; rfl)
          go_wp2_with fail
          refine bodyPost_ret (results_cell_row (p := 6) rfl _ _ w.heap.size 87 _ (0, 0) _ rfl (set6_six HST.out.zero _ _ _ _ _ _) Tryz.underlying87 rfl tSize) rfl ?_
          exact ⟨set6_below HST.out.below rfl _ _ _ _ _ _, by rw [HO.out]; rfl⟩
        obtain ⟨f, hf⟩ : ∃ f, 17 - m = f + 1 := ⟨16 - m, by omega⟩
        have HF := Lib.hid hf
        have HNM0 := Lib.hid HNM.out
        clear hf
        go_wp2_with fail
        refine QI.out.mono ?_
        rintro e w1 ⟨rfl, hbq⟩
        have HBQ := Lib.hid hbq
        have hst1 := HST.out.next hbq
        have HST1 := Lib.hid hst1
        clear z0 z1 z2 z3 z4 z5 f0 f1 f2 f3 f4 f5 a0 a1 a2 a3 a4 hbq
        have hqd : quoteL (s.data.toList.drop j) = none := by rw [drop_end s j (by omega)]; rfl
        have HO := Lib.hid (show readL (d + 1) (s.data.toList.drop k) = none by
          rw [HIT.out, ← HEQ.out, items_none _ _ _ _ _ _ (fun q s' h => by rw [hqd] at h; cases h)]; rfl)
        have hqt : quoteT s j = noT := by unfold quoteT; rw [hqd]
        have hst3 := hst1.next (below_new w1 (.cells #[.int .i64 0, .int .i64 0, .string ⟨#[]⟩, .slice none 0 0, .slice none 0 0, .int .i64 (-1)] 87))
        have HST3 := Lib.hid hst3
        obtain ⟨z0, z1, z2, z3, z4, z5⟩ := hst3.zero.cells
        have f0 := hst3.zero.frozen 0
        have f1 := hst3.zero.frozen 1
        have f2 := hst3.zero.frozen 2
        have f3 := hst3.zero.frozen 3
        have f4 := hst3.zero.frozen 4
        have f5 := hst3.zero.frozen 5
        rw [hqt]
        unfold noT
        clear hqd hst1 hst3 hqt
        go_wp2_with fail
        refine bodyPost_ret (results_cell_row (p := 6) rfl _ _ w.heap.size 87 _ (0, 0) _ rfl (set6_six HST3.out.zero _ _ _ _ _ _) Tryz.underlying87 rfl tSize) rfl ?_
        exact ⟨set6_below HST3.out.below rfl _ _ _ _ _ _, by rw [HO.out]; rfl⟩
end Go.Proofs.YtepcaglekgeamaaGreatDoor
namespace Go.Proofs.YtepcaglekgeamaaGreatDoor
open Go.RowKit

theorem read_go (s : ByteArray) (hs : s.size ≤ 1073741824) : ∀ (d : Nat), d ≤ 100 → ∀ (dk : Int), dk = d → ∀ (k : Nat) (w : World), k ≤ s.size → TEnv w →
    Calls Tryz.prog 52 #[.string s, .int .i64 k, .int .i64 dk] w fun e w' => ReadT s k d w e w'
  | 0, hd, dk, hdk, k, w, hk, he => read_plain s k 0 dk hdk hd hs hk w he (Or.inl rfl)
  | d + 1, hd, dk, hdk, k, w, hk, he => by
    have IH : ∀ (j : Nat) (w : World), j ≤ s.size → TEnv w → Calls Tryz.prog 52 #[.string s, .int .i64 j, .int .i64 (dk - 1)] w fun e w' => ReadT s j d w e w' :=
      fun j w hj he => read_go s hs d (by omega) (dk - 1) (by omega) j w hj he
    by_cases hlt : k < s.size
    · by_cases h91 : s[k] = 91
      · exact read_row s k d dk (by omega) (by omega) hs hlt h91 w he IH
      · by_cases h123 : s[k] = 123
        · exact read_obj s k d dk (by omega) (by omega) hs hlt h123 w he IH
        · exact read_plain s k (d + 1) dk hdk hd hs hk w he (Or.inr (Or.inr ⟨hlt, h91, h123⟩))
    · exact read_plain s k (d + 1) dk hdk hd hs hk w he (Or.inr (Or.inl (by omega)))

theorem below_set5 {w w2 : World} {B : Nat} (h : Below w.heap.size w w2) (hB : w.heap.size ≤ B) (c0 c1 c2 c3 c4 : Value) : Below w.heap.size w (set5 w2 B 0 c0 c1 c2 c3 c4) := by
  obtain ⟨s1, s2, s3⟩ := set5_rest w2 B 0 c0 c1 c2 c3 c4
  exact ⟨s1.trans h.os, s2.trans h.tape, s3.trans h.output, by rw [set5_size]; exact h.size, fun k hk => (set5_block _ _ _ _ _ _ _ _ k (by omega)).trans (h.block k hk)⟩

theorem parseV_read (s : ByteArray) : parseV s = match readL 6 s.data.toList with
    | some (T, []) => if mayV 6 T = true then some T else none
    | _ => none := by
  cases hr : readL 6 s.data.toList with
  | none =>
    cases hp : parseV s with
    | none => rfl
    | some T =>
      obtain ⟨h1, h2⟩ := (parseV_iff s T).1 hp
      rw [(readL_iff 6 _ T h1).2 h2.symm] at hr
      cases hr
  | some p =>
    obtain ⟨T, r⟩ := p
    cases r with
    | cons a r =>
      cases hp : parseV s with
      | none => rfl
      | some T =>
        obtain ⟨h1, h2⟩ := (parseV_iff s T).1 hp
        rw [(readL_iff 6 _ T h1).2 h2.symm] at hr
        simp at hr
    | nil =>
      simp only
      by_cases hm : mayV 6 T = true
      · rw [if_pos hm]
        exact (parseV_iff s T).2 ⟨hm, ((readL_iff 6 _ T hm).1 hr).symm⟩
      · rw [if_neg hm]
        cases hp : parseV s with
        | none => rfl
        | some U =>
          obtain ⟨h1, h2⟩ := (parseV_iff s U).1 hp
          rw [(readL_iff 6 _ U h1).2 h2.symm] at hr
          simp only [Option.some.injEq, Prod.mk.injEq, and_true] at hr
          exact absurd (hr ▸ h1) hm

structure RefEnds (s : ByteArray) (w : World) (e : Ending) (w' : World) : Prop where
  below : Below w.heap.size w w'
  is : match parseV s with
    | some T => ∃ v, e = .returned (.tuple #[v, .bool true]) ∧ IsVal w' v T
    | none => e = .returned (.tuple #[noVal, .bool false])

set_option maxRecDepth 100000 in
set_option maxHeartbeats 4000000 in
theorem refParseT (s : ByteArray) (w : World) (hs : s.size ≤ 1073741824) (he : TEnv w) :
    Calls Tryz.prog 36 #[.string s] w (RefEnds s w) := by
  obtain ⟨W0, hW0⟩ : ∃ W0, w.alloc (.cells #[.int .i64 0, .int .i64 0, .string ⟨#[]⟩, .slice none 0 0, .slice none 0 0] 71) = W0 := ⟨_, rfl⟩
  have hb0 : Below w.heap.size w W0 := by rw [← hW0]; exact below_new _ _
  have hZ0 : At5 W0 w.heap.size (.int .i64 0) (.int .i64 0) (.string ⟨#[]⟩) (.slice none 0 0) (.slice none 0 0) := by rw [← hW0]; exact At5.new _ _ _ _ _ _
  have R := Lib.hid (read_go s hs 6 (by decide) 6 rfl 0 W0 (Nat.zero_le _) (he.below hb0))
  have HPR := Lib.hid (parseV_read s)
  have HB0 := Lib.hid hb0
  have HZ0 := Lib.hid hZ0
  have HW0 := Lib.hid hW0
  have hsz : s.data.toList.length = s.size := (Lib.size_eq s).symm
  clear hb0 hZ0 hW0 he
  go_enter Tryz.func36, Tryz.ntmps36
  go_upto_region 1 with fail
  rw [HW0.out]
  go_wp2_with fail
  refine R.out.mono ?_
  intro e w1 hx
  have hi := hx.is
  rw [List.drop_zero] at hi
  have HB1 := Lib.hid (Below.then HB0.out hx.below)
  have HZ1 := Lib.hid (HZ0.out.keep hx.below)
  have hx1 := hx.below.size
  clear hx
  cases hr : readL 6 s.data.toList with
  | none =>
    rw [hr] at hi
    obtain rfl : e = .returned (.agg #[.int .i64 0, .int .i64 0, .string ⟨#[]⟩, .slice none 0 0, .slice none 0 0, .int .i64 (-1)]) := hi
    have HO := Lib.hid (show parseV s = none by rw [HPR.out, hr])
    have HBF := Lib.hid (show Below w.heap.size w (w1.alloc (.cells #[.int .i64 0, .int .i64 0, .string ⟨#[]⟩, .slice none 0 0, .slice none 0 0, .int .i64 (-1)] 87)) from Below.then HB1.out (below_new _ _))
    have hZ2 := HZ1.out.keep (below_new w1 (.cells #[.int .i64 0, .int .i64 0, .string ⟨#[]⟩, .slice none 0 0, .slice none 0 0, .int .i64 (-1)] 87))
    have HZ2 := Lib.hid hZ2
    obtain ⟨z0, z1, z2, z3, z4⟩ := hZ2.cells
    have f0 := hZ2.frozen 0
    have f1 := hZ2.frozen 1
    have f2 := hZ2.frozen 2
    have f3 := hZ2.frozen 3
    have f4 := hZ2.frozen 4
    have q : ((-1 : Int) != (s.size : Int)) = true := bne_iff_ne.2 (by omega)
    clear hr hZ2
    go_wp2_with fail
    refine bodyPost_ret (results_two (p := 2) (u := 3) rfl _ _ w.heap.size 71 _ (0, 0) _ rfl (set5_five0 HZ2.out _ _ _ _ _) Tryz.underlying71 rfl valSize) rfl ?_
    refine ⟨below_set5 HBF.out (Nat.le_refl _) _ _ _ _ _, ?_⟩
    rw [HO.out]
    rfl
  | some p =>
    obtain ⟨T, r⟩ := p
    rw [hr] at hi
    obtain ⟨c0, c1, c2, c3, c4, rfl, hv⟩ := hi
    obtain ⟨xk, xn, xs, xia, xna, xli, xic, xnn, xnc, hsh⟩ := hv.isVal.shape
    simp only [Value.agg.injEq, Array.mk.injEq, List.cons.injEq, and_true] at hsh
    obtain ⟨rfl, rfl, rfl, rfl, rfl⟩ := hsh
    have hrl : r.length ≤ s.size := by
      have := readL_sound 6 _ T r hr
      rw [← hsz, this, List.length_append]
      omega
    obtain ⟨at', hat⟩ : ∃ at', s.size - r.length = at' := ⟨_, rfl⟩
    rw [hat]
    obtain ⟨W2, hW2⟩ : ∃ W2, w1.alloc (.cells #[.int .i64 xk, .int .i64 xn, .string xs, .slice xia xli xic, .slice xna xnn xnc, .int .i64 at'] 87) = W2 := ⟨_, rfl⟩
    have hb2 : Below w1.heap.size w1 W2 := by rw [← hW2]; exact below_new _ _
    have hX : At6 W2 w1.heap.size (.int .i64 xk) (.int .i64 xn) (.string xs) (.slice xia xli xic) (.slice xna xnn xnc) (.int .i64 at') := by rw [← hW2]; exact At6.new _ _ _ _ _ _ _
    have hZ2 := HZ1.out.keep hb2
    have hv2 : ValIn (fun b => W0.heap.size ≤ b) W2 (.agg #[.int .i64 xk, .int .i64 xn, .string xs, .slice xia xli xic, .slice xna xnn xnc]) T := hv.keep fun b hS hl => ⟨hb2.block b hl, hS⟩
    have HB2 := Lib.hid (Below.then HB1.out hb2)
    have HV2 := Lib.hid hv2
    have HZ2 := Lib.hid hZ2
    have HX := Lib.hid hX
    have HW2 := Lib.hid hW2
    obtain ⟨x0, x1, x2, x3, x4, x5⟩ := hX.cells
    have hw0 : W0.heap.size = w.heap.size + 1 := by rw [← HW0.out]; simp
    by_cases hr0 : at' = s.size
    rotate_left
    · have q : ((at' : Int) != (s.size : Int)) = true := bne_iff_ne.2 (by omega)
      have HO := Lib.hid (show parseV s = none by
        rw [HPR.out, hr]
        cases r with
        | nil => simp at hat; omega
        | cons a r => rfl)
      obtain ⟨z0, z1, z2, z3, z4⟩ := hZ2.cells
      have f0 := hZ2.frozen 0
      have f1 := hZ2.frozen 1
      have f2 := hZ2.frozen 2
      have f3 := hZ2.frozen 3
      have f4 := hZ2.frozen 4
      clear hr hZ2 hv hv2 hb2 hX hW2 hat hr0
      go_upto_region 2 with fail
      rw [HW2.out]
      go_wp2_with fail
      refine bodyPost_ret (results_two (p := 2) (u := 3) rfl _ _ w.heap.size 71 _ (0, 0) _ rfl (set5_five0 HZ2.out _ _ _ _ _) Tryz.underlying71 rfl valSize) rfl ?_
      refine ⟨below_set5 HB2.out (Nat.le_refl _) _ _ _ _ _, ?_⟩
      rw [HO.out]
      rfl
    · subst hr0
      have q : ((s.size : Int) != (s.size : Int)) = false := by rw [bne_self_eq_false]
      have C := Lib.hid (right_any T _ W2 hv2.isVal)
      have hr1 : r = [] := List.length_eq_zero_iff.1 (by omega)
      subst hr1
      have HM := Lib.hid (show parseV s = if mayV 6 T = true then some T else none by rw [HPR.out, hr])
      obtain ⟨m, hm⟩ : ∃ m, mayV 6 T = m := ⟨_, rfl⟩
      rw [hm] at C HM
      clear hr hZ2 hv hv2 hb2 hX hW2 hat hm
      go_upto_region 2 with fail
      rw [HW2.out]
      go_wp2_with fail
      refine C.out.mono ?_
      rintro e w3 ⟨rfl, hb3⟩
      have HB3 := Lib.hid (Below.then HB2.out hb3)
      have hZ3 := HZ2.out.keep hb3
      have HZ3 := Lib.hid hZ3
      obtain ⟨z0, z1, z2, z3, z4⟩ := hZ3.cells
      have f0 := hZ3.frozen 0
      have f1 := hZ3.frozen 1
      have f2 := hZ3.frozen 2
      have f3 := hZ3.frozen 3
      have f4 := hZ3.frozen 4
      have HV3 := Lib.hid (HV2.out.keep (S' := fun b => W0.heap.size ≤ b) fun b hS hl => ⟨hb3.block b hl, hS⟩)
      obtain ⟨x0, x1, x2, x3, x4, x5⟩ := (HX.out.keep hb3).cells
      clear hb3 hZ3
      cases m with
      | false =>
        go_wp2_with fail
        refine bodyPost_ret (results_two (p := 2) (u := 3) rfl _ _ w.heap.size 71 _ (0, 0) _ rfl (set5_five0 HZ3.out _ _ _ _ _) Tryz.underlying71 rfl valSize) rfl ?_
        refine ⟨below_set5 HB3.out (Nat.le_refl _) _ _ _ _ _, ?_⟩
        rw [HM.out]
        rfl
      | true =>
        go_wp2_with fail
        refine bodyPost_ret (results_two (p := 2) (u := 3) rfl _ _ w.heap.size 71 _ (0, 0) _ rfl (set5_five0 HZ3.out _ _ _ _ _) Tryz.underlying71 rfl valSize) rfl ?_
        refine ⟨below_set5 HB3.out (Nat.le_refl _) _ _ _ _ _, ?_⟩
        rw [HM.out]
        exact ⟨_, rfl, (HV3.out.keep (S' := fun _ => True) fun b hS _ => ⟨set5_block _ _ _ _ _ _ _ _ b (by omega), trivial⟩).isVal⟩
end Go.Proofs.YtepcaglekgeamaaGreatDoor
