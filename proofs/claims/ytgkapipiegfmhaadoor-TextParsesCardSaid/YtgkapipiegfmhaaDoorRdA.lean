/-
  The program's reader: a value, by induction on what is left. Conditions: the package-level variables as TEnv says; at most 4096 bytes.
-/
import Derived.Test.YtgkapipiegfmhaaDoorRd9
namespace Go.Proofs.YtgkapipiegfmhaaDoor
open Go.RowKit

theorem rdL_word (l : List UInt8) : rdL (34 :: l) = (quoteL (34 :: l)).map fun p => (.mk 2 0 ⟨p.1.toArray⟩ [] [], p.2) := by
  unfold rdL
  rw [List.length_cons, parseL, if_pos rfl, quoteL, if_pos rfl]
theorem rdL_whole (s : List UInt8) (h : s.head? ≠ some 34 ∧ s.head? ≠ some 91 ∧ s.head? ≠ some 123) : rdL s = wholeL s := by
  cases s with
  | nil => rfl
  | cons c l =>
    simp only [List.head?_cons, ne_eq, Option.some.injEq] at h
    unfold rdL
    rw [List.length_cons, parseL, if_neg h.1, if_pos ⟨h.2.1, h.2.2⟩]
theorem headB_head (s : ByteArray) (c : UInt8) : (headB s c = true ↔ s.data.toList.head? = some c) := by unfold headB; rw [beq_iff_eq]
theorem headB_other (s : ByteArray) (c d : UInt8) (h : headB s c = true) (hd : c ≠ d) : headB s d = false := by
  rw [headB_head] at h
  cases hx : headB s d with
  | false => rfl
  | true => rw [headB_head, h] at hx; exact absurd (Option.some.inj hx) hd

set_option maxRecDepth 100000 in
set_option maxHeartbeats 4000000 in
theorem value_step (s : ByteArray) (hsz : s.size ≤ 4096) (B : Nat) (w : World) (hr : RdAt w B s) (he : TEnv w) (hB : 8 ≤ B)
    (CV : ∀ t : ByteArray, t.size < s.size → ∀ w, RdAt w B t → TEnv w → Calls Tryd.prog 16 #[.pointer (some ⟨B, 0, none⟩)] w (ValEnds B t w)) :
    Calls Tryd.prog 16 #[.pointer (some ⟨B, 0, none⟩)] w fun e w' => ValEnds B s w e w' := by
  obtain ⟨W0, hW0⟩ : ∃ W0, w.alloc (.cells #[.int .i64 0, .int .i64 0, .string ⟨#[]⟩, .slice none 0 0, .slice none 0 0] 25) = W0 := ⟨_, rfl⟩
  have hs0 : W0.heap.size = w.heap.size + 1 := by rw [← hW0]; simp
  have hbw : Below w.heap.size w W0 := by rw [← hW0]; exact below_new w _
  have hz5 : At5 W0 w.heap.size (.int .i64 0) (.int .i64 0) (.string ⟨#[]⟩) (.slice none 0 0) (.slice none 0 0) := by rw [← hW0]; exact At5.new w _ _ _ _ _
  have hr0 : RdAt W0 B s := hr.kept (hbw.block B hr.lt)
  have he0 : TEnv W0 := he.below hbw
  have HLT := Lib.hid hr.lt
  have HS0 := Lib.hid hs0
  have HZ5 := Lib.hid hz5
  have HBW := Lib.hid hbw
  have HW0 := Lib.hid hW0
  have A1 := Lib.hid (at_any B s 34 34 (by rfl) W0 hr0)
  have A2 := Lib.hid (at_any B s 91 91 (by rfl) W0 hr0)
  have A3 := Lib.hid (at_any B s 123 123 (by rfl) W0 hr0)
  have HSZ := Lib.hid hsz
  have HGZ := Lib.hid (show ∀ w2, Gone B W0 w2 → Gone B w w2 ∧ At5 w2 w.heap.size (.int .i64 0) (.int .i64 0) (.string ⟨#[]⟩) (.slice none 0 0) (.slice none 0 0) from fun w2 h =>
    ⟨(Gone.below hbw).trans h, (h.block w.heap.size (by omega) (fun e => by have := Option.some.inj e; have := hr.lt; omega)).trans hz5⟩)
  cases h34 : headB s 34 with
  | true =>
    rw [h34] at A1
    have C := Lib.hid (word_t B s W0 (by omega) hr0 he0 hB)
    have HRD := Lib.hid (show rdL s.data.toList = (quoteL s.data.toList).map fun p => (.mk 2 0 ⟨p.1.toArray⟩ [] [], p.2) by
      rw [headB_head] at h34
      cases hl : s.data.toList with
      | nil => rw [hl] at h34; cases h34
      | cons x l => rw [hl, List.head?_cons] at h34; rw [Option.some.inj h34]; exact rdL_word l)
    clear A2 A3 hr he hB CV hs0 hbw hz5 hr0 he0 hW0 hsz h34
    go_enter Tryd.func16, Tryd.ntmps16
    go_wp2_with fail
    rw [HW0.out]
    refine A1.out.mono ?_
    rintro e w1 ⟨rfl, rfl⟩
    go_wp2_with fail
    refine C.out.mono ?_
    intro e w2 hx
    have hi := hx.is
    have HGO := Lib.hid (HGZ.out w2 hx.gone).1
    have hz2 := (HGZ.out w2 hx.gone).2
    cases ho : quoteL s.data.toList with
    | none =>
      rw [ho] at hi
      obtain rfl : e = .panicked [{ v := .iface 26 (.int .i64 6), recovered := false }] := hi
      have HO := Lib.hid (show rdL s.data.toList = none by rw [HRD.out, ho]; rfl)
      clear ho hx hz2
      go_wp2_with fail
      exact ⟨rfl, ⟨HGO.out, by rw [HO.out]; rfl⟩⟩
    | some p =>
      rw [ho] at hi
      obtain ⟨rfl, hrd⟩ := hi
      have HR2 := Lib.hid hrd
      have HO := Lib.hid (show rdL s.data.toList = some (.mk 2 0 ⟨p.1.toArray⟩ [] [], p.2) by rw [HRD.out, ho]; rfl)
      have hks : (⟨p.1.toArray⟩ : ByteArray).size ≤ maxLen := by
        have h1 := quoteL_short _ _ ho
        have h2 := Lib.size_eq s
        have h3 := HSZ.out
        rw [Lib.size_eq]
        simp only [maxLen]
        omega
      obtain ⟨x, hxk⟩ : ∃ x : ByteArray, (⟨p.1.toArray⟩ : ByteArray) = x := ⟨_, rfl⟩
      rw [hxk] at HO hks ⊢
      have HV := Lib.hid (ValIn.plain (fun b => w.heap.size + 1 ≤ b) w2 2 0 x (by decide) (by decide) hks)
      have HZ2 := Lib.hid hz2
      obtain ⟨z0, z1, z2, z3, z4⟩ := hz2.cells
      have f0 := hz2.frozen 0
      have f1 := hz2.frozen 1
      have f2 := hz2.frozen 2
      have f3 := hz2.frozen 3
      have f4 := hz2.frozen 4
      clear ho hx hz2 hrd hks hxk
      go_wp2_with fail
      exact bodyPost_ret (results_cell_row (p := 2) rfl _ _ w.heap.size 25 _ (0, 0) _ rfl (set5_five0 HZ2.out _ _ _ _ _) Tryd.underlying25 rfl valSize) rfl (val_done (Nat.le_refl _) (Nat.lt_succ_self _) HLT.out HGO.out HR2.out HV.out HO.out)
  | false =>
    rw [h34] at A1
    cases h91 : headB s 91 with
    | true =>
      rw [h91] at A2
      have C := Lib.hid (row_t B s W0 hr0 he0 hB hsz h91 CV)
      clear A3 h34 h91 hr he hB CV hs0 hbw hz5 hr0 he0 hW0 hsz
      go_enter Tryd.func16, Tryd.ntmps16
      go_wp2_with fail
      rw [HW0.out]
      refine A1.out.mono ?_
      rintro e w1 ⟨rfl, rfl⟩
      go_wp2_with fail
      refine A2.out.mono ?_
      rintro e w1 ⟨rfl, rfl⟩
      go_wp2_with fail
      refine C.out.mono ?_
      intro e w2 hx
      have hi := hx.is
      have HGO := Lib.hid (HGZ.out w2 hx.gone).1
      have hz2 := (HGZ.out w2 hx.gone).2
      cases ho : rdL s.data.toList with
      | none =>
        rw [ho] at hi
        obtain rfl : e = .panicked [{ v := .iface 26 (.int .i64 6), recovered := false }] := hi
        have HO := Lib.hid ho
        clear ho hx hz2
        go_wp2_with fail
        exact ⟨rfl, ⟨HGO.out, by rw [HO.out]; rfl⟩⟩
      | some p =>
        rw [ho] at hi
        obtain ⟨v, rfl, hv, hrd⟩ := hi
        obtain ⟨xk, xn, xs', xia, xna, xli, xic, xnn, xnc, rfl⟩ := hv.isVal.shape
        rw [HS0.out] at hv
        have HR2 := Lib.hid hrd
        have HO := Lib.hid (show rdL s.data.toList = some (p.1, p.2) from ho)
        have HV := Lib.hid hv
        have HZ2 := Lib.hid hz2
        obtain ⟨z0, z1, z2, z3, z4⟩ := hz2.cells
        have f0 := hz2.frozen 0
        have f1 := hz2.frozen 1
        have f2 := hz2.frozen 2
        have f3 := hz2.frozen 3
        have f4 := hz2.frozen 4
        clear ho hx hz2 hrd hv
        go_wp2_with fail
        exact bodyPost_ret (results_cell_row (p := 2) rfl _ _ w.heap.size 25 _ (0, 0) _ rfl (set5_five0 HZ2.out _ _ _ _ _) Tryd.underlying25 rfl valSize) rfl (val_done (Nat.le_refl _) (Nat.lt_succ_self _) HLT.out HGO.out HR2.out HV.out HO.out)
    | false =>
      rw [h91] at A2
      cases h123 : headB s 123 with
      | true =>
        rw [h123] at A3
        have C := Lib.hid (object_t B s W0 hr0 he0 hB hsz h123 CV)
        clear h34 h91 h123 hr he hB CV hs0 hbw hz5 hr0 he0 hW0 hsz
        go_enter Tryd.func16, Tryd.ntmps16
        go_wp2_with fail
        rw [HW0.out]
        refine A1.out.mono ?_
        rintro e w1 ⟨rfl, rfl⟩
        go_wp2_with fail
        refine A2.out.mono ?_
        rintro e w1 ⟨rfl, rfl⟩
        go_wp2_with fail
        refine A3.out.mono ?_
        rintro e w1 ⟨rfl, rfl⟩
        go_wp2_with fail
        refine C.out.mono ?_
        intro e w2 hx
        have hi := hx.is
        have HGO := Lib.hid (HGZ.out w2 hx.gone).1
        have hz2 := (HGZ.out w2 hx.gone).2
        cases ho : rdL s.data.toList with
        | none =>
          rw [ho] at hi
          obtain rfl : e = .panicked [{ v := .iface 26 (.int .i64 6), recovered := false }] := hi
          have HO := Lib.hid ho
          clear ho hx hz2
          go_wp2_with fail
          exact ⟨rfl, ⟨HGO.out, by rw [HO.out]; rfl⟩⟩
        | some p =>
          rw [ho] at hi
          obtain ⟨v, rfl, hv, hrd⟩ := hi
          obtain ⟨xk, xn, xs', xia, xna, xli, xic, xnn, xnc, rfl⟩ := hv.isVal.shape
          rw [HS0.out] at hv
          have HR2 := Lib.hid hrd
          have HO := Lib.hid (show rdL s.data.toList = some (p.1, p.2) from ho)
          have HV := Lib.hid hv
          have HZ2 := Lib.hid hz2
          obtain ⟨z0, z1, z2, z3, z4⟩ := hz2.cells
          have f0 := hz2.frozen 0
          have f1 := hz2.frozen 1
          have f2 := hz2.frozen 2
          have f3 := hz2.frozen 3
          have f4 := hz2.frozen 4
          clear ho hx hz2 hrd hv
          go_wp2_with fail
          exact bodyPost_ret (results_cell_row (p := 2) rfl _ _ w.heap.size 25 _ (0, 0) _ rfl (set5_five0 HZ2.out _ _ _ _ _) Tryd.underlying25 rfl valSize) rfl (val_done (Nat.le_refl _) (Nat.lt_succ_self _) HLT.out HGO.out HR2.out HV.out HO.out)
      | false =>
        rw [h123] at A3
        have C := Lib.hid (whole_t B s W0 (by omega) hr0 he0)
        have HRD := Lib.hid (show rdL s.data.toList = wholeL s.data.toList from rdL_whole _ ⟨(fun e => by rw [← headB_head, h34] at e; cases e), (fun e => by rw [← headB_head, h91] at e; cases e), (fun e => by rw [← headB_head, h123] at e; cases e)⟩)
        clear hr he hB CV hs0 hbw hz5 hr0 he0 hW0 hsz h34 h91 h123
        go_enter Tryd.func16, Tryd.ntmps16
        go_wp2_with fail
        rw [HW0.out]
        refine A1.out.mono ?_
        rintro e w1 ⟨rfl, rfl⟩
        go_wp2_with fail
        refine A2.out.mono ?_
        rintro e w1 ⟨rfl, rfl⟩
        go_wp2_with fail
        refine A3.out.mono ?_
        rintro e w1 ⟨rfl, rfl⟩
        go_wp2_with fail
        refine C.out.mono ?_
        intro e w2 hx
        have hi := hx.is
        have HGO := Lib.hid (HGZ.out w2 hx.gone).1
        have hz2 := (HGZ.out w2 hx.gone).2
        cases ho : wholeL s.data.toList with
        | none =>
          rw [ho] at hi
          obtain rfl : e = .panicked [{ v := .iface 26 (.int .i64 6), recovered := false }] := hi
          have HO := Lib.hid (show rdL s.data.toList = none by rw [HRD.out, ho])
          clear ho hx hz2
          go_wp2_with fail
          exact ⟨rfl, ⟨HGO.out, by rw [HO.out]; rfl⟩⟩
        | some p =>
          rw [ho] at hi
          obtain ⟨m, hp1, n0, n1, rfl, hrd⟩ := hi
          have HR2 := Lib.hid hrd
          have HO := Lib.hid (show rdL s.data.toList = some (.mk 1 m ⟨#[]⟩ [] [], p.2) by rw [HRD.out, ho, ← hp1])
          have HV := Lib.hid (ValIn.plain (fun b => w.heap.size + 1 ≤ b) w2 1 m ⟨#[]⟩ (by decide) ⟨n0, n1⟩ (by decide))
          have HZ2 := Lib.hid hz2
          obtain ⟨z0, z1, z2, z3, z4⟩ := hz2.cells
          have f0 := hz2.frozen 0
          have f1 := hz2.frozen 1
          have f2 := hz2.frozen 2
          have f3 := hz2.frozen 3
          have f4 := hz2.frozen 4
          clear ho hx hz2 hrd hp1 n0 n1
          go_wp2_with fail
          exact bodyPost_ret (results_cell_row (p := 2) rfl _ _ w.heap.size 25 _ (0, 0) _ rfl (set5_five0 HZ2.out _ _ _ _ _) Tryd.underlying25 rfl valSize) rfl (val_done (Nat.le_refl _) (Nat.lt_succ_self _) HLT.out HGO.out HR2.out HV.out HO.out)

set_option maxRecDepth 100000 in
set_option maxHeartbeats 4000000 in
theorem value_go : ∀ (n : Nat) (s : ByteArray), s.size ≤ n → s.size ≤ 4096 → ∀ (B : Nat) (w : World), RdAt w B s → TEnv w → 8 ≤ B →
    Calls Tryd.prog 16 #[.pointer (some ⟨B, 0, none⟩)] w fun e w' => ValEnds B s w e w' := by
  intro n
  induction n with
  | zero =>
    intro s hs
    intro hsz B w hr he hB
    exact value_step s hsz B w hr he hB (fun t ht => absurd ht (by omega))
  | succ n ih =>
    intro s hs hsz B w hr he hB
    exact value_step s hsz B w hr he hB (fun t ht w hr he => ih t (by omega) (by omega) B w hr he hB)
end Go.Proofs.YtgkapipiegfmhaaDoor
