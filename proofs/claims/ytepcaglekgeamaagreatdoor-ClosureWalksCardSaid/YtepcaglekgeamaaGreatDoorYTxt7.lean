/-
  The program's Parse: what a text is read as, its panics recovered. Conditions: the package-level variables as TEnv says.
  The program's Parse by a contract: its panics are recovered. Conditions: the package-level variables as TEnv says.
  The program's Parse by a contract. Conditions: the package-level variables as TEnv says.
-/
import Derived.Test.YtepcaglekgeamaaGreatDoorYTxt5
import Derived.Test.YtepcaglekgeamaaGreatDoorYTxt6
import Derived.Defers
import Derived.Recover
namespace Go.Proofs.YtepcaglekgeamaaGreatDoor
open Go.RowKit

structure ReadEnds (s : ByteArray) (w : World) (e : Ending) (w' : World) : Prop where
  below : Below w.heap.size w w'
  is : if 4096 < s.size then e = stop 2 else match parseV s with
    | some T => ∃ v, e = .returned v ∧ ValIn (fun b => w.heap.size ≤ b) w' v T
    | none => e = stop 6

theorem parseV_rdL (s : ByteArray) : parseV s = match rdL s.data.toList with | some (T, []) => if mayV 6 T then some T else none | _ => none := by
  unfold parseV rdL
  rw [Lib.size_eq]
  cases parseL (s.data.toList.length + 1) s.data.toList with
  | none => rfl
  | some p =>
    obtain ⟨T, r⟩ := p
    cases r <;> rfl

set_option maxRecDepth 100000 in
set_option maxHeartbeats 4000000 in
theorem read_t (s : ByteArray) (w : World) (he : TEnv w) (hs : s.size ≤ maxLen) :
    Calls Tryz.prog 99 #[.string s] w fun e w' => ReadEnds s w e w' := by
  unfold maxLen at hs
  by_cases hl : 4096 < s.size
  · have h1 : (4096 : Int) < (s.size : Int) := by omega
    have HB := Lib.hid (below_new w (.cells #[.int .i64 0, .int .i64 0, .string ⟨#[]⟩, .slice none 0 0, .slice none 0 0] 71))
    have HL := Lib.hid hl
    clear he
    go_enter Tryz.func99, Tryz.ntmps99
    go_wp2_with fail
    exact ⟨rfl, ⟨HB.out, by rw [if_pos HL.out]; rfl⟩⟩
  · have h1 : ¬ (4096 : Int) < (s.size : Int) := by omega
    have HL := Lib.hid hl
    have hB : 13 ≤ w.heap.size + 1 := by have := he.size; omega
    obtain ⟨W0, hW0⟩ : ∃ W0, (w.alloc (.cells #[.int .i64 0, .int .i64 0, .string ⟨#[]⟩, .slice none 0 0, .slice none 0 0] 71)).alloc (.cells #[.string s] 163) = W0 := ⟨_, rfl⟩
    have hq1 : ∀ o, (w.alloc o).heap.size = w.heap.size + 1 := fun o => by simp
    have hs0 : W0.heap.size = w.heap.size + 2 := by rw [← hW0]; simp
    have hbw : Below w.heap.size w W0 := by rw [← hW0]; exact ((Below.refl _ _).alloc (Nat.le_refl _) _).alloc (by simp) _
    have hr0 : RdAt W0 (w.heap.size + 1) s := by
      rw [← hW0]
      have e := RdAt.new (w.alloc (.cells #[.int .i64 0, .int .i64 0, .string ⟨#[]⟩, .slice none 0 0, .slice none 0 0] 71)) s
      rw [hq1] at e
      exact e
    have hz5 : At5 W0 w.heap.size (.int .i64 0) (.int .i64 0) (.string ⟨#[]⟩) (.slice none 0 0) (.slice none 0 0) := by
      rw [← hW0]
      exact (Below.heap_alloc _ _ _ (by rw [hq1]; omega)).trans (At5.new w _ _ _ _ _)
    have C := Lib.hid (value_go s.size s (Nat.le_refl _) (by omega) (w.heap.size + 1) W0 hr0 (he.below hbw) hB)
    have HW0 := Lib.hid hW0
    have HS0 := Lib.hid hs0
    have HGZ := Lib.hid (show ∀ w2, Gone (w.heap.size + 1) W0 w2 → Below w.heap.size w w2 ∧ w.heap.size + 2 ≤ w2.heap.size ∧ At5 w2 w.heap.size (.int .i64 0) (.int .i64 0) (.string ⟨#[]⟩) (.slice none 0 0) (.slice none 0 0) from fun w2 h =>
      ⟨hbw.trans ((h.to (N := w.heap.size) (by omega) (by omega)).mono (Nat.le_refl _)), by have := h.size; omega, (h.block w.heap.size (by omega) (fun e => by have := Option.some.inj e; omega)).trans hz5⟩)
    have HP := Lib.hid (parseV_rdL s)
    clear hW0 he hB hq1 hs0 hbw hr0 hz5 hl
    go_enter Tryz.func99, Tryz.ntmps99
    go_wp2_with fail
    rw [HW0.out]
    clear HW0
    refine C.out.mono ?_
    intro e w2 hx
    have hi := hx.is
    obtain ⟨hb2, hsz2, hz2⟩ := HGZ.out w2 hx.gone
    have HB2 := Lib.hid hb2
    have HSZ2 := Lib.hid hsz2
    cases ho : rdL s.data.toList with
    | none =>
      rw [ho] at hi
      obtain rfl : e = .panicked [{ v := .iface 24 (.int .i64 6), recovered := false }] := hi
      have HO := Lib.hid (show parseV s = none by rw [HP.out, ho])
      clear ho hx hz2 hb2 hsz2
      go_wp2_with fail
      exact ⟨rfl, ⟨HB2.out, by rw [if_neg HL.out, HO.out]; rfl⟩⟩
    | some p =>
      obtain ⟨T, r⟩ := p
      rw [ho] at hi
      obtain ⟨v, rfl, hv, hrd⟩ := hi
      obtain ⟨xk, xn, xs', xia, xna, xli, xic, xnn, xnc, rfl⟩ := hv.isVal.shape
      rw [HS0.out] at hv
      have rc := hrd.cell
      have HZ2 := Lib.hid hz2
      have b3 := below_new w2 (.cells #[.int .i64 xk, .int .i64 xn, .string xs', .slice xia xli xic, .slice xna xnn xnc] 71)
      have B3 := Lib.hid b3
      have HV3 := Lib.hid (At5.new w2 (.int .i64 xk) (.int .i64 xn) (.string xs') (.slice xia xli xic) (.slice xna xnn xnc))
      have HV := Lib.hid hv
      have hra : ∀ o, (w2.alloc o).cell? ⟨w.heap.size + 1, 0, none⟩ = some (.string ⟨r.toArray⟩) := fun o => ((below_new w2 o).cell (World.block_lt_of_cell? _ _ rc)).trans rc
      cases r with
      | cons x l =>
        have hne := not_nil ⟨(x :: l).toArray⟩ x l rfl
        obtain ⟨e1, e2⟩ := hne
        have HO := Lib.hid (show parseV s = none by rw [HP.out, ho])
        obtain ⟨rs, hrs⟩ : ∃ rs : ByteArray, (⟨(x :: l).toArray⟩ : ByteArray) = rs := ⟨_, rfl⟩
        rw [hrs] at e1 e2 rc hra
        clear ho hx hz2 hb2 hsz2 hv hrd b3 hrs
        go_wp2_with fail
        exact ⟨rfl, ⟨HB2.out.trans (B3.out.mono (by have := HSZ2.out; omega)), by rw [if_neg HL.out, HO.out]; rfl⟩⟩
      | nil =>
        have RT := Lib.hid (rightT_any T _ (w2.alloc (.cells #[.int .i64 xk, .int .i64 xn, .string xs', .slice xia xli xic, .slice xna xnn xnc] 71)) (hv.isVal.keep b3))
        obtain ⟨b, hb⟩ : ∃ b, mayV 6 T = b := ⟨_, rfl⟩
        rw [hb] at RT
        have HPV := Lib.hid (show parseV s = if b then some T else none by rw [HP.out, ho, ← hb])
        obtain ⟨a0, a1, a2, a3, a4⟩ := HV3.out.cells
        clear ho hx hz2 hb2 hsz2 hv hrd b3 hb
        go_wp2_with fail
        refine RT.out.mono ?_
        rintro e w4 ⟨rfl, hb4⟩
        have B4 := Lib.hid (B3.out.trans (hb4.mono (by simp)))
        have HV4 := Lib.hid (HV3.out.keep hb4)
        obtain ⟨d0, d1, d2, d3, d4⟩ := HV4.out.cells
        have hz4 := HZ2.out.keep B4.out
        have HZ4 := Lib.hid hz4
        obtain ⟨z0, z1, z2, z3, z4⟩ := hz4.cells
        have f0 := hz4.frozen 0
        have f1 := hz4.frozen 1
        have f2 := hz4.frozen 2
        have f3 := hz4.frozen 3
        have f4 := hz4.frozen 4
        clear hb4 hz4 a0 a1 a2 a3 a4
        cases b with
        | false =>
          go_wp2_with fail
          exact ⟨rfl, ⟨HB2.out.trans (B4.out.mono (by have := HSZ2.out; omega)), by rw [if_neg HL.out, HPV.out]; rfl⟩⟩
        | true =>
          go_wp2_with fail
          refine bodyPost_ret (results_cell_row (p := 2) rfl _ _ w.heap.size 71 _ (0, 0) _ rfl (set5_five0 HZ4.out _ _ _ _ _) Tryz.underlying71 rfl valSize) rfl ?_
          have hb := HB2.out.trans (B4.out.mono (by have := HSZ2.out; omega))
          obtain ⟨s1, s2, s3⟩ := set5_rest w4 w.heap.size 0 (.int .i64 xk) (.int .i64 xn) (.string xs') (.slice xia xli xic) (.slice xna xnn xnc)
          show ReadEnds s w _ (set5 w4 w.heap.size 0 (.int .i64 xk) (.int .i64 xn) (.string xs') (.slice xia xli xic) (.slice xna xnn xnc))
          refine ⟨⟨s1.trans hb.os, s2.trans hb.tape, s3.trans hb.output, by rw [set5_size]; exact hb.size, fun k hk => ?_⟩, ?_⟩
          · rw [set5_block _ _ _ _ _ _ _ _ k (by omega)]
            exact hb.block k hk
          · rw [if_neg HL.out, HPV.out]
            exact ⟨_, rfl, HV.out.keep fun k hS hl => ⟨(set5_block _ _ _ _ _ _ _ _ k (by omega)).trans (B4.out.block k hl), by omega⟩⟩
end Go.Proofs.YtepcaglekgeamaaGreatDoor
namespace Go.Proofs.YtepcaglekgeamaaGreatDoor
open Go.RowKit

def NoAt (w : World) (E : Nat) (k : Int) : Prop := w.heap[E]? = some (.cells #[.int .i64 k] 24 (0, 0))

theorem NoAt.cell {w : World} {E : Nat} {k : Int} (h : NoAt w E k) : w.cell? ⟨E, 0, none⟩ = some (.int .i64 k) := by unfold NoAt at h; simp [World.cell?, h]

theorem NoAt.frozen {w : World} {E : Nat} {k : Int} (h : NoAt w E k) : w.frozen? ⟨E, 0, none⟩ = false := by unfold NoAt at h; simp [World.frozen?, h]

theorem NoAt.set {w : World} {E : Nat} {k : Int} (h : NoAt w E k) (m : Int) : NoAt (w.setCell ⟨E, 0, none⟩ (.int .i64 m)) E m := by
  unfold NoAt at h ⊢
  show (w.heap.modify E _)[E]? = _
  rw [Array.getElem?_modify, if_pos rfl, h]
  rfl

theorem assert_no (v : Value) (w : World) : (Instr.typeAssert (.iface 24 v) 20 24 false).run Tryz.prog w = .ok v w := by
  simp [Instr.typeAssert, go_sem]

theorem caught (E : Nat) (k m : Int) (older : List PanicEntry) (w : World) (h : NoAt w E m) :
    CallsD Tryz.prog 84 #[.pointer (some ⟨E, 0, none⟩)] (.panicking ({ v := .iface 24 (.int .i64 k), recovered := false } :: older)) w fun e u' w' =>
      e = .returned (.tuple #[]) ∧ u' = .panicking ({ v := .iface 24 (.int .i64 k), recovered := true } :: older) ∧ w' = w.setCell ⟨E, 0, none⟩ (.int .i64 k) := by
  have hc := h.cell
  have hz := h.frozen
  have ha := assert_no (.int .i64 k)
  refine callsD_of_wpS Tryz.func84 rfl fun c₀ cs hu => ?_
  apply wpS_seq
  apply wpS_region
  simp [wpOpsS, go_sem, recoverD, hu, Tryz.ntmps84, Exit.thenS]
  apply wpS_seq
  apply wpS_region
  simp [wpOpsS, go_sem, recoverD, Exit.thenS]
  refine wpS_cond (t := true) (by simp [Act.eval, Array.replicate]) ?_
  simp only [if_true]
  apply wpS_region
  simp [wpOpsS, go_sem, ha, hc, hz, bodyPostS, results, Tryz.results84]

theorem idle (E : Nat) (w : World) :
    CallsD Tryz.prog 84 #[.pointer (some ⟨E, 0, none⟩)] .returning w fun e u' w' => e = .returned (.tuple #[]) ∧ u' = .returning ∧ w' = w := by
  refine callsD_of_wpS Tryz.func84 rfl fun c₀ cs hu => ?_
  apply wpS_seq
  apply wpS_region
  simp [wpOpsS, go_sem, recoverD, hu, Tryz.ntmps84, Exit.thenS]
  apply wpS_seq
  apply wpS_region
  simp [wpOpsS, go_sem, recoverD, Exit.thenS]
  refine wpS_cond (t := false) (by simp [Act.eval, Array.replicate]) ?_
  simp only [Bool.false_eq_true, if_false]
  refine wpS_of_wp (wp_skip ?_)
  cases c₀
  simp_all [bodyPostS, results, Tryz.results84]

def StrAt (w : World) (S : Nat) (s : ByteArray) : Prop := w.heap[S]? = some (.cells #[.string s] 9 (0, 0))

theorem StrAt.cell {w : World} {S : Nat} {s : ByteArray} (h : StrAt w S s) : w.cell? ⟨S, 0, none⟩ = some (.string s) := by unfold StrAt at h; simp [World.cell?, h]

structure StepEnds (V : Nat) (s : ByteArray) (w : World) (e : Ending) (w' : World) : Prop where
  gone : Gone V w w'
  is : if 4096 < s.size then e = stop 2 else match parseV s with
    | some T => e = .returned (.tuple #[]) ∧ ∃ a b c d f, At5 w' V a b c d f ∧ ValIn (fun k => w.heap.size ≤ k) w' (.agg #[a, b, c, d, f]) T
    | none => e = stop 6

set_option maxRecDepth 100000 in
set_option maxHeartbeats 4000000 in
theorem parse1_t (S V : Nat) (s : ByteArray) (a b c d f : Value) (w : World) (he : TEnv w) (hs : s.size ≤ maxLen) (hS : StrAt w S s) (hV : At5 w V a b c d f) :
    Calls Tryz.prog 98 #[.pointer (some ⟨S, 0, none⟩), .pointer (some ⟨V, 0, none⟩)] w fun e w' => StepEnds V s w e w' := by
  have hc := hS.cell
  have C := Lib.hid (read_t s w he hs)
  have HV := Lib.hid hV
  clear he hs hS hV
  go_enter Tryz.func98, Tryz.ntmps98
  go_wp2_with fail
  refine C.out.mono ?_
  intro e w2 hx
  have hi := hx.is
  have HB := Lib.hid hx.below
  have hV2 := HV.out.keep hx.below
  have HV2 := Lib.hid hV2
  clear hx
  by_cases hl : 4096 < s.size
  · rw [if_pos hl] at hi
    obtain rfl : e = .panicked [{ v := .iface 24 (.int .i64 2), recovered := false }] := hi
    have HL := Lib.hid hl
    clear hl hV2
    go_wp2_with fail
    exact ⟨rfl, ⟨Gone.below HB.out, by rw [if_pos HL.out]; rfl⟩⟩
  · rw [if_neg hl] at hi
    have HL := Lib.hid hl
    cases ho : parseV s with
    | none =>
      rw [ho] at hi
      obtain rfl : e = .panicked [{ v := .iface 24 (.int .i64 6), recovered := false }] := hi
      have HO := Lib.hid ho
      clear hl hV2 ho
      go_wp2_with fail
      exact ⟨rfl, ⟨Gone.below HB.out, by rw [if_neg HL.out, HO.out]; rfl⟩⟩
    | some T =>
      rw [ho] at hi
      obtain ⟨v, rfl, hv⟩ := hi
      obtain ⟨xk, xn, xs', xia, xna, xli, xic, xnn, xnc, rfl⟩ := hv.isVal.shape
      have HO := Lib.hid ho
      have HVI := Lib.hid hv
      obtain ⟨z0, z1, z2, z3, z4⟩ := hV2.cells
      have f0 := hV2.frozen 0
      have f1 := hV2.frozen 1
      have f2 := hV2.frozen 2
      have f3 := hV2.frozen 3
      have f4 := hV2.frozen 4
      have HVL := Lib.hid HV.out.lt
      clear hl hV2 ho hv
      go_wp2_with fail
      go_end0
      show StepEnds V s w _ (set5 w2 V 0 (.int .i64 xk) (.int .i64 xn) (.string xs') (.slice xia xli xic) (.slice xna xnn xnc))
      obtain ⟨s1, s2, s3⟩ := set5_rest w2 V 0 (.int .i64 xk) (.int .i64 xn) (.string xs') (.slice xia xli xic) (.slice xna xnn xnc)
      have hb := HB.out
      refine ⟨⟨s1.trans hb.os, s2.trans hb.tape, s3.trans hb.output, by rw [set5_size]; exact hb.size, fun k hk h1 => ?_⟩, ?_⟩
      · rw [set5_block _ _ _ _ _ _ _ _ k (fun e => h1 (by rw [e]))]
        exact hb.block k hk
      · rw [if_neg HL.out, HO.out]
        exact ⟨rfl, _, _, _, _, _, set5_five0 HV2.out _ _ _ _ _, HVI.out.keep fun k hS hl => ⟨set5_block _ _ _ _ _ _ _ _ k (fun e => by have := HVL.out; omega), hS⟩⟩

structure RefusedEnds (V : Nat) (s : ByteArray) (w : World) (e : Ending) (w' : World) : Prop where
  gone : Gone V w w'
  is : if 4096 < s.size then e = .returned (.int .i64 2) else match parseV s with
    | some T => e = .returned (.int .i64 0) ∧ ∃ a b c d f, At5 w' V a b c d f ∧ ValIn (fun k => w.heap.size ≤ k) w' (.agg #[a, b, c, d, f]) T
    | none => e = .returned (.int .i64 6)

set_option maxRecDepth 100000 in
set_option maxHeartbeats 4000000 in
theorem refused_parse (S V : Nat) (s : ByteArray) (a b c d f : Value) (w : World) (he : TEnv w) (hs : s.size ≤ maxLen) (hS : StrAt w S s) (hV : At5 w V a b c d f) :
    Calls Tryz.prog 60 #[.func (.func 98) #[] #[.pointer (some ⟨S, 0, none⟩), .pointer (some ⟨V, 0, none⟩)]] w fun e w' => RefusedEnds V s w e w' := by
  have hmf : ∀ (fn : Fn) (first cap : Array Value) (w : World), (Instr.makeFunc fn first cap).run Tryz.prog w = .ok (.func fn first cap) w := fun _ _ _ _ => rfl
  have hb0 := below_new w (.cells #[.int .i64 0] 24)
  have hSl : S < w.heap.size := (Array.getElem?_eq_some_iff.1 hS).1
  have C := Lib.hid (parse1_t S V s a b c d f (w.alloc (.cells #[.int .i64 0] 24)) (he.below hb0) hs ((hb0.block S hSl).trans hS) (hV.keep hb0))
  have HB0 := Lib.hid hb0
  have HVL := Lib.hid hV.lt
  have HE0 := Lib.hid (show NoAt (w.alloc (.cells #[.int .i64 0] 24)) w.heap.size 0 from heap_alloc_new w _)
  clear he hs hS hV hb0 hSl
  go_enter_defers Tryz.func60, Tryz.ntmps60
  go_wp2_with fail
  refine C.out.mono ?_
  intro e w2 hx
  have hi := hx.is
  have HG := Lib.hid ((Gone.below (B := V) HB0.out).trans hx.gone)
  have hE2 : NoAt w2 w.heap.size 0 := (hx.gone.block w.heap.size (by simp) (fun e => by have := Option.some.inj e; have := HVL.out; omega)).trans HE0.out
  have HE2 := Lib.hid hE2
  have ec := hE2.cell
  have ez := hE2.frozen
  have HF := Lib.hid (show ∀ m, Gone V w (w2.setCell ⟨w.heap.size, 0, none⟩ (.int .i64 m)) from fun m =>
    ⟨HG.out.os, HG.out.tape, HG.out.output, by rw [setCell_size]; exact HG.out.size, fun k hk h1 => (Below.heap_setCell _ _ _ _ (Nat.ne_of_lt hk)).trans (HG.out.block k hk h1)⟩)
  clear hx
  by_cases hl : 4096 < s.size
  · rw [if_pos hl] at hi
    obtain rfl : e = .panicked [{ v := .iface 24 (.int .i64 2), recovered := false }] := hi
    have HL := Lib.hid hl
    clear hl hE2
    have e3 := (HE2.out.set 2).cell
    go_wp2_with fail
    refine leaves_cons (f := 84) (args := #[.pointer (some ⟨w.heap.size, 0, none⟩)]) (by simp) (by simp [go_sem]) ?_
    refine (caught w.heap.size 2 0 [] w2 HE2.out).mono ?_
    rintro e u' w'' ⟨rfl, rfl, rfl⟩
    refine ⟨.int .i64 2, by simp [results, Tryz.results60, go_sem, e3], ?_⟩
    exact ⟨HF.out 2, by rw [if_pos HL.out]⟩
  · rw [if_neg hl] at hi
    have HL := Lib.hid hl
    cases ho : parseV s with
    | none =>
      rw [ho] at hi
      obtain rfl : e = .panicked [{ v := .iface 24 (.int .i64 6), recovered := false }] := hi
      have HO := Lib.hid ho
      clear hl hE2 ho
      have e3 := (HE2.out.set 6).cell
      go_wp2_with fail
      refine leaves_cons (f := 84) (args := #[.pointer (some ⟨w.heap.size, 0, none⟩)]) (by simp) (by simp [go_sem]) ?_
      refine (caught w.heap.size 6 0 [] w2 HE2.out).mono ?_
      rintro e u' w'' ⟨rfl, rfl, rfl⟩
      refine ⟨.int .i64 6, by simp [results, Tryz.results60, go_sem, e3], ?_⟩
      exact ⟨HF.out 6, by rw [if_neg HL.out, HO.out]⟩
    | some T =>
      rw [ho] at hi
      obtain ⟨rfl, xa, xb, xc, xd, xf, h5, hv⟩ := hi
      have HO := Lib.hid ho
      have H5 := Lib.hid h5
      have HV := Lib.hid hv
      have e3 := (HE2.out.set 0).cell
      clear hl hE2 ho h5 hv
      go_wp2_with fail
      refine leaves_cons (f := 84) (args := #[.pointer (some ⟨w.heap.size, 0, none⟩)]) (by simp) (by simp [go_sem]) ?_
      refine (idle w.heap.size _).mono ?_
      rintro e u' w'' ⟨rfl, rfl, rfl⟩
      refine ⟨.int .i64 0, by simp [results, Tryz.results60, go_sem, e3], HF.out 0, ?_⟩
      rw [if_neg HL.out, HO.out]
      have hVE : V ≠ w.heap.size := by have := HVL.out; omega
      refine ⟨rfl, xa, xb, xc, xd, xf, (Below.heap_setCell _ _ _ _ hVE).trans H5.out, HV.out.keep fun k hS _ => ?_⟩
      simp only [World.size_alloc] at hS
      exact ⟨Below.heap_setCell _ _ _ _ (by show k ≠ w.heap.size; omega), by omega⟩
end Go.Proofs.YtepcaglekgeamaaGreatDoor
namespace Go.Proofs.YtepcaglekgeamaaGreatDoor
open Go.RowKit

def noVal : Value := .agg #[.int .i64 0, .int .i64 0, .string ⟨#[]⟩, .slice none 0 0, .slice none 0 0]

structure ParseEnds (s : ByteArray) (w : World) (e : Ending) (w' : World) : Prop where
  below : Below w.heap.size w w'
  is : if 4096 < s.size then e = .returned (.tuple #[noVal, .int .i64 2]) else match parseV s with
    | some T => ∃ v, e = .returned (.tuple #[v, .int .i64 0]) ∧ IsVal w' v T
    | none => e = .returned (.tuple #[noVal, .int .i64 6])

theorem results_two {P : Program} {fn : Func} {p u : Tmp} {ty : TypeId} (h : fn.results = #[.cell p ty, .tmp u]) (tmps : Array Value) (w : World) (g : Nat) (t : TypeId) (cs : Array Value) (fr : Nat × Nat) (d : TypeDesc)
    (hp : tmps.getD p undef = .pointer (some ⟨g, 0, none⟩)) (hg : w.heap[g]? = some (.cells cs t fr))
    (hu : P.underlying ty = some d) (hd : (match d with | .struct _ | .array _ _ => true | _ => false) = true) (hi : (P.info? ty).map (·.size) = some cs.size) :
    (results fn tmps).run P w = .ok (.tuple #[.agg cs, tmps.getD u undef]) w := by
  rw [results_cell_tmp h, hp]
  simp [asAddr, run_loadVar_row w g t ty cs fr d hg hu hd hi]

set_option maxRecDepth 100000 in
set_option maxHeartbeats 4000000 in
theorem Parse_t (s : ByteArray) (w : World) (he : TEnv w) (hs : s.size ≤ maxLen) :
    Calls Tryz.prog 76 #[.string s] w fun e w' => ParseEnds s w e w' := by
  have hmf : ∀ (fn : Fn) (first cap : Array Value) (w : World), (Instr.makeFunc fn first cap).run Tryz.prog w = .ok (.func fn first cap) w := fun _ _ _ _ => rfl
  obtain ⟨W0, hW0⟩ : ∃ W0, ((w.alloc (.cells #[.string s] 9)).alloc (.cells #[.int .i64 0, .int .i64 0, .string ⟨#[]⟩, .slice none 0 0, .slice none 0 0] 71)).alloc (.cells #[.int .i64 0, .int .i64 0, .string ⟨#[]⟩, .slice none 0 0, .slice none 0 0] 71) = W0 := ⟨_, rfl⟩
  have hs0 : W0.heap.size = w.heap.size + 3 := by rw [← hW0]; simp
  have hq1 : ∀ o, (w.alloc o).heap.size = w.heap.size + 1 := fun o => by simp
  have hq2 : ∀ o o', ((w.alloc o).alloc o').heap.size = w.heap.size + 1 + 1 := fun o o' => by simp
  have hbw : Below w.heap.size w W0 := by
    rw [← hW0]
    exact (((Below.refl _ _).alloc (Nat.le_refl _) _).alloc (by simp) _).alloc (by simp; omega) _
  have hS : StrAt W0 w.heap.size s := by
    rw [← hW0]
    exact (Below.heap_alloc _ _ _ (by rw [hq2]; omega)).trans ((Below.heap_alloc _ _ _ (by rw [hq1]; omega)).trans (heap_alloc_new w _))
  have hz5 : At5 W0 (w.heap.size + 1) (.int .i64 0) (.int .i64 0) (.string ⟨#[]⟩) (.slice none 0 0) (.slice none 0 0) := by
    rw [← hW0]
    have e := heap_alloc_new (w.alloc (.cells #[.string s] 9)) (.cells #[.int .i64 0, .int .i64 0, .string ⟨#[]⟩, .slice none 0 0, .slice none 0 0] 71)
    rw [hq1] at e
    exact (Below.heap_alloc _ _ _ (by rw [hq2]; omega)).trans e
  have hV5 : At5 W0 (w.heap.size + 1 + 1) (.int .i64 0) (.int .i64 0) (.string ⟨#[]⟩) (.slice none 0 0) (.slice none 0 0) := by
    rw [← hW0]
    have e := heap_alloc_new ((w.alloc (.cells #[.string s] 9)).alloc (.cells #[.int .i64 0, .int .i64 0, .string ⟨#[]⟩, .slice none 0 0, .slice none 0 0] 71)) (.cells #[.int .i64 0, .int .i64 0, .string ⟨#[]⟩, .slice none 0 0, .slice none 0 0] 71)
    rw [hq2] at e
    exact e
  have C := Lib.hid (refused_parse w.heap.size (w.heap.size + 1 + 1) s _ _ _ _ _ W0 (he.below hbw) hs hS hV5)
  have HW0 := Lib.hid hW0
  have HS0 := Lib.hid hs0
  have HGZ := Lib.hid (show ∀ w2, Gone (w.heap.size + 1 + 1) W0 w2 → Below w.heap.size w w2 ∧ At5 w2 (w.heap.size + 1) (.int .i64 0) (.int .i64 0) (.string ⟨#[]⟩) (.slice none 0 0) (.slice none 0 0) from fun w2 h =>
    ⟨hbw.trans (h.to (N := w.heap.size) (by omega) (by omega)), (h.block (w.heap.size + 1) (by omega) (fun e => by have := Option.some.inj e; omega)).trans hz5⟩)
  clear hW0 hs0 hq1 hq2 hbw hS hz5 hV5 he hs
  go_enter Tryz.func76, Tryz.ntmps76
  go_wp2_with fail
  rw [HW0.out]
  clear HW0
  refine C.out.mono ?_
  intro e w2 hx
  have hi := hx.is
  obtain ⟨hb2, hz2⟩ := HGZ.out w2 hx.gone
  have HB2 := Lib.hid hb2
  have HZ2 := Lib.hid hz2
  obtain ⟨z0, z1, z2, z3, z4⟩ := hz2.cells
  have f0 := hz2.frozen 0
  have f1 := hz2.frozen 1
  have f2 := hz2.frozen 2
  have f3 := hz2.frozen 3
  have f4 := hz2.frozen 4
  have fin : ∀ c0 c1 c2 c3 c4, Below w.heap.size w (set5 w2 (w.heap.size + 1) 0 c0 c1 c2 c3 c4) := fun c0 c1 c2 c3 c4 => by
    obtain ⟨s1, s2, s3⟩ := set5_rest w2 (w.heap.size + 1) 0 c0 c1 c2 c3 c4
    exact ⟨s1.trans hb2.os, s2.trans hb2.tape, s3.trans hb2.output, by rw [set5_size]; exact hb2.size, fun k hk => (set5_block _ _ _ _ _ _ _ _ k (by omega)).trans (hb2.block k hk)⟩
  have FIN := Lib.hid fin
  clear hx hb2 hz2 fin
  by_cases hl : 4096 < s.size
  · rw [if_pos hl] at hi
    subst hi
    have HL := Lib.hid hl
    clear hl
    go_wp2_with fail
    refine bodyPost_ret (results_two (p := 2) (u := 3) rfl _ _ (w.heap.size + 1) 71 _ (0, 0) _ rfl (set5_five0 HZ2.out _ _ _ _ _) Tryz.underlying71 rfl valSize) rfl ?_
    exact ⟨FIN.out _ _ _ _ _, by rw [if_pos HL.out]; rfl⟩
  · rw [if_neg hl] at hi
    have HL := Lib.hid hl
    cases ho : parseV s with
    | none =>
      rw [ho] at hi
      obtain rfl : e = .returned (.int .i64 6) := hi
      have HO := Lib.hid ho
      clear hl ho
      go_wp2_with fail
      refine bodyPost_ret (results_two (p := 2) (u := 3) rfl _ _ (w.heap.size + 1) 71 _ (0, 0) _ rfl (set5_five0 HZ2.out _ _ _ _ _) Tryz.underlying71 rfl valSize) rfl ?_
      exact ⟨FIN.out _ _ _ _ _, by rw [if_neg HL.out, HO.out]; rfl⟩
    | some T =>
      rw [ho] at hi
      obtain ⟨rfl, xa, xb, xc, xd, xf, h5, hv⟩ := hi
      obtain ⟨xk, xn, xs', xia, xna, xli, xic, xnn, xnc, hsh⟩ := hv.isVal.shape
      simp only [Value.agg.injEq, Array.mk.injEq, List.cons.injEq, and_true] at hsh
      obtain ⟨rfl, rfl, rfl, rfl, rfl⟩ := hsh
      have HO := Lib.hid ho
      have HV := Lib.hid hv
      obtain ⟨a0, a1, a2, a3, a4⟩ := h5.cells
      clear hl ho h5 hv
      go_wp2_with fail
      refine bodyPost_ret (results_two (p := 2) (u := 3) rfl _ _ (w.heap.size + 1) 71 _ (0, 0) _ rfl (set5_five0 HZ2.out _ _ _ _ _) Tryz.underlying71 rfl valSize) rfl ?_
      refine ⟨FIN.out _ _ _ _ _, ?_⟩
      rw [if_neg HL.out, HO.out]
      refine ⟨_, rfl, (HV.out.keep (S' := fun _ => True) fun k hS _ => ⟨set5_block w2 (w.heap.size + 1) 0 _ _ _ _ _ k (by have := HS0.out; omega), trivial⟩).isVal⟩
end Go.Proofs.YtepcaglekgeamaaGreatDoor
