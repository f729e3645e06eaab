/-
  The program's Parse by a contract: its panics are recovered. Conditions: the package-level variables as TEnv says.
-/
import Derived.Test.YtgkapipiegfmhaaDoorRead
namespace Go.Proofs.YtgkapipiegfmhaaDoor
open Go.RowKit

/-- A block of one error number. -/
def NoAt (w : World) (E : Nat) (k : Int) : Prop := w.heap[E]? = some (.cells #[.int .i64 k] 26 (0, 0))
theorem NoAt.cell {w : World} {E : Nat} {k : Int} (h : NoAt w E k) : w.cell? ⟨E, 0, none⟩ = some (.int .i64 k) := by unfold NoAt at h; simp [World.cell?, h]
theorem NoAt.frozen {w : World} {E : Nat} {k : Int} (h : NoAt w E k) : w.frozen? ⟨E, 0, none⟩ = false := by unfold NoAt at h; simp [World.frozen?, h]

theorem NoAt.set {w : World} {E : Nat} {k : Int} (h : NoAt w E k) (m : Int) : NoAt (w.setCell ⟨E, 0, none⟩ (.int .i64 m)) E m := by
  unfold NoAt at h ⊢
  show (w.heap.modify E _)[E]? = _
  rw [Array.getElem?_modify, if_pos rfl, h]
  rfl
theorem assert_no (v : Value) (w : World) : (Instr.typeAssert (.iface 26 v) 20 26 false).run Tryd.prog w = .ok v w := by
  simp [Instr.typeAssert, go_sem]

theorem caught (E : Nat) (k m : Int) (older : List PanicEntry) (w : World) (h : NoAt w E m) :
    CallsD Tryd.prog 15 #[.pointer (some ⟨E, 0, none⟩)] (.panicking ({ v := .iface 26 (.int .i64 k), recovered := false } :: older)) w fun e u' w' =>
      e = .returned (.tuple #[]) ∧ u' = .panicking ({ v := .iface 26 (.int .i64 k), recovered := true } :: older) ∧ w' = w.setCell ⟨E, 0, none⟩ (.int .i64 k) := by
  have hc := h.cell
  have hz := h.frozen
  have ha := assert_no (.int .i64 k)
  refine callsD_of_wpS Tryd.func15 rfl fun c₀ cs hu => ?_
  apply wpS_seq
  apply wpS_region
  simp [wpOpsS, go_sem, recoverD, hu, Tryd.ntmps15, Exit.thenS]
  apply wpS_seq
  apply wpS_region
  simp [wpOpsS, go_sem, recoverD, Exit.thenS]
  refine wpS_cond (t := true) (by simp [Act.eval, Array.replicate]) ?_
  simp only [if_true]
  apply wpS_region
  simp [wpOpsS, go_sem, ha, hc, hz, bodyPostS, results, Tryd.results15]
theorem idle (E : Nat) (w : World) :
    CallsD Tryd.prog 15 #[.pointer (some ⟨E, 0, none⟩)] .returning w fun e u' w' => e = .returned (.tuple #[]) ∧ u' = .returning ∧ w' = w := by
  refine callsD_of_wpS Tryd.func15 rfl fun c₀ cs hu => ?_
  apply wpS_seq
  apply wpS_region
  simp [wpOpsS, go_sem, recoverD, hu, Tryd.ntmps15, Exit.thenS]
  apply wpS_seq
  apply wpS_region
  simp [wpOpsS, go_sem, recoverD, Exit.thenS]
  refine wpS_cond (t := false) (by simp [Act.eval, Array.replicate]) ?_
  simp only [Bool.false_eq_true, if_false]
  refine wpS_of_wp (wp_skip ?_)
  cases c₀
  simp_all [bodyPostS, results, Tryd.results15]

/-- A block of one string. -/
def StrAt (w : World) (S : Nat) (s : ByteArray) : Prop := w.heap[S]? = some (.cells #[.string s] 9 (0, 0))
theorem StrAt.cell {w : World} {S : Nat} {s : ByteArray} (h : StrAt w S s) : w.cell? ⟨S, 0, none⟩ = some (.string s) := by unfold StrAt at h; simp [World.cell?, h]

/-- How the step ends that Parse hands over: the value lies in block V. -/
structure StepEnds (V : Nat) (s : ByteArray) (w : World) (e : Ending) (w' : World) : Prop where
  gone : Gone V w w'
  is : if 4096 < s.size then e = stop 2 else match parseV s with
    | some T => e = .returned (.tuple #[]) ∧ ∃ a b c d f, At5 w' V a b c d f ∧ ValIn (fun k => w.heap.size ≤ k) w' (.agg #[a, b, c, d, f]) T
    | none => e = stop 6

set_option maxRecDepth 100000 in
set_option maxHeartbeats 4000000 in
theorem parse1_t (S V : Nat) (s : ByteArray) (a b c d f : Value) (w : World) (he : TEnv w) (hs : s.size ≤ maxLen) (hS : StrAt w S s) (hV : At5 w V a b c d f) :
    Calls Tryd.prog 10 #[.pointer (some ⟨S, 0, none⟩), .pointer (some ⟨V, 0, none⟩)] w fun e w' => StepEnds V s w e w' := by
  have hc := hS.cell
  have C := Lib.hid (read_t s w he hs)
  have HV := Lib.hid hV
  clear he hs hS hV
  go_enter Tryd.func10, Tryd.ntmps10
  go_wp2_with fail
  refine C.out.mono ?_
  intro e w2 hx
  have hi := hx.is
  have HB := Lib.hid hx.below
  have hV2 := HV.out.keep hx.below
  have HV2 := Lib.hid hV2
  clear hx
  by_cases hl : 4096 < s.size
  · rw [if_pos hl] at hi
    obtain rfl : e = .panicked [{ v := .iface 26 (.int .i64 2), recovered := false }] := hi
    have HL := Lib.hid hl
    clear hl hV2
    go_wp2_with fail
    exact ⟨rfl, ⟨Gone.below HB.out, by rw [if_pos HL.out]; rfl⟩⟩
  · rw [if_neg hl] at hi
    have HL := Lib.hid hl
    cases ho : parseV s with
    | none =>
      rw [ho] at hi
      obtain rfl : e = .panicked [{ v := .iface 26 (.int .i64 6), recovered := false }] := hi
      have HO := Lib.hid ho
      clear hl hV2 ho
      go_wp2_with fail
      exact ⟨rfl, ⟨Gone.below HB.out, by rw [if_neg HL.out, HO.out]; rfl⟩⟩
    | some T =>
      rw [ho] at hi
      obtain ⟨v, rfl, hv⟩ := hi
      obtain ⟨xk, xn, xs', xia, xna, xli, xic, xnn, xnc, rfl⟩ := hv.isVal.shape
      have HO := Lib.hid ho
      have HVI := Lib.hid hv
      obtain ⟨z0, z1, z2, z3, z4⟩ := hV2.cells
      have f0 := hV2.frozen 0
      have f1 := hV2.frozen 1
      have f2 := hV2.frozen 2
      have f3 := hV2.frozen 3
      have f4 := hV2.frozen 4
      have HVL := Lib.hid HV.out.lt
      clear hl hV2 ho hv
      go_wp2_with fail
      go_end0
      show StepEnds V s w _ (set5 w2 V 0 (.int .i64 xk) (.int .i64 xn) (.string xs') (.slice xia xli xic) (.slice xna xnn xnc))
      obtain ⟨s1, s2, s3⟩ := set5_rest w2 V 0 (.int .i64 xk) (.int .i64 xn) (.string xs') (.slice xia xli xic) (.slice xna xnn xnc)
      have hb := HB.out
      refine ⟨⟨s1.trans hb.os, s2.trans hb.tape, s3.trans hb.output, by rw [set5_size]; exact hb.size, fun k hk h1 => ?_⟩, ?_⟩
      · rw [set5_block _ _ _ _ _ _ _ _ k (fun e => h1 (by rw [e]))]
        exact hb.block k hk
      · rw [if_neg HL.out, HO.out]
        exact ⟨rfl, _, _, _, _, _, set5_five0 HV2.out _ _ _ _ _, HVI.out.keep fun k hS hl => ⟨set5_block _ _ _ _ _ _ _ _ k (fun e => by have := HVL.out; omega), hS⟩⟩

/-- How 'refused' ends, with that step. -/
structure RefusedEnds (V : Nat) (s : ByteArray) (w : World) (e : Ending) (w' : World) : Prop where
  gone : Gone V w w'
  is : if 4096 < s.size then e = .returned (.int .i64 2) else match parseV s with
    | some T => e = .returned (.int .i64 0) ∧ ∃ a b c d f, At5 w' V a b c d f ∧ ValIn (fun k => w.heap.size ≤ k) w' (.agg #[a, b, c, d, f]) T
    | none => e = .returned (.int .i64 6)
set_option maxRecDepth 100000 in
set_option maxHeartbeats 4000000 in
theorem refused_parse (S V : Nat) (s : ByteArray) (a b c d f : Value) (w : World) (he : TEnv w) (hs : s.size ≤ maxLen) (hS : StrAt w S s) (hV : At5 w V a b c d f) :
    Calls Tryd.prog 9 #[.func (.func 10) #[] #[.pointer (some ⟨S, 0, none⟩), .pointer (some ⟨V, 0, none⟩)]] w fun e w' => RefusedEnds V s w e w' := by
  have hmf : ∀ (fn : Fn) (first cap : Array Value) (w : World), (Instr.makeFunc fn first cap).run Tryd.prog w = .ok (.func fn first cap) w := fun _ _ _ _ => rfl
  have hb0 := below_new w (.cells #[.int .i64 0] 26)
  have hSl : S < w.heap.size := (Array.getElem?_eq_some_iff.1 hS).1
  have C := Lib.hid (parse1_t S V s a b c d f (w.alloc (.cells #[.int .i64 0] 26)) (he.below hb0) hs ((hb0.block S hSl).trans hS) (hV.keep hb0))
  have HB0 := Lib.hid hb0
  have HVL := Lib.hid hV.lt
  have HE0 := Lib.hid (show NoAt (w.alloc (.cells #[.int .i64 0] 26)) w.heap.size 0 from heap_alloc_new w _)
  clear he hs hS hV hb0 hSl
  go_enter_defers Tryd.func9, Tryd.ntmps9
  go_wp2_with fail
  refine C.out.mono ?_
  intro e w2 hx
  have hi := hx.is
  have HG := Lib.hid ((Gone.below (B := V) HB0.out).trans hx.gone)
  have hE2 : NoAt w2 w.heap.size 0 := (hx.gone.block w.heap.size (by simp) (fun e => by have := Option.some.inj e; have := HVL.out; omega)).trans HE0.out
  have HE2 := Lib.hid hE2
  have ec := hE2.cell
  have ez := hE2.frozen
  have HF := Lib.hid (show ∀ m, Gone V w (w2.setCell ⟨w.heap.size, 0, none⟩ (.int .i64 m)) from fun m =>
    ⟨HG.out.os, HG.out.tape, HG.out.output, by rw [setCell_size]; exact HG.out.size, fun k hk h1 => (Below.heap_setCell _ _ _ _ (Nat.ne_of_lt hk)).trans (HG.out.block k hk h1)⟩)
  clear hx
  by_cases hl : 4096 < s.size
  · rw [if_pos hl] at hi
    obtain rfl : e = .panicked [{ v := .iface 26 (.int .i64 2), recovered := false }] := hi
    have HL := Lib.hid hl
    clear hl hE2
    have e3 := (HE2.out.set 2).cell
    go_wp2_with fail
    refine leaves_cons (f := 15) (args := #[.pointer (some ⟨w.heap.size, 0, none⟩)]) (by simp) (by simp [go_sem]) ?_
    refine (caught w.heap.size 2 0 [] w2 HE2.out).mono ?_
    rintro e u' w'' ⟨rfl, rfl, rfl⟩
    refine ⟨.int .i64 2, by simp [results, Tryd.results9, go_sem, e3], ?_⟩
    exact ⟨HF.out 2, by rw [if_pos HL.out]⟩
  · rw [if_neg hl] at hi
    have HL := Lib.hid hl
    cases ho : parseV s with
    | none =>
      rw [ho] at hi
      obtain rfl : e = .panicked [{ v := .iface 26 (.int .i64 6), recovered := false }] := hi
      have HO := Lib.hid ho
      clear hl hE2 ho
      have e3 := (HE2.out.set 6).cell
      go_wp2_with fail
      refine leaves_cons (f := 15) (args := #[.pointer (some ⟨w.heap.size, 0, none⟩)]) (by simp) (by simp [go_sem]) ?_
      refine (caught w.heap.size 6 0 [] w2 HE2.out).mono ?_
      rintro e u' w'' ⟨rfl, rfl, rfl⟩
      refine ⟨.int .i64 6, by simp [results, Tryd.results9, go_sem, e3], ?_⟩
      exact ⟨HF.out 6, by rw [if_neg HL.out, HO.out]⟩
    | some T =>
      rw [ho] at hi
      obtain ⟨rfl, xa, xb, xc, xd, xf, h5, hv⟩ := hi
      have HO := Lib.hid ho
      have H5 := Lib.hid h5
      have HV := Lib.hid hv
      have e3 := (HE2.out.set 0).cell
      clear hl hE2 ho h5 hv
      go_wp2_with fail
      refine leaves_cons (f := 15) (args := #[.pointer (some ⟨w.heap.size, 0, none⟩)]) (by simp) (by simp [go_sem]) ?_
      refine (idle w.heap.size _).mono ?_
      rintro e u' w'' ⟨rfl, rfl, rfl⟩
      refine ⟨.int .i64 0, by simp [results, Tryd.results9, go_sem, e3], HF.out 0, ?_⟩
      rw [if_neg HL.out, HO.out]
      have hVE : V ≠ w.heap.size := by have := HVL.out; omega
      refine ⟨rfl, xa, xb, xc, xd, xf, (Below.heap_setCell _ _ _ _ hVE).trans H5.out, HV.out.keep fun k hS _ => ?_⟩
      simp only [World.size_alloc] at hS
      exact ⟨Below.heap_setCell _ _ _ _ (by show k ≠ w.heap.size; omega), by omega⟩
end Go.Proofs.YtgkapipiegfmhaaDoor
