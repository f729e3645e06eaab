/-
  The program's Parse by a contract. Conditions: the package-level variables as TEnv says.
-/
import Derived.Test.YtgkapipiegfmhaaDoorParse2
namespace Go.Proofs.YtgkapipiegfmhaaDoor
open Go.RowKit

/-- The value of no kind. -/
def noVal : Value := .agg #[.int .i64 0, .int .i64 0, .string ⟨#[]⟩, .slice none 0 0, .slice none 0 0]
/-- How Parse ends. -/
structure ParseEnds (s : ByteArray) (w : World) (e : Ending) (w' : World) : Prop where
  below : Below w.heap.size w w'
  is : if 4096 < s.size then e = .returned (.tuple #[noVal, .int .i64 2]) else match parseV s with
    | some T => ∃ v, e = .returned (.tuple #[v, .int .i64 0]) ∧ IsVal w' v T
    | none => e = .returned (.tuple #[noVal, .int .i64 6])

theorem results_two {P : Program} {fn : Func} {p u : Tmp} {ty : TypeId} (h : fn.results = #[.cell p ty, .tmp u]) (tmps : Array Value) (w : World) (g : Nat) (t : TypeId) (cs : Array Value) (fr : Nat × Nat) (d : TypeDesc)
    (hp : tmps.getD p undef = .pointer (some ⟨g, 0, none⟩)) (hg : w.heap[g]? = some (.cells cs t fr))
    (hu : P.underlying ty = some d) (hd : (match d with | .struct _ | .array _ _ => true | _ => false) = true) (hi : (P.info? ty).map (·.size) = some cs.size) :
    (results fn tmps).run P w = .ok (.tuple #[.agg cs, tmps.getD u undef]) w := by
  rw [results_cell_tmp h, hp]
  simp [asAddr, run_loadVar_row w g t ty cs fr d hg hu hd hi]

set_option maxRecDepth 100000 in
set_option maxHeartbeats 4000000 in
theorem Parse_t (s : ByteArray) (w : World) (he : TEnv w) (hs : s.size ≤ maxLen) :
    Calls Tryd.prog 4 #[.string s] w fun e w' => ParseEnds s w e w' := by
  have hmf : ∀ (fn : Fn) (first cap : Array Value) (w : World), (Instr.makeFunc fn first cap).run Tryd.prog w = .ok (.func fn first cap) w := fun _ _ _ _ => rfl
  obtain ⟨W0, hW0⟩ : ∃ W0, ((w.alloc (.cells #[.string s] 9)).alloc (.cells #[.int .i64 0, .int .i64 0, .string ⟨#[]⟩, .slice none 0 0, .slice none 0 0] 25)).alloc (.cells #[.int .i64 0, .int .i64 0, .string ⟨#[]⟩, .slice none 0 0, .slice none 0 0] 25) = W0 := ⟨_, rfl⟩
  have hs0 : W0.heap.size = w.heap.size + 3 := by rw [← hW0]; simp
  have hq1 : ∀ o, (w.alloc o).heap.size = w.heap.size + 1 := fun o => by simp
  have hq2 : ∀ o o', ((w.alloc o).alloc o').heap.size = w.heap.size + 1 + 1 := fun o o' => by simp
  have hbw : Below w.heap.size w W0 := by
    rw [← hW0]
    exact (((Below.refl _ _).alloc (Nat.le_refl _) _).alloc (by simp) _).alloc (by simp; omega) _
  have hS : StrAt W0 w.heap.size s := by
    rw [← hW0]
    exact (Below.heap_alloc _ _ _ (by rw [hq2]; omega)).trans ((Below.heap_alloc _ _ _ (by rw [hq1]; omega)).trans (heap_alloc_new w _))
  have hz5 : At5 W0 (w.heap.size + 1) (.int .i64 0) (.int .i64 0) (.string ⟨#[]⟩) (.slice none 0 0) (.slice none 0 0) := by
    rw [← hW0]
    have e := heap_alloc_new (w.alloc (.cells #[.string s] 9)) (.cells #[.int .i64 0, .int .i64 0, .string ⟨#[]⟩, .slice none 0 0, .slice none 0 0] 25)
    rw [hq1] at e
    exact (Below.heap_alloc _ _ _ (by rw [hq2]; omega)).trans e
  have hV5 : At5 W0 (w.heap.size + 1 + 1) (.int .i64 0) (.int .i64 0) (.string ⟨#[]⟩) (.slice none 0 0) (.slice none 0 0) := by
    rw [← hW0]
    have e := heap_alloc_new ((w.alloc (.cells #[.string s] 9)).alloc (.cells #[.int .i64 0, .int .i64 0, .string ⟨#[]⟩, .slice none 0 0, .slice none 0 0] 25)) (.cells #[.int .i64 0, .int .i64 0, .string ⟨#[]⟩, .slice none 0 0, .slice none 0 0] 25)
    rw [hq2] at e
    exact e
  have C := Lib.hid (refused_parse w.heap.size (w.heap.size + 1 + 1) s _ _ _ _ _ W0 (he.below hbw) hs hS hV5)
  have HW0 := Lib.hid hW0
  have HS0 := Lib.hid hs0
  have HGZ := Lib.hid (show ∀ w2, Gone (w.heap.size + 1 + 1) W0 w2 → Below w.heap.size w w2 ∧ At5 w2 (w.heap.size + 1) (.int .i64 0) (.int .i64 0) (.string ⟨#[]⟩) (.slice none 0 0) (.slice none 0 0) from fun w2 h =>
    ⟨hbw.trans (h.to (N := w.heap.size) (by omega) (by omega)), (h.block (w.heap.size + 1) (by omega) (fun e => by have := Option.some.inj e; omega)).trans hz5⟩)
  clear hW0 hs0 hq1 hq2 hbw hS hz5 hV5 he hs
  go_enter Tryd.func4, Tryd.ntmps4
  go_wp2_with fail
  rw [HW0.out]
  clear HW0
  refine C.out.mono ?_
  intro e w2 hx
  have hi := hx.is
  obtain ⟨hb2, hz2⟩ := HGZ.out w2 hx.gone
  have HB2 := Lib.hid hb2
  have HZ2 := Lib.hid hz2
  obtain ⟨z0, z1, z2, z3, z4⟩ := hz2.cells
  have f0 := hz2.frozen 0
  have f1 := hz2.frozen 1
  have f2 := hz2.frozen 2
  have f3 := hz2.frozen 3
  have f4 := hz2.frozen 4
  have fin : ∀ c0 c1 c2 c3 c4, Below w.heap.size w (set5 w2 (w.heap.size + 1) 0 c0 c1 c2 c3 c4) := fun c0 c1 c2 c3 c4 => by
    obtain ⟨s1, s2, s3⟩ := set5_rest w2 (w.heap.size + 1) 0 c0 c1 c2 c3 c4
    exact ⟨s1.trans hb2.os, s2.trans hb2.tape, s3.trans hb2.output, by rw [set5_size]; exact hb2.size, fun k hk => (set5_block _ _ _ _ _ _ _ _ k (by omega)).trans (hb2.block k hk)⟩
  have FIN := Lib.hid fin
  clear hx hb2 hz2 fin
  by_cases hl : 4096 < s.size
  · rw [if_pos hl] at hi
    subst hi
    have HL := Lib.hid hl
    clear hl
    go_wp2_with fail
    refine bodyPost_ret (results_two (p := 2) (u := 3) rfl _ _ (w.heap.size + 1) 25 _ (0, 0) _ rfl (set5_five0 HZ2.out _ _ _ _ _) Tryd.underlying25 rfl valSize) rfl ?_
    exact ⟨FIN.out _ _ _ _ _, by rw [if_pos HL.out]; rfl⟩
  · rw [if_neg hl] at hi
    have HL := Lib.hid hl
    cases ho : parseV s with
    | none =>
      rw [ho] at hi
      obtain rfl : e = .returned (.int .i64 6) := hi
      have HO := Lib.hid ho
      clear hl ho
      go_wp2_with fail
      refine bodyPost_ret (results_two (p := 2) (u := 3) rfl _ _ (w.heap.size + 1) 25 _ (0, 0) _ rfl (set5_five0 HZ2.out _ _ _ _ _) Tryd.underlying25 rfl valSize) rfl ?_
      exact ⟨FIN.out _ _ _ _ _, by rw [if_neg HL.out, HO.out]; rfl⟩
    | some T =>
      rw [ho] at hi
      obtain ⟨rfl, xa, xb, xc, xd, xf, h5, hv⟩ := hi
      obtain ⟨xk, xn, xs', xia, xna, xli, xic, xnn, xnc, hsh⟩ := hv.isVal.shape
      simp only [Value.agg.injEq, Array.mk.injEq, List.cons.injEq, and_true] at hsh
      obtain ⟨rfl, rfl, rfl, rfl, rfl⟩ := hsh
      have HO := Lib.hid ho
      have HV := Lib.hid hv
      obtain ⟨a0, a1, a2, a3, a4⟩ := h5.cells
      clear hl ho h5 hv
      go_wp2_with fail
      refine bodyPost_ret (results_two (p := 2) (u := 3) rfl _ _ (w.heap.size + 1) 25 _ (0, 0) _ rfl (set5_five0 HZ2.out _ _ _ _ _) Tryd.underlying25 rfl valSize) rfl ?_
      refine ⟨FIN.out _ _ _ _ _, ?_⟩
      rw [if_neg HL.out, HO.out]
      refine ⟨_, rfl, (HV.out.keep (S' := fun _ => True) fun k hS _ => ⟨set5_block w2 (w.heap.size + 1) 0 _ _ _ _ _ k (by have := HS0.out; omega), trivial⟩).isVal⟩
end Go.Proofs.YtgkapipiegfmhaaDoor
