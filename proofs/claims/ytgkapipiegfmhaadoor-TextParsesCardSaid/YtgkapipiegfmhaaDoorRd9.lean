/-
  The program's reader: rows and objects. Conditions: the reader's value by its contract.
-/
import Derived.Test.YtgkapipiegfmhaaDoorRd8
namespace Go.Proofs.YtgkapipiegfmhaaDoor
open Go.RowKit

theorem rd_same (l : List UInt8) : ∀ s' : List UInt8, s'.length ≤ l.length → parseL (l.length + 1) s' = rdL s' := fun s' h => parseL_enough s'.length s' (Nat.le_refl _) (l.length + 1) (by omega)
theorem parseL_short (d : Nat) (s' : List UInt8) (x : Val) (r : List UInt8) (h : parseL d s' = some (x, r)) : r.length ≤ s'.length := by
  have := parseL_sound _ _ _ _ h
  rw [this]; simp
theorem rdL_row (l : List UInt8) : rdL (91 :: l) = (listL false 91 93 (91 :: l)).map fun p => (.mk 3 0 ⟨#[]⟩ p.1 p.2.1, p.2.2) := by
  have e : rdL (91 :: l) = if l.head? = some 93 then some (.mk 3 0 ⟨#[]⟩ [] [], l.tail) else (itemsL (parseL (l.length + 1)) false 93 (l.length + 1) [] [] l).map fun p => (.mk 3 0 ⟨#[]⟩ p.1 p.2.1, p.2.2) := by
    unfold rdL
    rw [List.length_cons, parseL, if_neg (by decide), if_neg (by decide)]
    rfl
  rw [e, listL, if_pos rfl]
  by_cases h : l.head? = some 93
  · rw [if_pos h, if_pos h]; rfl
  · rw [if_neg h, if_neg h, itemsL_congr (parseL (l.length + 1)) rdL false 93 _ [] [] l (rd_same l) (parseL_short _)]
theorem rdL_object (l : List UInt8) : rdL (123 :: l) = (listL true 123 125 (123 :: l)).map fun p => (.mk 4 0 ⟨#[]⟩ p.1 p.2.1, p.2.2) := by
  have e : rdL (123 :: l) = if l.head? = some 125 then some (.mk 4 0 ⟨#[]⟩ [] [], l.tail) else (itemsL (parseL (l.length + 1)) true 125 (l.length + 1) [] [] l).map fun p => (.mk 4 0 ⟨#[]⟩ p.1 p.2.1, p.2.2) := by
    unfold rdL
    rw [List.length_cons, parseL, if_neg (by decide), if_neg (by decide)]
    rfl
  rw [e, listL, if_pos rfl]
  by_cases h : l.head? = some 125
  · rw [if_pos h, if_pos h]; rfl
  · rw [if_neg h, if_neg h, itemsL_congr (parseL (l.length + 1)) rdL true 125 _ [] [] l (rd_same l) (parseL_short _)]
theorem listL_row (be : UInt8) (s : List UInt8) (p : List Val × List ByteArray × List UInt8) (h : listL false be 93 s = some p) : p.2.1 = [] := by
  cases s with
  | nil => rw [listL] at h; cases h
  | cons x l =>
    rw [listL] at h
    split at h
    · split at h
      · obtain rfl := Option.some.inj h; rfl
      · obtain ⟨I, N, r⟩ := p
        obtain ⟨y, l', ns, hI, hN, -, hz, -⟩ := itemsL_sound rdL false 93 (fun s x r h => parseL_sound _ s x r h) _ [] [] l I N r h
        rw [hz rfl] at hN
        exact hN
    · cases h
theorem valSize : (Tryd.prog.info? 25).map (·.size) = some 5 := by kernel_rfl
theorem set5_five0 {w : World} {Z : Nat} {a b c d e : Value} (h : At5 w Z a b c d e) (c0 c1 c2 c3 c4 : Value) : At5 (set5 w Z 0 c0 c1 c2 c3 c4) Z c0 c1 c2 c3 c4 := by
  have st : ∀ {w : World} {cs : Array Value} {j : Nat} {u : Value}, w.heap[Z]? = some (.cells cs 25 (0, 0)) → (w.setCell ⟨Z, j, none⟩ u).heap[Z]? = some (.cells (cs.setIfInBounds j u) 25 (0, 0)) := by
    intro w cs j u h
    show (w.heap.modify Z _)[Z]? = _
    rw [Array.getElem?_modify, if_pos rfl, h]
    rfl
  exact st (st (st (st (st h))))
/-- A value that was made in a block of its own is handed back. -/
theorem val_done {B Z N : Nat} {s : ByteArray} {w w2 : World} {c0 c1 c2 c3 c4 : Value} {T : Val} {r : List UInt8} (hZ : w.heap.size ≤ Z) (hZb : Z < N) (hB : B < w.heap.size) (hg : Gone B w w2) (hr : RdAt w2 B ⟨r.toArray⟩)
    (hv : ValIn (fun b => N ≤ b) w2 (.agg #[c0, c1, c2, c3, c4]) T) (ho : rdL s.data.toList = some (T, r)) : ValEnds B s w (.returned (.agg #[c0, c1, c2, c3, c4])) (set5 w2 Z 0 c0 c1 c2 c3 c4) := by
  obtain ⟨s1, s2, s3⟩ := set5_rest w2 Z 0 c0 c1 c2 c3 c4
  refine ⟨⟨s1.trans hg.os, s2.trans hg.tape, s3.trans hg.output, by rw [set5_size]; exact hg.size, fun k hk h1 => ?_⟩, ?_⟩
  · rw [set5_block _ _ _ _ _ _ _ _ k (by omega)]
    exact hg.block k hk h1
  · rw [ho]
    exact ⟨_, rfl, hv.keep fun b hS hl => ⟨set5_block _ _ _ _ _ _ _ _ b (by omega), by omega⟩, hr.kept (set5_block _ _ _ _ _ _ _ _ B (by omega))⟩
theorem NamesOf.strs {base : Nat} {w : World} {hn : Value} {ns : List ByteArray} (h : NamesOf base w hn ns) : StrsAt w hn ns ∧ InS (fun b => base ≤ b) hn ns.length := by
  obtain ⟨hl, h2⟩ := h.own
  rcases h2 with ⟨rfl, h0⟩ | ⟨g, cap, cur, rfl, hb, hc, h3, h4, h5, h6⟩
  · exact ⟨Or.inl ⟨List.length_eq_zero_iff.1 h0, Or.inl rfl⟩, fun h => by omega⟩
  · refine ⟨?_, fun _ => ⟨g, 0, _, cap, rfl, hb⟩⟩
    by_cases h0 : ns.length = 0
    · exact Or.inl ⟨List.length_eq_zero_iff.1 h0, Or.inr ⟨⟨g, 0, none⟩, cap, by rw [h0], h4⟩⟩
    · refine Or.inr ⟨g, 0, cap, rfl, by omega, h3, h4, fun i hi => ?_⟩
      have := h.own.cellAt i (by omega)
      rw [Nat.zero_add, this, List.getElem?_map, List.getElem?_eq_getElem hi]
      rfl

set_option maxRecDepth 100000 in
set_option maxHeartbeats 4000000 in
theorem row_t (B : Nat) (s : ByteArray) (w : World) (hr : RdAt w B s) (he : TEnv w) (hB : 8 ≤ B) (hsz : s.size ≤ 4096) (hb : headB s 91 = true)
    (CV : ∀ t : ByteArray, t.size < s.size → ∀ w, RdAt w B t → TEnv w → Calls Tryd.prog 16 #[.pointer (some ⟨B, 0, none⟩)] w (ValEnds B t w)) :
    Calls Tryd.prog 23 #[.pointer (some ⟨B, 0, none⟩)] w fun e w' => ValEnds B s w e w' := by
  have hg : Geo (w.heap.size + 3) B (w.heap.size + 1 + 1) w.heap.size := by
    have := hr.lt
    have := he.size
    exact ⟨hB, by omega, by omega, by omega, by omega, by omega, by omega, by omega⟩
  obtain ⟨W0, hW0⟩ : ∃ W0, ((w.alloc (.cells #[.pointer (some ⟨B, 0, none⟩)] 47)).alloc (.cells #[.int .i64 0, .int .i64 0, .string ⟨#[]⟩, .slice none 0 0, .slice none 0 0] 25)).alloc (.cells #[.int .i64 3, .int .i64 0, .string ⟨#[]⟩, .slice none 0 0, .slice none 0 0] 25) = W0 := ⟨_, rfl⟩
  have hs0 : W0.heap.size = w.heap.size + 3 := by rw [← hW0]; simp
  have hbw : Below w.heap.size w W0 := by
    rw [← hW0]
    exact (((Below.refl _ _).alloc (Nat.le_refl _) _).alloc (by simp) _).alloc (by simp; omega) _
  have hq1 : ∀ o, (w.alloc o).heap.size = w.heap.size + 1 := fun o => by simp
  have hq2 : ∀ o o', ((w.alloc o).alloc o').heap.size = w.heap.size + 1 + 1 := fun o o' => by simp
  have hp : PtrAt W0 w.heap.size B := by
    rw [← hW0]
    exact (Below.heap_alloc _ _ _ (by rw [hq2]; omega)).trans ((Below.heap_alloc _ _ _ (by rw [hq1]; omega)).trans (heap_alloc_new w _))
  have hz5 : At5 W0 (w.heap.size + 1) (.int .i64 0) (.int .i64 0) (.string ⟨#[]⟩) (.slice none 0 0) (.slice none 0 0) := by
    rw [← hW0]
    have e := heap_alloc_new (w.alloc (.cells #[.pointer (some ⟨B, 0, none⟩)] 47)) (.cells #[.int .i64 0, .int .i64 0, .string ⟨#[]⟩, .slice none 0 0, .slice none 0 0] 25)
    rw [hq1] at e
    exact (Below.heap_alloc _ _ _ (by rw [hq2]; omega)).trans e
  have h5 : At5 W0 (w.heap.size + 1 + 1) (.int .i64 3) (.int .i64 0) (.string ⟨#[]⟩) (.slice none 0 0) (.slice none 0 0) := by
    rw [← hW0]
    have e := heap_alloc_new ((w.alloc (.cells #[.pointer (some ⟨B, 0, none⟩)] 47)).alloc (.cells #[.int .i64 0, .int .i64 0, .string ⟨#[]⟩, .slice none 0 0, .slice none 0 0] 25)) (.cells #[.int .i64 3, .int .i64 0, .string ⟨#[]⟩, .slice none 0 0, .slice none 0 0] 25)
    rw [hq2] at e
    exact e
  have hst : StR (w.heap.size + 3) B (w.heap.size + 1 + 1) w.heap.size (.int .i64 3) (.int .i64 0) (.string ⟨#[]⟩) (.slice none 0 0) W0 [] s W0 :=
    ⟨Fr2.refl _ _ _ _, hr.kept (hbw.block B hr.lt), he.below hbw, hp, by rw [hs0]; exact Nat.le_refl _, ⟨.slice none 0 0, [], h5, RowOf.start _ _ _⟩⟩
  have C := Lib.hid (listR_t (w.heap.size + 3) B (w.heap.size + 1 + 1) w.heap.size (.int .i64 3) (.int .i64 0) (.string ⟨#[]⟩) (.slice none 0 0) s W0 hg hsz CV hst hb)
  obtain ⟨l, hl⟩ : ∃ l, s.data.toList = 91 :: l := by
    rw [headB_cons] at hb
    cases hs : s.data.toList with
    | nil => rw [hs] at hb; cases hb
    | cons x l => rw [hs] at hb; exact ⟨l, by rw [show x = 91 by simpa using hb]⟩
  have HRL := Lib.hid (show rdL s.data.toList = (listL false 91 93 s.data.toList).map fun p => (.mk 3 0 ⟨#[]⟩ p.1 p.2.1, p.2.2) by rw [hl]; exact rdL_row l)
  have HBW := Lib.hid hbw
  have HG := Lib.hid hg
  have HZ5 := Lib.hid hz5
  have HS0 := Lib.hid hs0
  have HLT := Lib.hid hr.lt
  have HW0 := Lib.hid hW0
  have hmf : ∀ (fn : Fn) (first cap : Array Value) (w : World), (Instr.makeFunc fn first cap).run Tryd.prog w = .ok (.func fn first cap) w := fun _ _ _ _ => rfl
  clear hr he hB hsz hb CV hg hs0 hbw hp hz5 h5 hst hl hW0 hq1 hq2
  go_enter Tryd.func23, Tryd.ntmps23
  go_wp2_with fail
  rw [HW0.out]
  clear HW0
  refine C.out.mono ?_
  intro e w2 hx
  have hi := hx.is
  have HFR := Lib.hid hx.fr
  have HGO := Lib.hid (show Gone B w w2 from
    ⟨hx.fr.os.trans HBW.out.os, hx.fr.tape.trans HBW.out.tape, hx.fr.output.trans HBW.out.output, Nat.le_trans HBW.out.size hx.fr.size, fun k hk h1 => (hx.fr.block k (by omega) (fun e => h1 (by rw [e])) (by omega)).trans (HBW.out.block k hk)⟩)
  cases ho : listL false 91 93 s.data.toList with
  | none =>
    rw [ho] at hi
    obtain rfl : e = .panicked [{ v := .iface 26 (.int .i64 6), recovered := false }] := hi
    have HO := Lib.hid (show rdL s.data.toList = none by rw [HRL.out, ho]; rfl)
    clear ho hx
    go_wp2_with fail
    exact ⟨rfl, ⟨HGO.out, by rw [HO.out]; rfl⟩⟩
  | some p =>
    rw [ho] at hi
    obtain ⟨rfl, hrd, HROW⟩ := hi
    have HRD := Lib.hid hrd
    have HO := Lib.hid (show rdL s.data.toList = some (.mk 3 0 ⟨#[]⟩ p.1 p.2.1, p.2.2) by rw [HRL.out, ho]; rfl)
    have hz2 : At5 w2 (w.heap.size + 1) (.int .i64 0) (.int .i64 0) (.string ⟨#[]⟩) (.slice none 0 0) (.slice none 0 0) := (hx.fr.block (w.heap.size + 1) (by omega) (by have := HLT.out; omega) (by omega)).trans HZ5.out
    obtain ⟨z0, z1, z2, z3, z4⟩ := hz2.cells
    have f0 := hz2.frozen 0
    have f1 := hz2.frozen 1
    have f2 := hz2.frozen 2
    have f3 := hz2.frozen 3
    have f4 := hz2.frozen 4
    obtain ⟨hv, xs, h5, hrow⟩ := HROW
    have hnm : p.2.1 = [] := listL_row _ _ _ ho
    have HNM := Lib.hid hnm
    obtain ⟨v0, v1, v2, v3, v4⟩ := h5.cells
    obtain ⟨ev, hf5, hin, hsub⟩ := hrow.fives
    have HV := Lib.hid (show ValIn (fun b => w.heap.size + 3 ≤ b) w2 (.agg #[.int .i64 3, .int .i64 0, .string ⟨#[]⟩, hv, .slice none 0 0]) (.mk 3 0 ⟨#[]⟩ p.1 p.2.1) by
      rw [hnm]
      exact .mk 3 0 ⟨#[]⟩ hv _ p.1 [] ev (by decide) (by decide) (by decide) (Or.inl ⟨rfl, Or.inl rfl⟩) (fun h => absurd h (by simp)) (by simp) hf5 hin hsub)
    obtain ⟨ha, hc, rfl⟩ : ∃ ha hc, hv = .slice ha p.1.length hc := by
      rcases hrow.own.2 with ⟨e, h0⟩ | ⟨g, cap, cur, e, -⟩
      · exact ⟨none, 0, by rw [e, h0]⟩
      · exact ⟨_, _, e⟩
    obtain ⟨n, hn⟩ : ∃ n, p.1.length = n := ⟨_, rfl⟩
    rw [hn] at HV v3
    have HZ2 := Lib.hid hz2
    clear ho hx hrd hnm h5 hrow hf5 hin hsub hz2 hn
    go_wp2_with fail
    exact bodyPost_ret (results_cell_row (p := 2) rfl _ _ (w.heap.size + 1) 25 _ (0, 0) _ rfl (set5_five0 HZ2.out _ _ _ _ _) Tryd.underlying25 rfl valSize) rfl (val_done (Nat.le_succ _) (by omega) HLT.out HGO.out HRD.out HV.out HO.out)

set_option maxRecDepth 100000 in
set_option maxHeartbeats 4000000 in
theorem object_t (B : Nat) (s : ByteArray) (w : World) (hr : RdAt w B s) (he : TEnv w) (hB : 8 ≤ B) (hsz : s.size ≤ 4096) (hb : headB s 123 = true)
    (CV : ∀ t : ByteArray, t.size < s.size → ∀ w, RdAt w B t → TEnv w → Calls Tryd.prog 16 #[.pointer (some ⟨B, 0, none⟩)] w (ValEnds B t w)) :
    Calls Tryd.prog 24 #[.pointer (some ⟨B, 0, none⟩)] w fun e w' => ValEnds B s w e w' := by
  have hg : Geo (w.heap.size + 3) B (w.heap.size + 1 + 1) w.heap.size := by
    have := hr.lt
    have := he.size
    exact ⟨hB, by omega, by omega, by omega, by omega, by omega, by omega, by omega⟩
  obtain ⟨W0, hW0⟩ : ∃ W0, ((w.alloc (.cells #[.pointer (some ⟨B, 0, none⟩)] 47)).alloc (.cells #[.int .i64 0, .int .i64 0, .string ⟨#[]⟩, .slice none 0 0, .slice none 0 0] 25)).alloc (.cells #[.int .i64 4, .int .i64 0, .string ⟨#[]⟩, .slice none 0 0, .slice none 0 0] 25) = W0 := ⟨_, rfl⟩
  have hs0 : W0.heap.size = w.heap.size + 3 := by rw [← hW0]; simp
  have hbw : Below w.heap.size w W0 := by
    rw [← hW0]
    exact (((Below.refl _ _).alloc (Nat.le_refl _) _).alloc (by simp) _).alloc (by simp; omega) _
  have hq1 : ∀ o, (w.alloc o).heap.size = w.heap.size + 1 := fun o => by simp
  have hq2 : ∀ o o', ((w.alloc o).alloc o').heap.size = w.heap.size + 1 + 1 := fun o o' => by simp
  have hp : PtrAt W0 w.heap.size B := by
    rw [← hW0]
    exact (Below.heap_alloc _ _ _ (by rw [hq2]; omega)).trans ((Below.heap_alloc _ _ _ (by rw [hq1]; omega)).trans (heap_alloc_new w _))
  have hz5 : At5 W0 (w.heap.size + 1) (.int .i64 0) (.int .i64 0) (.string ⟨#[]⟩) (.slice none 0 0) (.slice none 0 0) := by
    rw [← hW0]
    have e := heap_alloc_new (w.alloc (.cells #[.pointer (some ⟨B, 0, none⟩)] 47)) (.cells #[.int .i64 0, .int .i64 0, .string ⟨#[]⟩, .slice none 0 0, .slice none 0 0] 25)
    rw [hq1] at e
    exact (Below.heap_alloc _ _ _ (by rw [hq2]; omega)).trans e
  have h5 : At5 W0 (w.heap.size + 1 + 1) (.int .i64 4) (.int .i64 0) (.string ⟨#[]⟩) (.slice none 0 0) (.slice none 0 0) := by
    rw [← hW0]
    have e := heap_alloc_new ((w.alloc (.cells #[.pointer (some ⟨B, 0, none⟩)] 47)).alloc (.cells #[.int .i64 0, .int .i64 0, .string ⟨#[]⟩, .slice none 0 0, .slice none 0 0] 25)) (.cells #[.int .i64 4, .int .i64 0, .string ⟨#[]⟩, .slice none 0 0, .slice none 0 0] 25)
    rw [hq2] at e
    exact e
  have hst : StO (w.heap.size + 3) B (w.heap.size + 1 + 1) w.heap.size (.int .i64 4) (.int .i64 0) (.string ⟨#[]⟩) W0 [] [] s W0 :=
    ⟨Fr2.refl _ _ _ _, hr.kept (hbw.block B hr.lt), he.below hbw, hp, by rw [hs0]; exact Nat.le_refl _, ⟨.slice none 0 0, .slice none 0 0, [], h5, RowOf.start _ _ _, ⟨World.ownsRow_nil _ _ _ _, by simp⟩⟩⟩
  have C := Lib.hid (listO_t (w.heap.size + 3) B (w.heap.size + 1 + 1) w.heap.size (.int .i64 4) (.int .i64 0) (.string ⟨#[]⟩) s W0 hg hsz CV hst hb)
  obtain ⟨l, hl⟩ : ∃ l, s.data.toList = 123 :: l := by
    rw [headB_cons] at hb
    cases hs : s.data.toList with
    | nil => rw [hs] at hb; cases hb
    | cons x l => rw [hs] at hb; exact ⟨l, by rw [show x = 123 by simpa using hb]⟩
  have HRL := Lib.hid (show rdL s.data.toList = (listL true 123 125 s.data.toList).map fun p => (.mk 4 0 ⟨#[]⟩ p.1 p.2.1, p.2.2) by rw [hl]; exact rdL_object l)
  have HBW := Lib.hid hbw
  have HG := Lib.hid hg
  have HZ5 := Lib.hid hz5
  have HS0 := Lib.hid hs0
  have HLT := Lib.hid hr.lt
  have HW0 := Lib.hid hW0
  have hmf : ∀ (fn : Fn) (first cap : Array Value) (w : World), (Instr.makeFunc fn first cap).run Tryd.prog w = .ok (.func fn first cap) w := fun _ _ _ _ => rfl
  clear hr he hB hsz hb CV hg hs0 hbw hp hz5 h5 hst hl hW0 hq1 hq2
  go_enter Tryd.func24, Tryd.ntmps24
  go_wp2_with fail
  rw [HW0.out]
  clear HW0
  refine C.out.mono ?_
  intro e w2 hx
  have hi := hx.is
  have HFR := Lib.hid hx.fr
  have HGO := Lib.hid (show Gone B w w2 from
    ⟨hx.fr.os.trans HBW.out.os, hx.fr.tape.trans HBW.out.tape, hx.fr.output.trans HBW.out.output, Nat.le_trans HBW.out.size hx.fr.size, fun k hk h1 => (hx.fr.block k (by omega) (fun e => h1 (by rw [e])) (by omega)).trans (HBW.out.block k hk)⟩)
  cases ho : listL true 123 125 s.data.toList with
  | none =>
    rw [ho] at hi
    obtain rfl : e = .panicked [{ v := .iface 26 (.int .i64 6), recovered := false }] := hi
    have HO := Lib.hid (show rdL s.data.toList = none by rw [HRL.out, ho]; rfl)
    clear ho hx
    go_wp2_with fail
    exact ⟨rfl, ⟨HGO.out, by rw [HO.out]; rfl⟩⟩
  | some p =>
    rw [ho] at hi
    obtain ⟨rfl, hrd, HROW⟩ := hi
    have HRD := Lib.hid hrd
    have HO := Lib.hid (show rdL s.data.toList = some (.mk 4 0 ⟨#[]⟩ p.1 p.2.1, p.2.2) by rw [HRL.out, ho]; rfl)
    have hz2 : At5 w2 (w.heap.size + 1) (.int .i64 0) (.int .i64 0) (.string ⟨#[]⟩) (.slice none 0 0) (.slice none 0 0) := (hx.fr.block (w.heap.size + 1) (by omega) (by have := HLT.out; omega) (by omega)).trans HZ5.out
    obtain ⟨z0, z1, z2, z3, z4⟩ := hz2.cells
    have f0 := hz2.frozen 0
    have f1 := hz2.frozen 1
    have f2 := hz2.frozen 2
    have f3 := hz2.frozen 3
    have f4 := hz2.frozen 4
    obtain ⟨hv, hn, xs, h5, hrow, hnames⟩ := HROW
    obtain ⟨v0, v1, v2, v3, v4⟩ := h5.cells
    obtain ⟨ev, hf5, hin, hsub⟩ := hrow.fives
    have hNS := hnames.strs
    have HV := Lib.hid (show ValIn (fun b => w.heap.size + 3 ≤ b) w2 (.agg #[.int .i64 4, .int .i64 0, .string ⟨#[]⟩, hv, hn]) (.mk 4 0 ⟨#[]⟩ p.1 p.2.1) from
      .mk 4 0 ⟨#[]⟩ hv hn p.1 p.2.1 ev (by decide) (by decide) (by decide) hNS.1 hNS.2 (fun x hx => Nat.le_trans (hnames.size x hx) (by decide)) hf5 hin hsub)
    obtain ⟨ha, hc, rfl⟩ : ∃ ha hc, hv = .slice ha p.1.length hc := by
      rcases hrow.own.2 with ⟨e, h0⟩ | ⟨g, cap, cur, e, -⟩
      · exact ⟨none, 0, by rw [e, h0]⟩
      · exact ⟨_, _, e⟩
    obtain ⟨na, nc, rfl⟩ : ∃ na nc, hn = .slice na p.2.1.length nc := by
      rcases hnames.own.2 with ⟨e, h0⟩ | ⟨g, cap, cur, e, -⟩
      · exact ⟨none, 0, by rw [e, h0]⟩
      · exact ⟨_, _, e⟩
    obtain ⟨n, hnn⟩ : ∃ n, p.1.length = n := ⟨_, rfl⟩
    obtain ⟨m, hmm⟩ : ∃ m, p.2.1.length = m := ⟨_, rfl⟩
    rw [hnn] at HV v3
    rw [hmm] at HV v4
    have HZ2 := Lib.hid hz2
    clear ho hx hrd h5 hrow hnames hf5 hin hsub hz2 hnn hmm hNS
    go_wp2_with fail
    exact bodyPost_ret (results_cell_row (p := 2) rfl _ _ (w.heap.size + 1) 25 _ (0, 0) _ rfl (set5_five0 HZ2.out _ _ _ _ _) Tryd.underlying25 rfl valSize) rfl (val_done (Nat.le_succ _) (by omega) HLT.out HGO.out HRD.out HV.out HO.out)
end Go.Proofs.YtgkapipiegfmhaaDoor
