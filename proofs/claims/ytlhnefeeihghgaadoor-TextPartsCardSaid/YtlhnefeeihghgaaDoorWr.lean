/-
  The program's writer: a strings.Builder as a struct's one field; the builder's methods there, 'put' and 'word', by contracts. Conditions: none.
-/
import Derived.Test.YtlhnefeeihghgaaDoorOwnVal
import Derived.Shelf.Strings.BuilderK
namespace Go.Proofs.YtlhnefeeihghgaaDoor
open Go.RowKit

theorem builderInfo : (Tryd.prog.info? 52).map (·.size) = some 2 := by kernel_rfl
theorem writerLies : liesAt Tryd.prog Tryd.prog.depth 54 (2 / Tryd.prog.cellsOf 54) 0 52 1 = true := by kernel_rfl
theorem byteInfo : (Tryd.prog.info? 5).map (fun i => (i.zero, i.size, i.bytes)) = some (some (.int .u8 0), 1, 1) := by kernel_rfl
theorem byteCellsOf : Tryd.prog.cellsOf 5 = 1 := by kernel_rfl

/-- The writer at block b has written l; its rows lie from B on. -/
def WrAt (B b : Nat) (l : List UInt8) (w : World) : Prop := Lib.IsBuilderF 54 5 B b (Lib.byteCells l) w

set_option maxHeartbeats 1000000 in
set_option maxRecDepth 100000 in
theorem check_used (b : Nat) (w : World) (h0 : w.cell? ⟨b, 0, none⟩ = some (.pointer (some ⟨b, 0, none⟩))) :
    Calls Tryd.prog 61 #[.pointer (some ⟨b, 0, none⟩)] w fun e w' => e = .returned (.tuple #[]) ∧ w' = w := by
  obtain ⟨j, hj, _⟩ := Option.map_eq_some_iff.1 builderInfo
  go_enter Tryd.func61, Tryd.ntmps61
  go_wp2_with fail
  rw [Lib.run_neq_ptr_same w _ Tryd.underlying49 hj]
  go_wp2_with fail
  go_end0
  exact ⟨rfl, rfl⟩

set_option maxHeartbeats 1000000 in
set_option maxRecDepth 100000 in
theorem check_fresh (b : Nat) (w : World) (h0 : w.cell? ⟨b, 0, none⟩ = some (.pointer none)) (hsh : w.shape? b = some (54, 2)) (hfz : w.frozen? ⟨b, 0, none⟩ = false) :
    Calls Tryd.prog 61 #[.pointer (some ⟨b, 0, none⟩)] w fun e w' => e = .returned (.tuple #[]) ∧ w' = w.setCell ⟨b, 0, none⟩ (.pointer (some ⟨b, 0, none⟩)) := by
  obtain ⟨j, hj, hjs⟩ := Option.map_eq_some_iff.1 builderInfo
  go_enter Tryd.func61, Tryd.ntmps61
  go_wp2_with fail
  rw [Lib.run_to_unsafe w ⟨b, 0, none⟩ Tryd.underlying49 Tryd.underlying90 hj (by rw [hjs]; decide) hsh (Nat.zero_lt_succ 1)]
  simp only [Result.andThen]
  rw [Oper.upon_value]
  go_wp2_with fail
  rw [run_callFunc_extern Tryd.func72 (by kernel_rfl) (by kernel_rfl) (by kernel_rfl) (e := Extern.AbiNoEscape.same) (by kernel_rfl)]
  rw [Lib.run_noEscape]
  simp only [Result.andThen]
  rw [Oper.upon_value]
  go_wp2_with fail
  rw [Lib.run_from_unsafe w ⟨b, 0, none⟩ Tryd.underlying90 Tryd.underlying49 hj hsh writerLies]
  simp only [Result.andThen]
  rw [Oper.upon_value]
  go_wp2_with fail
  go_end0
  exact ⟨rfl, rfl⟩

theorem check_w (B b : Nat) (bs : List Value) (w : World) (h : Lib.IsBuilderF 54 5 B b bs w) :
    Calls Tryd.prog 61 #[.pointer (some ⟨b, 0, none⟩)] w fun e w' => e = .returned (.tuple #[]) ∧ Lib.BuilderAtF 54 5 B b (.pointer (some ⟨b, 0, none⟩)) bs w' ∧ Below B w w' ∧ Lib.OthersKept 5 (some b) w w' := by
  rcases h with h | h
  · refine (check_fresh b w h.cell0 h.shape h.frozen0).mono ?_
    rintro e w' ⟨rfl, rfl⟩
    exact ⟨rfl, h.used _, (Below.refl B w).setCell (p := ⟨b, 0, none⟩) h.1 _, (Lib.OthersKept.refl _ _ w).setCell ⟨b, 0, none⟩ rfl _⟩
  · refine (check_used b w h.cell0).mono ?_
    rintro e w' ⟨rfl, rfl⟩
    exact ⟨rfl, h, Below.refl B _, Lib.OthersKept.refl _ _ _⟩

set_option maxHeartbeats 1000000 in
set_option maxRecDepth 100000 in
theorem len_w (B b : Nat) (l : List UInt8) (w : World) (h : WrAt B b l w) :
    Calls Tryd.prog 44 #[.pointer (some ⟨b, 0, none⟩)] w fun e w' => e = .returned (.int .i64 l.length) ∧ w' = w := by
  obtain ⟨p, hB, v, hbk, hown, hne⟩ : ∃ p, Lib.BuilderAtF 54 5 B b p (Lib.byteCells l) w := by
    rcases h with h | h
    · exact ⟨_, h⟩
    · exact ⟨_, h⟩
  rw [Lib.byteCells_length] at hown
  obtain ⟨ao, cap, rfl⟩ : ∃ ao cap, v = .slice ao l.length cap := by
    rcases hown.2 with ⟨hv, h0⟩ | ⟨g, cap, cur, fz, hv, _⟩
    · exact ⟨none, 0, by rw [hv, h0]⟩
    · exact ⟨_, _, hv⟩
  have c1 : w.cell? ⟨b, 1, none⟩ = some (.slice ao l.length cap) := by rw [Lib.cell_of_heap hbk]; rfl
  go_enter Tryd.func44, Tryd.ntmps44
  go_wp2_with fail
  go_ret
  exact ⟨rfl, rfl⟩

set_option maxHeartbeats 2000000 in
set_option maxRecDepth 100000 in
theorem writeString_w (B b : Nat) (bs : List Value) (s : ByteArray) (w : World) (h : Lib.IsBuilderF 54 5 B b bs w) (hlen : bs.length + s.size ≤ 140737488355328) (hBw : B ≤ w.heap.size) :
    Calls Tryd.prog 45 #[.pointer (some ⟨b, 0, none⟩), .string s] w fun e w' => e = .returned (.tuple #[.int .i64 s.size, .nilIface]) ∧ Lib.BuilderAtF 54 5 B b (.pointer (some ⟨b, 0, none⟩)) (bs ++ Lib.strCells s) w' ∧ Below B w w' ∧ Lib.OthersKept 5 (some b) w w' := by
  obtain ⟨i0, hi, hz0, hz1, hz2⟩ := info_parts byteInfo
  have C := Lib.hid (check_w B b bs w h)
  go_enter Tryd.func45, Tryd.ntmps45
  go_wp2_with fail
  refine C.out.mono ?_
  rintro e w1 ⟨rfl, h1, hb1, hk1⟩
  obtain ⟨hB, v, hbk, hown, hne⟩ := h1
  have c0 : w1.cell? ⟨b, 0, none⟩ = some (.pointer (some ⟨b, 0, none⟩)) := by rw [Lib.cell_of_heap hbk]; rfl
  have c1 : w1.cell? ⟨b, 1, none⟩ = some v := by rw [Lib.cell_of_heap hbk]; rfl
  go_wp2_with (at_builtin; refine Lib.wpList_append_own_stringF _ rfl _ _ 50 9 rfl B 5 i0 Tryd.underlying50 Tryd.underlying9 hi hz0 hz1 hz2 _ _ _ rfl hown s rfl ?c3 ?c4 ?c5 ?_)
  case c3 => unfold maxLen; omega
  case c4 => omega
  case c5 => have := hb1.size; omega
  intro v' w2 hown' hgrow _
  have hlt : b < w1.heap.size := by
    rcases Nat.lt_or_ge b w1.heap.size with h' | h'
    · exact h'
    · simp [Array.getElem?_eq_none h'] at hbk
  have hb2 : w2.heap[b]? = some (.cells #[.pointer (some ⟨b, 0, none⟩), v] 54 (0, 0)) := by
    rw [hgrow.block b hlt (fun e => hne e.symm)]
    exact hbk
  have d0 : w2.cell? ⟨b, 0, none⟩ = some (.pointer (some ⟨b, 0, none⟩)) := by rw [Lib.cell_of_heap hb2]; rfl
  have d1 : w2.cell? ⟨b, 1, none⟩ = some v := by rw [Lib.cell_of_heap hb2]; rfl
  have f1 : w2.frozen? ⟨b, 1, none⟩ = false := Lib.frozen_of_heap hb2 1
  obtain ⟨ao, n', cap, rfl⟩ : ∃ ao n' cap, v' = .slice ao n' cap := by
    rcases hown'.2 with ⟨hv, _⟩ | ⟨g, cap, cur, fz, hv, _⟩
    · exact ⟨_, _, _, hv⟩
    · exact ⟨_, _, _, hv⟩
  go_wp2_with fail
  go_ret2
  refine ⟨rfl, ?_, ?_, (hk1.grown hgrow (Lib.ownsRowF_kind hown)).setCell ⟨b, 1, none⟩ rfl _⟩
  · exact Lib.BuilderAtF.put (T := 54) (e := 5) hB hb2 (bs' := bs ++ Lib.strCells s) (by simpa [Lib.strCells_length] using hown') (by decide)
  · exact (hb1.grown hgrow (by have := hb1.size; omega) (fun k hk => (hown.lt k hk).1)).setCell (p := ⟨b, 1, none⟩) hB _

set_option maxHeartbeats 1000000 in
set_option maxRecDepth 100000 in
theorem string_w (B b : Nat) (l : List UInt8) (w : World) (h : WrAt B b l w) (h0 : l ≠ []) :
    Calls Tryd.prog 26 #[.pointer (some ⟨b, 0, none⟩)] w fun e w' => e = .returned (.string ⟨l.toArray⟩) ∧ Below B w w' := by
  obtain ⟨p, hB, v, hbk, hown, hne⟩ : ∃ p, Lib.BuilderAtF 54 5 B b p (Lib.byteCells l) w := by
    rcases h with h | h
    · exact ⟨_, h⟩
    · exact ⟨_, h⟩
  have hl0 : l.length ≠ 0 := by simpa using h0
  rw [Lib.byteCells_length] at hown
  obtain ⟨g, cap, cur, fz, rfl, hbg, hg, hfz, hnc, hcm, hcs, htake⟩ : ∃ g cap cur fz, v = .slice (some ⟨g, 0, none⟩) l.length cap ∧ B ≤ g ∧ w.heap[g]? = some (.cells cur 5 fz) ∧ fz.2 ≤ l.length * 1 ∧ l.length ≤ cap ∧ cap ≤ maxLen ∧ cur.size = cap * 1 ∧ cur.toList.take (l.length * 1) = Lib.byteCells l := by
    rcases hown.2 with ⟨_, hz⟩ | ⟨g, cap, cur, fz, hv, r⟩
    · exact absurd hz hl0
    · exact ⟨g, cap, cur, fz, hv, r⟩
  have c1 : w.drew.cell? ⟨b, 1, none⟩ = some (.slice (some ⟨g, 0, none⟩) l.length cap) := by
    have : w.drew.heap[b]? = some (.cells #[p, .slice (some ⟨g, 0, none⟩) l.length cap] 54 (0, 0)) := hbk
    rw [Lib.cell_of_heap this]; rfl
  have hSD : (Builtin.unsafeSliceData_ #[50] 65 #[.slice (some ⟨g, 0, none⟩) l.length cap]).run Tryd.prog w.drew = .ok (.pointer (some ⟨g, 0, none⟩)) w.drew :=
    Lib.run_unsafeSliceData_row _ _ _ _ _ _ (by omega)
  have hUS : (Builtin.unsafeString_ #[65, 3] 9 #[.pointer (some ⟨g, 0, none⟩), .int .i64 l.length]).run Tryd.prog w.drew = .ok (.string ⟨l.toArray⟩) (w.drew.freeze ⟨g, 0, none⟩ l.length) := by
    refine Lib.run_unsafeString_row w.drew 65 3 9 5 Tryd.underlying65 byteCellsOf g cur.size (by have hg' : w.drew.heap[g]? = some (.cells cur 5 fz) := hg; simp [World.shape?, hg']) l h0 (by omega) (by unfold maxLen at hcm; omega) ?_
    intro j x hx
    exact hown.cells (g := g) rfl j (.int .u8 x.toNat) (by simp [Lib.byteCells, hx])
  go_enter Tryd.func26, Tryd.ntmps26
  go_wp2_with fail
  go_region
  all_goals (go_wp2_with fail; go_ret; exact ⟨rfl, Lib.below_freeze (Below.drew (Below.refl B w)) (p := ⟨g, 0, none⟩) hbg _⟩)

/-- How a piece's writing ends. -/
structure PutEnds (B b : Nat) (l : List UInt8) (w : World) (e : Ending) (w' : World) : Prop where
  below : Below B w w'
  kept : Lib.OthersKept 5 (some b) w w'
  is : if l.length ≤ 4096 then e = .returned (.tuple #[]) ∧ WrAt B b l w' else e = stop 2
/-- Since w0 only the writer at b has turned, and has written l. -/
structure WrSt (B b : Nat) (w0 : World) (l : List UInt8) (w : World) : Prop where
  below : Below B w0 w
  kept : Lib.OthersKept 5 (some b) w0 w
  wr : WrAt B b l w
  low : B ≤ w.heap.size
theorem WrAt.lt {B b : Nat} {l : List UInt8} {w : World} (h : WrAt B b l w) : b < w.heap.size := by
  rcases h with h | h
  · exact h.lt
  · exact h.lt
theorem WrSt.start {B b : Nat} {w : World} {l : List UInt8} (h : WrAt B b l w) (hB : B ≤ w.heap.size) : WrSt B b w l w := ⟨Below.refl _ _, Lib.OthersKept.refl _ _ _, h, hB⟩
theorem WrSt.alloc {B b : Nat} {w0 w : World} {l : List UInt8} (h : WrSt B b w0 l w) (o : Obj) : WrSt B b w0 l (w.alloc o) :=
  ⟨h.below.alloc h.low _, h.kept.alloc _, Lib.IsBuilderF.alloc h.wr o, by have := h.low; simp; omega⟩
theorem wr_keep {B b : Nat} {l : List UInt8} {w w' : World} (h : WrAt B b l w) (hb : Below w.heap.size w w') : WrAt B b l w' := by
  have go : ∀ p, Lib.BuilderAtF 54 5 B b p (Lib.byteCells l) w → Lib.BuilderAtF 54 5 B b p (Lib.byteCells l) w' := fun p hp => by
    have hlt := hp.lt
    obtain ⟨hB, v, hv, hown, hne⟩ := hp
    refine ⟨hB, v, (hb.block b hlt).trans hv, hown.kept (row := none) ⟨hb.os, hb.tape, hb.output, hb.size, fun k hk _ => hb.block k hk⟩ ?_, hne⟩
    cases v.ownBlock <;> simp
  exact h.elim (fun x => Or.inl (go _ x)) (fun x => Or.inr (go _ x))
theorem WrSt.next {B b : Nat} {w0 w w' : World} {l : List UInt8} (h : WrSt B b w0 l w) (hb : Below w.heap.size w w') : WrSt B b w0 l w' :=
  ⟨h.below.trans (hb.mono h.low), h.kept.trans (fun k _ hk _ _ => (hb.block k (Array.getElem?_eq_some_iff.1 hk).1).trans hk), wr_keep h.wr hb, Nat.le_trans h.low hb.size⟩
theorem WrSt.call {B b : Nat} {w0 w w' : World} {l l' : List UInt8} {e : Ending} (h : WrSt B b w0 l w) (p : PutEnds B b l' w e w') (hl : l'.length ≤ 4096) : e = .returned (.tuple #[]) ∧ WrSt B b w0 l' w' := by
  have hi := p.is
  rw [if_pos hl] at hi
  exact ⟨hi.1, h.below.trans p.below, h.kept.trans p.kept, hi.2, Nat.le_trans h.low p.below.size⟩
theorem WrSt.stops {B b : Nat} {w0 w w' : World} {l l' t : List UInt8} {e : Ending} (h : WrSt B b w0 l w) (p : PutEnds B b l' w e w') (hl : ¬ l'.length ≤ 4096) (ht : l'.length ≤ t.length) : e = stop 2 ∧ PutEnds B b t w0 (stop 2) w' := by
  have hi := p.is
  rw [if_neg hl] at hi
  exact ⟨hi, h.below.trans p.below, h.kept.trans p.kept, by rw [if_neg (by omega)]⟩
theorem WrSt.ends {B b : Nat} {w0 w : World} {l : List UInt8} (h : WrSt B b w0 l w) (hl : l.length ≤ 4096) : PutEnds B b l w0 (.returned (.tuple #[])) w := ⟨h.below, h.kept, by rw [if_pos hl]; exact ⟨rfl, h.wr⟩⟩
theorem At5.others {w w' : World} {V b : Nat} {c0 c1 c2 c3 c4 : Value} (h : At5 w V c0 c1 c2 c3 c4) (hk : Lib.OthersKept 5 (some b) w w') (hne : V ≠ b) : At5 w' V c0 c1 c2 c3 c4 :=
  hk V _ h (fun e => hne (Option.some.inj e)) (fun c fz e => by simp only [Obj.cells.injEq] at e; exact absurd e.2.1 (by decide))

set_option maxRecDepth 100000 in
theorem put_t (B b : Nat) (l : List UInt8) (s : ByteArray) (w : World) (hw : WrAt B b l w) (hl : l.length ≤ 4096) (hs : s.size ≤ 4096) (hB : B ≤ w.heap.size) :
    Calls Tryd.prog 33 #[.pointer (some ⟨b, 0, none⟩), .string s] w fun e w' => PutEnds B b (l ++ s.data.toList) w e w' := by
  have C := Lib.hid (len_w B b l w hw)
  have hsz := Lib.size_eq s
  have hwr : IntKind.i64.wrap ((l.length : Int) + (s.size : Int)) = (l.length : Int) + (s.size : Int) := by rw [IntKind.wrap_i64]; omega
  have HL := Lib.hid (show (l ++ s.data.toList).length = l.length + s.size by rw [List.length_append, hsz])
  by_cases h : 4096 < l.length + s.size
  · have h1 : (4096 : Int) < (l.length : Int) + (s.size : Int) := by omega
    have H := Lib.hid h
    clear h hsz hw
    go_enter Tryd.func33, Tryd.ntmps33
    go_wp2_with fail
    refine C.out.mono ?_
    rintro e w1 ⟨rfl, rfl⟩
    go_wp2_with fail
    exact ⟨rfl, Below.refl _ _, Lib.OthersKept.refl _ _ _, by rw [if_neg (by have := HL.out; have := H.out; omega)]; rfl⟩
  · have h1 : ¬ (4096 : Int) < (l.length : Int) + (s.size : Int) := by omega
    have H := Lib.hid h
    have D := Lib.hid (writeString_w B b (Lib.byteCells l) s w hw (by rw [Lib.byteCells_length]; omega) hB)
    clear h hsz hw
    go_enter Tryd.func33, Tryd.ntmps33
    go_wp2_with fail
    refine C.out.mono ?_
    rintro e w1 ⟨rfl, rfl⟩
    go_wp2_with fail
    refine D.out.mono ?_
    rintro e w2 ⟨rfl, hw2, hb2, hk2⟩
    have HW2 := Lib.hid hw2
    have HB2 := Lib.hid hb2
    have HK2 := Lib.hid hk2
    clear hw2 hb2 hk2
    go_wp2_with fail
    go_end0
    refine ⟨HB2.out, HK2.out, ?_⟩
    rw [if_pos (by have := HL.out; have := H.out; omega)]
    refine ⟨rfl, Or.inr ?_⟩
    rw [Lib.byteCells_append]
    exact HW2.out

set_option maxRecDepth 100000 in
theorem word_w (B b : Nat) (l : List UInt8) (s : ByteArray) (w : World) (hw : WrAt B b l w) (hl : l.length ≤ 4096) (hs : s.size ≤ 4096) (hB : B ≤ w.heap.size) :
    Calls Tryd.prog 35 #[.pointer (some ⟨b, 0, none⟩), .string s] w fun e w' => PutEnds B b (l ++ 34 :: s.data.toList ++ [34]) w e w' := by
  have C := Lib.hid (fun l w hw hl s hs hB => put_t B b l s w hw hl hs hB)
  have S0 := Lib.hid (WrSt.start hw hB)
  have HS := Lib.hid hs
  have HT := Lib.hid (show l ++ 34 :: s.data.toList ++ [34] = l ++ [34] ++ s.data.toList ++ [34] by simp)
  rw [HT.out]
  have HL := Lib.hid hl
  clear hw hB hs hl
  go_enter Tryd.func35, Tryd.ntmps35
  go_wp2_with fail
  refine (C.out _ _ S0.out.wr HL.out ⟨#[34]⟩ (by decide) S0.out.low).mono ?_
  intro e w1 p1
  have p1 : PutEnds B b (l ++ [34]) w e w1 := p1
  by_cases h1 : (l ++ [34]).length ≤ 4096
  · obtain ⟨rfl, s1⟩ := S0.out.call p1 h1
    have S1 := Lib.hid s1
    have H1 := Lib.hid h1
    clear p1 s1 h1
    go_wp2_with fail
    refine (C.out _ _ S1.out.wr H1.out s HS.out S1.out.low).mono ?_
    intro e w2 p2
    by_cases h2 : (l ++ [34] ++ s.data.toList).length ≤ 4096
    · obtain ⟨rfl, s2⟩ := S1.out.call p2 h2
      have S2 := Lib.hid s2
      have H2 := Lib.hid h2
      clear p2 s2 h2
      go_wp2_with fail
      refine (C.out _ _ S2.out.wr H2.out ⟨#[34]⟩ (by decide) S2.out.low).mono ?_
      intro e w3 p3
      have p3 : PutEnds B b (l ++ [34] ++ s.data.toList ++ [34]) w2 e w3 := p3
      by_cases h3 : (l ++ [34] ++ s.data.toList ++ [34]).length ≤ 4096
      · obtain ⟨rfl, s3⟩ := S2.out.call p3 h3
        have P3 := Lib.hid (s3.ends h3)
        clear p3 s3 h3
        go_wp2_with fail
        go_end0
        exact P3.out
      · obtain ⟨h0, s3⟩ := S2.out.stops p3 h3 (Nat.le_refl _)
        obtain rfl : e = .panicked [{ v := .iface 26 (.int .i64 2), recovered := false }] := h0
        have P3 := Lib.hid s3
        clear p3 s3 h3
        go_wp2_with fail
        exact ⟨rfl, P3.out⟩
    · obtain ⟨h0, s3⟩ := S1.out.stops (t := l ++ [34] ++ s.data.toList ++ [34]) p2 h2 (by simp)
      obtain rfl : e = .panicked [{ v := .iface 26 (.int .i64 2), recovered := false }] := h0
      have P3 := Lib.hid s3
      clear p2 s3 h2
      go_wp2_with fail
      exact ⟨rfl, P3.out⟩
  · obtain ⟨h0, s3⟩ := S0.out.stops (t := l ++ [34] ++ s.data.toList ++ [34]) p1 h1 (by simp)
    obtain rfl : e = .panicked [{ v := .iface 26 (.int .i64 2), recovered := false }] := h0
    have P3 := Lib.hid s3
    clear p1 s3 h1
    go_wp2_with fail
    exact ⟨rfl, P3.out⟩
end Go.Proofs.YtlhnefeeihghgaaDoor
