/-
  The program's writer: a strings.Builder as a struct's one field; the builder's methods there, 'put' and 'word', by contracts. Conditions: none.
  The program's writer: the items of a row and of an object, by contracts. Conditions: the writer's value by its contract.
  The program's writer: a value, by induction on its depth. Conditions: the package-level variables as TLow says.
-/
import Derived.Test.YtepcaglekgeamaaGreatDoorYTxt1
import Derived.Shelf.Strings.BuilderK
import Derived.Test.YtepcaglekgeamaaGreatDoorYTxt0
import Derived.Test.YtepcaglekgeamaaGreatDoorYTxt2
namespace Go.Proofs.YtepcaglekgeamaaGreatDoor
open Go.RowKit

theorem builderInfo : (Tryz.prog.info? 96).map (·.size) = some 2 := by kernel_rfl

theorem writerLies : liesAt Tryz.prog Tryz.prog.depth 98 (2 / Tryz.prog.cellsOf 98) 0 96 1 = true := by kernel_rfl

theorem byteInfo : (Tryz.prog.info? 5).map (fun i => (i.zero, i.size, i.bytes)) = some (some (.int .u8 0), 1, 1) := by kernel_rfl

theorem byteCellsOf : Tryz.prog.cellsOf 5 = 1 := by kernel_rfl

def WrAt (B b : Nat) (l : List UInt8) (w : World) : Prop := Lib.IsBuilderF 98 5 B b (Lib.byteCells l) w

set_option maxHeartbeats 1000000 in
set_option maxRecDepth 100000 in
theorem check_used (b : Nat) (w : World) (h0 : w.cell? ⟨b, 0, none⟩ = some (.pointer (some ⟨b, 0, none⟩))) :
    Calls Tryz.prog 90 #[.pointer (some ⟨b, 0, none⟩)] w fun e w' => e = .returned (.tuple #[]) ∧ w' = w := by
  obtain ⟨j, hj, _⟩ := Option.map_eq_some_iff.1 builderInfo
  go_enter Tryz.func90, Tryz.ntmps90
  go_wp2_with fail
  rw [Lib.run_neq_ptr_same w _ Tryz.underlying94 hj]
  go_wp2_with fail
  go_end0
  exact ⟨rfl, rfl⟩

set_option maxHeartbeats 1000000 in
set_option maxRecDepth 100000 in
theorem check_fresh (b : Nat) (w : World) (h0 : w.cell? ⟨b, 0, none⟩ = some (.pointer none)) (hsh : w.shape? b = some (98, 2)) (hfz : w.frozen? ⟨b, 0, none⟩ = false) :
    Calls Tryz.prog 90 #[.pointer (some ⟨b, 0, none⟩)] w fun e w' => e = .returned (.tuple #[]) ∧ w' = w.setCell ⟨b, 0, none⟩ (.pointer (some ⟨b, 0, none⟩)) := by
  obtain ⟨j, hj, hjs⟩ := Option.map_eq_some_iff.1 builderInfo
  go_enter Tryz.func90, Tryz.ntmps90
  go_wp2_with fail
  rw [Lib.run_to_unsafe w ⟨b, 0, none⟩ Tryz.underlying94 Tryz.underlying148 hj (by rw [hjs]; decide) hsh (Nat.zero_lt_succ 1)]
  simp only [Result.andThen]
  rw [Oper.upon_value]
  go_wp2_with fail
  rw [run_callFunc_extern Tryz.func113 (by kernel_rfl) (by kernel_rfl) (by kernel_rfl) (e := Extern.AbiNoEscape.same) (by kernel_rfl)]
  rw [Lib.run_noEscape]
  simp only [Result.andThen]
  rw [Oper.upon_value]
  go_wp2_with fail
  rw [Lib.run_from_unsafe w ⟨b, 0, none⟩ Tryz.underlying148 Tryz.underlying94 hj hsh writerLies]
  simp only [Result.andThen]
  rw [Oper.upon_value]
  go_wp2_with fail
  go_end0
  exact ⟨rfl, rfl⟩

theorem check_w (B b : Nat) (bs : List Value) (w : World) (h : Lib.IsBuilderF 98 5 B b bs w) :
    Calls Tryz.prog 90 #[.pointer (some ⟨b, 0, none⟩)] w fun e w' => e = .returned (.tuple #[]) ∧ Lib.BuilderAtF 98 5 B b (.pointer (some ⟨b, 0, none⟩)) bs w' ∧ Below B w w' ∧ Lib.OthersKept 5 (some b) w w' := by
  rcases h with h | h
  · refine (check_fresh b w h.cell0 h.shape h.frozen0).mono ?_
    rintro e w' ⟨rfl, rfl⟩
    exact ⟨rfl, h.used _, (Below.refl B w).setCell (p := ⟨b, 0, none⟩) h.1 _, (Lib.OthersKept.refl _ _ w).setCell ⟨b, 0, none⟩ rfl _⟩
  · refine (check_used b w h.cell0).mono ?_
    rintro e w' ⟨rfl, rfl⟩
    exact ⟨rfl, h, Below.refl B _, Lib.OthersKept.refl _ _ _⟩

set_option maxHeartbeats 1000000 in
set_option maxRecDepth 100000 in
theorem len_w (B b : Nat) (l : List UInt8) (w : World) (h : WrAt B b l w) :
    Calls Tryz.prog 111 #[.pointer (some ⟨b, 0, none⟩)] w fun e w' => e = .returned (.int .i64 l.length) ∧ w' = w := by
  obtain ⟨p, hB, v, hbk, hown, hne⟩ : ∃ p, Lib.BuilderAtF 98 5 B b p (Lib.byteCells l) w := by
    rcases h with h | h
    · exact ⟨_, h⟩
    · exact ⟨_, h⟩
  rw [Lib.byteCells_length] at hown
  obtain ⟨ao, cap, rfl⟩ : ∃ ao cap, v = .slice ao l.length cap := by
    rcases hown.2 with ⟨hv, h0⟩ | ⟨g, cap, cur, fz, hv, _⟩
    · exact ⟨none, 0, by rw [hv, h0]⟩
    · exact ⟨_, _, hv⟩
  have c1 : w.cell? ⟨b, 1, none⟩ = some (.slice ao l.length cap) := by rw [Lib.cell_of_heap hbk]; rfl
  go_enter Tryz.func111, Tryz.ntmps111
  go_wp2_with fail
  go_ret
  exact ⟨rfl, rfl⟩

set_option maxHeartbeats 2000000 in
set_option maxRecDepth 100000 in
theorem writeString_w (B b : Nat) (bs : List Value) (s : ByteArray) (w : World) (h : Lib.IsBuilderF 98 5 B b bs w) (hlen : bs.length + s.size ≤ 140737488355328) (hBw : B ≤ w.heap.size) :
    Calls Tryz.prog 112 #[.pointer (some ⟨b, 0, none⟩), .string s] w fun e w' => e = .returned (.tuple #[.int .i64 s.size, .nilIface]) ∧ Lib.BuilderAtF 98 5 B b (.pointer (some ⟨b, 0, none⟩)) (bs ++ Lib.strCells s) w' ∧ Below B w w' ∧ Lib.OthersKept 5 (some b) w w' := by
  obtain ⟨i0, hi, hz0, hz1, hz2⟩ := info_parts byteInfo
  have C := Lib.hid (check_w B b bs w h)
  go_enter Tryz.func112, Tryz.ntmps112
  go_wp2_with fail
  refine C.out.mono ?_
  rintro e w1 ⟨rfl, h1, hb1, hk1⟩
  obtain ⟨hB, v, hbk, hown, hne⟩ := h1
  have c0 : w1.cell? ⟨b, 0, none⟩ = some (.pointer (some ⟨b, 0, none⟩)) := by rw [Lib.cell_of_heap hbk]; rfl
  have c1 : w1.cell? ⟨b, 1, none⟩ = some v := by rw [Lib.cell_of_heap hbk]; rfl
  go_wp2_with (at_builtin; refine Lib.wpList_append_own_stringF _ rfl _ _ 63 9 rfl B 5 i0 Tryz.underlying63 Tryz.underlying9 hi hz0 hz1 hz2 _ _ _ rfl hown s rfl ?c3 ?c4 ?c5 ?_)
  case c3 => unfold maxLen; omega
  case c4 => omega
  case c5 => have := hb1.size; omega
  intro v' w2 hown' hgrow _
  have hlt : b < w1.heap.size := by
    rcases Nat.lt_or_ge b w1.heap.size with h' | h'
    · exact h'
    · simp [Array.getElem?_eq_none h'] at hbk
  have hb2 : w2.heap[b]? = some (.cells #[.pointer (some ⟨b, 0, none⟩), v] 98 (0, 0)) := by
    rw [hgrow.block b hlt (fun e => hne e.symm)]
    exact hbk
  have d0 : w2.cell? ⟨b, 0, none⟩ = some (.pointer (some ⟨b, 0, none⟩)) := by rw [Lib.cell_of_heap hb2]; rfl
  have d1 : w2.cell? ⟨b, 1, none⟩ = some v := by rw [Lib.cell_of_heap hb2]; rfl
  have f1 : w2.frozen? ⟨b, 1, none⟩ = false := Lib.frozen_of_heap hb2 1
  obtain ⟨ao, n', cap, rfl⟩ : ∃ ao n' cap, v' = .slice ao n' cap := by
    rcases hown'.2 with ⟨hv, _⟩ | ⟨g, cap, cur, fz, hv, _⟩
    · exact ⟨_, _, _, hv⟩
    · exact ⟨_, _, _, hv⟩
  go_wp2_with fail
  go_ret2
  refine ⟨rfl, ?_, ?_, (hk1.grown hgrow (Lib.ownsRowF_kind hown)).setCell ⟨b, 1, none⟩ rfl _⟩
  · exact Lib.BuilderAtF.put (T := 98) (e := 5) hB hb2 (bs' := bs ++ Lib.strCells s) (by simpa [Lib.strCells_length] using hown') (by decide)
  · exact (hb1.grown hgrow (by have := hb1.size; omega) (fun k hk => (hown.lt k hk).1)).setCell (p := ⟨b, 1, none⟩) hB _

set_option maxHeartbeats 1000000 in
set_option maxRecDepth 100000 in
theorem string_w (B b : Nat) (l : List UInt8) (w : World) (h : WrAt B b l w) (h0 : l ≠ []) :
    Calls Tryz.prog 63 #[.pointer (some ⟨b, 0, none⟩)] w fun e w' => e = .returned (.string ⟨l.toArray⟩) ∧ Below B w w' := by
  obtain ⟨p, hB, v, hbk, hown, hne⟩ : ∃ p, Lib.BuilderAtF 98 5 B b p (Lib.byteCells l) w := by
    rcases h with h | h
    · exact ⟨_, h⟩
    · exact ⟨_, h⟩
  have hl0 : l.length ≠ 0 := by simpa using h0
  rw [Lib.byteCells_length] at hown
  obtain ⟨g, cap, cur, fz, rfl, hbg, hg, hfz, hnc, hcm, hcs, htake⟩ : ∃ g cap cur fz, v = .slice (some ⟨g, 0, none⟩) l.length cap ∧ B ≤ g ∧ w.heap[g]? = some (.cells cur 5 fz) ∧ fz.2 ≤ l.length * 1 ∧ l.length ≤ cap ∧ cap ≤ maxLen ∧ cur.size = cap * 1 ∧ cur.toList.take (l.length * 1) = Lib.byteCells l := by
    rcases hown.2 with ⟨_, hz⟩ | ⟨g, cap, cur, fz, hv, r⟩
    · exact absurd hz hl0
    · exact ⟨g, cap, cur, fz, hv, r⟩
  have c1 : w.drew.cell? ⟨b, 1, none⟩ = some (.slice (some ⟨g, 0, none⟩) l.length cap) := by
    have : w.drew.heap[b]? = some (.cells #[p, .slice (some ⟨g, 0, none⟩) l.length cap] 98 (0, 0)) := hbk
    rw [Lib.cell_of_heap this]; rfl
  have hSD : (Builtin.unsafeSliceData_ #[63] 126 #[.slice (some ⟨g, 0, none⟩) l.length cap]).run Tryz.prog w.drew = .ok (.pointer (some ⟨g, 0, none⟩)) w.drew :=
    Lib.run_unsafeSliceData_row _ _ _ _ _ _ (by omega)
  have hUS : (Builtin.unsafeString_ #[126, 3] 9 #[.pointer (some ⟨g, 0, none⟩), .int .i64 l.length]).run Tryz.prog w.drew = .ok (.string ⟨l.toArray⟩) (w.drew.freeze ⟨g, 0, none⟩ l.length) := by
    refine Lib.run_unsafeString_row w.drew 126 3 9 5 Tryz.underlying126 byteCellsOf g cur.size (by have hg' : w.drew.heap[g]? = some (.cells cur 5 fz) := hg; simp [World.shape?, hg']) l h0 (by omega) (by unfold maxLen at hcm; omega) ?_
    intro j x hx
    exact hown.cells (g := g) rfl j (.int .u8 x.toNat) (by simp [Lib.byteCells, hx])
  go_enter Tryz.func63, Tryz.ntmps63
  go_wp2_with fail
  go_region
  all_goals (go_wp2_with fail; go_ret; exact ⟨rfl, Lib.below_freeze (Below.drew (Below.refl B w)) (p := ⟨g, 0, none⟩) hbg _⟩)

structure PutEnds (B b : Nat) (l : List UInt8) (w : World) (e : Ending) (w' : World) : Prop where
  below : Below B w w'
  kept : Lib.OthersKept 5 (some b) w w'
  is : if l.length ≤ 4096 then e = .returned (.tuple #[]) ∧ WrAt B b l w' else e = stop 2

structure WrSt (B b : Nat) (w0 : World) (l : List UInt8) (w : World) : Prop where
  below : Below B w0 w
  kept : Lib.OthersKept 5 (some b) w0 w
  wr : WrAt B b l w
  low : B ≤ w.heap.size

theorem WrAt.lt {B b : Nat} {l : List UInt8} {w : World} (h : WrAt B b l w) : b < w.heap.size := by
  rcases h with h | h
  · exact h.lt
  · exact h.lt

theorem WrSt.start {B b : Nat} {w : World} {l : List UInt8} (h : WrAt B b l w) (hB : B ≤ w.heap.size) : WrSt B b w l w := ⟨Below.refl _ _, Lib.OthersKept.refl _ _ _, h, hB⟩

theorem WrSt.alloc {B b : Nat} {w0 w : World} {l : List UInt8} (h : WrSt B b w0 l w) (o : Obj) : WrSt B b w0 l (w.alloc o) :=
  ⟨h.below.alloc h.low _, h.kept.alloc _, Lib.IsBuilderF.alloc h.wr o, by have := h.low; simp; omega⟩

theorem wr_keep {B b : Nat} {l : List UInt8} {w w' : World} (h : WrAt B b l w) (hb : Below w.heap.size w w') : WrAt B b l w' := by
  have go : ∀ p, Lib.BuilderAtF 98 5 B b p (Lib.byteCells l) w → Lib.BuilderAtF 98 5 B b p (Lib.byteCells l) w' := fun p hp => by
    have hlt := hp.lt
    obtain ⟨hB, v, hv, hown, hne⟩ := hp
    refine ⟨hB, v, (hb.block b hlt).trans hv, hown.kept (row := none) ⟨hb.os, hb.tape, hb.output, hb.size, fun k hk _ => hb.block k hk⟩ ?_, hne⟩
    cases v.ownBlock <;> simp
  exact h.elim (fun x => Or.inl (go _ x)) (fun x => Or.inr (go _ x))

theorem WrSt.next {B b : Nat} {w0 w w' : World} {l : List UInt8} (h : WrSt B b w0 l w) (hb : Below w.heap.size w w') : WrSt B b w0 l w' :=
  ⟨h.below.trans (hb.mono h.low), h.kept.trans (fun k _ hk _ _ => (hb.block k (Array.getElem?_eq_some_iff.1 hk).1).trans hk), wr_keep h.wr hb, Nat.le_trans h.low hb.size⟩

theorem WrSt.call {B b : Nat} {w0 w w' : World} {l l' : List UInt8} {e : Ending} (h : WrSt B b w0 l w) (p : PutEnds B b l' w e w') (hl : l'.length ≤ 4096) : e = .returned (.tuple #[]) ∧ WrSt B b w0 l' w' := by
  have hi := p.is
  rw [if_pos hl] at hi
  exact ⟨hi.1, h.below.trans p.below, h.kept.trans p.kept, hi.2, Nat.le_trans h.low p.below.size⟩

theorem WrSt.stops {B b : Nat} {w0 w w' : World} {l l' t : List UInt8} {e : Ending} (h : WrSt B b w0 l w) (p : PutEnds B b l' w e w') (hl : ¬ l'.length ≤ 4096) (ht : l'.length ≤ t.length) : e = stop 2 ∧ PutEnds B b t w0 (stop 2) w' := by
  have hi := p.is
  rw [if_neg hl] at hi
  exact ⟨hi, h.below.trans p.below, h.kept.trans p.kept, by rw [if_neg (by omega)]⟩

theorem WrSt.ends {B b : Nat} {w0 w : World} {l : List UInt8} (h : WrSt B b w0 l w) (hl : l.length ≤ 4096) : PutEnds B b l w0 (.returned (.tuple #[])) w := ⟨h.below, h.kept, by rw [if_pos hl]; exact ⟨rfl, h.wr⟩⟩

theorem At5.others {w w' : World} {V b : Nat} {c0 c1 c2 c3 c4 : Value} (h : At5 w V c0 c1 c2 c3 c4) (hk : Lib.OthersKept 5 (some b) w w') (hne : V ≠ b) : At5 w' V c0 c1 c2 c3 c4 :=
  hk V _ h (fun e => hne (Option.some.inj e)) (fun c fz e => by simp only [Obj.cells.injEq] at e; exact absurd e.2.1 (by decide))

set_option maxRecDepth 100000 in
theorem put_t (B b : Nat) (l : List UInt8) (s : ByteArray) (w : World) (hw : WrAt B b l w) (hl : l.length ≤ 4096) (hs : s.size ≤ 4096) (hB : B ≤ w.heap.size) :
    Calls Tryz.prog 85 #[.pointer (some ⟨b, 0, none⟩), .string s] w fun e w' => PutEnds B b (l ++ s.data.toList) w e w' := by
  have C := Lib.hid (len_w B b l w hw)
  have hsz := Lib.size_eq s
  have hwr : IntKind.i64.wrap ((l.length : Int) + (s.size : Int)) = (l.length : Int) + (s.size : Int) := by rw [IntKind.wrap_i64]; omega
  have HL := Lib.hid (show (l ++ s.data.toList).length = l.length + s.size by rw [List.length_append, hsz])
  by_cases h : 4096 < l.length + s.size
  · have h1 : (4096 : Int) < (l.length : Int) + (s.size : Int) := by omega
    have H := Lib.hid h
    clear h hsz hw
    go_enter Tryz.func85, Tryz.ntmps85
    go_wp2_with fail
    refine C.out.mono ?_
    rintro e w1 ⟨rfl, rfl⟩
    go_wp2_with fail
    exact ⟨rfl, Below.refl _ _, Lib.OthersKept.refl _ _ _, by rw [if_neg (by have := HL.out; have := H.out; omega)]; rfl⟩
  · have h1 : ¬ (4096 : Int) < (l.length : Int) + (s.size : Int) := by omega
    have H := Lib.hid h
    have D := Lib.hid (writeString_w B b (Lib.byteCells l) s w hw (by rw [Lib.byteCells_length]; omega) hB)
    clear h hsz hw
    go_enter Tryz.func85, Tryz.ntmps85
    go_wp2_with fail
    refine C.out.mono ?_
    rintro e w1 ⟨rfl, rfl⟩
    go_wp2_with fail
    refine D.out.mono ?_
    rintro e w2 ⟨rfl, hw2, hb2, hk2⟩
    have HW2 := Lib.hid hw2
    have HB2 := Lib.hid hb2
    have HK2 := Lib.hid hk2
    clear hw2 hb2 hk2
    go_wp2_with fail
    go_end0
    refine ⟨HB2.out, HK2.out, ?_⟩
    rw [if_pos (by have := HL.out; have := H.out; omega)]
    refine ⟨rfl, Or.inr ?_⟩
    rw [Lib.byteCells_append]
    exact HW2.out

set_option maxRecDepth 100000 in
theorem word_w (B b : Nat) (l : List UInt8) (s : ByteArray) (w : World) (hw : WrAt B b l w) (hl : l.length ≤ 4096) (hs : s.size ≤ 4096) (hB : B ≤ w.heap.size) :
    Calls Tryz.prog 86 #[.pointer (some ⟨b, 0, none⟩), .string s] w fun e w' => PutEnds B b (l ++ 34 :: s.data.toList ++ [34]) w e w' := by
  have C := Lib.hid (fun l w hw hl s hs hB => put_t B b l s w hw hl hs hB)
  have S0 := Lib.hid (WrSt.start hw hB)
  have HS := Lib.hid hs
  have HT := Lib.hid (show l ++ 34 :: s.data.toList ++ [34] = l ++ [34] ++ s.data.toList ++ [34] by simp)
  rw [HT.out]
  have HL := Lib.hid hl
  clear hw hB hs hl
  go_enter Tryz.func86, Tryz.ntmps86
  go_wp2_with fail
  refine (C.out _ _ S0.out.wr HL.out ⟨#[34]⟩ (by decide) S0.out.low).mono ?_
  intro e w1 p1
  have p1 : PutEnds B b (l ++ [34]) w e w1 := p1
  by_cases h1 : (l ++ [34]).length ≤ 4096
  · obtain ⟨rfl, s1⟩ := S0.out.call p1 h1
    have S1 := Lib.hid s1
    have H1 := Lib.hid h1
    clear p1 s1 h1
    go_wp2_with fail
    refine (C.out _ _ S1.out.wr H1.out s HS.out S1.out.low).mono ?_
    intro e w2 p2
    by_cases h2 : (l ++ [34] ++ s.data.toList).length ≤ 4096
    · obtain ⟨rfl, s2⟩ := S1.out.call p2 h2
      have S2 := Lib.hid s2
      have H2 := Lib.hid h2
      clear p2 s2 h2
      go_wp2_with fail
      refine (C.out _ _ S2.out.wr H2.out ⟨#[34]⟩ (by decide) S2.out.low).mono ?_
      intro e w3 p3
      have p3 : PutEnds B b (l ++ [34] ++ s.data.toList ++ [34]) w2 e w3 := p3
      by_cases h3 : (l ++ [34] ++ s.data.toList ++ [34]).length ≤ 4096
      · obtain ⟨rfl, s3⟩ := S2.out.call p3 h3
        have P3 := Lib.hid (s3.ends h3)
        clear p3 s3 h3
        go_wp2_with fail
        go_end0
        exact P3.out
      · obtain ⟨h0, s3⟩ := S2.out.stops p3 h3 (Nat.le_refl _)
        obtain rfl : e = .panicked [{ v := .iface 24 (.int .i64 2), recovered := false }] := h0
        have P3 := Lib.hid s3
        clear p3 s3 h3
        go_wp2_with fail
        exact ⟨rfl, P3.out⟩
    · obtain ⟨h0, s3⟩ := S1.out.stops (t := l ++ [34] ++ s.data.toList ++ [34]) p2 h2 (by simp)
      obtain rfl : e = .panicked [{ v := .iface 24 (.int .i64 2), recovered := false }] := h0
      have P3 := Lib.hid s3
      clear p2 s3 h2
      go_wp2_with fail
      exact ⟨rfl, P3.out⟩
  · obtain ⟨h0, s3⟩ := S0.out.stops (t := l ++ [34] ++ s.data.toList ++ [34]) p1 h1 (by simp)
    obtain rfl : e = .panicked [{ v := .iface 24 (.int .i64 2), recovered := false }] := h0
    have P3 := Lib.hid s3
    clear p1 s3 h1
    go_wp2_with fail
    exact ⟨rfl, P3.out⟩
end Go.Proofs.YtepcaglekgeamaaGreatDoor
namespace Go.Proofs.YtepcaglekgeamaaGreatDoor
open Go.RowKit

theorem WrSt.andThen {B b : Nat} {w0 w w' : World} {l t : List UInt8} {e : Ending} (h : WrSt B b w0 l w) (p : PutEnds B b t w e w') : PutEnds B b t w0 e w' := ⟨h.below.trans p.below, h.kept.trans p.kept, p.is⟩

theorem WrSt.andThen' {B b : Nat} {w0 w w' : World} {l t : List UInt8} (h : WrSt B b w0 l w) (p : WrSt B b w t w') : WrSt B b w0 t w' := ⟨h.below.trans p.below, h.kept.trans p.kept, p.wr, p.low⟩

theorem TLow.low {B : Nat} {w w' : World} (h : TLow w) (hb : Below B w w') (hB : 13 ≤ B) : TLow w' := h.keep hb.size fun k hk => hb.block k (Nat.lt_of_lt_of_le hk hB)

theorem len_le (l a b : List UInt8) (h : a.length ≤ b.length) : (l ++ a).length ≤ (l ++ b).length := by rw [List.length_append, List.length_append]; omega

structure Writ (four : Bool) (items : List Val) (names : List ByteArray) (j : Nat) (o : List UInt8) : Prop where
  eq : o ++ bodyL four (decide (j = 0)) (items.drop j) (names.drop j) = bodyL four true items names

theorem Writ.start (four : Bool) (items : List Val) (names : List ByteArray) : Writ four items names 0 [] := ⟨rfl⟩

theorem Writ.step {four : Bool} {items : List Val} {names : List ByteArray} {j : Nat} {o : List UInt8} (H : Writ four items names j o) (h : j < items.length) (o' : List UInt8)
    (ho : o' = o ++ (if decide (j = 0) then [] else [44]) ++ (if four then 34 :: (names[j]?.getD ⟨#[]⟩).data.toList ++ [34, 58] else []) ++ textL items[j]) : Writ four items names (j + 1) o' := by
  obtain ⟨H⟩ := H
  rw [bodyL_drop four _ items names j h] at H
  refine ⟨?_⟩
  rw [ho, ← H, show decide (j + 1 = 0) = false from decide_eq_false (by omega)]
  simp only [List.append_assoc]

theorem Writ.le {four : Bool} {items : List Val} {names : List ByteArray} {j : Nat} {o : List UInt8} (H : Writ four items names j o) : o.length ≤ (bodyL four true items names).length := by
  rw [← H.eq, List.length_append]; omega

theorem Writ.done {four : Bool} {items : List Val} {names : List ByteArray} {j : Nat} {o : List UInt8} (H : Writ four items names j o) (h : items.length ≤ j) : o = bodyL four true items names := by
  rw [← H.eq, List.drop_eq_nil_of_le h, bodyL, List.append_nil]

def WritesOf (B b : Nat) (T : Val) : Prop := ∀ (v : Value) (w : World) (l : List UInt8), ValIn (fun k => k < B) w v T → WrAt B b l w → l.length ≤ 4096 → TLow w → B ≤ w.heap.size →
  Calls Tryz.prog 62 #[.pointer (some ⟨b, 0, none⟩), v] w fun e w' => PutEnds B b (l ++ textL T) w e w'

set_option maxRecDepth 100000 in
set_option maxHeartbeats 8000000 in
theorem items3_t (B b : Nat) (n : Int) (s : ByteArray) (ia na : Option Addr) (li ic nn nc : Nat) (items : List Val) (names : List ByteArray) (ev : Nat → Value) (l : List UInt8) (w : World) (hw : WrAt B b l w) (hl : l.length ≤ 4096) (hB : B ≤ w.heap.size)
    (_hN : StrsAt w (.slice na nn nc) names) (_hNS : InS (fun k => k < B) (.slice na nn nc) names.length) (hI : Fives w (.slice ia li ic) li ev) (hIS : InS (fun k => k < B) (.slice ia li ic) li) (hsub : ∀ (i : Nat) (h : i < items.length), ValIn (fun k => k < B) w (ev i) items[i])
    (hli : items.length = li) (hnn : names.length = nn) (hz : ∀ x ∈ names, x.size ≤ 200) (CV : ∀ T ∈ items, WritesOf B b T) (he : TLow w) (hNG : 13 ≤ B) (hil : li ≤ maxLen) :
    Calls Tryz.prog 87 #[.pointer (some ⟨b, 0, none⟩), .agg #[.int .i64 3, .int .i64 n, .string s, .slice ia li ic, .slice na nn nc]] w fun e w' => PutEnds B b (l ++ bodyL false true items names) w e w' := by
  unfold maxLen at hil
  have CP := Lib.hid (fun l w hw hl s hs hB => put_t B b l s w hw hl hs hB)
  have CW := Lib.hid (fun l w hw hl s hs hB => word_w B b l s w hw hl hs hB)
  have HCV := Lib.hid CV
  have HL := Lib.hid hl
  have HE := Lib.hid he
  have HS := Lib.hid hsub
  have HZ := Lib.hid hz
  have HLI := Lib.hid hli
  have HNN := Lib.hid hnn
  have HNG := Lib.hid hNG
  have hS0 := WrSt.start hw hB
  have hbl := hw.lt
  have HBL := Lib.hid hbl
  rcases hI with ⟨h0, -⟩ | ⟨pb, po, cap, he', hlpos, -, -, hcs⟩
  · have hit : items = [] := List.length_eq_zero_iff.1 (hli.trans h0)
    subst h0
    have HO := Lib.hid (show PutEnds B b (l ++ bodyL false true items names) w (.returned (.tuple #[])) (w.alloc (.cells #[.int .i64 3, .int .i64 n, .string s, .slice ia 0 ic, .slice na nn nc] 71)) from by
      rw [hit, bodyL, List.append_nil]
      exact (hS0.alloc _).ends hl)
    clear hit hw hl hB _hN _hNS hIS hsub hli hnn hz CV he hNG hil hS0 hbl
    go_enter Tryz.func87, Tryz.ntmps87
    go_wp2_with fail
    refine wp_loop_rounds 1 ?_
    rw [rounds_succ]
    go_wp2_with fail
    go_end0
    exact HO.out
  · simp only [Value.slice.injEq] at he'
    obtain ⟨rfl, -, rfl⟩ := he'
    have hpb : pb < B := by
      obtain ⟨b', o', k', c', e', hS⟩ := hIS hlpos
      simp only [Value.slice.injEq, Option.some.injEq, Addr.mk.injEq] at e'
      rw [e'.1.1]; exact hS
    have HCS := Lib.hid hcs
    have HPB := Lib.hid hpb
    have HST0 := Lib.hid (hS0.alloc (.cells #[.int .i64 3, .int .i64 n, .string s, .slice (some ⟨pb, po, none⟩) li ic, .slice na nn nc] 71))
    have HV0 := Lib.hid (At5.new w (.int .i64 3) (.int .i64 n) (.string s) (.slice (some ⟨pb, po, none⟩) li ic) (.slice na nn nc))
    clear hcs hpb hw hl hB _hN _hNS hIS hsub hli hnn hz CV he hNG hS0 hbl
    go_enter Tryz.func87, Tryz.ntmps87
    go_wp2_with fail
    go_loopw [9] (fun iv wr => ∃ (j : Nat) (o : List UInt8), j ≤ li ∧ iv = .int .i64 j ∧ Writ false items names j o ∧ WrSt B b w (l ++ o) wr ∧ (l ++ o).length ≤ 4096 ∧ At5 wr w.heap.size (.int .i64 3) (.int .i64 n) (.string s) (.slice (some ⟨pb, po, none⟩) li ic) (.slice na nn nc) ∧ w.heap.size < wr.heap.size) (fun i _ => li - (intOf i).toNat)
    case atStart => exact ⟨0, [], Nat.zero_le _, rfl, Writ.start _ _ _, by rw [List.append_nil]; exact HST0.out, by rw [List.append_nil]; exact HL.out, HV0.out, by simp⟩
    case round =>
      obtain ⟨j, o, hj, rfl, hW, hst, hlo, hv5, hsz⟩ := hrel
      have HW := Lib.hid hW
      have HST := Lib.hid hst
      have HLO := Lib.hid hlo
      have HV5 := Lib.hid hv5
      have HSZ := Lib.hid hsz
      obtain ⟨a0, a1, a2, a3, a4⟩ := hv5.cells
      clear hW hlo
      by_cases hlt : j < li
      · obtain ⟨c0, c1, c2, c3, c4, hev, e0, e1, e2, e3, e4⟩ := HCS.out j hlt
        have kc : ∀ {i : Nat} {v : Value}, w.cell? ⟨pb, i, none⟩ = some v → wr.cell? ⟨pb, i, none⟩ = some v := fun {i _} h => (hst.below.cell (p := ⟨pb, i, none⟩) HPB.out).trans h
        have v0 := kc e0
        have v1 := kc e1
        have v2 := kc e2
        have v3 := kc e3
        have v4 := kc e4
        have hjl : j < items.length := by have := HLI.out; omega
        have hs1 := HS.out j hjl
        rw [hev] at hs1
        obtain ⟨xk, xn, xs, xia, xna, xli, xic, xnn, xnc, hsh⟩ := hs1.isVal.shape
        simp only [Value.agg.injEq, Array.mk.injEq, List.cons.injEq, and_true] at hsh
        obtain ⟨rfl, rfl, rfl, rfl, rfl⟩ := hsh
        obtain ⟨R, hR⟩ : ∃ R, wr.alloc (.cells #[.int .i64 xk, .int .i64 xn, .string xs, .slice xia xli xic, .slice xna xnn xnc] 71) = R := ⟨_, rfl⟩
        have hbR : Below wr.heap.size wr R := by rw [← hR]; exact below_new _ _
        have hxR : At5 R wr.heap.size (.int .i64 xk) (.int .i64 xn) (.string xs) (.slice xia xli xic) (.slice xna xnn xnc) := by rw [← hR]; exact At5.new _ _ _ _ _ _
        have hstR := hst.next hbR
        have S0 := Lib.hid (WrSt.start hstR.wr hstR.low)
        have HSR := Lib.hid hstR
        have HVR := Lib.hid (fun w' (h : Lib.OthersKept 5 (some b) R w') => show At5 w' w.heap.size (.int .i64 3) (.int .i64 n) (.string s) (.slice (some ⟨pb, po, none⟩) li ic) (.slice na nn nc) ∧ At5 w' wr.heap.size (.int .i64 xk) (.int .i64 xn) (.string xs) (.slice xia xli xic) (.slice xna xnn xnc) from
          ⟨(hv5.keep hbR).others h (by have := HBL.out; omega), hxR.others h (by have := hst.wr.lt; omega)⟩)
        have HX := Lib.hid (fun w' (h : Below B R w') => show ValIn (fun k => k < B) w' (.agg #[.int .i64 xk, .int .i64 xn, .string xs, .slice xia xli xic, .slice xna xnn xnc]) (items[j]'hjl) from
          hs1.keep fun k hS hlk => ⟨((hstR.below.trans h).block k hS), hS⟩)
        have HER := Lib.hid (fun w' (h : Below B R w') => show TLow w' from HE.out.low (hstR.below.trans h) HNG.out)
        have HR := Lib.hid hR
        obtain ⟨b0, b1, b2, b3, b4⟩ := (hv5.keep (below_new wr (.cells #[.int .i64 xk, .int .i64 xn, .string xs, .slice xia xli xic, .slice xna xnn xnc] 71))).cells
        have H0 := HLO
        have CI := Lib.hid (HCV.out (items[j]'hjl) (List.getElem_mem hjl))
        have HSTEP := Lib.hid (HW.out.step hjl)
        clear e0 e1 e2 e3 e4 hev hs1 kc hst hv5 hsz hbR hxR hstR hR
        by_cases hj0 : j = 0
        · subst hj0
          have u0 : wr.cell? ⟨pb, po, none⟩ = some (.int .i64 xk) := by simpa using v0
          have u1 : wr.cell? ⟨pb, po + 1, none⟩ = some (.int .i64 xn) := by simpa using v1
          have u2 : wr.cell? ⟨pb, po + 2, none⟩ = some (.string xs) := by simpa using v2
          have u3 : wr.cell? ⟨pb, po + 3, none⟩ = some (.slice xia xli xic) := by simpa using v3
          have u4 : wr.cell? ⟨pb, po + 4, none⟩ = some (.slice xna xnn xnc) := by simpa using v4
          have HN1 := Lib.hid (HSTEP.out (o ++ textL (items[0]'hjl)) (by simp))
          have HEQ := Lib.hid (show l ++ o ++ textL (items[0]'hjl) = l ++ (o ++ textL (items[0]'hjl)) by simp)
          have HLEN := Lib.hid (show (l ++ o ++ textL (items[0]'hjl)).length ≤ (l ++ bodyL false true items names).length by rw [HEQ.out]; exact len_le _ _ _ HN1.out.le)
          go_wp2_with fail
          rw [HR.out]
          refine (CI.out _ _ _ (HX.out _ S0.out.below) S0.out.wr H0.out (HER.out _ S0.out.below) S0.out.low).mono ?_
          intro e w1 p
          by_cases h1 : (l ++ o ++ textL (items[0]'hjl)).length ≤ 4096
          · obtain ⟨rfl, s1⟩ := S0.out.call p h1
            clear p
            clear b0 b1 b2 b3 b4
            have HEND := Lib.hid s1
            have HENDL := Lib.hid h1
            have HVE := Lib.hid (HVR.out _ s1.kept).1
            have HVS := Lib.hid (show w.heap.size < w1.heap.size from Nat.lt_of_lt_of_le HSZ.out (Nat.le_trans (by rw [← HR.out]; simp) s1.below.size))
            clear s1 h1
            go_wp2_with fail
            go_roundw
            case rel => exact ⟨1, _, by omega, by go_num, HN1.out, by rw [← HEQ.out]; exact HSR.out.andThen' HEND.out, by rw [← HEQ.out]; exact HENDL.out, HVE.out, HVS.out⟩
            case measure => simp [intOf]; omega
          · obtain ⟨h0, s3⟩ := S0.out.stops (t := l ++ bodyL false true items names) p h1 (by have := HLEN.out; simp only [List.length_append] at this ⊢; omega)
            obtain rfl : e = .panicked [{ v := .iface 24 (.int .i64 2), recovered := false }] := h0
            have P3 := Lib.hid (HSR.out.andThen s3)
            clear p s3 h1
            go_wp2_with fail
            exact ⟨rfl, P3.out⟩
        · have hj1 : 0 < j := by omega
          have HN1 := Lib.hid (HSTEP.out (o ++ [44] ++ textL (items[j]'hjl)) (by simp [hj0]))
          have HEQ := Lib.hid (show l ++ o ++ ([44] : List UInt8) ++ textL (items[j]'hjl) = l ++ (o ++ [44] ++ textL (items[j]'hjl)) by simp)
          have HLEN := Lib.hid (show (l ++ o ++ ([44] : List UInt8) ++ textL (items[j]'hjl)).length ≤ (l ++ bodyL false true items names).length by rw [HEQ.out]; exact len_le _ _ _ HN1.out.le)
          go_wp2_with fail
          rw [HR.out]
          refine (CP.out _ _ S0.out.wr H0.out ⟨#[44]⟩ (by decide) S0.out.low).mono ?_
          intro e w1 p
          have p : PutEnds B b (l ++ o ++ ([44] : List UInt8)) R e w1 := p
          by_cases h1 : (l ++ o ++ ([44] : List UInt8)).length ≤ 4096
          · obtain ⟨rfl, s1⟩ := S0.out.call p h1
            clear p
            clear b0 b1 b2 b3 b4
            have S1 := Lib.hid s1
            have H1 := Lib.hid h1
            obtain ⟨hvv, hxx⟩ := HVR.out _ s1.kept
            obtain ⟨d0, d1, d2, d3, d4⟩ := hvv.cells
            obtain ⟨x0, x1, x2, x3, x4⟩ := hxx.cells
            clear s1 h1 hvv hxx
            go_wp2_with fail
            refine (CI.out _ _ _ (HX.out _ S1.out.below) S1.out.wr H1.out (HER.out _ S1.out.below) S1.out.low).mono ?_
            intro e w2 p
            by_cases h2 : (l ++ o ++ ([44] : List UInt8) ++ textL (items[j]'hjl)).length ≤ 4096
            · obtain ⟨rfl, s2⟩ := S1.out.call p h2
              clear p
              clear d0 d1 d2 d3 d4 x0 x1 x2 x3 x4
              have HEND := Lib.hid s2
              have HENDL := Lib.hid h2
              have HVE := Lib.hid (HVR.out _ s2.kept).1
              have HVS := Lib.hid (show w.heap.size < w2.heap.size from Nat.lt_of_lt_of_le HSZ.out (Nat.le_trans (by rw [← HR.out]; simp) s2.below.size))
              clear s2 h2
              go_wp2_with fail
              go_roundw
              case rel => exact ⟨j + 1, _, by omega, by go_num, HN1.out, by rw [← HEQ.out]; exact HSR.out.andThen' HEND.out, by rw [← HEQ.out]; exact HENDL.out, HVE.out, HVS.out⟩
              case measure => simp [intOf]; omega
            · obtain ⟨h0, s3⟩ := S1.out.stops (t := l ++ bodyL false true items names) p h2 (by have := HLEN.out; simp only [List.length_append, List.length_cons, List.length_nil] at this ⊢; omega)
              obtain rfl : e = .panicked [{ v := .iface 24 (.int .i64 2), recovered := false }] := h0
              have P3 := Lib.hid (HSR.out.andThen s3)
              clear p s3 h2
              go_wp2_with fail
              exact ⟨rfl, P3.out⟩
          · obtain ⟨h0, s3⟩ := S0.out.stops (t := l ++ bodyL false true items names) p h1 (by have := HLEN.out; simp only [List.length_append, List.length_cons, List.length_nil] at this ⊢; omega)
            obtain rfl : e = .panicked [{ v := .iface 24 (.int .i64 2), recovered := false }] := h0
            have P3 := Lib.hid (HSR.out.andThen s3)
            clear p s3 h1
            go_wp2_with fail
            exact ⟨rfl, P3.out⟩
      · have hO := HW.out.done (by have := HLI.out; omega)
        have HO := Lib.hid (show PutEnds B b (l ++ bodyL false true items names) w (.returned (.tuple #[])) wr by rw [← hO]; exact HST.out.ends HLO.out)
        clear hst hv5 hsz hO
        go_wp2_with fail
        go_end0
        exact HO.out

set_option maxRecDepth 100000 in
set_option maxHeartbeats 8000000 in
theorem items4_t (B b : Nat) (n : Int) (s : ByteArray) (ia na : Option Addr) (li ic nn nc : Nat) (items : List Val) (names : List ByteArray) (ev : Nat → Value) (l : List UInt8) (w : World) (hw : WrAt B b l w) (hl : l.length ≤ 4096) (hB : B ≤ w.heap.size)
    (hN : StrsAt w (.slice na nn nc) names) (hNS : InS (fun k => k < B) (.slice na nn nc) names.length) (hI : Fives w (.slice ia li ic) li ev) (hIS : InS (fun k => k < B) (.slice ia li ic) li) (hsub : ∀ (i : Nat) (h : i < items.length), ValIn (fun k => k < B) w (ev i) items[i])
    (hli : items.length = li) (hnn : names.length = nn) (hz : ∀ x ∈ names, x.size ≤ 200) (hsame : li = nn) (CV : ∀ T ∈ items, WritesOf B b T) (he : TLow w) (hNG : 13 ≤ B) (hil : li ≤ maxLen) :
    Calls Tryz.prog 87 #[.pointer (some ⟨b, 0, none⟩), .agg #[.int .i64 4, .int .i64 n, .string s, .slice ia li ic, .slice na nn nc]] w fun e w' => PutEnds B b (l ++ bodyL true true items names) w e w' := by
  subst hsame
  unfold maxLen at hil
  have CP := Lib.hid (fun l w hw hl s hs hB => put_t B b l s w hw hl hs hB)
  have CW := Lib.hid (fun l w hw hl s hs hB => word_w B b l s w hw hl hs hB)
  have HCV := Lib.hid CV
  have HL := Lib.hid hl
  have HE := Lib.hid he
  have HS := Lib.hid hsub
  have HZ := Lib.hid hz
  have HLI := Lib.hid hli
  have HNN := Lib.hid hnn
  have HNG := Lib.hid hNG
  have hS0 := WrSt.start hw hB
  have hbl := hw.lt
  have HBL := Lib.hid hbl
  rcases hI with ⟨h0, -⟩ | ⟨pb, po, cap, he', hlpos, -, -, hcs⟩
  · have hit : items = [] := List.length_eq_zero_iff.1 (hli.trans h0)
    subst h0
    have HO := Lib.hid (show PutEnds B b (l ++ bodyL true true items names) w (.returned (.tuple #[])) (w.alloc (.cells #[.int .i64 4, .int .i64 n, .string s, .slice ia 0 ic, .slice na 0 nc] 71)) from by
      rw [hit, bodyL, List.append_nil]
      exact (hS0.alloc _).ends hl)
    clear hit hw hl hB hN hNS hIS hsub hli hnn hz CV he hNG hil hS0 hbl
    go_enter Tryz.func87, Tryz.ntmps87
    go_wp2_with fail
    refine wp_loop_rounds 1 ?_
    rw [rounds_succ]
    go_wp2_with fail
    go_end0
    exact HO.out
  · simp only [Value.slice.injEq] at he'
    obtain ⟨rfl, -, rfl⟩ := he'
    have hpb : pb < B := by
      obtain ⟨b', o', k', c', e', hS⟩ := hIS hlpos
      simp only [Value.slice.injEq, Option.some.injEq, Addr.mk.injEq] at e'
      rw [e'.1.1]; exact hS
    have hqp : 0 < names.length := by omega
    have hqb := hNS hqp
    rcases hN with ⟨hnil, -⟩ | ⟨qb, qo, qcap, hv, -, -, -, hns⟩
    · rw [hnil] at hqp; exact absurd hqp (by simp)
    simp only [Value.slice.injEq] at hv
    obtain ⟨rfl, -, rfl⟩ := hv
    have hqB : qb < B := by
      obtain ⟨b', o', k', c', e', hS⟩ := hqb
      simp only [Value.slice.injEq, Option.some.injEq, Addr.mk.injEq] at e'
      rw [e'.1.1]; exact hS
    have HNS := Lib.hid hns
    have HQB := Lib.hid hqB
    clear hns hqB hqb hqp
    have HCS := Lib.hid hcs
    have HPB := Lib.hid hpb
    have HST0 := Lib.hid (hS0.alloc (.cells #[.int .i64 4, .int .i64 n, .string s, .slice (some ⟨pb, po, none⟩) li ic, .slice (some ⟨qb, qo, none⟩) li nc] 71))
    have HV0 := Lib.hid (At5.new w (.int .i64 4) (.int .i64 n) (.string s) (.slice (some ⟨pb, po, none⟩) li ic) (.slice (some ⟨qb, qo, none⟩) li nc))
    clear hcs hpb hw hl hB hNS hIS hsub hli hnn hz CV he hNG hS0 hbl
    go_enter Tryz.func87, Tryz.ntmps87
    go_wp2_with fail
    go_loopw [9] (fun iv wr => ∃ (j : Nat) (o : List UInt8), j ≤ li ∧ iv = .int .i64 j ∧ Writ true items names j o ∧ WrSt B b w (l ++ o) wr ∧ (l ++ o).length ≤ 4096 ∧ At5 wr w.heap.size (.int .i64 4) (.int .i64 n) (.string s) (.slice (some ⟨pb, po, none⟩) li ic) (.slice (some ⟨qb, qo, none⟩) li nc) ∧ w.heap.size < wr.heap.size) (fun i _ => li - (intOf i).toNat)
    case atStart => exact ⟨0, [], Nat.zero_le _, rfl, Writ.start _ _ _, by rw [List.append_nil]; exact HST0.out, by rw [List.append_nil]; exact HL.out, HV0.out, by simp⟩
    case round =>
      obtain ⟨j, o, hj, rfl, hW, hst, hlo, hv5, hsz⟩ := hrel
      have HW := Lib.hid hW
      have HST := Lib.hid hst
      have HLO := Lib.hid hlo
      have HV5 := Lib.hid hv5
      have HSZ := Lib.hid hsz
      obtain ⟨a0, a1, a2, a3, a4⟩ := hv5.cells
      clear hW hlo
      by_cases hlt : j < li
      · obtain ⟨c0, c1, c2, c3, c4, hev, e0, e1, e2, e3, e4⟩ := HCS.out j hlt
        have kc : ∀ {i : Nat} {v : Value}, w.cell? ⟨pb, i, none⟩ = some v → wr.cell? ⟨pb, i, none⟩ = some v := fun {i _} h => (hst.below.cell (p := ⟨pb, i, none⟩) HPB.out).trans h
        have v0 := kc e0
        have v1 := kc e1
        have v2 := kc e2
        have v3 := kc e3
        have v4 := kc e4
        have hjl : j < items.length := by have := HLI.out; omega
        have hs1 := HS.out j hjl
        rw [hev] at hs1
        obtain ⟨xk, xn, xs, xia, xna, xli, xic, xnn, xnc, hsh⟩ := hs1.isVal.shape
        simp only [Value.agg.injEq, Array.mk.injEq, List.cons.injEq, and_true] at hsh
        obtain ⟨rfl, rfl, rfl, rfl, rfl⟩ := hsh
        obtain ⟨R, hR⟩ : ∃ R, wr.alloc (.cells #[.int .i64 xk, .int .i64 xn, .string xs, .slice xia xli xic, .slice xna xnn xnc] 71) = R := ⟨_, rfl⟩
        have hbR : Below wr.heap.size wr R := by rw [← hR]; exact below_new _ _
        have hxR : At5 R wr.heap.size (.int .i64 xk) (.int .i64 xn) (.string xs) (.slice xia xli xic) (.slice xna xnn xnc) := by rw [← hR]; exact At5.new _ _ _ _ _ _
        have hstR := hst.next hbR
        have S0 := Lib.hid (WrSt.start hstR.wr hstR.low)
        have HSR := Lib.hid hstR
        have HVR := Lib.hid (fun w' (h : Lib.OthersKept 5 (some b) R w') => show At5 w' w.heap.size (.int .i64 4) (.int .i64 n) (.string s) (.slice (some ⟨pb, po, none⟩) li ic) (.slice (some ⟨qb, qo, none⟩) li nc) ∧ At5 w' wr.heap.size (.int .i64 xk) (.int .i64 xn) (.string xs) (.slice xia xli xic) (.slice xna xnn xnc) from
          ⟨(hv5.keep hbR).others h (by have := HBL.out; omega), hxR.others h (by have := hst.wr.lt; omega)⟩)
        have HX := Lib.hid (fun w' (h : Below B R w') => show ValIn (fun k => k < B) w' (.agg #[.int .i64 xk, .int .i64 xn, .string xs, .slice xia xli xic, .slice xna xnn xnc]) (items[j]'hjl) from
          hs1.keep fun k hS hlk => ⟨((hstR.below.trans h).block k hS), hS⟩)
        have HER := Lib.hid (fun w' (h : Below B R w') => show TLow w' from HE.out.low (hstR.below.trans h) HNG.out)
        have HR := Lib.hid hR
        obtain ⟨b0, b1, b2, b3, b4⟩ := (hv5.keep (below_new wr (.cells #[.int .i64 xk, .int .i64 xn, .string xs, .slice xia xli xic, .slice xna xnn xnc] 71))).cells
        have H0 := HLO
        have CI := Lib.hid (HCV.out (items[j]'hjl) (List.getElem_mem hjl))
        have HSTEP := Lib.hid (HW.out.step hjl)
        have hcw := (hst.below.cell (p := ⟨qb, qo + j, none⟩) HQB.out).trans (HNS.out j (by have := HNN.out; omega))
        have hcR := fun o => ((below_new wr o).cell (World.block_lt_of_cell? _ _ hcw)).trans hcw
        have hcq := fun w' (h : Below B R w') => (h.cell (p := ⟨qb, qo + j, none⟩) HQB.out).trans ((hbR.cell (World.block_lt_of_cell? _ _ hcw)).trans hcw)
        obtain ⟨q, hq⟩ : ∃ q, names[j]'(by have := HNN.out; omega) = q := ⟨_, rfl⟩
        have HQZ := Lib.hid (show q.size ≤ 4096 by rw [← hq]; exact Nat.le_trans (HZ.out _ (List.getElem_mem _)) (by decide))
        have HQ := Lib.hid (show names[j]?.getD ⟨#[]⟩ = q by rw [List.getElem?_eq_getElem (by have := HNN.out; omega), hq]; rfl)
        rw [hq] at hcw hcR hcq
        have HCQ := Lib.hid hcq
        clear hq hcq hcw
        clear e0 e1 e2 e3 e4 hev hs1 kc hst hv5 hsz hbR hxR hstR hR
        by_cases hj0 : j = 0
        · subst hj0
          have u0 : wr.cell? ⟨pb, po, none⟩ = some (.int .i64 xk) := by simpa using v0
          have u1 : wr.cell? ⟨pb, po + 1, none⟩ = some (.int .i64 xn) := by simpa using v1
          have u2 : wr.cell? ⟨pb, po + 2, none⟩ = some (.string xs) := by simpa using v2
          have u3 : wr.cell? ⟨pb, po + 3, none⟩ = some (.slice xia xli xic) := by simpa using v3
          have u4 : wr.cell? ⟨pb, po + 4, none⟩ = some (.slice xna xnn xnc) := by simpa using v4
          have hcR0 : ∀ o, (wr.alloc o).cell? ⟨qb, qo, none⟩ = some (.string q) := fun o => by simpa using hcR o
          have HN1 := Lib.hid (HSTEP.out (o ++ ((34 :: q.data.toList : List UInt8) ++ ([34, 58] : List UInt8)) ++ textL (items[0]'hjl)) (by rw [HQ.out]; simp))
          have HEQ := Lib.hid (show l ++ o ++ (34 :: q.data.toList : List UInt8) ++ ([34] : List UInt8) ++ ([58] : List UInt8) ++ textL (items[0]'hjl) = l ++ (o ++ ((34 :: q.data.toList : List UInt8) ++ ([34, 58] : List UInt8)) ++ textL (items[0]'hjl)) by simp)
          have HLEN := Lib.hid (show (l ++ o ++ (34 :: q.data.toList : List UInt8) ++ ([34] : List UInt8) ++ ([58] : List UInt8) ++ textL (items[0]'hjl)).length ≤ (l ++ bodyL true true items names).length by rw [HEQ.out]; exact len_le _ _ _ HN1.out.le)
          go_wp2_with fail
          rw [HR.out]
          refine (CW.out _ _ S0.out.wr H0.out q HQZ.out S0.out.low).mono ?_
          intro e w1 p
          by_cases h1 : (l ++ o ++ (34 :: q.data.toList : List UInt8) ++ ([34] : List UInt8)).length ≤ 4096
          · obtain ⟨rfl, s1⟩ := S0.out.call p h1
            clear p
            clear b0 b1 b2 b3 b4
            have S1 := Lib.hid s1
            have H1 := Lib.hid h1
            obtain ⟨hvv, hxx⟩ := HVR.out _ s1.kept
            obtain ⟨d0, d1, d2, d3, d4⟩ := hvv.cells
            obtain ⟨x0, x1, x2, x3, x4⟩ := hxx.cells
            clear s1 h1 hvv hxx
            go_wp2_with fail
            refine (CP.out _ _ S1.out.wr H1.out ⟨#[58]⟩ (by decide) S1.out.low).mono ?_
            intro e w2 p
            have p : PutEnds B b (l ++ o ++ (34 :: q.data.toList : List UInt8) ++ ([34] : List UInt8) ++ ([58] : List UInt8)) w1 e w2 := p
            by_cases h2 : (l ++ o ++ (34 :: q.data.toList : List UInt8) ++ ([34] : List UInt8) ++ ([58] : List UInt8)).length ≤ 4096
            · obtain ⟨rfl, s2⟩ := S1.out.call p h2
              clear p
              clear d0 d1 d2 d3 d4 x0 x1 x2 x3 x4
              have S2 := Lib.hid s2
              have H2 := Lib.hid h2
              obtain ⟨hvv, hxx⟩ := HVR.out _ s2.kept
              obtain ⟨d0, d1, d2, d3, d4⟩ := hvv.cells
              obtain ⟨x0, x1, x2, x3, x4⟩ := hxx.cells
              clear s2 h2 hvv hxx
              go_wp2_with fail
              refine (CI.out _ _ _ (HX.out _ S2.out.below) S2.out.wr H2.out (HER.out _ S2.out.below) S2.out.low).mono ?_
              intro e w3 p
              by_cases h3 : (l ++ o ++ (34 :: q.data.toList : List UInt8) ++ ([34] : List UInt8) ++ ([58] : List UInt8) ++ textL (items[0]'hjl)).length ≤ 4096
              · obtain ⟨rfl, s3⟩ := S2.out.call p h3
                clear p
                clear d0 d1 d2 d3 d4 x0 x1 x2 x3 x4
                have HEND := Lib.hid s3
                have HENDL := Lib.hid h3
                have HVE := Lib.hid (HVR.out _ s3.kept).1
                have HVS := Lib.hid (show w.heap.size < w3.heap.size from Nat.lt_of_lt_of_le HSZ.out (Nat.le_trans (by rw [← HR.out]; simp) s3.below.size))
                clear s3 h3
                go_wp2_with fail
                go_roundw
                case rel => exact ⟨1, _, by omega, by go_num, HN1.out, by rw [← HEQ.out]; exact HSR.out.andThen' HEND.out, by rw [← HEQ.out]; exact HENDL.out, HVE.out, HVS.out⟩
                case measure => simp [intOf]; omega
              · obtain ⟨h0, s3⟩ := S2.out.stops (t := l ++ bodyL true true items names) p h3 (by have := HLEN.out; simp only [List.length_append, List.length_cons, List.length_nil] at this ⊢; omega)
                obtain rfl : e = .panicked [{ v := .iface 24 (.int .i64 2), recovered := false }] := h0
                have P3 := Lib.hid (HSR.out.andThen s3)
                clear p s3 h3
                go_wp2_with fail
                exact ⟨rfl, P3.out⟩
            · obtain ⟨h0, s3⟩ := S1.out.stops (t := l ++ bodyL true true items names) p h2 (by have := HLEN.out; simp only [List.length_append, List.length_cons, List.length_nil] at this ⊢; omega)
              obtain rfl : e = .panicked [{ v := .iface 24 (.int .i64 2), recovered := false }] := h0
              have P3 := Lib.hid (HSR.out.andThen s3)
              clear p s3 h2
              go_wp2_with fail
              exact ⟨rfl, P3.out⟩
          · obtain ⟨h0, s3⟩ := S0.out.stops (t := l ++ bodyL true true items names) p h1 (by have := HLEN.out; simp only [List.length_append, List.length_cons, List.length_nil] at this ⊢; omega)
            obtain rfl : e = .panicked [{ v := .iface 24 (.int .i64 2), recovered := false }] := h0
            have P3 := Lib.hid (HSR.out.andThen s3)
            clear p s3 h1
            go_wp2_with fail
            exact ⟨rfl, P3.out⟩
        · have hj1 : 0 < j := by omega
          have HN1 := Lib.hid (HSTEP.out (o ++ [44] ++ ((34 :: q.data.toList : List UInt8) ++ ([34, 58] : List UInt8)) ++ textL (items[j]'hjl)) (by rw [HQ.out]; simp [hj0]))
          have HEQ := Lib.hid (show l ++ o ++ ([44] : List UInt8) ++ (34 :: q.data.toList : List UInt8) ++ ([34] : List UInt8) ++ ([58] : List UInt8) ++ textL (items[j]'hjl) = l ++ (o ++ [44] ++ ((34 :: q.data.toList : List UInt8) ++ ([34, 58] : List UInt8)) ++ textL (items[j]'hjl)) by simp)
          have HLEN := Lib.hid (show (l ++ o ++ ([44] : List UInt8) ++ (34 :: q.data.toList : List UInt8) ++ ([34] : List UInt8) ++ ([58] : List UInt8) ++ textL (items[j]'hjl)).length ≤ (l ++ bodyL true true items names).length by rw [HEQ.out]; exact len_le _ _ _ HN1.out.le)
          go_wp2_with fail
          rw [HR.out]
          refine (CP.out _ _ S0.out.wr H0.out ⟨#[44]⟩ (by decide) S0.out.low).mono ?_
          intro e w1 p
          have p : PutEnds B b (l ++ o ++ ([44] : List UInt8)) R e w1 := p
          by_cases h1 : (l ++ o ++ ([44] : List UInt8)).length ≤ 4096
          · obtain ⟨rfl, s1⟩ := S0.out.call p h1
            clear p
            clear b0 b1 b2 b3 b4
            have S1 := Lib.hid s1
            have H1 := Lib.hid h1
            obtain ⟨hvv, hxx⟩ := HVR.out _ s1.kept
            obtain ⟨d0, d1, d2, d3, d4⟩ := hvv.cells
            obtain ⟨x0, x1, x2, x3, x4⟩ := hxx.cells
            have hcw := HCQ.out _ s1.below
            clear s1 h1 hvv hxx
            go_wp2_with fail
            refine (CW.out _ _ S1.out.wr H1.out q HQZ.out S1.out.low).mono ?_
            intro e w2 p
            by_cases h2 : (l ++ o ++ ([44] : List UInt8) ++ (34 :: q.data.toList : List UInt8) ++ ([34] : List UInt8)).length ≤ 4096
            · obtain ⟨rfl, s2⟩ := S1.out.call p h2
              clear p
              clear d0 d1 d2 d3 d4 x0 x1 x2 x3 x4
              have S2 := Lib.hid s2
              have H2 := Lib.hid h2
              obtain ⟨hvv, hxx⟩ := HVR.out _ s2.kept
              obtain ⟨d0, d1, d2, d3, d4⟩ := hvv.cells
              obtain ⟨x0, x1, x2, x3, x4⟩ := hxx.cells
              clear s2 h2 hvv hxx
              go_wp2_with fail
              refine (CP.out _ _ S2.out.wr H2.out ⟨#[58]⟩ (by decide) S2.out.low).mono ?_
              intro e w3 p
              have p : PutEnds B b (l ++ o ++ ([44] : List UInt8) ++ (34 :: q.data.toList : List UInt8) ++ ([34] : List UInt8) ++ ([58] : List UInt8)) w2 e w3 := p
              by_cases h3 : (l ++ o ++ ([44] : List UInt8) ++ (34 :: q.data.toList : List UInt8) ++ ([34] : List UInt8) ++ ([58] : List UInt8)).length ≤ 4096
              · obtain ⟨rfl, s3⟩ := S2.out.call p h3
                clear p
                clear d0 d1 d2 d3 d4 x0 x1 x2 x3 x4
                have S3 := Lib.hid s3
                have H3 := Lib.hid h3
                obtain ⟨hvv, hxx⟩ := HVR.out _ s3.kept
                obtain ⟨d0, d1, d2, d3, d4⟩ := hvv.cells
                obtain ⟨x0, x1, x2, x3, x4⟩ := hxx.cells
                clear s3 h3 hvv hxx
                go_wp2_with fail
                refine (CI.out _ _ _ (HX.out _ S3.out.below) S3.out.wr H3.out (HER.out _ S3.out.below) S3.out.low).mono ?_
                intro e w4 p
                by_cases h4 : (l ++ o ++ ([44] : List UInt8) ++ (34 :: q.data.toList : List UInt8) ++ ([34] : List UInt8) ++ ([58] : List UInt8) ++ textL (items[j]'hjl)).length ≤ 4096
                · obtain ⟨rfl, s4⟩ := S3.out.call p h4
                  clear p
                  clear d0 d1 d2 d3 d4 x0 x1 x2 x3 x4
                  have HEND := Lib.hid s4
                  have HENDL := Lib.hid h4
                  have HVE := Lib.hid (HVR.out _ s4.kept).1
                  have HVS := Lib.hid (show w.heap.size < w4.heap.size from Nat.lt_of_lt_of_le HSZ.out (Nat.le_trans (by rw [← HR.out]; simp) s4.below.size))
                  clear s4 h4
                  go_wp2_with fail
                  go_roundw
                  case rel => exact ⟨j + 1, _, by omega, by go_num, HN1.out, by rw [← HEQ.out]; exact HSR.out.andThen' HEND.out, by rw [← HEQ.out]; exact HENDL.out, HVE.out, HVS.out⟩
                  case measure => simp [intOf]; omega
                · obtain ⟨h0, s3⟩ := S3.out.stops (t := l ++ bodyL true true items names) p h4 (by have := HLEN.out; simp only [List.length_append, List.length_cons, List.length_nil] at this ⊢; omega)
                  obtain rfl : e = .panicked [{ v := .iface 24 (.int .i64 2), recovered := false }] := h0
                  have P3 := Lib.hid (HSR.out.andThen s3)
                  clear p s3 h4
                  go_wp2_with fail
                  exact ⟨rfl, P3.out⟩
              · obtain ⟨h0, s3⟩ := S2.out.stops (t := l ++ bodyL true true items names) p h3 (by have := HLEN.out; simp only [List.length_append, List.length_cons, List.length_nil] at this ⊢; omega)
                obtain rfl : e = .panicked [{ v := .iface 24 (.int .i64 2), recovered := false }] := h0
                have P3 := Lib.hid (HSR.out.andThen s3)
                clear p s3 h3
                go_wp2_with fail
                exact ⟨rfl, P3.out⟩
            · obtain ⟨h0, s3⟩ := S1.out.stops (t := l ++ bodyL true true items names) p h2 (by have := HLEN.out; simp only [List.length_append, List.length_cons, List.length_nil] at this ⊢; omega)
              obtain rfl : e = .panicked [{ v := .iface 24 (.int .i64 2), recovered := false }] := h0
              have P3 := Lib.hid (HSR.out.andThen s3)
              clear p s3 h2
              go_wp2_with fail
              exact ⟨rfl, P3.out⟩
          · obtain ⟨h0, s3⟩ := S0.out.stops (t := l ++ bodyL true true items names) p h1 (by have := HLEN.out; simp only [List.length_append, List.length_cons, List.length_nil] at this ⊢; omega)
            obtain rfl : e = .panicked [{ v := .iface 24 (.int .i64 2), recovered := false }] := h0
            have P3 := Lib.hid (HSR.out.andThen s3)
            clear p s3 h1
            go_wp2_with fail
            exact ⟨rfl, P3.out⟩
      · have hO := HW.out.done (by have := HLI.out; omega)
        have HO := Lib.hid (show PutEnds B b (l ++ bodyL true true items names) w (.returned (.tuple #[])) wr by rw [← hO]; exact HST.out.ends HLO.out)
        clear hst hv5 hsz hO
        go_wp2_with fail
        go_end0
        exact HO.out
end Go.Proofs.YtepcaglekgeamaaGreatDoor
namespace Go.Proofs.YtepcaglekgeamaaGreatDoor
open Go.RowKit

theorem textL_ne (T : Val) (d : Nat) (h : mayV d T = true) : textL T ≠ [] := by
  cases d with
  | zero => rw [mayV] at h; cases h
  | succ d =>
    cases T with
    | mk k n s items names =>
      rw [mayV, Bool.and_eq_true, oneV_iff] at h
      obtain ⟨c, t, e, -, -⟩ := textL_head k n s items names h.1
      rw [e]; simp

theorem IsVal.within {w : World} : ∀ {v : Value} {T : Val}, IsVal w v T → ValIn (fun b => b < w.heap.size) w v T := by
  intro v T h
  induction h with
  | mk kind n s iv nv items names ev hk hn hs hN hz hI hsub ih =>
    refine .mk kind n s iv nv items names ev hk hn hs hN (fun h0 => ?_) hz hI (fun h0 => ?_) ih
    · rcases hN with ⟨rfl, _⟩ | ⟨b, o, cap, rfl, h1, h2, h3, h4⟩
      · simp at h0
      · exact ⟨b, o, _, cap, rfl, World.block_lt_of_cell? _ _ (h4 0 h1)⟩
    · rcases hI with ⟨h1, _⟩ | ⟨b, o, cap, rfl, h1, h2, h3, h4⟩
      · omega
      · obtain ⟨c0, c1, c2, c3, c4, e, k0, _⟩ := h4 0 h1
        exact ⟨b, o, _, cap, rfl, World.block_lt_of_cell? _ _ k0⟩

set_option maxRecDepth 100000 in
set_option maxHeartbeats 8000000 in
theorem value_w (B b : Nat) (hNG : 13 ≤ B) : ∀ (d : Nat) (T : Val), mayV d T = true → WritesOf B b T := by
  intro d
  induction d with
  | zero => intro T h; rw [mayV] at h; cases h
  | succ d ih =>
    intro T hm v w l hv hw hl he hB
    cases hv with
    | mk k n s iv nv items names ev hk hn hs hN hNS hz hI hIS hsub =>
    rw [mayV, Bool.and_eq_true, oneV_iff] at hm
    obtain ⟨h1, h2⟩ := hm
    have hm2 : ∀ x ∈ items, mayV d x = true := List.all_eq_true.1 h2
    clear h2
    obtain ⟨na, nc, rfl, hnc⟩ := hN.shape
    obtain ⟨ia, ic, rfl, hic, hil⟩ := hI.shape
    obtain ⟨nn, hnn⟩ : ∃ x, names.length = x := ⟨_, rfl⟩
    obtain ⟨li, hli⟩ : ∃ x, items.length = x := ⟨_, rfl⟩
    rw [hnn] at hN hNS ⊢
    rw [hli] at hI hil hIS ⊢
    have hS0 := (WrSt.start hw hB).alloc (.cells #[.int .i64 k, .int .i64 n, .string s, .slice ia li ic, .slice na nn nc] 71)
    have hV0 := At5.new w (.int .i64 k) (.int .i64 n) (.string s) (.slice ia li ic) (.slice na nn nc)
    have hbl := hw.lt
    obtain ⟨W0, hW0⟩ : ∃ W0, w.alloc (.cells #[.int .i64 k, .int .i64 n, .string s, .slice ia li ic, .slice na nn nc] 71) = W0 := ⟨_, rfl⟩
    rw [hW0] at hS0 hV0
    have he0 : TLow W0 := he.low hS0.below hNG
    have HW0 := Lib.hid hW0
    have S0 := Lib.hid hS0
    have HL := Lib.hid hl
    have HV0 := Lib.hid hV0
    have hbW : Below w.heap.size w W0 := by rw [← hW0]; exact below_new _ _
    have HWS := Lib.hid (WrSt.start hS0.wr hS0.low)
    have CP := Lib.hid (fun l w hw hl s hs hB => put_t B b l s w hw hl hs hB)
    have hkk : k = 1 ∨ k = 2 ∨ k = 3 ∨ k = 4 := by have := h1.kind; omega
    rcases hkk with rfl | rfl | rfl | rfl
    · have HO := Lib.hid (show textL (.mk 1 n s items names) = Lib.itoa n by rw [textL_eq, if_pos rfl])
      have C := Lib.hid (itoa_low n hn.1 hn.2 W0 he0)
      have hY := Lib.itoa_length_le n hn.1 hn.2
      obtain ⟨Y, hYe⟩ : ∃ Y : ByteArray, (⟨(Lib.itoa n).toArray⟩ : ByteArray) = Y := ⟨_, rfl⟩
      have HYL := Lib.hid (show Y.data.toList = Lib.itoa n by rw [← hYe])
      have HYZ := Lib.hid (show Y.size ≤ 4096 by rw [Lib.size_eq, HYL.out]; omega)
      rw [hYe] at C
      clear h1 hm2 hN hNS hI hIS hsub hz hk hn hs ih hw hB hl he he0 hV0 hS0 hbl hbW hW0 hY hYe hli hnn hnc hic hil
      rw [HO.out]
      go_enter Tryz.func62, Tryz.ntmps62
      go_wp2_with fail
      rw [HW0.out]
      refine C.out.mono ?_
      rintro e w1 ⟨rfl, hb⟩
      have S1 := Lib.hid (S0.out.next hb)
      clear hb
      go_wp2_with fail
      refine (CP.out _ _ S1.out.wr HL.out Y HYZ.out S1.out.low).mono ?_
      intro e w2 p
      rw [HYL.out] at p
      by_cases h2 : (l ++ Lib.itoa n).length ≤ 4096
      · obtain ⟨rfl, s2⟩ := S1.out.call p h2
        have P := Lib.hid (s2.ends h2)
        clear p s2 h2
        go_wp2_with fail
        go_end0
        exact P.out
      · obtain ⟨h0, s3⟩ := S1.out.stops p h2 (Nat.le_refl _)
        obtain rfl : e = .panicked [{ v := .iface 24 (.int .i64 2), recovered := false }] := h0
        have P3 := Lib.hid s3
        clear p s3 h2
        go_wp2_with fail
        exact ⟨rfl, P3.out⟩
    · have HO := Lib.hid (show l ++ textL (.mk 2 n s items names) = l ++ 34 :: s.data.toList ++ [34] by
        rw [textL_eq, if_neg (by decide), if_pos rfl]; simp)
      have C := Lib.hid (word_w B b l s W0 hS0.wr hl (Nat.le_trans (wordB_size s h1.isWord) (by decide)) hS0.low)
      clear h1 hm2 hN hNS hI hIS hsub hz hk hn hs ih hw hB hl he he0 hV0 hS0 hbl hbW hW0 hli hnn hnc hic hil
      rw [HO.out]
      go_enter Tryz.func62, Tryz.ntmps62
      go_wp2_with fail
      rw [HW0.out]
      refine C.out.mono ?_
      intro e w2 p
      by_cases h2 : (l ++ 34 :: s.data.toList ++ [34]).length ≤ 4096
      · obtain ⟨rfl, s2⟩ := S0.out.call p h2
        have P := Lib.hid (s2.ends h2)
        clear p s2 h2
        go_wp2_with fail
        go_end0
        exact P.out
      · obtain ⟨h0, s3⟩ := S0.out.stops p h2 (Nat.le_refl _)
        obtain rfl : e = .panicked [{ v := .iface 24 (.int .i64 2), recovered := false }] := h0
        have P3 := Lib.hid s3
        clear p s3 h2
        go_wp2_with fail
        exact ⟨rfl, P3.out⟩
    · have HO := Lib.hid (show l ++ textL (.mk 3 n s items names) = l ++ [91] ++ bodyL false true items names ++ [93] by
        rw [textL_eq, if_neg (by decide), if_neg (by decide), if_neg (by decide)]; simp)
      have hwz : ∀ x ∈ names, x.size ≤ 200 := fun x hx => wordB_size x (risesL_words _ _ h1.rises x hx)
      have CI := Lib.hid (fun (w' : World) (l : List UInt8) (hbw : Below B W0 w') (hw : WrAt B b l w') (hl : l.length ≤ 4096) (hB' : B ≤ w'.heap.size) =>
        items3_t B b n s ia na li ic nn nc items names ev l w' hw hl hB' (hN.keepB fun b' o' k' c' e h0 hlt => ((hS0.below.trans hbw).block b' (by obtain ⟨b2, o2, k2, c2, e2, hS⟩ := hNS (by omega); rw [e2] at e; simp only [Value.slice.injEq, Option.some.injEq, Addr.mk.injEq] at e; rw [← e.1.1]; exact hS))) (by rw [hnn]; exact hNS) (hI.keepB fun b' o' k' c' e h0 hlt => ((hS0.below.trans hbw).block b' (by obtain ⟨b2, o2, k2, c2, e2, hS⟩ := hIS h0; rw [e2] at e; simp only [Value.slice.injEq, Option.some.injEq, Addr.mk.injEq] at e; rw [← e.1.1]; exact hS))) hIS
          (fun i h => (hsub i h).keep fun k hS hl => ⟨(hS0.below.trans hbw).block k hS, hS⟩) hli hnn hwz (fun T hT => ih T (hm2 T hT)) (he0.low hbw hNG) hNG hil)
      have HVK := Lib.hid (fun w' (h : Lib.OthersKept 5 (some b) W0 w') => hV0.others h (show w.heap.size ≠ b by omega))
      clear h1 hm2 hN hNS hI hIS hsub hz hk hn hs ih hw hB hl he he0 hV0 hS0 hbl hbW hW0 hli hnn hnc hic hil hwz
      rw [HO.out]
      go_enter Tryz.func62, Tryz.ntmps62
      go_wp2_with fail
      rw [HW0.out]
      refine (CP.out _ _ S0.out.wr HL.out ⟨#[91]⟩ (by decide) S0.out.low).mono ?_
      intro e w1 p
      have p : PutEnds B b (l ++ [91]) W0 e w1 := p
      by_cases h1 : (l ++ [91]).length ≤ 4096
      · obtain ⟨-, t1⟩ := HWS.out.call p h1
        obtain ⟨rfl, s1⟩ := S0.out.call p h1
        have S1 := Lib.hid s1
        have T1 := Lib.hid t1
        have H1 := Lib.hid h1
        obtain ⟨a0, a1, a2, a3, a4⟩ := (HVK.out _ t1.kept).cells
        clear p s1 h1 t1
        go_wp2_with fail
        refine (CI.out _ _ T1.out.below S1.out.wr H1.out S1.out.low).mono ?_
        intro e w2 p
        by_cases h2 : (l ++ [91] ++ bodyL false true items names).length ≤ 4096
        · obtain ⟨rfl, s2⟩ := S1.out.call p h2
          have S2 := Lib.hid s2
          have H2 := Lib.hid h2
          clear p s2 h2 a0 a1 a2 a3 a4
          go_wp2_with fail
          refine (CP.out _ _ S2.out.wr H2.out ⟨#[93]⟩ (by decide) S2.out.low).mono ?_
          intro e w3 p
          have p : PutEnds B b (l ++ [91] ++ bodyL false true items names ++ [93]) w2 e w3 := p
          by_cases h3 : (l ++ [91] ++ bodyL false true items names ++ [93]).length ≤ 4096
          · obtain ⟨rfl, s3⟩ := S2.out.call p h3
            have P := Lib.hid (s3.ends h3)
            clear p s3 h3
            go_wp2_with fail
            go_end0
            exact P.out
          · obtain ⟨h0, s3⟩ := S2.out.stops p h3 (Nat.le_refl _)
            obtain rfl : e = .panicked [{ v := .iface 24 (.int .i64 2), recovered := false }] := h0
            have P3 := Lib.hid s3
            clear p s3 h3
            go_wp2_with fail
            exact ⟨rfl, P3.out⟩
        · obtain ⟨h0, s3⟩ := S1.out.stops (t := l ++ [91] ++ bodyL false true items names ++ [93]) p h2 (by simp)
          obtain rfl : e = .panicked [{ v := .iface 24 (.int .i64 2), recovered := false }] := h0
          have P3 := Lib.hid s3
          clear p s3 h2
          go_wp2_with fail
          exact ⟨rfl, P3.out⟩
      · obtain ⟨h0, s3⟩ := S0.out.stops (t := l ++ [91] ++ bodyL false true items names ++ [93]) p h1 (by simp)
        obtain rfl : e = .panicked [{ v := .iface 24 (.int .i64 2), recovered := false }] := h0
        have P3 := Lib.hid s3
        clear p s3 h1
        go_wp2_with fail
        exact ⟨rfl, P3.out⟩
    · have HO := Lib.hid (show l ++ textL (.mk 4 n s items names) = l ++ [123] ++ bodyL true true items names ++ [125] by
        rw [textL_eq, if_neg (by decide), if_neg (by decide), if_pos rfl]; simp)
      have hwz : ∀ x ∈ names, x.size ≤ 200 := fun x hx => wordB_size x (risesL_words _ _ h1.rises x hx)
      have hsame : li = nn := by rw [← hnn, ← hli]; exact (h1.same rfl).symm
      have CI := Lib.hid (fun (w' : World) (l : List UInt8) (hbw : Below B W0 w') (hw : WrAt B b l w') (hl : l.length ≤ 4096) (hB' : B ≤ w'.heap.size) =>
        items4_t B b n s ia na li ic nn nc items names ev l w' hw hl hB' (hN.keepB fun b' o' k' c' e h0 hlt => ((hS0.below.trans hbw).block b' (by obtain ⟨b2, o2, k2, c2, e2, hS⟩ := hNS (by omega); rw [e2] at e; simp only [Value.slice.injEq, Option.some.injEq, Addr.mk.injEq] at e; rw [← e.1.1]; exact hS))) (by rw [hnn]; exact hNS) (hI.keepB fun b' o' k' c' e h0 hlt => ((hS0.below.trans hbw).block b' (by obtain ⟨b2, o2, k2, c2, e2, hS⟩ := hIS h0; rw [e2] at e; simp only [Value.slice.injEq, Option.some.injEq, Addr.mk.injEq] at e; rw [← e.1.1]; exact hS))) hIS
          (fun i h => (hsub i h).keep fun k hS hl => ⟨(hS0.below.trans hbw).block k hS, hS⟩) hli hnn hwz hsame (fun T hT => ih T (hm2 T hT)) (he0.low hbw hNG) hNG hil)
      have HVK := Lib.hid (fun w' (h : Lib.OthersKept 5 (some b) W0 w') => hV0.others h (show w.heap.size ≠ b by omega))
      clear h1 hm2 hN hNS hI hIS hsub hz hk hn hs ih hw hB hl he he0 hV0 hS0 hbl hbW hW0 hli hnn hnc hic hil hwz hsame
      rw [HO.out]
      go_enter Tryz.func62, Tryz.ntmps62
      go_wp2_with fail
      rw [HW0.out]
      refine (CP.out _ _ S0.out.wr HL.out ⟨#[123]⟩ (by decide) S0.out.low).mono ?_
      intro e w1 p
      have p : PutEnds B b (l ++ [123]) W0 e w1 := p
      by_cases h1 : (l ++ [123]).length ≤ 4096
      · obtain ⟨-, t1⟩ := HWS.out.call p h1
        obtain ⟨rfl, s1⟩ := S0.out.call p h1
        have S1 := Lib.hid s1
        have T1 := Lib.hid t1
        have H1 := Lib.hid h1
        obtain ⟨a0, a1, a2, a3, a4⟩ := (HVK.out _ t1.kept).cells
        clear p s1 h1 t1
        go_wp2_with fail
        refine (CI.out _ _ T1.out.below S1.out.wr H1.out S1.out.low).mono ?_
        intro e w2 p
        by_cases h2 : (l ++ [123] ++ bodyL true true items names).length ≤ 4096
        · obtain ⟨rfl, s2⟩ := S1.out.call p h2
          have S2 := Lib.hid s2
          have H2 := Lib.hid h2
          clear p s2 h2 a0 a1 a2 a3 a4
          go_wp2_with fail
          refine (CP.out _ _ S2.out.wr H2.out ⟨#[125]⟩ (by decide) S2.out.low).mono ?_
          intro e w3 p
          have p : PutEnds B b (l ++ [123] ++ bodyL true true items names ++ [125]) w2 e w3 := p
          by_cases h3 : (l ++ [123] ++ bodyL true true items names ++ [125]).length ≤ 4096
          · obtain ⟨rfl, s3⟩ := S2.out.call p h3
            have P := Lib.hid (s3.ends h3)
            clear p s3 h3
            go_wp2_with fail
            go_end0
            exact P.out
          · obtain ⟨h0, s3⟩ := S2.out.stops p h3 (Nat.le_refl _)
            obtain rfl : e = .panicked [{ v := .iface 24 (.int .i64 2), recovered := false }] := h0
            have P3 := Lib.hid s3
            clear p s3 h3
            go_wp2_with fail
            exact ⟨rfl, P3.out⟩
        · obtain ⟨h0, s3⟩ := S1.out.stops (t := l ++ [123] ++ bodyL true true items names ++ [125]) p h2 (by simp)
          obtain rfl : e = .panicked [{ v := .iface 24 (.int .i64 2), recovered := false }] := h0
          have P3 := Lib.hid s3
          clear p s3 h2
          go_wp2_with fail
          exact ⟨rfl, P3.out⟩
      · obtain ⟨h0, s3⟩ := S0.out.stops (t := l ++ [123] ++ bodyL true true items names ++ [125]) p h1 (by simp)
        obtain rfl : e = .panicked [{ v := .iface 24 (.int .i64 2), recovered := false }] := h0
        have P3 := Lib.hid s3
        clear p s3 h1
        go_wp2_with fail
        exact ⟨rfl, P3.out⟩
end Go.Proofs.YtepcaglekgeamaaGreatDoor
