/-
  The document's own part of a schedule's field, by a contract. Conditions: texts of at most 300 bytes.
-/
import Derived.Test.YtccobaohmbilpaaDoorRefCronN
import Derived.Deep.Heap
namespace Go.Proofs.YtccobaohmbilpaaDoor
open Go.RowKit

/-- Three numbers lie at block B. -/
def Tri (w : World) (B : Nat) (a b c : Int) : Prop := w.heap[B]? = some (.cells #[.int .i64 a, .int .i64 b, .int .i64 c] 65 (0, 0))
theorem Tri.lt {w : World} {B : Nat} {a b c : Int} (h : Tri w B a b c) : B < w.heap.size := (Array.getElem?_eq_some_iff.1 h).1
theorem Tri.keep {w w' : World} {B : Nat} {a b c : Int} (h : Tri w B a b c) (hb : Below w.heap.size w w') : Tri w' B a b c := (hb.block B h.lt).trans h
theorem Tri.cells {w : World} {B : Nat} {a b c : Int} (h : Tri w B a b c) : (w.cell? ⟨B, 0, none⟩ = some (.int .i64 a) ∧ w.cell? ⟨B, 1, none⟩ = some (.int .i64 b) ∧ w.cell? ⟨B, 2, none⟩ = some (.int .i64 c)) ∧ (w.frozen? ⟨B, 0, none⟩ = false ∧ w.frozen? ⟨B, 1, none⟩ = false ∧ w.frozen? ⟨B, 2, none⟩ = false) := by
  unfold Tri at h
  simp [World.cell?, World.frozen?, h]
theorem Tri.new (w : World) (a b c : Int) : Tri (w.alloc (.cells #[.int .i64 a, .int .i64 b, .int .i64 c] 65)) w.heap.size a b c := heap_alloc_new w _
theorem Tri.other {w : World} {B C : Nat} {a b c : Int} (h : Tri w B a b c) (hne : B ≠ C) (i : Nat) (v : Value) : Tri (w.setCell ⟨C, i, none⟩ v) B a b c := (Go.Deep.blk_setCell_other _ _ _ _ hne).trans h
theorem Tri.set0 {w : World} {B : Nat} {a b c : Int} (h : Tri w B a b c) (x : Int) : Tri (w.setCell ⟨B, 0, none⟩ (.int .i64 x)) B x b c := by
  unfold Tri; rw [heap_setCell_same _ _ _ _ _ _ h]; rfl
theorem Tri.set1 {w : World} {B : Nat} {a b c : Int} (h : Tri w B a b c) (x : Int) : Tri (w.setCell ⟨B, 1, none⟩ (.int .i64 x)) B a x c := by
  unfold Tri; rw [heap_setCell_same _ _ _ _ _ _ h]; rfl
theorem Tri.set2 {w : World} {B : Nat} {a b c : Int} (h : Tri w B a b c) (x : Int) : Tri (w.setCell ⟨B, 2, none⟩ (.int .i64 x)) B a b x := by
  unfold Tri; rw [heap_setCell_same _ _ _ _ _ _ h]; rfl
theorem infoTri : (Tryd.prog.info? 65).map (·.size) = some 3 := by kernel_rfl
/-- Where the walk stands: the part at B, the result at the first new block, the row of what stands between slashes. -/
structure PSt (w W : World) (B : Nat) (a b c : Int) (pb po : Nat) (l : List ByteArray) : Prop where
  tri1 : Tri W B a b c
  tri0 : Tri W w.heap.size 0 0 0
  below : Below w.heap.size w W
  row : ∀ i (h : i < l.length), W.cell? ⟨pb, po + i, none⟩ = some (.string l[i])
  ne : pb ≠ B
  lt : w.heap.size < B
theorem PSt.keep {w W W' : World} {B : Nat} {a b c : Int} {pb po : Nat} {l : List ByteArray} (h : PSt w W B a b c pb po l) (hb : Below W.heap.size W W') : PSt w W' B a b c pb po l :=
  ⟨h.tri1.keep hb, h.tri0.keep hb, h.below.trans (hb.mono h.below.size), fun i hi => (hb.cell (World.block_lt_of_cell? _ _ (h.row i hi))).trans (h.row i hi), h.ne, h.lt⟩
theorem PSt.far {w W : World} {B : Nat} {a b c x y z : Int} {pb po : Nat} {l : List ByteArray} (h : PSt w W B a b c pb po l) (i : Nat) (v : Value) (ht : Tri (W.setCell ⟨B, i, none⟩ v) B x y z) : PSt w (W.setCell ⟨B, i, none⟩ v) B x y z pb po l :=
  ⟨ht, h.tri0.other (Nat.ne_of_lt h.lt) _ _, h.below.setCell (Nat.le_of_lt h.lt) _, fun j hj => (World.cell?_of_block (w := W) (w' := W.setCell ⟨B, i, none⟩ v) (a := ⟨pb, po + j, none⟩) (Go.Deep.blk_setCell_other _ _ _ _ h.ne)).trans (h.row j hj), h.ne, h.lt⟩
theorem PSt.set0 {w W : World} {B : Nat} {a b c : Int} {pb po : Nat} {l : List ByteArray} (h : PSt w W B a b c pb po l) (x : Int) : PSt w (W.setCell ⟨B, 0, none⟩ (.int .i64 x)) B x b c pb po l := h.far 0 _ (h.tri1.set0 x)
theorem PSt.set1 {w W : World} {B : Nat} {a b c : Int} {pb po : Nat} {l : List ByteArray} (h : PSt w W B a b c pb po l) (x : Int) : PSt w (W.setCell ⟨B, 1, none⟩ (.int .i64 x)) B a x c pb po l := h.far 1 _ (h.tri1.set1 x)
theorem PSt.set2 {w W : World} {B : Nat} {a b c : Int} {pb po : Nat} {l : List ByteArray} (h : PSt w W B a b c pb po l) (x : Int) : PSt w (W.setCell ⟨B, 2, none⟩ (.int .i64 x)) B a b x pb po l := h.far 2 _ (h.tri1.set2 x)
theorem partL_one {s h : List UInt8} {low high a b : Nat} (hg : goC 47 [] s = [h]) (hr : rangeL h low high = some (a, b)) : partL s low high = some (a, b, 1) := by
  unfold partL; rw [hg]; simp only [List.headD_cons]; rw [hr]
theorem partL_bad {s h : List UInt8} {r : List (List UInt8)} {low high : Nat} (hg : goC 47 [] s = h :: r) (hr : rangeL h low high = none) : partL s low high = none := by
  unfold partL; rw [hg]; simp only [List.headD_cons]; rw [hr]
theorem partL_more {s h t u : List UInt8} {r : List (List UInt8)} {low high : Nat} (hg : goC 47 [] s = h :: t :: u :: r) : partL s low high = none := by
  unfold partL; rw [hg]; simp only [List.headD_cons]; split <;> rfl
theorem partL_none2 {s h t : List UInt8} {low high : Nat} (hg : goC 47 [] s = [h, t]) (hk : numberL t 1 59 = none) : partL s low high = none := by
  unfold partL; rw [hg]; simp only [List.headD_cons]; rw [hk]; split <;> rfl
theorem partL_two {s h t : List UInt8} {low high a b k : Nat} (hg : goC 47 [] s = [h, t]) (hr : rangeL h low high = some (a, b)) (hk : numberL t 1 59 = some k) (hh : h = [42] ∨ (goC 45 [] h).length ≠ 1) : partL s low high = some (a, b, k) := by
  unfold partL; rw [hg]; simp only [List.headD_cons]; rw [hr, hk]; simp only; rw [if_pos hh]
theorem partL_lone {s h t : List UInt8} {low high a b k : Nat} (hg : goC 47 [] s = [h, t]) (hr : rangeL h low high = some (a, b)) (hk : numberL t 1 59 = some k) (hh : h ≠ [42]) (h1 : (goC 45 [] h).length = 1) : partL s low high = none := by
  unfold partL; rw [hg]; simp only [List.headD_cons]; rw [hr, hk]; simp only; rw [if_neg (by rintro (e | e); exact hh e; exact e h1)]
/-- A part as a value. -/
def partV (p : Option (Nat × Nat × Nat)) : Value := match p with
  | some (a, b, k) => .agg #[.int .i64 a, .int .i64 b, .int .i64 k]
  | none => .agg #[.int .i64 0, .int .i64 0, .int .i64 0]

set_option maxRecDepth 100000 in
set_option maxHeartbeats 4000000 in
theorem refPart_t (s : ByteArray) (low high : Nat) (w : World) (hs : s.size ≤ 300) :
    Calls Tryd.prog 29 #[.string s, .int .i64 low, .int .i64 high] w fun e w' => e = .returned (partV (partL s.data.toList low high)) ∧ Below w.heap.size w w' := by
  have S1 := Lib.hid (fun w1 => refSplit_any s 47 w1 hs)
  have S2 := Lib.hid (fun (x : ByteArray) w1 (h : x.size ≤ 300) => refSplit_any x 45 w1 h)
  go_enter Tryd.func29, Tryd.ntmps29
  go_wp2_with fail
  refine (S1.out _).mono ?_
  rintro e w1 ⟨ps, v1, rfl, hr1, hp1, hz1, -, hb1⟩
  have hne1 : ps ≠ [] := by
    intro e; rw [e] at hp1
    exact goC_ne 47 s.data.toList [] hp1.symm
  obtain ⟨h0, rest, rfl⟩ := List.exists_cons_of_ne_nil hne1
  rcases hr1 with ⟨-, h⟩ | ⟨pb, po, cap, rfl, hc1, hc2, hcell⟩
  · cases h
  have HG := Lib.hid hp1.symm
  have HZ := Lib.hid (show ∀ x ∈ h0 :: rest, x.size ≤ 300 from fun x hx => by have := hz1 x hx; omega)
  have hT0 : Tri w1 w.heap.size 0 0 0 := (Tri.new w 0 0 0).keep hb1
  have hbw : Below w.heap.size w w1 := Below.then (below_new _ _) hb1
  have hltp : pb < w1.heap.size := World.block_lt_of_cell? _ _ (hcell 0 (by simp))
  have hb2 := below_new w1 (.cells #[.int .i64 low, .int .i64 high, .int .i64 1] 65)
  have ST0 := Lib.hid (show PSt w (w1.alloc (.cells #[.int .i64 low, .int .i64 high, .int .i64 1] 65)) w1.heap.size low high 1 pb po (h0 :: rest) from
    ⟨Tri.new _ _ _ _, hT0.keep hb2, Below.then hbw hb2, fun i hi => (hb2.cell (World.block_lt_of_cell? _ _ (hcell i hi))).trans (hcell i hi), by omega, by have := hbw.size; have := hT0.lt; omega⟩)
  have hc00 := ST0.out.row 0 (by simp)
  rw [show (h0 :: rest)[0] = h0 from rfl, Nat.add_zero] at hc00
  have SP := Lib.hid (S2.out h0 (w1.alloc (.cells #[.int .i64 low, .int .i64 high, .int .i64 1] 65)) (HZ.out h0 (by simp)))
  clear hcell hT0 hbw hb2 hp1 hz1 hb1 hne1
  go_wp2_with fail
  refine SP.out.mono ?_
  rintro e w3 ⟨ps3, v3, rfl, hr3, hp3, hz3, hlen3, hb3⟩
  have hne3' : ps3 ≠ [] := by
    intro e; rw [e] at hp3
    exact goC_ne 45 h0.data.toList [] hp3.symm
  obtain ⟨x0, rest2, rfl⟩ := List.exists_cons_of_ne_nil hne3'
  rcases hr3 with ⟨-, h⟩ | ⟨pb3, po3, cap3, rfl, hc13, hc23, hcell3⟩
  · cases h
  have hr3 : True := trivial
  have HZ3 := Lib.hid (show ∀ x ∈ x0 :: rest2, x.size ≤ 300 from fun x hx => by have := hz3 x hx; have := HZ.out h0 (by simp); omega)
  have hne3 : pb3 ≠ w1.heap.size := by
    intro e
    have h1 := hcell3 0 (by simp)
    rw [e] at h1
    have h2 := (ST0.out.keep hb3).tri1
    unfold Tri at h2
    unfold World.cell? at h1
    rw [h2] at h1
    match po3, h1 with
    | 0, h1 => simp at h1
    | 1, h1 => simp at h1
    | 2, h1 => simp at h1
    | j + 3, h1 => simp at h1
  have hc01 := (ST0.out.keep hb3).row 0 (by simp)
  rw [show (h0 :: rest)[0] = h0 from rfl, Nat.add_zero] at hc01
  clear hc00 hz3 hne3'
-- GEN
  by_cases hstar : h0.data.toList = [42]
  · have x1 : (h0.toList == [42]) = true := by rw [Lib.toList_data, hstar]; rfl
    have HSTAR := Lib.hid hstar
    have HR := Lib.hid (show rangeL h0.data.toList low high = some (low, high) from by unfold rangeL; rw [if_pos hstar])
    have ST := Lib.hid (ST0.out.keep hb3)
    clear hstar hb3 hr3 hlen3
    cases rest with
    | nil =>
      have HO := Lib.hid (partL_one HG.out HR.out)
      obtain ⟨⟨c0, c1, c2⟩, c3, c4, c5⟩ := ST.out.tri1.cells
      obtain ⟨⟨d0, d1, d2⟩, z0, z1, z2⟩ := ST.out.tri0.cells
      go_wp2_with fail
      exact bodyPost_ret (results_cell_row (p := 6) rfl _ _ w.heap.size 65 _ (0, 0) _ rfl (((ST.out.tri0.set0 (low)).set1 (high)).set2 (1)) Tryd.underlying65 rfl infoTri) rfl ⟨by rw [HO.out]; rfl, ((ST.out.below.setCell (Nat.le_refl _) _).setCell (Nat.le_refl _) _).setCell (Nat.le_refl _) _⟩
    | cons t r2 =>
      obtain ⟨⟨c0, c1, c2⟩, c3, c4, c5⟩ := ST.out.tri1.cells
      obtain ⟨⟨d0, d1, d2⟩, z0, z1, z2⟩ := ST.out.tri0.cells
      have hr1 := ST.out.row 1 (by simp)
      rw [show (h0 :: t :: r2)[1] = t from rfl] at hr1
      have HZT := HZ.out t (by simp)
      have NK := Lib.hid (fun w1 => refNumber_t t 1 59 w1 (by omega))
      cases r2 with
      | cons u r3 =>
        have HO := Lib.hid (partL_more (low := low) (high := high) HG.out)
        obtain ⟨kI, hkI⟩ : ∃ k, numI t.data.toList 1 59 = k := ⟨_, rfl⟩
        rw [hkI] at NK
        clear hkI
        go_wp2_with fail
        have ST6 := Lib.hid (ST.out.set2 (kI))
        obtain ⟨⟨c0w, c1w, c2w⟩, c3w, c4w, c5w⟩ := ST.out.tri1.cells
        obtain ⟨⟨d0w, d1w, d2w⟩, z0w, z1w, z2w⟩ := ST.out.tri0.cells
        obtain ⟨⟨c0x, c1x, c2x⟩, c3x, c4x, c5x⟩ := ST6.out.tri1.cells
        obtain ⟨⟨d0x, d1x, d2x⟩, z0x, z1x, z2x⟩ := ST6.out.tri0.cells
        have hr0x : World.cell? _ ⟨pb, po, none⟩ = some (.string h0) := ST6.out.row 0 (by simp)
        refine (NK.out _).mono ?_
        rintro e w5 ⟨rfl, hw5⟩
        subst hw5
        go_wp2_with fail
        exact bodyPost_ret (results_cell_row (p := 6) rfl _ _ w.heap.size 65 _ (0, 0) _ rfl (((ST6.out.tri0.set0 (0)).set1 (0)).set2 (0)) Tryd.underlying65 rfl infoTri) rfl ⟨by rw [HO.out]; rfl, ((ST6.out.below.setCell (Nat.le_refl _) _).setCell (Nat.le_refl _) _).setCell (Nat.le_refl _) _⟩
      | nil =>
        cases hk : numberL t.data.toList 1 59 with
        | none =>
          have HO := Lib.hid (partL_none2 (low := low) (high := high) HG.out hk)
          rw [numI_none hk] at NK
          clear hk
          go_wp2_with fail
          have ST6 := Lib.hid (ST.out.set2 (-1))
          obtain ⟨⟨c0w, c1w, c2w⟩, c3w, c4w, c5w⟩ := ST.out.tri1.cells
          obtain ⟨⟨d0w, d1w, d2w⟩, z0w, z1w, z2w⟩ := ST.out.tri0.cells
          obtain ⟨⟨c0x, c1x, c2x⟩, c3x, c4x, c5x⟩ := ST6.out.tri1.cells
          obtain ⟨⟨d0x, d1x, d2x⟩, z0x, z1x, z2x⟩ := ST6.out.tri0.cells
          have hr0x : World.cell? _ ⟨pb, po, none⟩ = some (.string h0) := ST6.out.row 0 (by simp)
          refine (NK.out _).mono ?_
          rintro e w5 ⟨rfl, hw5⟩
          subst hw5
          go_wp2_with fail
          exact bodyPost_ret (results_cell_row (p := 6) rfl _ _ w.heap.size 65 _ (0, 0) _ rfl (((ST6.out.tri0.set0 (0)).set1 (0)).set2 (0)) Tryd.underlying65 rfl infoTri) rfl ⟨by rw [HO.out]; rfl, ((ST6.out.below.setCell (Nat.le_refl _) _).setCell (Nat.le_refl _) _).setCell (Nat.le_refl _) _⟩
        | some k =>
          rw [numI_some hk] at NK
          have HO := Lib.hid (partL_two HG.out HR.out hk (Or.inl HSTAR.out))
          clear hk
          go_wp2_with fail
          have ST6 := Lib.hid (ST.out.set2 (k))
          obtain ⟨⟨c0w, c1w, c2w⟩, c3w, c4w, c5w⟩ := ST.out.tri1.cells
          obtain ⟨⟨d0w, d1w, d2w⟩, z0w, z1w, z2w⟩ := ST.out.tri0.cells
          obtain ⟨⟨c0x, c1x, c2x⟩, c3x, c4x, c5x⟩ := ST6.out.tri1.cells
          obtain ⟨⟨d0x, d1x, d2x⟩, z0x, z1x, z2x⟩ := ST6.out.tri0.cells
          have hr0x : World.cell? _ ⟨pb, po, none⟩ = some (.string h0) := ST6.out.row 0 (by simp)
          refine (NK.out _).mono ?_
          rintro e w5 ⟨rfl, hw5⟩
          subst hw5
          go_wp2_with fail
          exact bodyPost_ret (results_cell_row (p := 6) rfl _ _ w.heap.size 65 _ (0, 0) _ rfl (((ST6.out.tri0.set0 (low)).set1 (high)).set2 (k)) Tryd.underlying65 rfl infoTri) rfl ⟨by rw [HO.out]; rfl, ((ST6.out.below.setCell (Nat.le_refl _) _).setCell (Nat.le_refl _) _).setCell (Nat.le_refl _) _⟩
  · have x1 : (h0.toList == [42]) = false := by rw [Lib.toList_data]; exact beq_eq_false_iff_ne.2 hstar
    have HNS := Lib.hid hstar
    have ST3 := Lib.hid (ST0.out.keep hb3)
    obtain ⟨n2, hn2⟩ : ∃ n, (x0 :: rest2).length = n := ⟨_, rfl⟩
    have hn21 : 1 ≤ n2 := by rw [← hn2]; simp
    have hn2b : n2 ≤ 301 := by have := HZ.out h0 (by simp); omega
    have HN2 := Lib.hid (show (goC 45 [] h0.data.toList).length = n2 from by rw [← hp3, List.length_map]; exact hn2)
    have hy0 := hcell3 0 (by simp)
    have hyn := hcell3 (n2 - 1) (by omega)
    obtain ⟨y1, hy1⟩ : ∃ y, (x0 :: rest2)[n2 - 1]'(by omega) = y := ⟨_, rfl⟩
    rw [hy1] at hyn
    rw [show (x0 :: rest2)[0] = x0 from rfl] at hy0
    have hz0 := HZ3.out x0 (by simp)
    have hz1 := HZ3.out y1 (by rw [← hy1]; exact List.getElem_mem _)
    have hlast : (goC 45 [] h0.data.toList).getLastD [] = y1.data.toList := by
      rw [← hp3, List.getLastD_eq_getLast?, List.getLast?_eq_getElem?, List.length_map, hn2, List.getElem?_map, List.getElem?_eq_getElem (by omega), ← hy1]; rfl
    have hhead : (goC 45 [] h0.data.toList).headD [] = x0.data.toList := by rw [← hp3]; rfl
    have hrange : rangeL h0.data.toList low high = rangeOf n2 (numberL x0.data.toList low high) (numberL y1.data.toList low high) := by
      unfold rangeL
      rw [if_neg hstar, hlast, hhead, HN2.out]
    have HRG := Lib.hid hrange
    have e9 : (n2 : Int) - 1 = ((n2 - 1 : Nat) : Int) := by omega
    have e10 : po3 + (n2 - 1) = po3 + (n2 - 1) := rfl
    rw [hn2]
    have NA := Lib.hid (fun w1 => refNumber_t x0 low high w1 (by omega))
    have NB := Lib.hid (fun w1 => refNumber_t y1 low high w1 (by omega))
    obtain ⟨na, hna⟩ : ∃ x, numI x0.data.toList low high = x := ⟨_, rfl⟩
    obtain ⟨nb, hnb⟩ : ∃ x, numI y1.data.toList low high = x := ⟨_, rfl⟩
    have HNA := Lib.hid hna
    have HNB := Lib.hid hnb
    rw [hna] at NA
    rw [hnb] at NB
    obtain ⟨m2, hm2⟩ : ∃ m, n2 - 1 = m := ⟨_, rfl⟩
    rw [hm2] at hyn e9
    have HYN := Lib.hid (show ∀ v, (w3.setCell ⟨w1.heap.size, 0, none⟩ v).cell? ⟨pb3, po3 + m2, none⟩ = some (.string y1) from fun v => by
      rw [World.cell?_of_block (w := w3) (w' := w3.setCell ⟨w1.heap.size, 0, none⟩ v) (Go.Deep.blk_setCell_other _ _ _ _ hne3)]
      exact hyn)
    have hyn2 := HYN.out (.int .i64 na)
    rw [Nat.add_zero] at hy0
    clear hstar hb3 hr3 hlen3 hp3 hcell3 hlast hhead hrange hna hnb hy1 e10 hyn HYN hn2
    have ST35 := Lib.hid (ST3.out.set0 na)
    obtain ⟨⟨c0, c1, c2⟩, c3, c4, c5⟩ := ST3.out.tri1.cells
    obtain ⟨⟨d0, d1, d2⟩, z0, z1, z2⟩ := ST3.out.tri0.cells
    go_wp2_with fail
    refine (NA.out _).mono ?_
    rintro e w5 ⟨rfl, hw5⟩
    subst hw5
    go_wp2_with fail
    generalize w3.setCell ⟨w1.heap.size, 0, none⟩ (.int .i64 na) = W4 at ST35 hyn2 ⊢
    have ST4 := Lib.hid (ST35.out.set1 nb)
    clear c0 c1 c2 c3 c4 c5 z0 z1 z2 d0 d1 d2
    obtain ⟨⟨c0y, c1y, c2y⟩, c3y, c4y, c5y⟩ := ST35.out.tri1.cells
    obtain ⟨⟨d0y, d1y, d2y⟩, z0y, z1y, z2y⟩ := ST35.out.tri0.cells
    refine (NB.out _).mono ?_
    rintro e w5 ⟨rfl, hw5⟩
    subst hw5
    by_cases hbad : 2 < n2 ∨ na < 0 ∨ nb < na
    · have HO := Lib.hid (partL_bad (s := s.data.toList) HG.out (show rangeL h0.data.toList low high = none from by
        rw [HRG.out]
        cases ha : numberL x0.data.toList low high with
        | none => rfl
        | some a =>
          cases hb : numberL y1.data.toList low high with
          | none => rfl
          | some b =>
            have h1 := HNA.out
            have h2 := HNB.out
            rw [numI_some ha] at h1
            rw [numI_some hb] at h2
            refine (show rangeOf n2 (some a) (some b) = if n2 ≤ 2 ∧ a ≤ b then some (a, b) else none from rfl).trans ?_
            rw [if_neg (by omega)]))
      obtain ⟨⟨c0, c1, c2⟩, c3, c4, c5⟩ := ST4.out.tri1.cells
      obtain ⟨⟨d0, d1, d2⟩, z0, z1, z2⟩ := ST4.out.tri0.cells
      have q3' : ¬ 2 < n2 → ¬ na < 0 → nb < na := fun h1 h2 => by omega
      have Q3 := Lib.hid q3'
      clear hbad q3'
      by_cases q1 : 2 < n2
      · go_wp2_with fail
        exact bodyPost_ret (results_cell_row (p := 6) rfl _ _ w.heap.size 65 _ (0, 0) _ rfl (((ST4.out.tri0.set0 (0)).set1 (0)).set2 (0)) Tryd.underlying65 rfl infoTri) rfl ⟨by rw [HO.out]; rfl, ((ST4.out.below.setCell (Nat.le_refl _) _).setCell (Nat.le_refl _) _).setCell (Nat.le_refl _) _⟩
      · by_cases q2 : na < 0
        · go_wp2_with fail
          exact bodyPost_ret (results_cell_row (p := 6) rfl _ _ w.heap.size 65 _ (0, 0) _ rfl (((ST4.out.tri0.set0 (0)).set1 (0)).set2 (0)) Tryd.underlying65 rfl infoTri) rfl ⟨by rw [HO.out]; rfl, ((ST4.out.below.setCell (Nat.le_refl _) _).setCell (Nat.le_refl _) _).setCell (Nat.le_refl _) _⟩
        · have q3 : nb < na := Q3.out q1 q2
          go_wp2_with fail
          exact bodyPost_ret (results_cell_row (p := 6) rfl _ _ w.heap.size 65 _ (0, 0) _ rfl (((ST4.out.tri0.set0 (0)).set1 (0)).set2 (0)) Tryd.underlying65 rfl infoTri) rfl ⟨by rw [HO.out]; rfl, ((ST4.out.below.setCell (Nat.le_refl _) _).setCell (Nat.le_refl _) _).setCell (Nat.le_refl _) _⟩
    · obtain ⟨a, ha⟩ : ∃ a : Nat, na = (a : Int) := ⟨na.toNat, by omega⟩
      obtain ⟨b, hb⟩ : ∃ b : Nat, nb = (b : Int) := ⟨nb.toNat, by omega⟩
      subst ha
      subst hb
      have HR := Lib.hid (show rangeL h0.data.toList low high = some (a, b) from by
        rw [HRG.out]
        cases ha : numberL x0.data.toList low high with
        | none => have h1 := HNA.out; rw [numI_none ha] at h1; omega
        | some a' =>
          cases hb : numberL y1.data.toList low high with
          | none => have h2 := HNB.out; rw [numI_none hb] at h2; omega
          | some b' =>
            have h1 := HNA.out
            have h2 := HNB.out
            rw [numI_some ha] at h1
            rw [numI_some hb] at h2
            have e1 : a' = a := by omega
            have e2 : b' = b := by omega
            rw [← e1, ← e2]
            refine (show rangeOf n2 (some a') (some b') = if n2 ≤ 2 ∧ a' ≤ b' then some (a', b') else none from rfl).trans ?_
            rw [if_pos (by omega)])
      have q1 : n2 ≤ 2 := by omega
      have q3 : a ≤ b := by omega
      have ST := ST4
      clear hbad ST4 e9 hyn2 hy0 hm2 hn21 hn2b
      cases rest with
      | nil =>
        have HO := Lib.hid (partL_one HG.out HR.out)
        obtain ⟨⟨c0, c1, c2⟩, c3, c4, c5⟩ := ST.out.tri1.cells
        obtain ⟨⟨d0, d1, d2⟩, z0, z1, z2⟩ := ST.out.tri0.cells
        go_wp2_with fail
        exact bodyPost_ret (results_cell_row (p := 6) rfl _ _ w.heap.size 65 _ (0, 0) _ rfl (((ST.out.tri0.set0 (a)).set1 (b)).set2 (1)) Tryd.underlying65 rfl infoTri) rfl ⟨by rw [HO.out]; rfl, ((ST.out.below.setCell (Nat.le_refl _) _).setCell (Nat.le_refl _) _).setCell (Nat.le_refl _) _⟩
      | cons t r2 =>
        obtain ⟨⟨c0, c1, c2⟩, c3, c4, c5⟩ := ST.out.tri1.cells
        obtain ⟨⟨d0, d1, d2⟩, z0, z1, z2⟩ := ST.out.tri0.cells
        have hr1 := ST.out.row 1 (by simp)
        rw [show (h0 :: t :: r2)[1] = t from rfl] at hr1
        have HZT := HZ.out t (by simp)
        have NK := Lib.hid (fun w1 => refNumber_t t 1 59 w1 (by omega))
        cases r2 with
        | cons u r3 =>
          have HO := Lib.hid (partL_more (low := low) (high := high) HG.out)
          obtain ⟨kI, hkI⟩ : ∃ k, numI t.data.toList 1 59 = k := ⟨_, rfl⟩
          rw [hkI] at NK
          clear hkI
          go_wp2_with fail
          generalize W4.setCell ⟨w1.heap.size, 1, none⟩ (.int .i64 b) = W5 at ST ⊢
          have ST6 := Lib.hid (ST.out.set2 (kI))
          obtain ⟨⟨c0w, c1w, c2w⟩, c3w, c4w, c5w⟩ := ST.out.tri1.cells
          obtain ⟨⟨d0w, d1w, d2w⟩, z0w, z1w, z2w⟩ := ST.out.tri0.cells
          obtain ⟨⟨c0x, c1x, c2x⟩, c3x, c4x, c5x⟩ := ST6.out.tri1.cells
          obtain ⟨⟨d0x, d1x, d2x⟩, z0x, z1x, z2x⟩ := ST6.out.tri0.cells
          have hr0x : World.cell? _ ⟨pb, po, none⟩ = some (.string h0) := ST6.out.row 0 (by simp)
          refine (NK.out _).mono ?_
          rintro e w5 ⟨rfl, hw5⟩
          subst hw5
          go_wp2_with fail
          exact bodyPost_ret (results_cell_row (p := 6) rfl _ _ w.heap.size 65 _ (0, 0) _ rfl (((ST6.out.tri0.set0 (0)).set1 (0)).set2 (0)) Tryd.underlying65 rfl infoTri) rfl ⟨by rw [HO.out]; rfl, ((ST6.out.below.setCell (Nat.le_refl _) _).setCell (Nat.le_refl _) _).setCell (Nat.le_refl _) _⟩
        | nil =>
          cases hk : numberL t.data.toList 1 59 with
          | none =>
            have HO := Lib.hid (partL_none2 (low := low) (high := high) HG.out hk)
            rw [numI_none hk] at NK
            clear hk
            go_wp2_with fail
            generalize W4.setCell ⟨w1.heap.size, 1, none⟩ (.int .i64 b) = W5 at ST ⊢
            have ST6 := Lib.hid (ST.out.set2 (-1))
            obtain ⟨⟨c0w, c1w, c2w⟩, c3w, c4w, c5w⟩ := ST.out.tri1.cells
            obtain ⟨⟨d0w, d1w, d2w⟩, z0w, z1w, z2w⟩ := ST.out.tri0.cells
            obtain ⟨⟨c0x, c1x, c2x⟩, c3x, c4x, c5x⟩ := ST6.out.tri1.cells
            obtain ⟨⟨d0x, d1x, d2x⟩, z0x, z1x, z2x⟩ := ST6.out.tri0.cells
            have hr0x : World.cell? _ ⟨pb, po, none⟩ = some (.string h0) := ST6.out.row 0 (by simp)
            refine (NK.out _).mono ?_
            rintro e w5 ⟨rfl, hw5⟩
            subst hw5
            go_wp2_with fail
            exact bodyPost_ret (results_cell_row (p := 6) rfl _ _ w.heap.size 65 _ (0, 0) _ rfl (((ST6.out.tri0.set0 (0)).set1 (0)).set2 (0)) Tryd.underlying65 rfl infoTri) rfl ⟨by rw [HO.out]; rfl, ((ST6.out.below.setCell (Nat.le_refl _) _).setCell (Nat.le_refl _) _).setCell (Nat.le_refl _) _⟩
          | some k =>
            rw [numI_some hk] at NK
            by_cases h21 : n2 = 1
            · subst h21
              have HO := Lib.hid (partL_lone HG.out HR.out hk HNS.out HN2.out)
              clear hk
              go_wp2_with fail
              generalize W4.setCell ⟨w1.heap.size, 1, none⟩ (.int .i64 b) = W5 at ST ⊢
              have ST6 := Lib.hid (ST.out.set2 (k))
              obtain ⟨⟨c0w, c1w, c2w⟩, c3w, c4w, c5w⟩ := ST.out.tri1.cells
              obtain ⟨⟨d0w, d1w, d2w⟩, z0w, z1w, z2w⟩ := ST.out.tri0.cells
              obtain ⟨⟨c0x, c1x, c2x⟩, c3x, c4x, c5x⟩ := ST6.out.tri1.cells
              obtain ⟨⟨d0x, d1x, d2x⟩, z0x, z1x, z2x⟩ := ST6.out.tri0.cells
              have hr0x : World.cell? _ ⟨pb, po, none⟩ = some (.string h0) := ST6.out.row 0 (by simp)
              refine (NK.out _).mono ?_
              rintro e w5 ⟨rfl, hw5⟩
              subst hw5
              go_wp2_with fail
              exact bodyPost_ret (results_cell_row (p := 6) rfl _ _ w.heap.size 65 _ (0, 0) _ rfl (((ST6.out.tri0.set0 (0)).set1 (0)).set2 (0)) Tryd.underlying65 rfl infoTri) rfl ⟨by rw [HO.out]; rfl, ((ST6.out.below.setCell (Nat.le_refl _) _).setCell (Nat.le_refl _) _).setCell (Nat.le_refl _) _⟩
            · have HO := Lib.hid (partL_two HG.out HR.out hk (Or.inr (by rw [HN2.out]; exact h21)))
              have h2i : ((n2 : Int) == 1) = false := beq_eq_false_iff_ne.2 (by omega)
              clear hk
              go_wp2_with fail
              generalize W4.setCell ⟨w1.heap.size, 1, none⟩ (.int .i64 b) = W5 at ST ⊢
              have ST6 := Lib.hid (ST.out.set2 (k))
              obtain ⟨⟨c0w, c1w, c2w⟩, c3w, c4w, c5w⟩ := ST.out.tri1.cells
              obtain ⟨⟨d0w, d1w, d2w⟩, z0w, z1w, z2w⟩ := ST.out.tri0.cells
              obtain ⟨⟨c0x, c1x, c2x⟩, c3x, c4x, c5x⟩ := ST6.out.tri1.cells
              obtain ⟨⟨d0x, d1x, d2x⟩, z0x, z1x, z2x⟩ := ST6.out.tri0.cells
              have hr0x : World.cell? _ ⟨pb, po, none⟩ = some (.string h0) := ST6.out.row 0 (by simp)
              refine (NK.out _).mono ?_
              rintro e w5 ⟨rfl, hw5⟩
              subst hw5
              go_wp2_with fail
              exact bodyPost_ret (results_cell_row (p := 6) rfl _ _ w.heap.size 65 _ (0, 0) _ rfl (((ST6.out.tri0.set0 (a)).set1 (b)).set2 (k)) Tryd.underlying65 rfl infoTri) rfl ⟨by rw [HO.out]; rfl, ((ST6.out.below.setCell (Nat.le_refl _) _).setCell (Nat.le_refl _) _).setCell (Nat.le_refl _) _⟩
end Go.Proofs.YtccobaohmbilpaaDoor
