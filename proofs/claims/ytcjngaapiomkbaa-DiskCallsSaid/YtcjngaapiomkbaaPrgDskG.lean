/-
  The program's standing of a disk, by a contract. Conditions: the place is one of the disk's.
-/
import Derived.Test.YtcjngaapiomkbaaPrgDskF
namespace Go.Proofs.Ytcjngaapiomkbaa
open Go.RowKit Go.Shelf Go.WideShapes

attribute [local go_sem] Oper.semAt_some

/-- The cells that standing's loop keeps. -/
structure StandC (n₀ : Nat) (sv dv : Value) (at' : Int) (r : Value) (W : World) : Prop where
  c0 : W.cell? ⟨n₀, 0, none⟩ = some sv
  c1 : W.cell? ⟨n₀, 1, none⟩ = some dv
  c2 : W.cell? ⟨n₀ + 1, 0, none⟩ = some (.int .i64 at')
  c3 : W.cell? ⟨n₀ + 1 + 1, 0, none⟩ = some r
  fr : W.frozen? ⟨n₀ + 1 + 1, 0, none⟩ = false
theorem StandC.kept {n₀ : Nat} {sv dv : Value} {at' : Int} {r : Value} {W W' : World} {row : Option Nat} (h : StandC n₀ sv dv at' r W) (hg : W.grownBy W' row) (hr : ∀ r, row = some r → ∃ o : Obj, W.heap[r]? = some o ∧ o.isCells = false) : StandC n₀ sv dv at' r W' :=
  ⟨cell_kept h.c0 hg hr, cell_kept h.c1 hg hr, cell_kept h.c2 hg hr, cell_kept h.c3 hg hr, (frozen_kept h.c3 hg hr).trans h.fr⟩
theorem StandC.alloc {n₀ : Nat} {sv dv : Value} {at' : Int} {r : Value} {W : World} (h : StandC n₀ sv dv at' r W) (o : Obj) : StandC n₀ sv dv at' r (W.alloc o) := h.kept (World.grownBy_alloc W o none) (by simp)

/-- No write of these is at the place. -/
def NoneAt (at' : Int) (pre : List (Nat × Int × ByteArray)) : Prop := ∀ p ∈ pre, p.2.1 ≠ at'
/-- The last of these is the first one at the place, and its data lie in the result's cell. -/
def EndAt (n₀ : Nat) (at' : Int) (pre : List (Nat × Int × ByteArray)) (W : World) : Prop := ∃ ini last, pre = ini ++ [last] ∧ NoneAt at' ini ∧ last.2.1 = at' ∧ W.cell? ⟨n₀ + 1 + 1, 0, none⟩ = some (.string last.2.2)

set_option maxRecDepth 100000 in
set_option maxHeartbeats 4000000 in
/-- A sector as it stands. -/
theorem standing_t (v : Value) (d : Dsk) (at' : Nat) (w : World) (h : DskAt w v d) (ha : at' < d.secs.length) :
    Calls Try.prog 25 #[v, .int .i64 at'] w fun e w' => e = .returned (.string (d.stands at')) ∧ Below w.heap.size w w' := by
  obtain ⟨ss, ls⟩ := d
  obtain ⟨⟨sv, dv, rfl, hs, hd⟩, hz, hy⟩ := h
  simp only at hs hd ha hz hy
  obtain ⟨sb, so, sc, rfl, s1, s2, s3, s4⟩ := hs.rows (by omega)
  obtain ⟨da, dc, rfl, -, hl⟩ := hd.shape
  unfold maxLen at hl
  rw [List.length_map] at hl hd ⊢
  have hsl : ss.length ≤ 9223372036854775807 := by unfold maxLen at s3; omega
  obtain ⟨s0, hs0⟩ : ∃ s, ss[at'] = s := ⟨_, rfl⟩
  have hg : ss.getD at' ⟨#[]⟩ = s0 := by rw [← hs0]; simp [List.getD, ha]
  have HE := Lib.hid (show (Dsk.mk ss ls).stands at' = standsL at' s0 ls by rw [Dsk.stands, hg])
  have hc0 : w.cell? ⟨sb, so + at', none⟩ = some (.string s0) := by
    have := s4 at' ha
    rwa [hs0] at this
  have HC0 := Lib.hid (fun (W : World) (h : Below w.heap.size w W) => (h.cell (World.block_lt_of_cell? _ _ hc0)).trans hc0)
  have HLAST := Lib.hid (fun (i : Nat) hi h1 h2 => standsL_last at' i ls s0 hi h1 h2)
  have HNONE := Lib.hid (fun h => standsL_none at' ls s0 h)
  refine (callsIn_wide (n := 3)).1 ?_
  have h1 : 1 ≤ 3 := by decide
  obtain ⟨W0, hW0⟩ : ∃ W0, (((w.alloc (.cells #[.slice (some ⟨sb, so, none⟩) ss.length sc, .slice da ls.length dc] 25)).alloc (.cells #[.int .i64 at'] 3)).alloc (.cells #[.string ⟨#[]⟩] 9)).alloc (.cells #[.slice da ls.length dc] 23) = W0 := ⟨_, rfl⟩
  have hsz : W0.heap.size = w.heap.size + 4 := by rw [← hW0]; simp
  have hB0 : Below w.heap.size w W0 := by rw [← hW0]; exact Below.then (Below.then (Below.then (below_new _ _) (below_new _ _)) (below_new _ _)) (below_new _ _)
  have hC : StandC w.heap.size (.slice (some ⟨sb, so, none⟩) ss.length sc) (.slice da ls.length dc) (at' : Int) (.string ⟨#[]⟩) W0 := by
    have A := (At2.new 25 w (.slice (some ⟨sb, so, none⟩) ss.length sc) (.slice da ls.length dc)).cells
    have B := Boxed.new (w.alloc (.cells #[.slice (some ⟨sb, so, none⟩) ss.length sc, .slice da ls.length dc] 25)) 3 (.int .i64 at')
    have C := Boxed.new ((w.alloc (.cells #[.slice (some ⟨sb, so, none⟩) ss.length sc, .slice da ls.length dc] 25)).alloc (.cells #[.int .i64 at'] 3)) 9 (.string ⟨#[]⟩)
    rw [World.size_alloc] at B C
    rw [World.size_alloc] at C
    have kc : ∀ {p : Addr} {v : Value} {w : World} (o : Obj), w.cell? p = some v → (w.alloc o).cell? p = some v := fun {p v w} o h => ((below_new w o).cell (World.block_lt_of_cell? _ _ h)).trans h
    rw [← hW0]
    exact ⟨kc _ (kc _ (kc _ A.1)), kc _ (kc _ (kc _ A.2)), kc _ (kc _ B.cell), kc _ C.cell, (C.alloc _).frozen⟩
  have hcB : W0.cell? ⟨w.heap.size + 1 + 1 + 1, 0, none⟩ = some (.slice da ls.length dc) := by
    have D := Boxed.new (((w.alloc (.cells #[.slice (some ⟨sb, so, none⟩) ss.length sc, .slice da ls.length dc] 25)).alloc (.cells #[.int .i64 at'] 3)).alloc (.cells #[.string ⟨#[]⟩] 9)) 23 (.slice da ls.length dc)
    rw [World.size_alloc, World.size_alloc, World.size_alloc, hW0] at D
    exact D.cell
  have hp0 := hd.keep hB0
  have HW := Lib.hid hW0
  clear hs hz hy hW0 hs0 hg s4 hc0
  refine callsIn_of_wp_marks Try.func25 rfl trivial ?_ rfl
  simp only [Try.ntmps25, List.size_toArray, List.length_cons, List.length_nil, Nat.reduceAdd, Nat.reduceSub, Array.replicate_succ, Array.replicate_zero, List.push_toArray, List.append_toArray, List.nil_append, List.cons_append]
  gi_wp2_with (refine ⟨trivial, ?_⟩; gi_at_call 37; refine (back_in Fence.wide (3 - 1) trivial rfl _ _ _ _).mono ?_; rintro e w' ⟨rfl, rfl⟩)
  rw [HW.out]
  refine wpIn_rangeFunc_ownH rfl h1 (gf := 44) (lb := #[.pointer (some ⟨w.heap.size + 1 + 1 + 1, 0, none⟩)]) rfl trivial (enters_of Try.func44 (by kernel_rfl) rfl)
    (back_stops Fence.wide (3 - 1) trivial rfl (by decide) (w.heap.size + 1 + 1 + 1) dc da ls (by omega) W0 hcB hp0) belowK_t (belowK_b (Nat.le_refl _)) (Below.refl _ _) (fun _ => rfl)
    (fun pre W => (StandC w.heap.size (.slice (some ⟨sb, so, none⟩) ss.length sc) (.slice da ls.length dc) (at' : Int) (.string ⟨#[]⟩) W ∧ NoneAt (at' : Int) pre) ∧ Below w.heap.size W0 W)
    (fun c pre W => (c = .ret ∧ EndAt w.heap.size (at' : Int) pre W) ∧ Below w.heap.size W0 W)
    (OwnFrom.and (Own.from (fun s A B row hs hg hr => ⟨hs.1.kept hg hr, hs.2⟩) _) (ownFrom_below (by rw [hsz]; omega) (by rw [hsz]; omega)))
    (fun c => OwnFrom.and (Own.from (fun s A B row hs hg hr => by obtain ⟨hc, ini, last, e1, e2, e3, e4⟩ := hs; exact ⟨hc, ini, last, e1, e2, e3, cell_kept e4 hg hr⟩) _) (ownFrom_below (by rw [hsz]; omega) (by rw [hsz]; omega)))
    ⟨⟨hC, fun _ h => by cases h⟩, Below.refl _ _⟩
    (fun x a' W => ∃ Bx, At2 45 W Bx (.int .i64 x.2.1) (.string x.2.2) ∧ a' = { tmps := #[.agg #[.slice (some ⟨sb, so, none⟩) ss.length sc, .slice da ls.length dc], .int .i64 at', .pointer (some ⟨w.heap.size, 0, none⟩), .pointer (some ⟨w.heap.size + 1, 0, none⟩), .pointer (some ⟨w.heap.size + 1 + 1, 0, none⟩), undef, .pointer (some ⟨Bx, 0, none⟩), .pointer (some ⟨w.heap.size, 1, none⟩), .slice da ls.length dc, .func (.func 44) #[] #[.pointer (some ⟨w.heap.size + 1 + 1 + 1, 0, none⟩)], .int .i64 (x.1 : Int), .agg #[.int .i64 x.2.1, .string x.2.2], undef, undef, undef, undef, undef, undef, undef, undef, undef, undef, undef], defers := [] })
    (fun x a' => by
      rintro s A B row ⟨Bx, h2, h3⟩ hg hr
      refine ⟨Bx, (hg.block Bx h2.lt (fun e => ?_)).trans h2, h3⟩
      obtain ⟨-, o, ho, hc⟩ := hr Bx e.symm
      rw [show A.heap[Bx]? = _ from h2] at ho; cases ho; cases hc)
    ?assign ?body ?done ?stop
  case assign =>
    rintro l pre ⟨i, ax, x⟩ W K ⟨⟨hi, hp⟩, hB⟩ hK
    gi_wp2
    exact hK _ _ ((KeepsOthers.alloc _ _).from _) ((Below.refl _ W).alloc hB.size _) ⟨⟨hi.alloc _, hp⟩, hB.alloc (by have := hB.size; rw [hsz] at this; omega) _⟩ ⟨W.heap.size, At2.new _ _ _ _, rfl⟩
  case body =>
    rintro l pre ⟨i, ax, x⟩ a' W - - ⟨⟨hi, hp⟩, hB⟩ ⟨Bx, hX, rfl⟩ -
    obtain ⟨x0, x1⟩ := hX.cells
    obtain ⟨k0, k1, k2, k3, kf⟩ := hi
    have HP := Lib.hid hp
    have HB := Lib.hid hB
    clear hp hB hX
    by_cases he : ax = (at' : Int)
    · have q : (ax == (at' : Int)) = true := beq_iff_eq.2 he
      have HEQ := Lib.hid he
      clear he
      gi_wp2
      exact ⟨(KeepsOthers.setCell _ _ _).from _, ⟨rfl, ⟨pre, (i, ax, x), rfl, HP.out, HEQ.out, World.cell?_setCell_same' _ _ _ (by rw [k3]; rfl)⟩⟩, HB.out.setCell (p := ⟨w.heap.size + 1 + 1, 0, none⟩) (by show w.heap.size ≤ w.heap.size + 1 + 1; omega) _⟩
    · have q : (ax == (at' : Int)) = false := beq_eq_false_iff_ne.2 he
      have HEQ := Lib.hid he
      clear he
      gi_wp2
      exact ⟨KeepsFrom.refl _ _, Below.refl _ _, ⟨⟨k0, k1, k2, k3, kf⟩, fun p hp' => (List.mem_append.1 hp').elim (HP.out p) (fun e => by rw [List.mem_singleton.1 e]; exact HEQ.out)⟩, HB.out⟩
  case done =>
    rintro D ys W hD rfl ⟨⟨hi, hp⟩, hB⟩ hK
    have HS := Lib.hid (HNONE.out fun x hx => by
      obtain ⟨j, hj, rfl⟩ := List.getElem_of_mem hx
      have := hp _ (mem_backL ls ls.length (ls.length - 1 - j) (by omega))
      rw [show ls.length - 1 - (ls.length - 1 - j) = j by omega] at this
      simpa [List.getD, hj] using this)
    have c := HC0.out W (hB0.trans hB)
    obtain ⟨k0, k1, k2, k3, kf⟩ := hi
    have HB := Lib.hid hB
    have ha' : (at' : Int) < (ss.length : Int) := by omega
    clear hp hB
    gi_wp2
    have hK' := (KeepsOthers.setCell W ⟨w.heap.size + 1 + 1, 0, none⟩ (.string s0)).same D _ hK rfl
    refine ⟨by simp, .inl ⟨_, _, rfl, run_takeDeferred hK', ?_⟩⟩
    have hc5 := cell_kept (World.cell?_setCell_same' W ⟨w.heap.size + 1 + 1, 0, none⟩ (.string s0) (by rw [k3]; rfl)) (grownBy_putObj' _ D (.deferred none)) (fun r e => by cases e; exact ⟨_, hK', rfl⟩)
    refine ⟨.string s0, ?_, by rw [HE.out, HS.out], hB0.trans ((HB.out.setCell (p := ⟨w.heap.size + 1 + 1, 0, none⟩) (by show w.heap.size ≤ w.heap.size + 1 + 1; omega) _).trans (belowK_b (w := w) (Nat.le_refl _) _ D _ _ (by rw [hsz] at hD; omega) hK' rfl rfl))⟩
    simp [results, Try.f25, go_sem, hc5]
  case stop =>
    rintro D c pre W hD ⟨k, hk, rfl⟩ ⟨⟨rfl, ini, last, e1, e2, e3, hcr⟩, hB⟩ hK
    have HB := Lib.hid hB
    clear hB
    gi_wp2
    refine ⟨by simp, .inl ⟨_, _, rfl, run_takeDeferred hK, ?_⟩⟩
    have hc5 := cell_kept hcr (grownBy_putObj' _ D (.deferred none)) (fun r e => by cases e; exact ⟨_, hK, rfl⟩)
    obtain ⟨k', rfl⟩ : ∃ k', k = k' + 1 := by
      cases k with
      | zero => simp [backL] at e1
      | succ k' => exact ⟨k', rfl⟩
    obtain ⟨rfl, e5⟩ := List.append_inj' e1 rfl
    obtain rfl : (ls.length - 1 - k', ls.getD (ls.length - 1 - k') (0, ⟨#[]⟩)) = last := by simpa using e5
    have HS := HLAST.out (ls.length - 1 - k') (by omega) e3 (fun j h1 h2 => by
      have := e2 _ (mem_backL ls k' (ls.length - 1 - j) (by omega))
      rwa [show ls.length - 1 - (ls.length - 1 - j) = j by omega] at this)
    refine ⟨.string (ls.getD (ls.length - 1 - k') (0, ⟨#[]⟩)).2, ?_, by rw [HE.out, HS], hB0.trans (HB.out.trans (belowK_b (w := w) (Nat.le_refl _) W D _ _ (by rw [hsz] at hD; omega) hK rfl rfl))⟩
    simp [results, Try.f25, go_sem, hc5]
end Go.Proofs.Ytcjngaapiomkbaa
