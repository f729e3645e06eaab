/-
  The digest's mixed by its contract. Conditions: words are of 32 bits; the table of the 64 constants lies where it lies.
-/
import Derived.Test.YtcdibcogboaikaaDoorSpread
namespace Go.Proofs.YtcdibcogboaikaaDoor
open Go.RowKit

/-- The tables lie where they lie. -/
structure Tabs (w : World) : Prop where
  many : 2 ≤ w.heap.size
  cubes : ∀ i, i < 64 → w.cell? ⟨1, i, none⟩ = some (wordAt keysL i)
  squares : ∃ t fr, w.heap[0]? = some (.cells ((begins.toL.map (Value.int .u32)).toArray) t fr)
theorem Tabs.keep {w w' : World} {B : Nat} (h : Tabs w) (hB : 2 ≤ B) (hb : Below B w w') : Tabs w' :=
  ⟨Nat.le_trans h.many hb.size, fun i hi => (hb.cell (p := ⟨1, i, none⟩) (show 1 < B from Nat.lt_of_lt_of_le (by decide) hB)).trans (h.cubes i hi), by obtain ⟨t, fr, e⟩ := h.squares; exact ⟨t, fr, (hb.block _ (Nat.lt_of_lt_of_le (by decide) hB)).trans e⟩⟩

/-- Where mixed's rows lie. -/
def MixedRows (w : World) (s : St) (W : List Int) (wr : World) : Prop :=
  wr.heap.size = w.heap.size + 1 + 1 + 1 ∧ wr.rowIs w.heap.size 65 8 (wordAt s.toL) ∧ wr.rowIs (w.heap.size + 1) 83 64 (wordAt W) ∧ wr.rowIs (w.heap.size + 1 + 1) 65 8 (wordAt []) ∧ Below w.heap.size w wr
def zeros8 : Array Value := #[.int .u32 0, .int .u32 0, .int .u32 0, .int .u32 0, .int .u32 0, .int .u32 0, .int .u32 0, .int .u32 0]
theorem rowIs_alloc_words (w : World) (ws : List Int) (t : TypeId) (n : Nat) (h : ws.length = n) : (w.alloc (.cells ((ws.map (Value.int .u32)).toArray) t)).rowIs w.heap.size t n (wordAt ws) := by
  have h1 := World.rowIs_alloc w ((ws.map (Value.int .u32)).toArray) t (wordAt ws) (fun i hi => by
    simp only [List.size_toArray, List.length_map] at hi
    simp [wordAt, hi])
  have e : ((ws.map (Value.int .u32)).toArray).size = n := by simp [h]
  rwa [e] at h1
theorem MixedRows.start (w : World) (s : St) (W : List Int) (hW : W.length = 64) :
    MixedRows w s W (((w.alloc (.cells ((s.toL.map (Value.int .u32)).toArray) 65)).alloc (.cells ((W.map (Value.int .u32)).toArray) 83)).alloc (.cells zeros8 65)) := by
  have h1 := rowIs_alloc_words w s.toL 65 8 rfl
  have h2 := rowIs_alloc_words (w.alloc (.cells ((s.toL.map (Value.int .u32)).toArray) 65)) W 83 64 hW
  have h3 := World.rowIs_alloc ((w.alloc (.cells ((s.toL.map (Value.int .u32)).toArray) 65)).alloc (.cells ((W.map (Value.int .u32)).toArray) 83)) zeros8 65 (wordAt []) (fun i hi => by
    match i, hi with
    | 0, _ => rfl
    | 1, _ => rfl
    | 2, _ => rfl
    | 3, _ => rfl
    | 4, _ => rfl
    | 5, _ => rfl
    | 6, _ => rfl
    | 7, _ => rfl
    | i + 8, hi => exact absurd hi (by show ¬ i + 8 < 8; omega))
  simp only [World.size_alloc] at h2 h3
  exact ⟨by simp, (h1.alloc _).alloc _, h2.alloc _, h3, (((Below.refl _ _).alloc (Nat.le_refl _) _).alloc (by simp) _).alloc (by simp; omega) _⟩
theorem MixedRows.drewN {w wr : World} {s : St} {W : List Int} (h : MixedRows w s W wr) (n : Nat) : MixedRows w s W (wr.drewN n) := ⟨h.1, h.2.1, h.2.2.1, h.2.2.2.1, h.2.2.2.2.trans ⟨rfl, rfl, rfl, Nat.le_refl _, fun _ _ => rfl⟩⟩

theorem info8 {C : Array Value} (h : C.size = 8) : (Tryd.prog.info? 65).map (·.size) = some C.size := by rw [h]; kernel_rfl
/-- The sums of the first k words, and the others. -/
def addAt (s r : St) (k i : Nat) : Value := if i < k then .int .u32 ((r.toL.getD i 0 + s.toL.getD i 0) % 4294967296) else .int .u32 (r.toL.getD i 0)
theorem addAt_all {s r : St} : ∀ i, i < 8 → addAt s r 8 i = wordAt (r.add s).toL i := by
  intro i hi
  unfold addAt wordAt
  rw [if_pos hi]
  match i, hi with
  | 0, _ => rfl
  | 1, _ => rfl
  | 2, _ => rfl
  | 3, _ => rfl
  | 4, _ => rfl
  | 5, _ => rfl
  | 6, _ => rfl
  | 7, _ => rfl
  | i + 8, hi => exact absurd hi (by omega)
def MixedRows2 (w : World) (s r : St) (k : Nat) (wr : World) : Prop :=
  wr.rowIs w.heap.size 65 8 (wordAt s.toL) ∧ wr.rowIs (w.heap.size + 1 + 1) 65 8 (wordAt []) ∧ wr.rowIs (w.heap.size + 1 + 1 + 1) 65 8 (addAt s r k) ∧ Below w.heap.size w wr
theorem MixedRows2.drewN {w wr : World} {s r : St} {k : Nat} (h : MixedRows2 w s r k wr) (n : Nat) : MixedRows2 w s r k (wr.drewN n) := ⟨h.1, h.2.1, h.2.2.1, h.2.2.2.trans ⟨rfl, rfl, rfl, Nat.le_refl _, fun _ _ => rfl⟩⟩
theorem MixedRows2.start {w wr : World} {s : St} {W : List Int} (h : MixedRows w s W wr) (r : St) : MixedRows2 w s r 0 (wr.alloc (.cells ((r.toL.map (Value.int .u32)).toArray) 65)) := by
  obtain ⟨hz, h1, h2, h3, hb⟩ := h
  have h4 := rowIs_alloc_words wr r.toL 65 8 rfl
  rw [hz] at h4
  exact ⟨h1.alloc _, h3.alloc _, h4.congr (fun i _ => by unfold addAt wordAt; rw [if_neg (Nat.not_lt_zero i)]), hb.alloc (by omega) _⟩
theorem MixedRows2.set {w wr : World} {s r : St} (k : Nat) (h : MixedRows2 w s r k wr) : MixedRows2 w s r (k + 1) (wr.setCell ⟨w.heap.size + 1 + 1 + 1, k, none⟩ (.int .u32 ((r.toL.getD k 0 + s.toL.getD k 0) % 4294967296))) := by
  obtain ⟨h1, h2, h3, hb⟩ := h
  refine ⟨h1.setOther (show w.heap.size ≠ w.heap.size + 1 + 1 + 1 by omega) _, h2.setOther (show w.heap.size + 1 + 1 ≠ w.heap.size + 1 + 1 + 1 by omega) _, (h3.set k _).congr fun i _ => ?_, hb.setCell (show w.heap.size ≤ w.heap.size + 1 + 1 + 1 by omega) _⟩
  unfold addAt
  by_cases e : i = k
  · subst e; rw [if_pos rfl, if_pos (by omega)]
  · rw [if_neg e]
    by_cases e2 : i < k
    · rw [if_pos e2, if_pos (by omega)]
    · rw [if_neg e2, if_neg (by omega)]

set_option maxRecDepth 100000 in
set_option maxHeartbeats 4000000 in
theorem mixed_any (s : St) (W : List Int) (w : World) (hs : s.Ok) (hW : W.length = 64) (hWu : ∀ x ∈ W, U32 x) (ht : Tabs w) :
    Calls Tryd.prog 58 #[.agg ((s.toL.map (Value.int .u32)).toArray), .agg ((W.map (Value.int .u32)).toArray)] w fun e w' => e = .returned (.agg (((s.add (rounds s W 64)).toL.map (Value.int .u32)).toArray)) ∧ Below w.heap.size w w' := by
  have HS := Lib.hid (MixedRows.start w s W hW)
  obtain ⟨cs, hcs⟩ : ∃ cs : Array Value, ((s.toL.map (Value.int .u32)).toArray) = cs := ⟨_, rfl⟩
  obtain ⟨ct, hct⟩ : ∃ ct : Array Value, ((W.map (Value.int .u32)).toArray) = ct := ⟨_, rfl⟩
  obtain ⟨C, hC⟩ : ∃ C : Array Value, (((s.add (rounds s W 64)).toL.map (Value.int .u32)).toArray) = C := ⟨_, rfl⟩
  rw [hcs, hct] at HS ⊢
  rw [hC]
  have HC := Lib.hid hC
  have HU := Lib.hid hWu
  have HW := Lib.hid hW
  have HT := Lib.hid ht
  have ok0 := Lib.hid hs
  clear hcs hct hC hWu hW ht
  go_enter Tryd.func58, Tryd.ntmps58
  go_wp2_with fail
  obtain ⟨w0, hw0⟩ : ∃ w0 : World, ((w.alloc (.cells cs 65)).alloc (.cells ct 83)).alloc (.cells zeros8 65) = w0 := ⟨_, rfl⟩
  rw [hw0] at HS
  unfold zeros8 at hw0
  rw [hw0]
  have HW0 := Lib.hid hw0
  clear hw0
  obtain ⟨hz, hr1, hr2, hr3, hb⟩ := HS.out
  have c0 := hr1.cell (i := 0) (by omega)
  have c1 := hr1.cell (i := 1) (by omega)
  have c2 := hr1.cell (i := 2) (by omega)
  have c3 := hr1.cell (i := 3) (by omega)
  have c4 := hr1.cell (i := 4) (by omega)
  have c5 := hr1.cell (i := 5) (by omega)
  have c6 := hr1.cell (i := 6) (by omega)
  have c7 := hr1.cell (i := 7) (by omega)
  unfold wordAt St.toL at c0 c1 c2 c3 c4 c5 c6 c7
  simp only [List.getD_cons_zero, List.getD_cons_succ] at c0 c1 c2 c3 c4 c5 c6 c7
  clear hz hr1 hr2 hr3 hb hs
  go_quiet (fail)
  generalize nq = n1
  go_wp2_with fail
  go_quiet (fail)
  generalize nq = n2
  go_wp2_with fail
  have HR := Lib.hid ((HS.out.drewN n1).drewN n2)
  clear c0 c1 c2 c3 c4 c5 c6 c7
  go_loopw [5, 6, 7, 8, 9, 10, 11, 12, 34] (fun a b c d e f g h i wr => ∃ t : Nat, t ≤ 64 ∧ i = .int .i64 t ∧ a = .int .u32 (rounds s W t).a ∧ b = .int .u32 (rounds s W t).b ∧ c = .int .u32 (rounds s W t).c ∧ d = .int .u32 (rounds s W t).d ∧ e = .int .u32 (rounds s W t).e ∧ f = .int .u32 (rounds s W t).f ∧ g = .int .u32 (rounds s W t).g ∧ h = .int .u32 (rounds s W t).h ∧ MixedRows w s W wr) (fun _ _ _ _ _ _ _ _ i _ => 64 - (intOf i).toNat)
  case atStart => exact ⟨0, Nat.zero_le _, rfl, rfl, rfl, rfl, rfl, rfl, rfl, rfl, rfl, HR.out⟩
  case round =>
    clear HR
    obtain ⟨t, ht, rfl, rfl, rfl, rfl, rfl, rfl, rfl, rfl, rfl, hr⟩ := hrel
    have HM := Lib.hid hr
    have okr := rounds_ok ok0.out W t
    by_cases hlt : t < 64
    · have kk := (HT.out.keep HT.out.many hr.2.2.2.2).cubes t hlt
      have kw := hr.2.2.1.cell (i := t) (by omega)
      have uk := Lib.hid (keysL_u32 t)
      have uw := Lib.hid (getD_u32 HU.out t)
      have HN := Lib.hid (rounds_succ' s W t)
      unfold wordAt at kk kw
      clear hr
      generalize keysL.getD t 0 = k at kk uk HN
      generalize W.getD t 0 = x at kw uw HN
      generalize rounds s W t = r at okr HN
      obtain ⟨a, b, c, d, e, f, g, h⟩ := r
      obtain ⟨ua, ub, uc, ud, ue, uf, ug, uh⟩ := okr
      simp only [] at ua ub uc ud ue uf ug uh
      have va := Lib.hid ua
      have ve := Lib.hid ue
      obtain ⟨a0, a1⟩ := ua
      obtain ⟨b0, b1⟩ := ub
      obtain ⟨c0, c1⟩ := uc
      obtain ⟨d0, d1⟩ := ud
      obtain ⟨e0, e1⟩ := ue
      obtain ⟨f0, f1⟩ := uf
      obtain ⟨g0, g1⟩ := ug
      obtain ⟨h0, h1⟩ := uh
      obtain ⟨k0, k1⟩ := uk.out
      obtain ⟨x0, x1⟩ := uw.out
      have T1 := Lib.hid (fun w => turns_any e 6 11 25 w ve.out (by decide) (by decide) (by decide))
      have T2 := Lib.hid (fun w => turns_any a 2 13 22 w va.out (by decide) (by decide) (by decide))
      go_wp2_with fail
      go_quiet ((go_at_call 74; exact Calls.quiet_of_same ((T1.out _).mono fun _ _ ⟨h1, h2⟩ => ⟨h1, h2.symm⟩)))
      go_wp2_with fail
      refine (T2.out _).mono ?_
      rintro e w2 ⟨rfl, rfl⟩
      go_wp2_with fail
      go_roundw
      case rel =>
        refine ⟨t + 1, by omega, by go_num, ?_, ?_, ?_, ?_, ?_, ?_, ?_, ?_, HM.out.drewN nq⟩ <;> rw [HN.out] <;> rfl
      case measure => simp [intOf]; omega
    · have t64 := Lib.hid (show t = 64 by omega)
      have HC' := Lib.hid (show (((rounds s W t).add s).toL.map (Value.int .u32)).toArray = C by rw [t64.out, St.add_comm]; exact HC.out)
      clear hr
      generalize rounds s W t = r at okr HC'
      have hz := HM.out.1
      have HM0 := Lib.hid (MixedRows2.start HM.out r)
      obtain ⟨a, b, c, d, e, f, g, h⟩ := r
      go_wp2_with fail
      go_loopw [94] (fun i wr => ∃ k : Nat, k ≤ 8 ∧ i = .int .i64 k ∧ MixedRows2 w s ⟨a, b, c, d, e, f, g, h⟩ k wr) (fun i _ => 8 - (intOf i).toNat)
      case atStart => exact ⟨0, Nat.zero_le _, rfl, HM0.out⟩
      case round =>
        clear HM0 hz HM
        obtain ⟨k, hk, rfl, hr1, hr2, hr3, hb⟩ := hrel
        by_cases hlt : k < 8
        · have c0 := hr1.cell (i := k) (by omega)
          have c1 := hr3.cell (i := k) (by omega)
          have f0 := hr3.frozen k
          have HM := Lib.hid (show MixedRows2 w s ⟨a, b, c, d, e, f, g, h⟩ k wr from ⟨hr1, hr2, hr3, hb⟩)
          clear hr1 hr2 hr3 hb
          unfold wordAt at c0
          unfold addAt at c1
          rw [if_neg (Nat.lt_irrefl k)] at c1
          go_wp2_with fail
          go_region
          go_wp2_with fail
          go_roundw
          case rel =>
            refine ⟨k + 1, by omega, by go_num, ?_⟩
            exact (MixedRows2.set k HM.out).drewN 1
          case measure => simp [intOf]; omega
        · have k8 := Lib.hid (show k = 8 by omega)
          rw [k8.out] at hr3
          have hc3 := rowIs_words hr3 (St.add ⟨a, b, c, d, e, f, g, h⟩ s).toL rfl addAt_all
          rw [HC'.out] at hc3
          have hsz : C.size = 8 := by rw [← HC'.out]; rfl
          have h1 : C.all (·.oneCell') = true := by rw [← HC'.out]; simp [St.toL, Value.oneCell']
          obtain ⟨D, hD, hDs, -⟩ := hr2
          have HC3 := Lib.hid hc3
          have HC2 := Lib.hid hD
          have HSZ := Lib.hid hsz
          have HDS := Lib.hid (hDs.trans hsz.symm)
          have HB := Lib.hid hb
          have H1 := Lib.hid h1
          clear hr1 hr3 hb hc3 hsz h1 hD hDs
          go_wp2_with (first | (refine wpList_load_row rfl 65 (.tmp 16) rfl (w.heap.size + 1 + 1 + 1) rfl 65 C (0, 0) _ HC3.out Tryd.underlying65 rfl (info8 HSZ.out) ?_) | (refine wpList_store_row rfl 65 (.tmp 4) (.tmp 106) rfl (w.heap.size + 1 + 1) C rfl rfl 65 D HC2.out (info8 HSZ.out) HDS.out H1.out ?_))
          have hfin : (wr.setRow (w.heap.size + 1 + 1) C).heap[w.heap.size + 1 + 1]? = some (.cells C 65 (0, 0)) := setRow_heap _ _ _ _ _ _ HC2.out
          exact bodyPost_ret (results_cell_row (p := 4) rfl _ _ (w.heap.size + 1 + 1) 65 C (0, 0) _ rfl hfin Tryd.underlying65 rfl (info8 HSZ.out)) rfl ⟨rfl, HB.out.trans (below_setRow (Below.refl _ _) (show w.heap.size ≤ w.heap.size + 1 + 1 by omega) _)⟩
end Go.Proofs.YtcdibcogboaikaaDoor
