/-
  The program's reader: one item of a row more, by a contract. Conditions: the reader's value by its contract.
-/
import Derived.Test.YtgkapipiegfmhaaDoorRd3
namespace Go.Proofs.YtgkapipiegfmhaaDoor
open Go.RowKit

set_option maxRecDepth 100000 in
set_option maxHeartbeats 4000000 in
theorem row1_none (base B V R : Nat) (t : ByteArray) (ts : List Val) (xs : List Value) (a b c hv ne : Value) (w : World)
    (CV : ∀ w, RdAt w B t → TEnv w → Calls Tryd.prog 16 #[.pointer (some ⟨B, 0, none⟩)] w (ValEnds B t w))
    (hR : RdAt w B t) (hE : TEnv w) (_hB : 8 ≤ B) (_hBb : B < base) (_hVb : V < base) (_hRb : R < base) (_hVB : V ≠ B) (_hRB : R ≠ B) (_hRV : R ≠ V) (hbase : base ≤ w.heap.size)
    (hV : At5 w V a b c hv ne) (hP : PtrAt w R B) (hrow : RowOf base w hv none ts xs) (_hlen : ts.length ≤ 5000) (hno : rdL t.data.toList = none) :
    Calls Tryd.prog 33 #[.pointer (some ⟨V, 0, none⟩), .pointer (some ⟨R, 0, none⟩)] w fun e w' => OneEnds base B V t ts a b c hv ne none w e w' := by
  obtain ⟨v0, v1, v2, v3, v4⟩ := hV.cells
  have p0 := hP.cell
  have CN := Lib.hid (show ∀ w', Below w.heap.size w w' → Calls Tryd.prog 16 #[.pointer (some ⟨B, 0, none⟩)] w' fun e w2 => e = .panicked [{ v := .iface 26 (.int .i64 6), recovered := false }] ∧ Fr2 base B V w w2 from fun w' hb =>
    (CV w' (hR.kept (hb.block B hR.lt)) (hE.below hb)).mono fun e w2 h => by
      have h1 := h.is
      rw [hno] at h1
      exact ⟨h1, (Fr2.gone (Gone.below hb) hbase).trans (Fr2.gone h.gone (Nat.le_trans hbase hb.size))⟩)
  have HO := Lib.hid hno
  have B0 := Lib.hid (Below.refl w.heap.size w)
  obtain ⟨ha, hc, rfl⟩ : ∃ ha hc, hv = .slice ha ts.length hc := by
    rcases hrow.own.2 with ⟨e, h0⟩ | ⟨g, cap, cur, e, -⟩
    · exact ⟨none, 0, by rw [e, h0]⟩
    · exact ⟨_, _, e⟩
  obtain ⟨n, hn⟩ : ∃ n, ts.length = n := ⟨_, rfl⟩
  rw [hn] at v3
  clear CV hR hE hbase hV hP hrow hno hn v0 v1 v2 v4
  go_enter Tryd.func33, Tryd.ntmps33
  go_wp2_with fail
  refine wp_region_held_drew (S := fun u => u.cell? ⟨V, 3, none⟩ = some (.slice ha n hc) ∧ u.cell? ⟨R, 0, none⟩ = some (.pointer (some ⟨B, 0, none⟩))) (by kernel_rfl) ⟨v3, p0⟩ fun hS => ?_
  refine wpAnyH_take (i := 0) (v := .pointer (some ⟨V, 3, none⟩)) rfl (by kernel_rfl) (by kernel_rfl) (by kernel_rfl) (fun _ _ _ h => h) (Or.inl ⟨by rfl, ?_⟩) hS ?_
  · intro u _; go_simp
  refine wpAnyH_take (i := 1) (v := .slice ha n hc) rfl (by kernel_rfl) (by kernel_rfl) (by kernel_rfl) (fun _ _ _ h => h) (Or.inl ⟨by rfl, ?_⟩) hS ?_
  · rintro u ⟨hu, -⟩; go_simp
  refine wpAnyH_take (i := 2) (v := .pointer (some ⟨B, 0, none⟩)) rfl (by kernel_rfl) (by kernel_rfl) (by kernel_rfl) (fun _ _ _ h => h) (Or.inl ⟨by rfl, ?_⟩) hS ?_
  · rintro u ⟨-, hu⟩; go_simp
  refine wpAnyH_take (i := 4) (v := .int .i64 n) rfl (by kernel_rfl) (by kernel_rfl) (by kernel_rfl) (fun _ _ _ h => h) (Or.inl ⟨by rfl, ?_⟩) hS ?_
  · intro u _; go_simp
  go_simp
  refine wpAnyH_ready (rs := [3, 5]) (by kernel_rfl) (by simp) ?_
  refine AllReadyH.cons (o := { dst := some 5, op := .call { callee := .value (.func 16), args := #[.tmp 4], argTypes := #[47] }, type := 25, pos := _, after := _, guard := none }) rfl (fun K hK => ?_) (AllReadyH.cons (o := { dst := some 7, op := .buildSlice 22 1 _, type := 22, pos := _, after := _, guard := none }) rfl (fun K hK => ?_) AllReadyH.nil)
  · go_simp
    go_at_call 16
    refine (CN.out _ B0.out.drew).mono ?_
    rintro e w2 ⟨rfl, hf⟩
    go_wp2_with fail
    exact ⟨rfl, ⟨hf, by rw [HO.out]; rfl⟩⟩
  · go_simp
    have B1 := Lib.hid (((below_new w (.cells #[.int .i64 0, .int .i64 0, .string ⟨#[]⟩, .slice none 0 0, .slice none 0 0] 25))).drew)
    refine hK.out _ _ ⟨(B1.out.cell (World.block_lt_of_cell? _ _ v3)).trans v3, (B1.out.cell (World.block_lt_of_cell? _ _ p0)).trans p0⟩ (fun hS2 => ?_)
    clear hK K
    go_simp
    refine wpAnyH_ready (rs := [3]) (by kernel_rfl) (by simp) ?_
    refine AllReadyH.cons (o := { dst := some 5, op := .call { callee := .value (.func 16), args := #[.tmp 4], argTypes := #[47] }, type := 25, pos := _, after := _, guard := none }) rfl (fun K hK => ?_) AllReadyH.nil
    go_simp
    go_at_call 16
    refine (CN.out _ B1.out).mono ?_
    rintro e w2 ⟨rfl, hf⟩
    go_wp2_with fail
    exact ⟨rfl, ⟨hf, by rw [HO.out]; rfl⟩⟩

set_option maxRecDepth 100000 in
set_option maxHeartbeats 4000000 in
theorem row1_some (base B V R : Nat) (t : ByteArray) (ts : List Val) (xs : List Value) (a b c hv ne : Value) (w : World)
    (CV : ∀ w, RdAt w B t → TEnv w → Calls Tryd.prog 16 #[.pointer (some ⟨B, 0, none⟩)] w (ValEnds B t w))
    (hR : RdAt w B t) (hE : TEnv w) (_hB : 8 ≤ B) (hBb : B < base) (hVb : V < base) (_hRb : R < base) (hVB : V ≠ B) (_hRB : R ≠ B) (_hRV : R ≠ V) (hbase : base ≤ w.heap.size)
    (hV : At5 w V a b c hv ne) (hP : PtrAt w R B) (hrow : RowOf base w hv none ts xs) (hlen : ts.length ≤ 5000) (T : Val) (r : List UInt8) (hyes : rdL t.data.toList = some (T, r)) :
    Calls Tryd.prog 33 #[.pointer (some ⟨V, 0, none⟩), .pointer (some ⟨R, 0, none⟩)] w fun e w' => OneEnds base B V t ts a b c hv ne none w e w' := by
  obtain ⟨v0, v1, v2, v3, v4⟩ := hV.cells
  have p0 := hP.cell
  obtain ⟨ha, hc, rfl⟩ : ∃ ha hc, hv = .slice ha ts.length hc := by
    rcases hrow.own.2 with ⟨e, h0⟩ | ⟨g, cap, cur, e, -⟩
    · exact ⟨none, 0, by rw [e, h0]⟩
    · exact ⟨_, _, e⟩
  obtain ⟨n, hn⟩ : ∃ n, ts.length = n := ⟨_, rfl⟩
  have hV5 := hV
  rw [hn] at v3 hV5 hrow hlen ⊢
  have CS := Lib.hid (show ∀ w', Below w.heap.size w w' → Calls Tryd.prog 16 #[.pointer (some ⟨B, 0, none⟩)] w' fun e w2 =>
      ∃ (xk xn : Int) (xs' : ByteArray) (xia xna : Option Addr) (xli xic xnn xnc : Nat), e = .returned (.agg #[.int .i64 xk, .int .i64 xn, .string xs', .slice xia xli xic, .slice xna xnn xnc]) ∧
        Below w.heap.size w w' ∧ Aft base B V n a b c (.slice ha n hc) ne none ts xs ⟨r.toArray⟩ (.agg #[.int .i64 xk, .int .i64 xn, .string xs', .slice xia xli xic, .slice xna xnn xnc]) T w' w2 from fun w' hb =>
    (CV w' (hR.kept (hb.block B hR.lt)) (hE.below hb)).mono fun e w2 h => by
      have h1 := h.is
      rw [hyes] at h1
      obtain ⟨v, rfl, hv, hr⟩ := h1
      obtain ⟨xk, xn, xs', xia, xna, xli, xic, xnn, xnc, rfl⟩ := hv.isVal.shape
      have hVlt := hV5.lt
      have hrk : RowOf base w2 (.slice ha n hc) none ts xs := hrow.keep (fun k hk hlt _ => (h.gone.block k (Nat.lt_of_lt_of_le hlt hb.size) (fun e => by have := Option.some.inj e; omega)).trans (hb.block k hlt)) (Or.inl rfl)
      refine ⟨xk, xn, xs', xia, xna, xli, xic, xnn, xnc, rfl, hb, h.gone, hr, ?_, hrk, by have := hrk.own; rwa [hn] at this, Nat.le_trans hbase (Nat.le_trans hb.size h.gone.size), hv⟩
      · exact (h.gone.block V (Nat.lt_of_lt_of_le hVlt hb.size) (fun e => hVB (Option.some.inj e))).trans ((hb.block V hVlt).trans hV5))
  have HO := Lib.hid hyes
  have B0 := Lib.hid (Below.refl w.heap.size w)
  have HROW := Lib.hid hrow
  have HXL := Lib.hid (show xs.length = n * 5 by have := hrow.own.1; rwa [hn] at this)
  have HLT := hV5.lt
  have HBL := Lib.hid hR.lt
  have HNN := Lib.hid hn
  obtain ⟨i0, hi, hz0, hz1, hz2⟩ := info_parts valInfo
  have hn1 : (n : Int) < (n : Int) + 1 := by omega
  have p0a : ∀ o, (w.alloc o).cell? ⟨R, 0, none⟩ = some (.pointer (some ⟨B, 0, none⟩)) := fun o => ((below_new w o).cell (World.block_lt_of_cell? _ _ p0)).trans p0
  have v3a : ∀ o, (w.alloc o).cell? ⟨V, 3, none⟩ = some (.slice ha n hc) := fun o => ((below_new w o).cell (World.block_lt_of_cell? _ _ v3)).trans v3
  clear CV hR hE hV hV5 hP hrow hyes hn v0 v1 v2 v4
  go_enter Tryd.func33, Tryd.ntmps33
  go_region_law (first
    | (go_simp; go_at_call 16; refine (CS.out _ ?_).mono ?_; (first | exact B0.out.drew | exact (B0.out.alloc (Nat.le_refl _) _).drew | exact (B0.out.drew).alloc (Nat.le_refl _) _); rintro e w2 ⟨xk, xn, xs', xia, xna, xli, xic, xnn, xnc, rfl, hBW, hA⟩; have c3v := hA.five.cells.2.2.2.1; have c3a : ∀ o, (w2.alloc o).cell? ⟨V, 3, none⟩ = some (.slice ha n hc) := (fun o => ((below_new w2 o).cell (World.block_lt_of_cell? _ _ c3v)).trans c3v))
    | (refine step_append_lies _ (by rfl) (.tmp 3) (.tmp 7) 22 (by rfl) base 25 i0 _ 5 80 Tryd.underlying22 hi hz0 hz1 hz2 rfl (by decide) _ n xs (by rfl) hA.own ⟨w.heap.size, 0, none⟩ 1 1 zero5 (by rfl) (by rfl) (World.news_of_block ((hA.gone.block w.heap.size (by simp) (fun e => by have := Option.some.inj e; have := HBL.out; omega)).trans (heap_alloc_new w _))) (by unfold zero5; simp [Value.oneCell']) (by decide) (by unfold maxLen; omega) (by omega) (hA.base) w2.heap.size (by rfl) ?_; intro g3 c3 w3 hown3 hgrow3 hat3 hlt3; have hP := App.of hA hVb (Below.refl _ _) hown3 hgrow3 hat3; have hgV := hP.ne hVb; obtain ⟨z0, z1, z2, z3, z4⟩ := hP.zeros HXL.out; obtain ⟨-, -, -, u3, -⟩ := hP.five.cells; have uf := hP.five.frozen 3; have f0 := hP.own.frozenAt (n * 5); have f1 := hP.own.frozenAt (n * 5 + 1); have f2 := hP.own.frozenAt (n * 5 + 2); have f3 := hP.own.frozenAt (n * 5 + 3); have f4 := hP.own.frozenAt (n * 5 + 4); clear hown3 hgrow3 hat3 hlt3)
    | (refine step_append_lies _ (by rfl) (.tmp 3) (.tmp 7) 22 (by rfl) base 25 i0 _ 5 80 Tryd.underlying22 hi hz0 hz1 hz2 rfl (by decide) _ n xs (by rfl) (hA.own.alloc _) ⟨w2.heap.size, 0, none⟩ 1 1 zero5 (by rfl) (by rfl) (World.news_of_block (heap_alloc_new w2 _)) (by unfold zero5; simp [Value.oneCell']) (by decide) (by unfold maxLen; omega) (by omega) (Nat.le_trans hA.base (below_new w2 _).size) (w2.heap.size + 1) (by simp) ?_; intro g3 c3 w3 hown3 hgrow3 hat3 hlt3; have hP := App.of hA hVb (below_new w2 _) hown3 hgrow3 (App.at' hat3); have hgV := hP.ne hVb; obtain ⟨z0, z1, z2, z3, z4⟩ := hP.zeros HXL.out; obtain ⟨-, -, -, u3, -⟩ := hP.five.cells; have uf := hP.five.frozen 3; have f0 := hP.own.frozenAt (n * 5); have f1 := hP.own.frozenAt (n * 5 + 1); have f2 := hP.own.frozenAt (n * 5 + 2); have f3 := hP.own.frozenAt (n * 5 + 3); have f4 := hP.own.frozenAt (n * 5 + 4); clear hown3 hgrow3 hat3 hlt3))
  all_goals
    clear CS c3v c3a p0a v3a hi hz0 hz1 hz2 z0 z1 z2 z3 z4 f0 f1 f2 f3 f4 u3 uf
    refine bodyPost_end (results_none rfl _ _ _) rfl ?_
    refine row_done hBW hbase hBb hVb hVB HROW.out (fun k e => by cases e) HNN.out HO.out hA hP ?_
    unfold set5
    first
      | (left; with_reducible rfl)
      | (right; with_reducible rfl)
end Go.Proofs.YtgkapipiegfmhaaDoor
