/-
  The program's reader: one member of an object more, by a contract. Conditions: the reader's value by its contract.
-/
import Derived.Test.YtgkapipiegfmhaaDoorRd6
namespace Go.Proofs.YtgkapipiegfmhaaDoor
open Go.RowKit

/-- How one member more of an object ends. -/
structure OneO (base B V R : Nat) (a b c : Value) (w0 : World) (ns : List ByteArray) (ts : List Val) (t : ByteArray) (e : Ending) (w' : World) : Prop where
  fr : Fr2 base B V w0 w'
  is : match nameL true ns t.data.toList with
    | none => e = stop 6
    | some q => match rdL q.2 with
      | none => e = stop 6
      | some p => e = .returned (.tuple #[]) ∧ StO base B V R a b c w0 q.1 (ts ++ [p.1]) ⟨p.2.toArray⟩ w'
/-- What stands behind the last statement of a member. -/
def EndO (base B V : Nat) (t : ByteArray) (ts : List Val) (a b c hv ne : Value) (nb : Option Nat) (w : World) : Exit → Act → World → Prop
  | .normal, x, w' => x.defers = [] ∧ OneEnds base B V t ts a b c hv ne nb w (.returned (.tuple #[])) w'
  | .panic ch, x, w' => ch = [{ v := .iface 26 (.int .i64 6), recovered := false }] ∧ x.defers = [] ∧ rdL t.data.toList = none ∧ Fr2 base B V w w'
  | _, _, _ => False
theorem At5.same {w : World} {B : Nat} {a b c d e a' b' c' d' e' : Value} (h : At5 w B a b c d e) (k : At5 w B a' b' c' d' e') : d = d' ∧ e = e' := by
  unfold At5 at h k
  rw [h] at k
  simp only [Option.some.injEq, Obj.cells.injEq, Array.mk.injEq, List.cons.injEq] at k
  exact ⟨k.1.2.2.2.1, k.1.2.2.2.2.1⟩
theorem own_drew {w w2 : World} {base B n : Nat} {e : TypeId} {m : Nat} {v : Value} {xs : List Value} (h : w.ownsRow base e m v n xs) (hg : Gone B w.drew w2) (hB : B < base) : w2.ownsRow base e m v n xs :=
  (h.drew).kept hg (Or.inr fun e => by have := (h.lt B (by rw [e])).1; omega)
theorem own_not {w : World} {base V n : Nat} {e : TypeId} {m : Nat} {v : Value} {xs : List Value} (h : w.ownsRow base e m v n xs) (hV : V < base) (he : some V = v.ownBlock) : False := by
  have := (h.lt V he.symm).1; omega
theorem panic_is : (stop 6 : Ending) = .panicked [{ v := .iface 26 (.int .i64 6), recovered := false }] := rfl

set_option maxRecDepth 100000 in
set_option maxHeartbeats 4000000 in
theorem obj1_t (base B V R : Nat) (a b c : Value) (w0 : World) (ns : List ByteArray) (ts : List Val) (t : ByteArray) (w : World) (G : Geo base B V R) (H : StO base B V R a b c w0 ns ts t w) (hz : t.size ≤ 4096) (hnl : ns.length ≤ 5000) (hlen : ts.length ≤ 5000)
    (CV : ∀ u : ByteArray, u.size < t.size → ∀ w, RdAt w B u → TEnv w → Calls Tryd.prog 16 #[.pointer (some ⟨B, 0, none⟩)] w (ValEnds B u w)) :
    Calls Tryd.prog 34 #[.pointer (some ⟨V, 0, none⟩), .pointer (some ⟨R, 0, none⟩)] w fun e w' => OneO base B V R a b c w0 ns ts t e w' := by
  obtain ⟨hv, hn, xs, h5, hr, hm⟩ := H.row
  obtain ⟨v0, v1, v2, v3, v4⟩ := h5.cells
  have p0 := H.ptr.cell
  have HG := Lib.hid G
  have HH := Lib.hid H
  have HCV := Lib.hid CV
  have HZ := Lib.hid hz
  have HNL := Lib.hid hnl
  have HLEN := Lib.hid hlen
  have H5 := Lib.hid h5
  have HR := Lib.hid hr
  have HM := Lib.hid hm
  clear CV hz hnl hlen h5 hr hm v0 v1 v2 v3 G H
  go_enter Tryd.func34, Tryd.ntmps34
  go_wp2_with fail
  refine Code.wp_mono (Q := MidO base B V R a b c w0 ns ts t) ?_ ?_
  · intro e x w1 hmid
    clear v4 p0 H5 HR HM
    cases e with
    | normal =>
      obtain ⟨⟨u2, u3, u4, u5, u6, u7, u8, rfl⟩, q, hq, hst⟩ := hmid
      have HQ := Lib.hid hq
      have HS := Lib.hid hst
      have p1 := hst.ptr.cell
      obtain ⟨k, hk⟩ : ∃ k : ByteArray, (⟨q.1.toArray⟩ : ByteArray) = k := ⟨_, rfl⟩
      obtain ⟨r, hr⟩ : ∃ r : ByteArray, (⟨q.2.toArray⟩ : ByteArray) = r := ⟨_, rfl⟩
      have hrl : r.data.toList = q.2 := by rw [← hr]
      rw [hk, hr] at HS hst
      have C2 := Lib.hid (take_any B r 58 58 (by rfl) w1 hst.rd)
      have hsh := quoteL_short _ _ hq
      have hts := Lib.size_eq t
      have hrs := Lib.size_eq r
      rw [hrl] at hrs
      have HRT := Lib.hid (show r.size < t.size by omega)
      cases h8 : headB r 58 with
      | false =>
        rw [h8] at C2
        simp only [Bool.false_eq_true, if_false, stop] at C2
        have HO := Lib.hid (show nameL true ns t.data.toList = none by
          unfold nameL
          rw [if_pos rfl, hq]
          rw [headB_cons, hrl] at h8
          obtain ⟨q1, q2⟩ := q
          cases q2 with
          | nil => rfl
          | cons x l => simp only at h8 ⊢; rw [if_neg (by simpa using h8)])
        clear hq hst hk hr hrl hsh hts hrs h8
        go_wp2_with fail
        refine C2.out.mono ?_
        rintro e w2 ⟨rfl, rfl⟩
        go_wp2_with fail
        exact ⟨rfl, ⟨HS.out.fr, by rw [HO.out]; rfl⟩⟩
      | true =>
        rw [h8] at C2
        simp only [if_true] at C2
        have hst2 := hst.set HG.out (restB r)
        have hnm : nameL true ns t.data.toList = some (ns ++ [k], (restB r).data.toList) := by
          unfold nameL
          rw [if_pos rfl, hq, restB_list, hrl]
          rw [headB_cons, hrl] at h8
          obtain ⟨q1, q2⟩ := q
          cases q2 with
          | nil => cases h8
          | cons x l => simp only at h8 ⊢; rw [if_pos (by simpa using h8), hk]; rfl
        have hrr : (restB r).size ≤ r.size := by
          have e1 := restB_list r
          have e2 := Lib.size_eq (restB r)
          have e3 := Lib.size_eq r
          rw [e1, List.length_tail] at e2
          omega
        obtain ⟨u, hu⟩ : ∃ u, restB r = u := ⟨_, rfl⟩
        obtain ⟨W2, hW2⟩ : ∃ W2, w1.setCell ⟨B, 0, none⟩ (.string (restB r)) = W2 := ⟨_, rfl⟩
        rw [hW2] at C2 hst2
        rw [hu] at hst2 hnm hrr
        have HNM := Lib.hid hnm
        have HS2 := Lib.hid hst2
        have HRR := Lib.hid hrr
        have HROWS := Lib.hid hst2.row
        obtain ⟨hv, hn, xs, h5, hrow, hnames⟩ := hst2.row
        have H5B := Lib.hid h5
        obtain ⟨-, -, -, v3, -⟩ := h5.cells
        have p2 := hst2.ptr.cell
        clear hq hst hk hr hrl hsh hts hrs h8 hst2 hnm hrr hu hW2
        go_wp2_with fail
        refine C2.out.mono ?_
        rintro e w2 ⟨rfl, rfl⟩
        go_wp2_with fail
        refine Code.wp_mono (Q := EndO base B V u ts a b c hv hn hn.ownBlock w2) ?_ ?_
        · intro e x w3 hend
          clear h5 hrow hnames v3 p2
          cases e with
          | normal =>
            obtain ⟨hd, ho⟩ := hend
            have HE := Lib.hid ho
            clear ho
            go_wp2_with fail
            refine bodyPost_end (results_none rfl _ _ _) hd ?_
            refine ⟨HS2.out.fr.trans HE.out.fr, ?_⟩
            rw [HNM.out]
            simp only
            have hi := HE.out.is
            cases ho : rdL u.data.toList with
            | none => rw [ho] at hi; cases hi
            | some p =>
              rw [ho] at hi
              obtain ⟨-, hv', xs', i5, ird, irow, ikeep⟩ := hi
              obtain ⟨hvA, hnA, xsA, h5A, hrowA, hnamesA⟩ := HROWS.out
              obtain ⟨rfl, rfl⟩ := h5A.same H5B.out
              exact ⟨by first | rfl | trivial, HS2.out.fr.trans HE.out.fr, ird, HS2.out.env.fr2 HG.out HE.out.fr, HS2.out.ptr.fr2 HG.out HE.out.fr, Nat.le_trans HS2.out.size HE.out.fr.size, hv', hnA, xs', i5, irow,
                hnamesA.keep fun k hk hb hlt => ikeep k hb hlt fun e => hrowA.apart k e.symm hk⟩
          | panic ch =>
            obtain ⟨rfl, hd, ho, hf⟩ := hend
            have HO := Lib.hid ho
            clear ho
            go_wp2_with fail
            exact ⟨hd, ⟨HS2.out.fr.trans hf, by rw [HNM.out]; simp only; rw [HO.out]; rfl⟩⟩
          | exit i => exact hend.elim
          | goto l => exact hend.elim
          | ret => exact hend.elim
          | outgrown => exact hend.elim
        · obtain ⟨ha, hc, rfl⟩ : ∃ ha hc, hv = .slice ha ts.length hc := by
            rcases hrow.own.2 with ⟨e, h0⟩ | ⟨g, cap, cur, e, -⟩
            · exact ⟨none, 0, by rw [e, h0]⟩
            · exact ⟨_, _, e⟩
          obtain ⟨n, hnn⟩ : ∃ n, ts.length = n := ⟨_, rfl⟩
          have hlen := HLEN.out
          have hV5 := h5
          rw [hnn] at v3 hV5 hrow hlen ⊢
          have B0 := Lib.hid (Below.refl w2.heap.size w2)
          have hbase := HS2.out.size
          obtain ⟨hB, hV, hBb, hVb, hRb, hVB, hRB, hRV⟩ := HG.out
          have CVU := Lib.hid (HCV.out u (by have := HRR.out; have := HRT.out; omega))
          cases ho : rdL u.data.toList with
          | none =>
            have CN := Lib.hid (show ∀ w', Below w2.heap.size w2 w' → Calls Tryd.prog 16 #[.pointer (some ⟨B, 0, none⟩)] w' fun e w3 => e = .panicked [{ v := .iface 26 (.int .i64 6), recovered := false }] ∧ Fr2 base B V w2 w3 from fun w' hb =>
              (CVU.out w' (HS2.out.rd.kept (hb.block B HS2.out.rd.lt)) (HS2.out.env.below hb)).mono fun e w3 h => by
                have h1 := h.is
                rw [ho] at h1
                exact ⟨h1, (Fr2.gone (Gone.below hb) hbase).trans (Fr2.gone h.gone (Nat.le_trans hbase hb.size))⟩)
            have HO := Lib.hid ho
            clear ho hrow hnames h5 hV5 hnn hlen hbase hB hV hBb hVb hRb hVB hRB hRV
            refine wp_region_held_drew (S := fun u => u.cell? ⟨V, 3, none⟩ = some (.slice ha n hc) ∧ u.cell? ⟨R, 0, none⟩ = some (.pointer (some ⟨B, 0, none⟩))) (by kernel_rfl) ⟨v3, p2⟩ fun hS => ?_
            refine wpAnyH_take (i := 0) (v := .pointer (some ⟨V, 3, none⟩)) rfl (by kernel_rfl) (by kernel_rfl) (by kernel_rfl) (fun _ _ _ h => h) (Or.inl ⟨by rfl, ?_⟩) hS ?_
            · intro u _; go_simp
            refine wpAnyH_take (i := 1) (v := .slice ha n hc) rfl (by kernel_rfl) (by kernel_rfl) (by kernel_rfl) (fun _ _ _ h => h) (Or.inl ⟨by rfl, ?_⟩) hS ?_
            · rintro u ⟨hu, -⟩; go_simp
            refine wpAnyH_take (i := 2) (v := .pointer (some ⟨B, 0, none⟩)) rfl (by kernel_rfl) (by kernel_rfl) (by kernel_rfl) (fun _ _ _ h => h) (Or.inl ⟨by rfl, ?_⟩) hS ?_
            · rintro u ⟨-, hu⟩; go_simp
            refine wpAnyH_take (i := 4) (v := .int .i64 n) rfl (by kernel_rfl) (by kernel_rfl) (by kernel_rfl) (fun _ _ _ h => h) (Or.inl ⟨by rfl, ?_⟩) hS ?_
            · intro u _; go_simp
            go_simp
            refine wpAnyH_ready (rs := [3, 5]) (by kernel_rfl) (by simp) ?_
            refine AllReadyH.cons (o := { dst := some 14, op := .call { callee := .value (.func 16), args := #[.tmp 13], argTypes := #[47] }, type := 25, pos := _, after := _, guard := none }) rfl (fun K hK => ?_) (AllReadyH.cons (o := { dst := some 16, op := .buildSlice 22 1 _, type := 22, pos := _, after := _, guard := none }) rfl (fun K hK => ?_) AllReadyH.nil)
            · go_simp
              go_at_call 16
              refine (CN.out _ B0.out.drew).mono ?_
              rintro e w3 ⟨rfl, hf⟩
              refine ⟨?_, rfl, HO.out, hf⟩
              first | rfl | trivial
            · go_simp
              have B1 := Lib.hid (((below_new w2 (.cells #[.int .i64 0, .int .i64 0, .string ⟨#[]⟩, .slice none 0 0, .slice none 0 0] 25))).drew)
              refine hK.out _ _ ⟨(B1.out.cell (World.block_lt_of_cell? _ _ v3)).trans v3, (B1.out.cell (World.block_lt_of_cell? _ _ p2)).trans p2⟩ (fun hS2 => ?_)
              clear hK K
              go_simp
              refine wpAnyH_ready (rs := [3]) (by kernel_rfl) (by simp) ?_
              refine AllReadyH.cons (o := { dst := some 14, op := .call { callee := .value (.func 16), args := #[.tmp 13], argTypes := #[47] }, type := 25, pos := _, after := _, guard := none }) rfl (fun K hK => ?_) AllReadyH.nil
              go_simp
              go_at_call 16
              refine (CN.out _ B1.out).mono ?_
              rintro e w3 ⟨rfl, hf⟩
              refine ⟨?_, rfl, HO.out, hf⟩
              first | rfl | trivial
          | some p =>
            obtain ⟨T, r'⟩ := p
            have CS := Lib.hid (show ∀ w', Below w2.heap.size w2 w' → Calls Tryd.prog 16 #[.pointer (some ⟨B, 0, none⟩)] w' fun e w3 =>
                ∃ (xk xn : Int) (xs' : ByteArray) (xia xna : Option Addr) (xli xic xnn xnc : Nat), e = .returned (.agg #[.int .i64 xk, .int .i64 xn, .string xs', .slice xia xli xic, .slice xna xnn xnc]) ∧
                  Below w2.heap.size w2 w' ∧ Aft base B V n a b c (.slice ha n hc) hn hn.ownBlock ts xs ⟨r'.toArray⟩ (.agg #[.int .i64 xk, .int .i64 xn, .string xs', .slice xia xli xic, .slice xna xnn xnc]) T w' w3 from fun w' hb =>
              (CVU.out w' (HS2.out.rd.kept (hb.block B HS2.out.rd.lt)) (HS2.out.env.below hb)).mono fun e w3 h => by
                have h1 := h.is
                rw [ho] at h1
                obtain ⟨v, rfl, hv, hr⟩ := h1
                obtain ⟨xk, xn, xs', xia, xna, xli, xic, xnn, xnc, rfl⟩ := hv.isVal.shape
                have hVlt := hV5.lt
                have hrk : RowOf base w3 (.slice ha n hc) hn.ownBlock ts xs := hrow.keep (fun k hk hlt _ => (h.gone.block k (Nat.lt_of_lt_of_le hlt hb.size) (fun e => by have := Option.some.inj e; omega)).trans (hb.block k hlt)) (Or.inl rfl)
                refine ⟨xk, xn, xs', xia, xna, xli, xic, xnn, xnc, rfl, hb, h.gone, hr, ?_, hrk, by have := hrk.own; rwa [hnn] at this, Nat.le_trans hbase (Nat.le_trans hb.size h.gone.size), hv⟩
                exact (h.gone.block V (Nat.lt_of_lt_of_le hVlt hb.size) (fun e => hVB (Option.some.inj e))).trans ((hb.block V hVlt).trans hV5))
            have HO := Lib.hid ho
            have HROW := Lib.hid hrow
            have HXL := Lib.hid (show xs.length = n * 5 by have := hrow.own.1; rwa [hnn] at this)
            have HLT := hV5.lt
            have HBL := Lib.hid HS2.out.rd.lt
            have HNN := Lib.hid hnn
            have HNB := Lib.hid (show ∀ k, hn.ownBlock = some k → k < w2.heap.size from fun k e => (hnames.own.lt k e).2)
            obtain ⟨i0, hi, hz0, hz1, hz2⟩ := info_parts valInfo
            have hn1 : (n : Int) < (n : Int) + 1 := by omega
            have p0a : ∀ o, (w2.alloc o).cell? ⟨R, 0, none⟩ = some (.pointer (some ⟨B, 0, none⟩)) := fun o => ((below_new w2 o).cell (World.block_lt_of_cell? _ _ p2)).trans p2
            have v3a : ∀ o, (w2.alloc o).cell? ⟨V, 3, none⟩ = some (.slice ha n hc) := fun o => ((below_new w2 o).cell (World.block_lt_of_cell? _ _ v3)).trans v3
            clear ho hrow hnames h5 hV5 hnn hB hV hRb hRB hRV p1
            go_region_law (first
              | (go_simp; go_at_call 16; refine (CS.out _ ?_).mono ?_; (first | exact B0.out.drew | exact (B0.out.alloc (Nat.le_refl _) _).drew | exact (B0.out.drew).alloc (Nat.le_refl _) _); rintro e w3 ⟨xk, xn, xs', xia, xna, xli, xic, xnn, xnc, rfl, hBW, hA⟩; have c3v := hA.five.cells.2.2.2.1; have c3a : ∀ o, (w3.alloc o).cell? ⟨V, 3, none⟩ = some (.slice ha n hc) := (fun o => ((below_new w3 o).cell (World.block_lt_of_cell? _ _ c3v)).trans c3v))
              | (refine step_append_lies _ (by rfl) (.tmp 12) (.tmp 16) 22 (by rfl) base 25 i0 _ 5 80 Tryd.underlying22 hi hz0 hz1 hz2 rfl (by decide) _ n xs (by rfl) hA.own ⟨w2.heap.size, 0, none⟩ 1 1 zero5 (by rfl) (by rfl) (World.news_of_block ((hA.gone.block w2.heap.size (by simp) (fun e => by have := Option.some.inj e; have := HBL.out; omega)).trans (heap_alloc_new w2 _))) (by unfold zero5; simp [Value.oneCell']) (by decide) (by unfold maxLen; omega) (by omega) (hA.base) w3.heap.size (by rfl) ?_; intro g3 c3 w4 hown3 hgrow3 hat3 hlt3; have hP := App.of hA hVb (Below.refl _ _) hown3 hgrow3 hat3; have hgV := hP.ne hVb; obtain ⟨z0, z1, z2, z3, z4⟩ := hP.zeros HXL.out; obtain ⟨-, -, -, u3', -⟩ := hP.five.cells; have uf := hP.five.frozen 3; have f0 := hP.own.frozenAt (n * 5); have f1 := hP.own.frozenAt (n * 5 + 1); have f2 := hP.own.frozenAt (n * 5 + 2); have f3 := hP.own.frozenAt (n * 5 + 3); have f4 := hP.own.frozenAt (n * 5 + 4); clear hown3 hgrow3 hat3 hlt3)
              | (refine step_append_lies _ (by rfl) (.tmp 12) (.tmp 16) 22 (by rfl) base 25 i0 _ 5 80 Tryd.underlying22 hi hz0 hz1 hz2 rfl (by decide) _ n xs (by rfl) (hA.own.alloc _) ⟨w3.heap.size, 0, none⟩ 1 1 zero5 (by rfl) (by rfl) (World.news_of_block (heap_alloc_new w3 _)) (by unfold zero5; simp [Value.oneCell']) (by decide) (by unfold maxLen; omega) (by omega) (Nat.le_trans hA.base (below_new w3 _).size) (w3.heap.size + 1) (by simp) ?_; intro g3 c3 w4 hown3 hgrow3 hat3 hlt3; have hP := App.of hA hVb (below_new w3 _) hown3 hgrow3 (App.at' hat3); have hgV := hP.ne hVb; obtain ⟨z0, z1, z2, z3, z4⟩ := hP.zeros HXL.out; obtain ⟨-, -, -, u3', -⟩ := hP.five.cells; have uf := hP.five.frozen 3; have f0 := hP.own.frozenAt (n * 5); have f1 := hP.own.frozenAt (n * 5 + 1); have f2 := hP.own.frozenAt (n * 5 + 2); have f3 := hP.own.frozenAt (n * 5 + 3); have f4 := hP.own.frozenAt (n * 5 + 4); clear hown3 hgrow3 hat3 hlt3))
            all_goals
              refine ⟨rfl, ?_⟩
              refine row_done hBW hbase hBb hVb hVB HROW.out HNB.out HNN.out HO.out hA hP ?_
              unfold set5
              first
                | (left; with_reducible rfl)
                | (right; with_reducible rfl)
    | panic ch =>
      obtain ⟨rfl, hd, hq, hf⟩ := hmid
      have HO := Lib.hid (show nameL true ns t.data.toList = none by unfold nameL; rw [if_pos rfl, hq])
      clear hq
      go_wp2_with fail
      exact ⟨hd, ⟨hf, by rw [HO.out]; rfl⟩⟩
    | exit i => exact hmid.elim
    | goto l => exact hmid.elim
    | ret => exact hmid.elim
    | outgrown => exact hmid.elim
  · have HRD := Lib.hid HH.out.rd
    have hzz := HZ.out
    cases hq : quoteL t.data.toList with
    | none =>
      have CN := Lib.hid (show Calls Tryd.prog 22 #[.pointer (some ⟨B, 0, none⟩)] w.drew fun e w2 => e = .panicked [{ v := .iface 26 (.int .i64 6), recovered := false }] ∧ Fr2 base B V w0 w2 from
        (word_t B t w.drew (by omega) HH.out.rd (HH.out.env.below (Below.refl _ _).drew) HG.out.hB).mono fun e w2 h => by
          have h1 := h.is
          rw [hq] at h1
          exact ⟨h1, HH.out.fr.trans ((Fr2.gone (w := w) (Gone.below (Below.refl _ _).drew) HH.out.size).trans (Fr2.gone h.gone HH.out.size))⟩)
      have HO := Lib.hid hq
      clear hq hzz
      refine wp_region_held_drew (S := fun u => u.cell? ⟨V, 4, none⟩ = some hn ∧ u.cell? ⟨R, 0, none⟩ = some (.pointer (some ⟨B, 0, none⟩))) (by kernel_rfl) ⟨v4, p0⟩ fun hS => ?_
      refine wpAnyH_take (i := 0) (v := .pointer (some ⟨V, 4, none⟩)) rfl (by kernel_rfl) (by kernel_rfl) (by kernel_rfl) (fun _ _ _ h => h) (Or.inl ⟨by rfl, ?_⟩) hS ?_
      · intro u _; go_simp
      refine wpAnyH_take (i := 1) (v := hn) rfl (by kernel_rfl) (by kernel_rfl) (by kernel_rfl) (fun _ _ _ h => h) (Or.inl ⟨by rfl, ?_⟩) hS ?_
      · rintro u ⟨hu, -⟩; go_simp
      refine wpAnyH_take (i := 2) (v := .pointer (some ⟨B, 0, none⟩)) rfl (by kernel_rfl) (by kernel_rfl) (by kernel_rfl) (fun _ _ _ h => h) (Or.inl ⟨by rfl, ?_⟩) hS ?_
      · rintro u ⟨-, hu⟩; go_simp
      go_simp
      refine wpAnyH_ready (rs := [3]) (by kernel_rfl) (by simp) ?_
      refine AllReadyH.cons (o := { dst := some 5, op := .call { callee := .value (.func 22), args := #[.tmp 4], argTypes := #[47] }, type := 9, pos := _, after := _, guard := none }) rfl (fun K hK => ?_) AllReadyH.nil
      go_simp
      go_at_call 22
      refine CN.out.mono ?_
      rintro e w2 ⟨rfl, hf⟩
      refine ⟨?_, rfl, HO.out, hf⟩
      first | rfl | trivial
    | some q =>
      obtain ⟨ha, hc, hne⟩ : ∃ ha hc, hn = .slice ha ns.length hc := by
        rcases HM.out.own.2 with ⟨e, h0⟩ | ⟨g, cap, cur, e, -⟩
        · exact ⟨none, 0, by rw [e, h0]⟩
        · exact ⟨_, _, e⟩
      obtain ⟨n, hnn⟩ : ∃ n, ns.length = n := ⟨_, rfl⟩
      have hnl := HNL.out
      rw [hnn] at hne hnl
      subst hne
      obtain ⟨k, hk⟩ : ∃ k : ByteArray, (⟨q.1.toArray⟩ : ByteArray) = k := ⟨_, rfl⟩
      obtain ⟨r, hr⟩ : ∃ r : ByteArray, (⟨q.2.toArray⟩ : ByteArray) = r := ⟨_, rfl⟩
      have hks : k.size ≤ 4096 := by
        have h1 := quoteL_short _ _ hq
        have h2 := Lib.size_eq t
        have h3 := Lib.size_eq k
        rw [← hk] at h3
        simp only at h3
        rw [← hk, h3]
        omega
      have CS := Lib.hid (show Calls Tryd.prog 22 #[.pointer (some ⟨B, 0, none⟩)] w.drew fun e w2 => e = .returned (.string k) ∧ Gone B w.drew w2 ∧ RdAt w2 B r from
        (word_t B t w.drew (by omega) HH.out.rd (HH.out.env.below (Below.refl _ _).drew) HG.out.hB).mono fun e w2 h => by
          have h1 := h.is
          rw [hq] at h1
          rw [← hk, ← hr]
          exact ⟨h1.1, h.gone, h1.2⟩)
      have HQ := Lib.hid hq
      have HK := Lib.hid hk
      have HRR := Lib.hid hr
      have HNN := Lib.hid hnn
      have HKS := Lib.hid hks
      have HOWN := Lib.hid (show w.ownsRow base 9 1 (.slice ha n hc) n (ns.map Value.string) by have := HM.out.own; rwa [hnn] at this)
      have hVlt := H5.out.lt
      have hVB := HG.out.hVB
      have hBW := Lib.hid ((Below.refl w.heap.size w).drew)
      have hSZ := HH.out.size
      have hBb := HG.out.hBb
      have hVb := HG.out.hVb
      obtain ⟨i0, hi, hz0, hz1, hz2⟩ := info_parts strInfo
      clear hq hk hr hnn hks hzz
      go_region_law (first
        | (go_simp; go_at_call 22; refine CS.out.mono ?_; rintro e w2 ⟨rfl, hg2, hr2⟩; have c4v : w2.cell? ⟨V, 4, none⟩ = some (.slice ha n hc) := (World.cell?_of_block (a := ⟨V, 4, none⟩) (hg2.block V hVlt (fun e => hVB (Option.some.inj e)))).trans v4; have c4a : ∀ o, (w2.alloc o).cell? ⟨V, 4, none⟩ = some (.slice ha n hc) := (fun o => ((below_new w2 o).cell (World.block_lt_of_cell? _ _ c4v)).trans c4v))
        | (refine step_append_lies _ (by rfl) (.tmp 3) (.tmp 6) 23 (by rfl) base 9 i0 _ 1 16 Tryd.underlying23 hi hz0 hz1 hz2 rfl (by decide) _ n (ns.map Value.string) (by rfl) ((own_drew HOWN.out hg2 hBb).alloc _) ⟨w2.heap.size, 0, none⟩ 1 1 [.string k] (by rfl) (by rfl) (World.news_of_block (heap_alloc_new w2 _)) (by simp [Value.oneCell']) (by decide) (by unfold maxLen; omega) (by omega) (Nat.le_trans hSZ (Nat.le_trans hg2.size (below_new w2 _).size)) (w2.heap.size + 1) (by simp) ?_; intro g3 c3 w3 hown3 hgrow3 hat3 hlt3; have u4 : w3.cell? ⟨V, 4, none⟩ = some (.slice ha n hc) := hgrow3.cell (c4a _) (fun e => own_not HOWN.out hVb e); have uf : w3.frozen? ⟨V, 4, none⟩ = false := (World.frozen?_of_block (a := ⟨V, 4, none⟩) ((hgrow3.block V (Nat.lt_of_lt_of_le hVlt (Nat.le_trans hg2.size (below_new w2 _).size)) (fun e => own_not HOWN.out hVb e)).trans ((Below.heap_alloc _ _ _ (Nat.lt_of_lt_of_le hVlt hg2.size)).trans (hg2.block V hVlt (fun e => hVB (Option.some.inj e)))))).trans (H5.out.frozen 4)))
      all_goals
        refine ⟨⟨_, _, _, _, _, _, _, rfl⟩, q, HQ.out, ?_⟩
        rw [HK.out, HRR.out]
        exact names_done HG.out HH.out H5.out HR.out HM.out HNN.out hBW.out hg2 hr2 HKS.out hown3 hgrow3 hat3
end Go.Proofs.YtgkapipiegfmhaaDoor
