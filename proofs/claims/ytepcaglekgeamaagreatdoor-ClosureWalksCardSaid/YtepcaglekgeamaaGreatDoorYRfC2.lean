/-
  The document's Walk, by contracts, as deep as may be. Conditions: the package-level variables as MEnv says; objects as ObjsFew says.
-/
import Derived.Test.YtepcaglekgeamaaGreatDoorYRfC1
import Derived.Test.YtepcaglekgeamaaGreatDoorYRefM5
import Derived.Test.YtepcaglekgeamaaGreatDoorYClo2
namespace Go.Proofs.YtepcaglekgeamaaGreatDoor
open Go.RowKit

def RefWalkEnds (K : Nat → Prop) (w0 : World) (r : Except Int Wk) (w : World) (e : Ending) (w' : World) : Prop :=
  match r with
  | .ok t => ∃ mv bv nm nb, e = .returned (.agg #[mv, bv, .int .i64 0]) ∧ RSt K w0 mv bv nm nb t w' ∧ Kept K w w'
  | .error x => e = .returned (.agg #[.slice none 0 0, .slice none 0 0, .int .i64 x]) ∧ Kept K w w'

theorem RefWalkEnds.bad {K : Nat → Prop} {w0 : World} {r : Except Int Wk} {x : Int} {w w' : World} (h : r = .error x) (hk : Kept K w w') : RefWalkEnds K w0 r w (.returned (.agg #[.slice none 0 0, .slice none 0 0, .int .i64 x])) w' := by
  subst h; exact ⟨rfl, hk⟩

theorem RefWalkEnds.ok {K : Nat → Prop} {w0 : World} {r : Except Int Wk} {t : Wk} {mv bv : Value} {nm nb : Nat} {w w' : World} (h : r = .ok t) (hs : RSt K w0 mv bv nm nb t w') (hk : Kept K w w') : RefWalkEnds K w0 r w (.returned (.agg #[mv, bv, .int .i64 0])) w' := by
  subst h; exact ⟨_, _, _, _, rfl, hs, hk⟩

def RefWalkSays (n : Nat) (w0 : World) (v : Value) (l : List Obj) : Prop :=
  ∀ (K : Nat → Prop) (mv bv : Value) (nm nb : Nat) (t : Wk) (d : ByteArray) (w : World), (∀ k, k < w0.heap.size → K k) → RSt K w0 mv bv nm nb t w → d ∉ t.ms → t.ms.length + capW n ≤ 1073741824 → t.bs.length + 9 * capW n ≤ 17179869184 →
    Calls Tryz.prog 8 #[v, .agg #[mv, bv, .int .i64 0], .string d, .int .i64 (5 - (n : Int))] w (RefWalkEnds K w0 (walkL l n t d) w)

set_option maxRecDepth 100000 in
set_option maxHeartbeats 4000000 in
theorem refWalk_deep (w0 : World) (v : Value) (l : List Obj) (hv : ObjsAt w0 v l) : RefWalkSays 0 w0 v l := by
  intro K mv bv nm nb t d w hK hs hd _ _
  obtain ⟨W, hW⟩ : ∃ x, (w.alloc (.cells #[mv, bv, .int .i64 0] 33)).alloc (.cells #[.slice none 0 0, .slice none 0 0, .int .i64 0] 33) = x := ⟨_, rfl⟩
  have hb0 : Below w.heap.size w W := by rw [← hW]; exact Below.then (below_new _ _) (below_new _ _)
  have hZ : TAt W (w.heap.size + 1) (.slice none 0 0) (.slice none 0 0) (.int .i64 0) := by
    rw [← hW]
    have e := TAt.new (w.alloc (.cells #[mv, bv, .int .i64 0] 33)) (.slice none 0 0) (.slice none 0 0) (.int .i64 0)
    rwa [World.size_alloc] at e
  have hE : RefWalkEnds K w0 (walkL l 0 t d) w (.returned (.agg #[.slice none 0 0, .slice none 0 0, .int .i64 7])) (set3 W (w.heap.size + 1) (.slice none 0 0) (.slice none 0 0) (.int .i64 7)) :=
    RefWalkEnds.bad (walkL_zero hd) ((Kept.of_below hb0).trans (Kept.set3 (fun h => by have := hs.under _ h; omega) _ _ _))
  obtain ⟨a, cap, rfl, -, -⟩ := hv.shape
  obtain ⟨ma, mc, rfl, -, -⟩ := hs.ms.shape
  obtain ⟨ba, bc, rfl, -, -⟩ := hs.bs.shape
  obtain ⟨n, hn⟩ : ∃ n, l.length = n := ⟨_, rfl⟩
  rw [hn]
  obtain ⟨z0, z1, z2⟩ := hZ.cells
  have f0 := hZ.frozen 0
  have f1 := hZ.frozen 1
  have f2 := hZ.frozen 2
  have HZ := Lib.hid hZ
  have HE := Lib.hid hE
  have HW := Lib.hid hW
  clear hK hs hd hb0 hZ hE hW hv hn
  go_enter Tryz.func8, Tryz.ntmps8
  go_upto_region 1 with fail
  rw [HW.out]
  go_wp2_with fail
  refine bodyPost_ret (results_cell_row (p := 8) rfl _ _ (w.heap.size + 1) 33 _ (0, 0) _ rfl (set3_at HZ.out _ _ _) Tryz.underlying33 rfl walkTSize) rfl ?_
  exact HE.out

theorem set3_eq {w W : World} {B : Nat} {a b c : Value} (h : set3 w B a b c = W) : ((w.setCell ⟨B, 0, none⟩ a).setCell ⟨B, 1, none⟩ b).setCell ⟨B, 2, none⟩ c = W := h

def addK (K : Nat → Prop) (a b : Nat) : Nat → Prop := fun k => K k ∨ (a ≤ k ∧ k < b)

def lessK (K : Nat → Prop) (B : Nat) : Nat → Prop := fun k => K k ∧ k ≠ B

theorem addK_free {K : Nat → Prop} {a b k : Nat} (h : ¬ K k) (hk : k < a) : ¬ addK K a b k := fun h' => h'.elim h fun h2 => by omega

theorem RSt.add {K : Nat → Prop} {w0 w w' : World} {mv bv : Value} {nm nb : Nat} {t : Wk} (hK : ∀ k, k < w0.heap.size → K k) (h : RSt K w0 mv bv nm nb t w) (hb : Below w.heap.size w w') : RSt (addK K w.heap.size w'.heap.size) w0 mv bv nm nb t w' :=
  (h.below hK hb).more (fun k hk => hk.elim (fun h2 => Nat.lt_of_lt_of_le (h.under k h2) hb.size) fun h2 => h2.2) (fun g e => addK_free (h.freeM g e) (h.ms.lt g e).2) (fun g e => addK_free (h.freeS g e) (h.bs.lt g e).2)

theorem RSt.less {K K' : Nat → Prop} {w0 w : World} {mv bv : Value} {nm nb : Nat} {t : Wk} (h : RSt K w0 mv bv nm nb t w) (hK : ∀ k, K' k → K k) : RSt K' w0 mv bv nm nb t w :=
  h.more (fun k hk => h.under k (hK k hk)) (fun g e hk => h.freeM g e (hK g hk)) (fun g e hk => h.freeS g e (hK g hk))

set_option maxRecDepth 100000 in
set_option maxHeartbeats 16000000 in
theorem refWalk_step (n : Nat) (hn4 : n < 4) (w0 : World) (v : Value) (l : List Obj) (he : MEnv w0) (hv : ObjsAt w0 v l) (hf : ObjsFew l) (hV : RefWalkSays n w0 v l) : RefWalkSays (n + 1) w0 v l := by
  intro K mv bv nm nb t d w hK hs hd hb1 hb2
  obtain ⟨D, hD⟩ : ∃ D : Int, 5 - ((n + 1 : Nat) : Int) = D := ⟨_, rfl⟩
  rw [hD]
  obtain ⟨B, hB⟩ : ∃ B, w.heap.size = B := ⟨_, rfl⟩
  obtain ⟨W, hW⟩ : ∃ x, (w.alloc (.cells #[mv, bv, .int .i64 0] 33)).alloc (.cells #[.slice none 0 0, .slice none 0 0, .int .i64 0] 33) = x := ⟨_, rfl⟩
  have hb0 : Below w.heap.size w W := by rw [← hW]; exact Below.then (below_new _ _) (below_new _ _)
  have hT : TAt W B mv bv (.int .i64 0) := by rw [← hW, ← hB]; exact (TAt.new w _ _ _).keep (below_new _ _)
  have hZ : TAt W (B + 1) (.slice none 0 0) (.slice none 0 0) (.int .i64 0) := by
    rw [← hW, ← hB]
    have e := TAt.new (w.alloc (.cells #[mv, bv, .int .i64 0] 33)) (.slice none 0 0) (.slice none 0 0) (.int .i64 0)
    rwa [World.size_alloc] at e
  have hB0 : w0.heap.size ≤ B := by have := hs.base.size; omega
  have hKB : ∀ k, B ≤ k → ¬ K k := fun k hk h => by have := hs.under k h; omega
  have hbW := hs.step hK (.of_below hb0)
  have F := Lib.hid (refFind_t v l d W (hv.keep hbW) hf)
  have P := Lib.hid (fun w' (h : Below w.heap.size w w') => refParseM_t (findO l d).1 w' (Nat.le_trans (findO_size l d 1048576 fun o ho => (hf.size o ho).2) (by decide)) (he.below (hs.step hK (.of_below h))))
  obtain ⟨va, cap, rfl, -, -⟩ := hv.shape
  obtain ⟨nv, hnv⟩ : ∃ nv, l.length = nv := ⟨_, rfl⟩
  rw [hnv] at hV F ⊢
  obtain ⟨ma, mc, rfl, -, -⟩ := hs.ms.shape
  obtain ⟨ba, bc, rfl, -, -⟩ := hs.bs.shape
  have q1 : decide ((4 : Int) < D) = false := decide_eq_false (by omega)
  have HBAD := Lib.hid (show ∀ x, errO l d = x → x ≠ 0 → ∀ w', Below w.heap.size w w' → TAt w' (B + 1) (.slice none 0 0) (.slice none 0 0) (.int .i64 0) → RefWalkEnds K w0 (walkL l (n + 1) t d) w (.returned (.agg #[.slice none 0 0, .slice none 0 0, .int .i64 x])) (set3 w' (B + 1) (.slice none 0 0) (.slice none 0 0) (.int .i64 x)) from fun x h1 h2 w' hb _ =>
    RefWalkEnds.bad (by rw [walkL_bad hd (by rw [h1]; exact h2), h1]) ((Kept.of_below hb).trans (Kept.set3 (hKB _ (Nat.le_succ _)) _ _ _)))
  have HYES := Lib.hid (show errO l d = 0 → walkL l (n + 1) t d = _ from fun h => walkL_kids hd h)
  have HB := Lib.hid hB
  have HW := Lib.hid hW
  have HT := Lib.hid hT
  have HZ := Lib.hid hZ
  have HBW := Lib.hid hb0
  have HS := Lib.hid hs
  have HK := Lib.hid hK
  have HKB := Lib.hid hKB
  have HV := Lib.hid hV
  have HE := Lib.hid he
  have HB0 := Lib.hid hB0
  have HB1 := Lib.hid hb1
  have HB2 := Lib.hid hb2
  have HD := Lib.hid hD
  obtain ⟨⟨s, k⟩, hsk⟩ : ∃ s, findO l d = s := ⟨_, rfl⟩
  rw [hsk] at F P
  simp only at F P
  have HSK := Lib.hid hsk
  clear hB hW hT hZ hb0 hs hK hKB hV he hB0 hb1 hb2 hbW hv hf hnv hsk hd
  go_enter Tryz.func8, Tryz.ntmps8
  go_upto_region 1 with fail
  try rw [HB.out]
  rw [HW.out]
  go_wp2_with fail
  refine F.out.mono ?_
  rintro e w2 ⟨rfl, hb2⟩
  have HB2w := Lib.hid (Below.then HBW.out hb2)
  have HZ2 := Lib.hid (HZ.out.keep hb2)
  have HT2 := Lib.hid (HT.out.keep hb2)
  clear hb2
  by_cases h0 : k = 0
  rotate_left
  · have q : (k != 0) = true := bne_iff_ne.2 h0
    have HO := Lib.hid (HBAD.out k (by rw [findO_no (by rw [HSK.out]; exact h0), HSK.out]) h0 w2 HB2w.out HZ2.out)
    obtain ⟨z0, z1, z2⟩ := HZ2.out.cells
    have f0 := HZ2.out.frozen 0
    have f1 := HZ2.out.frozen 1
    have f2 := HZ2.out.frozen 2
    clear h0
    go_wp2_with fail
    refine bodyPost_ret (results_cell_row (p := 8) rfl _ _ (B + 1) 33 _ (0, 0) _ rfl (set3_at HZ2.out _ _ _) Tryz.underlying33 rfl walkTSize) rfl ?_
    exact HO.out
  subst h0
  go_wp2_with fail
  refine (P.out w2 HB2w.out).mono ?_
  rintro e w3 ⟨r, rfl, hm⟩
  obtain ⟨i, c, la, nl, lc, ka, nk, kc, rfl, -, -, -, hkn⟩ := hm.man.shape
  obtain ⟨W4, hW4⟩ : ∃ x, w3.alloc (.cells #[.bool i, .string c, .slice la nl lc, .slice ka nk kc] 53) = x := ⟨_, rfl⟩
  have hb34 : Below w3.heap.size w3 W4 := by rw [← hW4]; exact below_new _ _
  have hA4 : At4 W4 w3.heap.size (.bool i) (.string c) (.slice la nl lc) (.slice ka nk kc) := by rw [← hW4]; exact At4.new _ _ _ _ _
  have hb24 : Below w2.heap.size w2 W4 := Below.then hm.below hb34
  have HB4 := Lib.hid (Below.then HB2w.out hb24)
  have HT4 := Lib.hid (HT2.out.keep hb24)
  have HZ4 := Lib.hid (HZ2.out.keep hb24)
  have HW4 := Lib.hid hW4
  obtain ⟨a0, a1, a2, a3⟩ := hA4.cells
  obtain ⟨x, hx⟩ : ∃ x, (parseM s).2 = x := ⟨_, rfl⟩
  have hex : errO l d = x := by rw [findO_yes (by rw [HSK.out]), HSK.out]; exact hx
  rw [hx]
  by_cases h0 : x = 0
  rotate_left
  · have q : (x != 0) = true := bne_iff_ne.2 h0
    have HO := Lib.hid (HBAD.out x hex h0 W4 HB4.out HZ4.out)
    obtain ⟨z0, z1, z2⟩ := HZ4.out.cells
    have f0 := HZ4.out.frozen 0
    have f1 := HZ4.out.frozen 1
    have f2 := HZ4.out.frozen 2
    clear hm hb34 hA4 hb24 hW4 hx hex h0 hkn
    go_upto_region 7 with fail
    rw [HW4.out]
    go_wp2_with fail
    refine bodyPost_ret (results_cell_row (p := 8) rfl _ _ (B + 1) 33 _ (0, 0) _ rfl (set3_at HZ4.out _ _ _) Tryz.underlying33 rfl walkTSize) rfl ?_
    exact HO.out
  subst h0
  have HO := Lib.hid (HYES.out hex)
  have hman : (parseM s).1 = manO l d := by unfold manO; rw [HSK.out]
  obtain ⟨M, hM⟩ : ∃ M, manO l d = M := ⟨_, rfl⟩
  rw [hM] at HO
  have hsh := parseM_short s
  have hfw := parseM_few s
  rw [hman, hM] at hsh hfw hm hkn
  have hws : w.heap.size ≤ w2.heap.size := HB2w.out.size
  have hBw := HB.out
  have e1 : wrap64 (D + 1) = D + 1 := by unfold wrap64; omega
  have HDD := Lib.hid (show 5 - (n : Int) = D + 1 by omega)
  obtain ⟨K2, hK2⟩ : ∃ K2, addK K w.heap.size W4.heap.size = K2 := ⟨_, rfl⟩
  have hS4 : RSt K2 w0 (.slice ma nm mc) (.slice ba nb bc) nm nb t W4 := by rw [← hK2]; exact HS.out.add HK.out HB4.out
  have hKK : ∀ k, K k → K2 k := fun k h => by rw [← hK2]; exact Or.inl h
  have hKN : ∀ k, w.heap.size ≤ k → k < W4.heap.size → K2 k := fun k h1 h2 => by rw [← hK2]; exact Or.inr ⟨h1, h2⟩
  have hfar : ∀ w', Kept (lessK K2 B) W4 w' → ManAt w' (.agg #[.bool i, .string c, .slice la nl lc, .slice ka nk kc]) M ∧ At4 w' w3.heap.size (.bool i) (.string c) (.slice la nl lc) (.slice ka nk kc) ∧ TAt w' (B + 1) (.slice none 0 0) (.slice none 0 0) (.int .i64 0) := fun w' h => by
    have hT4 := HT4.out.lt
    have hTB : B < w2.heap.size := HT2.out.lt
    have h23 := hm.below.size
    refine ⟨hm.far w' fun b h1 h2 => ?_, (h.block _ hA4.lt ⟨hKN _ (by omega) hA4.lt, by omega⟩).trans hA4, (h.block _ HZ4.out.lt ⟨hKN _ (by omega) HZ4.out.lt, by omega⟩).trans HZ4.out⟩
    have hb : b < W4.heap.size := Nat.lt_of_lt_of_le h2 hb34.size
    rw [h.block b hb ⟨hKN b (by omega) hb, by omega⟩, hb34.block b h2]
  have hnk : nk ≤ 16 := by rw [← hkn]; exact hsh.1
  have HFAR := Lib.hid hfar
  have HS4 := Lib.hid hS4
  have HKK := Lib.hid hKK
  have HKN := Lib.hid hKN
  have HSH := Lib.hid hsh
  have HFW := Lib.hid hfw
  have HKL := Lib.hid hkn
  have HUP := Lib.hid (show w.heap.size ≤ W4.heap.size ∧ B < W4.heap.size ∧ w0.heap.size ≤ B from ⟨HB4.out.size, HT4.out.lt, HB0.out⟩)
  have HKL1 := Lib.hid (show ∀ k, K k → lessK K2 B k from fun k hk => ⟨HKK.out k hk, fun e => HKB.out B (Nat.le_refl _) (e ▸ hk)⟩)
  have HK2B := Lib.hid (show K2 B from HKN.out B (by omega) HUP.out.2.1)
  clear hm hb34 hA4 hb24 hW4 hx hex hkn hman hM hsh hfw hws hBw hS4 hKK hKN hfar hK2 HBAD HYES P F HSK
  go_upto_region 7 with fail
  rw [HW4.out]
  go_wp2_with fail
  have hmul : M.kids.length * capW n ≤ 16 * capW n := Nat.mul_le_mul_right _ HSH.out.1
  have HCAP := Lib.hid (show t.ms.length + (16 * capW n + 1) ≤ 1073741824 ∧ t.bs.length + 9 * (16 * capW n + 1) ≤ 17179869184 ∧ M.kids.length * capW n ≤ 16 * capW n from ⟨HB1.out, HB2.out, hmul⟩)
  clear hmul
  go_loopw [42] (fun iv wr => ∃ (k : Nat) (t' : Wk) (mv' bv' : Value) (nm' nb' : Nat), k ≤ nk ∧ iv = .int .i64 k ∧ kidsL (walkL l n) t (M.kids.take k) = .ok t' ∧ TAt wr B mv' bv' (.int .i64 0) ∧ RSt K2 w0 mv' bv' nm' nb' t' wr ∧ Kept (lessK K2 B) W4 wr) (fun i _ => nk - (intOf i).toNat)
  case atStart => exact ⟨0, t, _, _, nm, nb, Nat.zero_le _, rfl, rfl, HT4.out, HS4.out, Kept.refl _ _⟩
  case round =>
    obtain ⟨k, t', mv', bv', nm', nb', hk, rfl, hkt, hT, hS, hkp⟩ := hrel
    have HTr := Lib.hid hT
    have HSr := Lib.hid hS
    have HKr := Lib.hid hkp
    have HKT := Lib.hid hkt
    obtain ⟨ma', mc', rfl, -, -⟩ := hS.ms.shape
    obtain ⟨ba', bc', rfl, -, -⟩ := hS.bs.shape
    obtain ⟨b0, b1, b2⟩ := hT.cells
    have g0 := hT.frozen 0
    have g1 := hT.frozen 1
    have g2 := hT.frozen 2
    obtain ⟨hMr, hAr, hZr⟩ := HFAR.out wr hkp
    have HMr := Lib.hid hMr
    have HAr := Lib.hid hAr
    have HZr := Lib.hid hZr
    clear a0 a1 a2 a3
    by_cases hlt : k < nk
    · have h1 : k < M.kids.length := by rw [HKL.out]; exact hlt
      obtain ⟨⟨lv, kv, hev, -, hks⟩, -⟩ := hMr
      simp only [Value.agg.injEq, Array.mk.injEq, List.cons.injEq, and_true] at hev
      obtain ⟨-, -, -, rfl⟩ := hev
      obtain ⟨lb, lo, rfl, e0⟩ := hks.at k h1
      have hts := List.take_succ_eq_append_getElem h1
      have hds : M.kids = M.kids.take k ++ M.kids[k] :: M.kids.drop (k + 1) := by rw [← List.drop_eq_getElem_cons h1, List.take_append_drop]
      obtain ⟨x, hxx⟩ : ∃ x, M.kids[k] = x := ⟨_, rfl⟩
      rw [hxx] at e0 hts hds
      have HTS := Lib.hid (show kidsL (walkL l n) t (M.kids.take (k + 1)) = kidsL (walkL l n) t' [x] by rw [hts, kidsL_append, hkt])
      have HDS := Lib.hid (show kidsL (walkL l n) t M.kids = kidsL (walkL l n) t' (x :: M.kids.drop (k + 1)) by
        have e := congrArg (kidsL (walkL l n) t) hds
        rw [kidsL_append, hkt] at e
        exact e)
      have C := Lib.hid (refHas_t _ t'.ms x wr hS.ms.strs)
      have hl := kidsL_len (fun t k t' h => walkL_len l n t k t' h) _ t t' hkt
      have hmm : (M.kids.take k).length * capW n + capW n ≤ M.kids.length * capW n := by
        rw [← Nat.succ_mul]
        exact Nat.mul_le_mul_right _ (by rw [List.length_take]; omega)
      have hcap := HCAP.out
      have HLEN := Lib.hid (show t'.ms.length + capW n ≤ 1073741824 ∧ t'.bs.length + 9 * capW n ≤ 17179869184 from ⟨by omega, by omega⟩)
      clear hAr hZr hks hts hds hxx hl hmm hcap hkt hT hS hkp
      by_cases hin : x ∈ t'.ms
      · rw [decide_eq_true hin] at C
        have HOK := Lib.hid (show kidsL (walkL l n) t (M.kids.take (k + 1)) = .ok t' by rw [HTS.out, kidsL_ok [] (walkL_in hin)]; rfl)
        clear hin
        go_wp2_with fail
        refine C.out.mono ?_
        rintro e w5 ⟨rfl, rfl⟩
        go_wp2_with fail
        go_roundw
        case rel => exact ⟨k + 1, t', _, _, nm', nb', by omega, by go_num, HOK.out, HTr.out, HSr.out, HKr.out⟩
        case measure => simp [intOf]; omega
      · rw [decide_eq_false hin] at C
        have R := Lib.hid (HV.out K2 _ _ nm' nb' t' x wr (fun k hk => HKK.out k (HK.out k hk)) HSr.out hin HLEN.out.1 HLEN.out.2)
        rw [HDD.out] at R
        clear hin
        cases hw : walkL l n t' x with
        | error x2 =>
          rw [hw] at R
          have q : (x2 != 0) = true := bne_iff_ne.2 (walkL_err l n t' x x2 hw)
          have HBD := Lib.hid (show walkL l (n + 1) t d = .error x2 by rw [HO.out, HDS.out, kidsL_bad _ hw])
          clear hw
          go_upto_region 14 with (first
            | (go_at_call 21; refine C.out.mono ?_; rintro e w5 ⟨rfl, rfl⟩)
            | (go_at_call 8; refine R.out.mono ?_; rintro e w6 ⟨rfl, hk6⟩; have HK6 := Lib.hid hk6; have HT6 := Lib.hid (HTr.out.block (hk6.block B HTr.out.lt HK2B.out)); obtain ⟨c0, c1, c2⟩ := HT6.out.cells; have h0 := HT6.out.frozen 0; have h1 := HT6.out.frozen 1; have h2 := HT6.out.frozen 2; clear hk6 b0 b1 b2 g0 g1 g2))
          obtain ⟨W7, hW7⟩ : ∃ x, set3 w6 B (.slice none 0 0) (.slice none 0 0) (.int .i64 x2) = x := ⟨_, rfl⟩
          rw [set3_eq hW7]
          have hT7 : TAt W7 B (.slice none 0 0) (.slice none 0 0) (.int .i64 x2) := by rw [← hW7]; exact set3_at HT6.out _ _ _
          have hZ7 : TAt W7 (B + 1) (.slice none 0 0) (.slice none 0 0) (.int .i64 0) := by
            refine (HZr.out.block (HK6.out.block (B + 1) HZr.out.lt (HKN.out _ (by have := HB.out; omega) HZ4.out.lt))).block ?_
            rw [← hW7]
            exact set3_block _ _ _ _ _ _ (by omega)
          have HE7 := Lib.hid (show RefWalkEnds K w0 (walkL l (n + 1) t d) w (.returned (.agg #[.slice none 0 0, .slice none 0 0, .int .i64 x2])) (set3 W7 (B + 1) (.slice none 0 0) (.slice none 0 0) (.int .i64 x2)) from by
            rw [← hW7]
            exact RefWalkEnds.bad HBD.out (((((Kept.of_below HB4.out).trans (HKr.out.mono HKL1.out)).trans (HK6.out.mono HKK.out)).trans (Kept.set3 (HKB.out B (Nat.le_refl _)) _ _ _)).trans (Kept.set3 (HKB.out _ (Nat.le_succ _)) _ _ _)))
          obtain ⟨t0, t1, t2⟩ := hT7.cells
          obtain ⟨z0, z1, z2⟩ := hZ7.cells
          have f0 := hZ7.frozen 0
          have f1 := hZ7.frozen 1
          have f2 := hZ7.frozen 2
          have HZ7 := Lib.hid hZ7
          clear hW7 hT7 hZ7 c0 c1 c2 h0 h1 h2
          go_wp2_with fail
          refine bodyPost_ret (results_cell_row (p := 8) rfl _ _ (B + 1) 33 _ (0, 0) _ rfl (set3_at HZ7.out _ _ _) Tryz.underlying33 rfl walkTSize) rfl ?_
          exact HE7.out
        | ok t2 =>
          rw [hw] at R
          have HOK := Lib.hid (show kidsL (walkL l n) t (M.kids.take (k + 1)) = .ok t2 by rw [HTS.out, kidsL_ok [] hw]; rfl)
          clear hw
          go_upto_region 14 with (first
            | (go_at_call 21; refine C.out.mono ?_; rintro e w5 ⟨rfl, rfl⟩)
            | (go_at_call 8; refine R.out.mono ?_; rintro e w6 ⟨mv2, bv2, nm2, nb2, rfl, hs6, hk6⟩; have HS6 := Lib.hid hs6; have HK6 := Lib.hid hk6; have HT6 := Lib.hid (HTr.out.block (hk6.block B HTr.out.lt HK2B.out)); obtain ⟨c0, c1, c2⟩ := HT6.out.cells; have h0 := HT6.out.frozen 0; have h1 := HT6.out.frozen 1; have h2 := HT6.out.frozen 2; obtain ⟨ma2, mc2, rfl, -, -⟩ := hs6.ms.shape; obtain ⟨ba2, bc2, rfl, -, -⟩ := hs6.bs.shape; clear hk6 hs6 b0 b1 b2 g0 g1 g2))
          obtain ⟨W7, hW7⟩ : ∃ x, set3 w6 B (.slice ma2 nm2 mc2) (.slice ba2 nb2 bc2) (.int .i64 0) = x := ⟨_, rfl⟩
          rw [set3_eq hW7]
          have HT7 := Lib.hid (show TAt W7 B (.slice ma2 nm2 mc2) (.slice ba2 nb2 bc2) (.int .i64 0) by rw [← hW7]; exact set3_at HT6.out _ _ _)
          have HS7 := Lib.hid (show RSt K2 w0 (.slice ma2 nm2 mc2) (.slice ba2 nb2 bc2) nm2 nb2 t2 W7 by rw [← hW7]; exact HS6.out.set3 HK2B.out HUP.out.2.2 _ _ _)
          have HK7 := Lib.hid (show Kept (lessK K2 B) W4 W7 by rw [← hW7]; exact (HKr.out.trans (HK6.out.mono fun k h => h.1)).trans (Kept.set3 (fun h => h.2 rfl) _ _ _))
          obtain ⟨t0, t1, t3⟩ := HT7.out.cells
          clear hW7 c0 c1 c2 h0 h1 h2
          go_wp2_with fail
          go_roundw
          case rel => exact ⟨k + 1, t2, _, _, nm2, nb2, by omega, by go_num, HOK.out, HT7.out, HS7.out, HK7.out⟩
          case measure => simp [intOf]; omega
    · have hkt' : kidsL (walkL l n) t M.kids = .ok t' := by
        rw [List.take_of_length_le (by rw [HKL.out]; omega)] at hkt
        exact hkt
      have HOK := Lib.hid (show walkL l (n + 1) t d = .ok ⟨t'.ms ++ [d], onceL t'.bs (blobsM M)⟩ by rw [HO.out, hkt'])
      have hl := kidsL_len (fun t k t' h => walkL_len l n t k t' h) _ t t' hkt'
      have hcap := HCAP.out
      have hlm := hS.ms.len
      have hlb := hS.bs.len
      have hnm : nm' ≤ 1073741824 := by omega
      have hnb : nb' ≤ 17179869184 := by omega
      have G := Lib.hid (refBlobs_t M _ wr hMr HFW.out)
      obtain ⟨y0, y1, y2, y3⟩ := hAr.cells
      obtain ⟨wo, rfl⟩ : ∃ wo : World, wo = wr := ⟨_, rfl⟩
      clear hkt hkt' hl hcap hlm hlb hT hS hkp hMr hAr hZr HKT b0 b1 b2 g0 g1 g2
      go_wp2_with fail
      refine G.out.mono ?_
      rintro e w7 ⟨rv, rn, rfl, hrv, hb7⟩
      obtain ⟨K3, hK3⟩ : ∃ K3, addK K2 wo.heap.size w7.heap.size = K3 := ⟨_, rfl⟩
      have HK3B := Lib.hid (show K3 B by rw [← hK3]; exact Or.inl HK2B.out)
      have HS7 := Lib.hid (show RSt K3 w0 (.slice ma' nm' mc') (.slice ba' nb' bc') nm' nb' t' w7 by rw [← hK3]; exact HSr.out.add (fun k hk => HKK.out k (HK.out k hk)) hb7)
      have HT7 := Lib.hid (HTr.out.keep hb7)
      have HZ7 := Lib.hid (HZr.out.keep hb7)
      have HKL3 := Lib.hid (show ∀ k, lessK K2 B k → lessK K3 B k from fun k h => ⟨by rw [← hK3]; exact Or.inl h.1, h.2⟩)
      have HK3L := Lib.hid (show ∀ k, k < w0.heap.size → K3 k from fun k hk => by rw [← hK3]; exact Or.inl (HKK.out k (HK.out k hk)))
      have HK3Z := Lib.hid (show lessK K3 B (B + 1) from HKL3.out _ ⟨HKN.out _ (by have := HB.out; omega) HZ4.out.lt, by omega⟩)
      have HROW := Lib.hid (show ∀ w', Kept (lessK K3 B) w7 w' → StrsAt w' rv (blobsM M) from fun w' h => (show OwnS w' wo.heap.size rv rn (blobsM M) from ⟨hrv.len, own_block hrv.own fun g hg => h.block g (hrv.lt g hg).2 ⟨by rw [← hK3]; exact Or.inr (hrv.lt g hg), by have := (hrv.lt g hg).1; have := HTr.out.lt; omega⟩⟩).strs)
      have HK7 := Lib.hid (show Kept K w w7 from ((Kept.of_below HB4.out).trans (HKr.out.mono HKL1.out)).trans (Kept.of_below hb7))
      have HRL := Lib.hid hrv.len
      obtain ⟨ra, rc, rfl, -, hrc⟩ := hrv.shape
      have hrn : rn ≤ 9 := by rw [← hrv.len]; exact HSH.out.2
      clear hrv hb7 hK3 y0 y1 y2 y3
      obtain ⟨bl, hbl⟩ : ∃ bl, blobsM M = bl := ⟨_, rfl⟩
      rw [hbl] at HOK HROW HRL
      clear hbl
      go_wp2_with fail
      go_loopw [66] (fun iv wr => ∃ (k : Nat) (bv2 : Value) (nb2 : Nat), k ≤ rn ∧ nb2 ≤ nb' + k ∧ iv = .int .i64 k ∧ TAt wr B (.slice ma' nm' mc') bv2 (.int .i64 0) ∧ RSt K3 w0 (.slice ma' nm' mc') bv2 nm' nb2 ⟨t'.ms, onceL t'.bs (bl.take k)⟩ wr ∧ Kept (lessK K3 B) w7 wr) (fun i _ => rn - (intOf i).toNat)
      case atStart => exact ⟨0, _, nb', Nat.zero_le _, Nat.le_refl _, rfl, HT7.out, HS7.out, Kept.refl _ _⟩
      case round =>
        obtain ⟨j, bv2, nb2, hj, hnb2, rfl, hT, hS, hkp⟩ := hrel
        have HT8 := Lib.hid hT
        have HS8 := Lib.hid hS
        have HK8 := Lib.hid hkp
        obtain ⟨b0, b1, b2⟩ := hT.cells
        obtain ⟨ba2, bc2, rfl, -, -⟩ := hS.bs.shape
        by_cases hlt : j < rn
        · have h1 : j < bl.length := by rw [HRL.out]; exact hlt
          obtain ⟨lb, lo, rfl, e0⟩ := (HROW.out wr hkp).at j h1
          have HTK := Lib.hid (show onceL t'.bs (bl.take (j + 1)) = _ by rw [List.take_succ_eq_append_getElem h1, onceL_snoc])
          obtain ⟨x, hxx⟩ : ∃ x, bl[j] = x := ⟨_, rfl⟩
          rw [hxx] at e0 HTK
          obtain ⟨L, hL⟩ : ∃ L, onceL t'.bs (bl.take j) = L := ⟨_, rfl⟩
          rw [hL] at HS8 HTK
          have C := Lib.hid (refHas_t _ L x wr HS8.out.bs.strs)
          clear hT hS hkp hxx hL
          by_cases hm : x ∈ L
          · rw [decide_eq_true hm] at C
            have HF := Lib.hid (show RSt K3 w0 (.slice ma' nm' mc') (.slice ba2 nb2 bc2) nm' nb2 ⟨t'.ms, onceL t'.bs (bl.take (j + 1))⟩ wr by rw [HTK.out, if_pos hm]; exact HS8.out)
            clear hm
            go_wp2_with fail
            refine C.out.mono ?_
            rintro e w9 ⟨rfl, rfl⟩
            go_wp2_with fail
            go_roundw
            case rel => exact ⟨j + 1, _, nb2, by omega, by omega, by go_num, HT8.out, HF.out, HK8.out⟩
            case measure => simp [intOf]; omega
          · rw [decide_eq_false hm] at C
            have HF := Lib.hid (show onceL t'.bs (bl.take (j + 1)) = L ++ [x] by rw [HTK.out, if_neg hm])
            have hbn := below_new wr (.cells #[.string x] 9)
            have HSA := Lib.hid (HS8.out.below HK3L.out hbn)
            have HTA := Lib.hid (HT8.out.keep hbn)
            have HKA := Lib.hid (HK8.out.trans (.of_below hbn))
            have HBZ := Lib.hid HS8.out.base.size
            clear hm hbn
            go_wp2_with fail
            refine C.out.mono ?_
            rintro e w9 ⟨rfl, rfl⟩
            go_wp2_with (at_builtin; refine wpList_push _ rfl _ _ rfl w0.heap.size _ nb2 L rfl HSA.out.bs x w9.heap.size rfl (heap_alloc_new w9 _) (by omega) (by have := HBZ.out; simp; omega) _ rfl ?_)
            intro g cap' w5 ho5 hg5 hor _
            obtain ⟨hS5, hK5⟩ := HSA.out.pushB HK3L.out ho5 hg5 (by rw [World.size_alloc]; exact hor)
            have hT5 := HTA.out.block (hK5.block B HTA.out.lt HK3B.out)
            have HS5 := Lib.hid (hS5.other HK3B.out HUP.out.2.2 1 (.slice (some ⟨g, 0, none⟩) (nb2 + 1) cap'))
            have HT5 := Lib.hid (hT5.put1 (.slice (some ⟨g, 0, none⟩) (nb2 + 1) cap'))
            have HK5 := Lib.hid ((HKA.out.trans (hK5.mono fun k h => h.1)).trans (Kept.set (K := lessK K3 B) (B := B) (fun h => h.2 rfl) 1 (.slice (some ⟨g, 0, none⟩) (nb2 + 1) cap')))
            obtain ⟨c0, c1, c2⟩ := hT5.cells
            have f1 := hT5.frozen 1
            clear ho5 hg5 hor hS5 hK5 hT5 b0 b1 b2
            go_wp2_with fail
            go_roundw
            case rel => exact ⟨j + 1, _, nb2 + 1, by omega, by omega, by go_num, HT5.out, by rw [HF.out]; exact HS5.out, HK5.out⟩
            case measure => simp [intOf]; omega
        · have HSE := Lib.hid (show RSt K3 w0 (.slice ma' nm' mc') (.slice ba2 nb2 bc2) nm' nb2 ⟨t'.ms, onceL t'.bs bl⟩ wr by
            rw [List.take_of_length_le (by rw [HRL.out]; omega)] at hS
            exact hS)
          have hbn := below_new wr (.cells #[.string d] 9)
          have HSA := Lib.hid (HSE.out.below HK3L.out hbn)
          have HTA := Lib.hid (HT8.out.keep hbn)
          have HKA := Lib.hid (HK8.out.trans (.of_below hbn))
          have HBZ := Lib.hid HSE.out.base.size
          clear hT hS hkp hbn
          go_wp2_with (at_builtin; refine wpList_push _ rfl _ _ rfl w0.heap.size _ nm' t'.ms rfl HSA.out.ms d wr.heap.size rfl (heap_alloc_new wr _) (by omega) (by have := HBZ.out; simp; omega) _ rfl ?_)
          intro g cap' w5 ho5 hg5 hor _
          obtain ⟨hS5, hK5⟩ := HSA.out.pushM HK3L.out ho5 hg5 (by rw [World.size_alloc]; exact hor)
          have hT5 := HTA.out.block (hK5.block B HTA.out.lt HK3B.out)
          obtain ⟨c0, c1, c2⟩ := hT5.cells
          have f0 := hT5.frozen 0
          obtain ⟨W9, hW9⟩ : ∃ x, w5.setCell ⟨B, 0, none⟩ (.slice (some ⟨g, 0, none⟩) (nm' + 1) cap') = x := ⟨_, rfl⟩
          have HS9 := Lib.hid (show RSt K3 w0 (.slice (some ⟨g, 0, none⟩) (nm' + 1) cap') (.slice ba2 nb2 bc2) (nm' + 1) nb2 ⟨t'.ms ++ [d], onceL t'.bs bl⟩ W9 by rw [← hW9]; exact hS5.other HK3B.out HUP.out.2.2 0 _)
          have HT9 := Lib.hid (show TAt W9 B (.slice (some ⟨g, 0, none⟩) (nm' + 1) cap') (.slice ba2 nb2 bc2) (.int .i64 0) by rw [← hW9]; exact hT5.put0 _)
          have HK9 := Lib.hid (show Kept (lessK K3 B) w7 W9 by rw [← hW9]; exact (HKA.out.trans (hK5.mono fun k h => h.1)).trans (Kept.set (K := lessK K3 B) (B := B) (fun h => h.2 rfl) 0 _))
          have HZ9 := Lib.hid (HZ7.out.block (HK9.out.block (B + 1) HZ7.out.lt HK3Z.out))
          have HW9 := Lib.hid hW9
          have HEND := Lib.hid (show RefWalkEnds K w0 (walkL l (n + 1) t d) w (.returned (.agg #[.slice (some ⟨g, 0, none⟩) (nm' + 1) cap', .slice ba2 nb2 bc2, .int .i64 0])) (set3 W9 (B + 1) (.slice (some ⟨g, 0, none⟩) (nm' + 1) cap') (.slice ba2 nb2 bc2) (.int .i64 0)) from
            RefWalkEnds.ok HOK.out ((HS9.out.set3 HK3Z.out.1 (by have := HUP.out.2.2; omega) _ _ _).less fun k h => (HKL3.out k (HKL1.out k h)).1)
              ((HK7.out.trans (HK9.out.mono fun k h => HKL3.out k (HKL1.out k h))).trans (Kept.set3 (HKB.out _ (Nat.le_succ _)) _ _ _)))
          clear ho5 hg5 hor hS5 hK5 hT5 hW9 b0 b1 b2
          go_upto_region 24 with fail
          rw [HW9.out]
          obtain ⟨d0, d1, d2⟩ := HT9.out.cells
          obtain ⟨z0, z1, z2⟩ := HZ9.out.cells
          have g0 := HZ9.out.frozen 0
          have g1 := HZ9.out.frozen 1
          have g2 := HZ9.out.frozen 2
          clear c0 c1 c2 f0
          go_wp2_with fail
          refine bodyPost_ret (results_cell_row (p := 8) rfl _ _ (B + 1) 33 _ (0, 0) _ rfl (set3_at HZ9.out _ _ _) Tryz.underlying33 rfl walkTSize) rfl ?_
          exact HEND.out

theorem refWalk_t (w0 : World) (v : Value) (l : List Obj) (he : MEnv w0) (hv : ObjsAt w0 v l) (hf : ObjsFew l) (n : Nat) : n ≤ 4 → RefWalkSays n w0 v l := by
  induction n with
  | zero => exact fun _ => refWalk_deep w0 v l hv
  | succ n ih => exact fun h => refWalk_step n (by omega) w0 v l he hv hf (ih (by omega))

def RefTopEnds (l : List Obj) (d : ByteArray) (w : World) (e : Ending) (w' : World) : Prop :=
  ∃ mv bv nm nb, e = .returned (.agg #[mv, bv, .int .i64 (ofL l d).2]) ∧ OwnS w' w.heap.size mv nm (ofL l d).1.ms ∧ OwnS w' w.heap.size bv nb (ofL l d).1.bs ∧ Below w.heap.size w w'

theorem refTop_t (v : Value) (l : List Obj) (d : ByteArray) (w : World) (he : MEnv w) (hv : ObjsAt w v l) (hf : ObjsFew l) :
    Calls Tryz.prog 8 #[v, .agg #[.slice none 0 0, .slice none 0 0, .int .i64 0], .string d, .int .i64 1] w (RefTopEnds l d w) := by
  have hst : RSt (fun k => k < w.heap.size) w (.slice none 0 0) (.slice none 0 0) 0 0 noWk w :=
    ⟨OwnS.nil _ _, OwnS.nil _ _, (fun g e => by cases e), (fun g e => by cases e), (fun g e => by cases e), fun k hk => hk, Below.refl _ _⟩
  have h := refWalk_t w v l he hv hf 4 (Nat.le_refl _) (fun k => k < w.heap.size) _ _ 0 0 noWk d w (fun k hk => hk) hst (by simp [noWk]) (by decide) (by decide)
  refine h.mono fun e w' hx => ?_
  unfold RefWalkEnds at hx
  unfold RefTopEnds ofL
  cases hw : walkL l 4 noWk d with
  | ok t =>
    rw [hw] at hx
    obtain ⟨mv, bv, nm, nb, rfl, hs, hk⟩ := hx
    exact ⟨mv, bv, nm, nb, rfl, hs.ms, hs.bs, hs.base⟩
  | error x =>
    rw [hw] at hx
    obtain ⟨rfl, hk⟩ := hx
    exact ⟨_, _, 0, 0, rfl, OwnS.nil _ _, OwnS.nil _ _, hst.step (fun k hk => hk) hk⟩

set_option maxRecDepth 100000 in
set_option maxHeartbeats 4000000 in
theorem refWhole_t (v : Value) (l : List Obj) (d : ByteArray) (w : World) (he : MEnv w) (hv : ObjsAt w v l) (hf : ObjsFew l) :
    Calls Tryz.prog 12 #[v, .string d] w fun e w' => e = .returned (.int .i64 (fullL l d)) ∧ Below w.heap.size w w' := by
  have O := Lib.hid (refTop_t v l d w he hv hf)
  have F := Lib.hid (fun b w' (h : Below w.heap.size w w') => refFind_t v l b w' (hv.keep h) hf)
  obtain ⟨a, cap, rfl, -, -⟩ := hv.shape
  obtain ⟨n, hn⟩ : ∃ n, l.length = n := ⟨_, rfl⟩
  rw [hn] at O F ⊢
  obtain ⟨⟨t, k⟩, ht⟩ : ∃ x, ofL l d = x := ⟨_, rfl⟩
  have HF := Lib.hid (show fullL l d = if k = 0 then blobsO l t.bs else k by
    unfold fullL
    unfold ofL at ht
    cases hw : walkL l 4 noWk d with
    | ok t' => rw [hw] at ht; cases ht; rfl
    | error e =>
      rw [hw] at ht
      cases ht
      rw [if_neg (walkL_err l 4 noWk d _ hw)])
  unfold RefTopEnds at O
  rw [ht] at O
  simp only at O
  clear he hv hf hn ht
  go_enter Tryz.func12, Tryz.ntmps12
  go_wp2_with fail
  refine O.out.mono ?_
  rintro e w2 ⟨mv, bv, nm, nb, rfl, hom, hob, hb2⟩
  have HLB := Lib.hid hob.len
  obtain ⟨ma, mc, rfl, -, -⟩ := hom.shape
  obtain ⟨ba, bc, rfl, hbc1, hbc2⟩ := hob.shape
  unfold maxLen at hbc2
  obtain ⟨W3, hW3⟩ : ∃ x, w2.alloc (.cells #[.slice ma nm mc, .slice ba nb bc, .int .i64 k] 33) = x := ⟨_, rfl⟩
  have hb3 : Below w2.heap.size w2 W3 := by rw [← hW3]; exact below_new _ _
  obtain ⟨a0, a1, a2⟩ := TAt.cells (show TAt W3 w2.heap.size (.slice ma nm mc) (.slice ba nb bc) (.int .i64 k) by rw [← hW3]; exact TAt.new _ _ _ _)
  have HW3 := Lib.hid hW3
  have HB3 := Lib.hid (Below.then hb2 hb3)
  have HS3 := Lib.hid (hob.keep hb3)
  clear hom hob hb2 hb3 hW3
  by_cases h0 : k = 0
  rotate_left
  · have HO := Lib.hid (show fullL l d = k by rw [HF.out, if_neg h0])
    have q : (k != 0) = true := bne_iff_ne.2 h0
    clear h0
    go_upto_region 2 with fail
    rw [HW3.out]
    go_wp2_with fail
    go_ret
    exact ⟨by rw [HO.out]; rfl, HB3.out⟩
  subst h0
  have HO := Lib.hid (show fullL l d = blobsO l t.bs from HF.out)
  go_upto_region 2 with fail
  rw [HW3.out]
  go_wp2_with fail
  go_loopw [23] (fun iv wr => ∃ j : Nat, j ≤ nb ∧ iv = .int .i64 j ∧ blobsO l (t.bs.take j) = 0 ∧ Below W3.heap.size W3 wr) (fun i _ => nb - (intOf i).toNat)
  case atStart => exact ⟨0, Nat.zero_le _, rfl, rfl, Below.refl _ _⟩
  case round =>
    obtain ⟨j, hj, rfl, h0, hb⟩ := hrel
    have HBJ := Lib.hid hb
    clear a0 a1 a2
    by_cases hlt : j < nb
    · have h1 : j < t.bs.length := by rw [HLB.out]; exact hlt
      obtain ⟨lb, lo, rfl, e0⟩ := (HS3.out.keep hb).strs.at j h1
      have hts := List.take_succ_eq_append_getElem h1
      have hds : t.bs = t.bs.take j ++ t.bs[j] :: t.bs.drop (j + 1) := by rw [← List.drop_eq_getElem_cons h1, List.take_append_drop]
      obtain ⟨x, hxx⟩ : ∃ x, t.bs[j] = x := ⟨_, rfl⟩
      rw [hxx] at e0 hts hds
      have C := Lib.hid (F.out x wr (Below.then HB3.out hb))
      obtain ⟨⟨s, c⟩, hc⟩ : ∃ c, findO l x = c := ⟨_, rfl⟩
      rw [hc] at C
      have HTS := Lib.hid (show c = 0 → blobsO l (t.bs.take (j + 1)) = 0 from fun h => by rw [hts, blobsO_append, if_pos h0, blobsO, if_pos (by rw [hc]; exact h)]; rfl)
      have HDS := Lib.hid (show c ≠ 0 → blobsO l t.bs = c from fun h => (congrArg (blobsO l) hds).trans (by rw [blobsO_append, if_pos h0, blobsO, if_neg (by rw [hc]; exact h), hc]))
      clear hb h0 hts hds hxx hc
      by_cases hc0 : c = 0
      · subst hc0
        have HQ := Lib.hid (HTS.out rfl)
        clear HTS HDS
        go_wp2_with fail
        refine C.out.mono ?_
        rintro e w5 ⟨rfl, hb5⟩
        have HB5 := Lib.hid (Below.then HBJ.out hb5)
        clear hb5
        go_wp2_with fail
        go_roundw
        case rel => exact ⟨j + 1, by omega, by go_num, HQ.out, HB5.out⟩
        case measure => simp [intOf]; omega
      · have q : (c != 0) = true := bne_iff_ne.2 hc0
        have HQ := Lib.hid (HDS.out hc0)
        clear HTS HDS hc0
        go_wp2_with fail
        refine C.out.mono ?_
        rintro e w5 ⟨rfl, hb5⟩
        have HB5 := Lib.hid (Below.then HB3.out (Below.then HBJ.out hb5))
        clear hb5
        go_wp2_with fail
        go_ret
        exact ⟨by rw [HO.out, HQ.out]; rfl, HB5.out⟩
    · have HQ := Lib.hid (show blobsO l t.bs = 0 by
        rw [List.take_of_length_le (by rw [HLB.out]; omega)] at h0
        exact h0)
      have HBE := Lib.hid (Below.then HB3.out hb)
      clear hb h0
      go_wp2_with fail
      go_ret
      exact ⟨by rw [HO.out, HQ.out]; rfl, HBE.out⟩
end Go.Proofs.YtepcaglekgeamaaGreatDoor
