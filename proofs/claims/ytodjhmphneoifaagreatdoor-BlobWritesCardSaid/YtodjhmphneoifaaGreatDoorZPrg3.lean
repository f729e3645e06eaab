/-
  Rows of a call's own: slices.Clone of objects and of uploads, slices.Delete of one upload, by contracts. Conditions: few of them.
  The program's copied and dropped of blobs, by contracts. Conditions: few objects and uploads.
  The program's dropped of blobs, by a contract. Conditions: there is such an upload; few objects and uploads.
-/
import Derived.Test.YtodjhmphneoifaaGreatDoorZBlb3
import Derived.Deep.RegionLaw
import Derived.Laws.CopyOwn
import Derived.BigRegion
import Derived.Lib.SliceRun
/-! Rows of a call's own: slices.Clone of objects and of uploads, slices.Delete of one upload, by contracts. Conditions: few of them. -/
namespace Go.Proofs.YtodjhmphneoifaaGreatDoor
open Go.RowKit Go.WideShapes

theorem own_block {w w' : World} {base : Nat} {e : TypeId} {size n : Nat} {v : Value} {xs : List Value} (h : w.ownsRow base e size v n xs) (hb : ∀ g, v.ownBlock = some g → w'.heap[g]? = w.heap[g]?) : w'.ownsRow base e size v n xs := by
  refine ⟨h.1, ?_⟩
  rcases h.2 with h2 | ⟨g, cap, cur, rfl, hb2, hg, h3⟩
  · exact Or.inl h2
  · exact Or.inr ⟨g, cap, cur, rfl, hb2, by rw [hb g rfl]; exact hg, h3⟩
theorem own_lt {w : World} {base : Nat} {e : TypeId} {size n : Nat} {v : Value} {xs : List Value} (h : w.ownsRow base e size v n xs) {g : Nat} (hg : v.ownBlock = some g) : base ≤ g ∧ g < w.heap.size := by
  rcases h.2 with ⟨rfl, -⟩ | ⟨g', cap, cur, rfl, hb2, hg2, -⟩
  · cases hg
  · cases hg
    exact ⟨hb2, (Array.getElem?_eq_some_iff.1 hg2).1⟩
theorem own_keep {w w' : World} {base : Nat} {e : TypeId} {size n : Nat} {v : Value} {xs : List Value} (h : w.ownsRow base e size v n xs) (hb : Below w.heap.size w w') : w'.ownsRow base e size v n xs :=
  own_block h fun g hg => hb.block g (own_lt h hg).2
theorem own_base {w : World} {base base' : Nat} {e : TypeId} {size n : Nat} {v : Value} {xs : List Value} (h : w.ownsRow base e size v n xs) (hb : base' ≤ base) : w.ownsRow base' e size v n xs := by
  refine ⟨h.1, ?_⟩
  rcases h.2 with h2 | ⟨g, cap, cur, rfl, hb2, hg, h3⟩
  · exact Or.inl h2
  · exact Or.inr ⟨g, cap, cur, rfl, Nat.le_trans hb hb2, hg, h3⟩
/-- Rows of unlike types lie in unlike blocks. -/
theorem own_apart {w : World} {base base' : Nat} {e e' : TypeId} {size size' n n' : Nat} {v v' : Value} {xs xs' : List Value} (h : w.ownsRow base e size v n xs) (h' : w.ownsRow base' e' size' v' n' xs') (hne : e ≠ e') : ∀ g, v.ownBlock = some g → v'.ownBlock ≠ some g := by
  intro g hg hg'
  rcases h.2 with ⟨rfl, -⟩ | ⟨g1, c1, cur1, rfl, -, h1, -⟩
  · cases hg
  · rcases h'.2 with ⟨rfl, -⟩ | ⟨g2, c2, cur2, rfl, -, h2, -⟩
    · cases hg'
    · cases hg
      cases hg'
      rw [h1] at h2
      simp only [Option.some.injEq, Obj.cells.injEq] at h2
      exact hne h2.2.1
theorem own_grown {w w' : World} {base base' : Nat} {e e' : TypeId} {size size' n n' : Nat} {v v' : Value} {xs xs' : List Value} (h : w.ownsRow base e size v n xs) (h' : w.ownsRow base' e' size' v' n' xs') (hne : e ≠ e') (hg : w.grownBy w' v'.ownBlock) : w'.ownsRow base e size v n xs :=
  own_block h fun g hgv => hg.block g (own_lt h hgv).2 (fun e => own_apart h h' hne g hgv e.symm)
theorem own_grown_lt {w w' : World} {base : Nat} {e : TypeId} {size n : Nat} {v : Value} {xs : List Value} (h : w.ownsRow base e size v n xs) (hg : w.grownBy w' v.ownBlock) (w0 : World) (B : Nat) (hB : Below B w0 w) (hb : B ≤ base) (hbase : B ≤ w.heap.size) : Below B w0 w' :=
  hB.grown hg hbase fun _ hk => Nat.le_trans hb (own_lt h hk).1
/-- Blobs whose rows are the call's own, from block 'base' on. -/
structure OwnBlb (w : World) (base : Nat) (v : Value) (b : Blb) : Prop where
  is : ∃ ov uv, v = .agg #[ov, .int .i64 b.quota, uv, .int .i64 b.last] ∧ w.ownsRow base 43 2 ov b.objs.length (cellsL (b.objs.map objCell)) ∧ w.ownsRow base 40 2 uv b.ups.length (cellsL (b.ups.map upCell))
  objs : ∀ o ∈ b.objs, o.1.size ≤ maxLen ∧ o.2.size ≤ maxLen
  ups : ∀ u ∈ b.ups, u.2.size ≤ maxLen ∧ -9223372036854775808 ≤ u.1 ∧ u.1 ≤ 9223372036854775807
  quota : -9223372036854775808 ≤ b.quota ∧ b.quota ≤ 9223372036854775807
  last : -9223372036854775808 ≤ b.last ∧ b.last ≤ 9223372036854775807
theorem OwnBlb.blb {w : World} {base : Nat} {v : Value} {b : Blb} (h : OwnBlb w base v b) : BlbAt w v b := by
  obtain ⟨⟨ov, uv, e, h1, h2⟩, h3, h4, h5, h6⟩ := h
  exact ⟨⟨ov, uv, e, PairsAt.of_own h1 (by rw [List.length_map]), PairsAt.of_own h2 (by rw [List.length_map])⟩, h3, h4, h5, h6⟩
theorem OwnBlb.keep {w w' : World} {base : Nat} {v : Value} {b : Blb} (h : OwnBlb w base v b) (hb : Below w.heap.size w w') : OwnBlb w' base v b := by
  obtain ⟨⟨ov, uv, e, h1, h2⟩, h3, h4, h5, h6⟩ := h
  exact ⟨⟨ov, uv, e, own_keep h1 hb, own_keep h2 hb⟩, h3, h4, h5, h6⟩
theorem OwnBlb.same {w w' : World} {base : Nat} {v : Value} {b : Blb} (h : OwnBlb w base v b) (hs : ∀ g, base ≤ g → w'.heap[g]? = w.heap[g]?) : OwnBlb w' base v b := by
  obtain ⟨⟨ov, uv, e, h1, h2⟩, h3, h4, h5, h6⟩ := h
  exact ⟨⟨ov, uv, e, own_same h1 hs, own_same h2 hs⟩, h3, h4, h5, h6⟩
theorem OwnBlb.base_le {w : World} {base base' : Nat} {v : Value} {b : Blb} (h : OwnBlb w base v b) (hb : base' ≤ base) : OwnBlb w base' v b := by
  obtain ⟨⟨ov, uv, e, h1, h2⟩, h3, h4, h5, h6⟩ := h
  exact ⟨⟨ov, uv, e, own_base h1 hb, own_base h2 hb⟩, h3, h4, h5, h6⟩
theorem PairsAt.shape2 {w : World} {v : Value} {l : List (Value × Value)} (h : PairsAt w v l) : ∃ a cap, v = .slice a l.length cap ∧ (a = none → l = [] ∧ cap = 0) := by
  rcases h with ⟨rfl, rfl | ⟨a, cap, rfl, hc⟩⟩ | ⟨b, o, cap, rfl, h2, h3, h4, -⟩
  · exact ⟨none, 0, rfl, fun _ => ⟨rfl, rfl⟩⟩
  · exact ⟨_, _, rfl, fun h => by cases h⟩
  · exact ⟨_, _, rfl, fun h => by cases h⟩

set_option maxRecDepth 100000 in
set_option maxHeartbeats 2000000 in
theorem upClone_t (v : Value) (l : List (Int × ByteArray)) (w : World) (h : PairsAt w v (l.map upCell)) (hn : l.length ≤ 1000) :
    Calls Tryz.prog 47 #[v] w fun e w' => ∃ v', e = .returned v' ∧ w'.ownsRow w.heap.size 40 2 v' l.length (cellsL (l.map upCell)) ∧ Below w.heap.size w w' := by
  obtain ⟨i0, hi, hz0, hz1, hz2⟩ := info_parts infoUp
  have HS := Lib.hid (fun w' (hb : Below w.heap.size w w') => (h.keep hb).src)
  have q22 : ∀ (w : World) (a : Option Addr) (n c n' c' : Nat), (binOp .eql 23 (.slice a n c) (.slice none n' c')).run Tryz.prog w = .ok (.bool a.isNone) w := fun w a n c n' c' => Lib.run_eql_slice_nil w _ _ a n c n' c' Tryz.underlying23
  obtain ⟨a, c, rfl, ha⟩ := h.shape2
  rw [List.length_map] at HS ⊢
  obtain ⟨n, hnn⟩ : ∃ n, l.length = n := ⟨_, rfl⟩
  rw [hnn] at hn HS ⊢
  cases a with
  | none =>
    obtain ⟨h0, rfl⟩ := ha rfl
    have hl0 : l = [] := List.map_eq_nil_iff.1 h0
    subst hl0
    obtain rfl : n = 0 := hnn.symm
    clear h ha h0 HS
    go_enter Tryz.func47, Tryz.ntmps47
    go_wp2_with fail
    go_ret
    exact ⟨_, rfl, World.ownsRow_nil _ _ _ _, Below.refl _ _⟩
  | some ad =>
    have HO1 := Lib.hid (one_ups l)
    obtain ⟨W1, hW1⟩ : ∃ W1, w.alloc (.cells #[] 40) = W1 := ⟨_, rfl⟩
    have hb1 : Below w.heap.size w W1 := by rw [← hW1]; exact below_new _ _
    have HOWN1 := Lib.hid (show W1.ownsRow w.heap.size 40 2 (.slice (some ⟨w.heap.size, 0, none⟩) 0 0) 0 [] by rw [← hW1]; exact World.ownsRow_lit w #[] 0 (Nat.le_refl _) (Nat.zero_le _) rfl)
    have HB1 := Lib.hid hb1
    have HS1 := Lib.hid (HS.out W1 hb1)
    have HW1 := Lib.hid hW1
    have hsz : w.heap.size ≤ W1.heap.size := hb1.size
    clear h ha hb1 hW1 HS hnn
    go_enter Tryz.func47, Tryz.ntmps47
    go_upto_region 3 with fail
    go_wp2_with (first | (rw [HW1.out]; clear HW1) | (at_builtin; refine wpList_append_src _ rfl _ _ 23 rfl w.heap.size 40 i0 (.agg #[.int .i64 0, .string ⟨#[]⟩]) 2 24 Tryz.underlying23 hi hz0 hz1 hz2 rfl (by decide) _ 0 [] rfl HOWN1.out _ n _ rfl HS1.out HO1.out (by unfold maxLen; omega) (by omega) hsz ?_; intro v2 w2 hown2 hgrow2))
    have HB2 := Lib.hid (HB1.out.grown hgrow2 hsz (fun k hk => (HOWN1.out.lt k hk).1))
    have HO2 := Lib.hid hown2
    clear hown2 hgrow2
    go_wp2_with fail
    go_ret
    exact ⟨_, rfl, by simpa using HO2.out, HB2.out⟩

set_option maxRecDepth 100000 in
set_option maxHeartbeats 2000000 in
theorem objClone_t (v : Value) (l : List (ByteArray × ByteArray)) (w : World) (h : PairsAt w v (l.map objCell)) (hn : l.length ≤ 1000) :
    Calls Tryz.prog 46 #[v] w fun e w' => ∃ v', e = .returned v' ∧ w'.ownsRow w.heap.size 43 2 v' l.length (cellsL (l.map objCell)) ∧ Below w.heap.size w w' := by
  obtain ⟨i0, hi, hz0, hz1, hz2⟩ := info_parts infoObj
  have HS := Lib.hid (fun w' (hb : Below w.heap.size w w') => (h.keep hb).src)
  have q22 : ∀ (w : World) (a : Option Addr) (n c n' c' : Nat), (binOp .eql 22 (.slice a n c) (.slice none n' c')).run Tryz.prog w = .ok (.bool a.isNone) w := fun w a n c n' c' => Lib.run_eql_slice_nil w _ _ a n c n' c' Tryz.underlying22
  obtain ⟨a, c, rfl, ha⟩ := h.shape2
  rw [List.length_map] at HS ⊢
  obtain ⟨n, hnn⟩ : ∃ n, l.length = n := ⟨_, rfl⟩
  rw [hnn] at hn HS ⊢
  cases a with
  | none =>
    obtain ⟨h0, rfl⟩ := ha rfl
    have hl0 : l = [] := List.map_eq_nil_iff.1 h0
    subst hl0
    obtain rfl : n = 0 := hnn.symm
    clear h ha h0 HS
    go_enter Tryz.func46, Tryz.ntmps46
    go_wp2_with fail
    go_ret
    exact ⟨_, rfl, World.ownsRow_nil _ _ _ _, Below.refl _ _⟩
  | some ad =>
    have HO1 := Lib.hid (one_objs l)
    obtain ⟨W1, hW1⟩ : ∃ W1, w.alloc (.cells #[] 43) = W1 := ⟨_, rfl⟩
    have hb1 : Below w.heap.size w W1 := by rw [← hW1]; exact below_new _ _
    have HOWN1 := Lib.hid (show W1.ownsRow w.heap.size 43 2 (.slice (some ⟨w.heap.size, 0, none⟩) 0 0) 0 [] by rw [← hW1]; exact World.ownsRow_lit w #[] 0 (Nat.le_refl _) (Nat.zero_le _) rfl)
    have HB1 := Lib.hid hb1
    have HS1 := Lib.hid (HS.out W1 hb1)
    have HW1 := Lib.hid hW1
    have hsz : w.heap.size ≤ W1.heap.size := hb1.size
    clear h ha hb1 hW1 HS hnn
    go_enter Tryz.func46, Tryz.ntmps46
    go_upto_region 3 with fail
    go_wp2_with (first | (rw [HW1.out]; clear HW1) | (at_builtin; refine wpList_append_src _ rfl _ _ 22 rfl w.heap.size 43 i0 (.agg #[.string ⟨#[]⟩, .string ⟨#[]⟩]) 2 32 Tryz.underlying22 hi hz0 hz1 hz2 rfl (by decide) _ 0 [] rfl HOWN1.out _ n _ rfl HS1.out HO1.out (by unfold maxLen; omega) (by omega) hsz ?_; intro v2 w2 hown2 hgrow2))
    have HB2 := Lib.hid (HB1.out.grown hgrow2 hsz (fun k hk => (HOWN1.out.lt k hk).1))
    have HO2 := Lib.hid hown2
    clear hown2 hgrow2
    go_wp2_with fail
    go_ret
    exact ⟨_, rfl, by simpa using HO2.out, HB2.out⟩

theorem cellsL_take (l : List (Value × Value)) (k : Nat) : cellsL (l.take k) = (cellsL l).take (k * 2) := by
  induction l generalizing k with
  | nil => simp [cellsL]
  | cons p l ih =>
    cases k with
    | zero => simp [cellsL]
    | succ k => rw [List.take_succ_cons, cellsL_cons, cellsL_cons, ih, show (k + 1) * 2 = k * 2 + 1 + 1 by omega, List.take_succ_cons, List.take_succ_cons]
theorem cellsL_drop (l : List (Value × Value)) (k : Nat) : cellsL (l.drop k) = (cellsL l).drop (k * 2) := by
  induction l generalizing k with
  | nil => simp [cellsL]
  | cons p l ih =>
    cases k with
    | zero => simp [cellsL]
    | succ k => rw [List.drop_succ_cons, cellsL_cons, ih, show (k + 1) * 2 = k * 2 + 1 + 1 by omega, List.drop_succ_cons, List.drop_succ_cons]
theorem step_append_eq {P : Program} {ops : Array Oper} {o : Oper} {a : Act} {w : World} {K : Act → World → Prop} {Q : Exit → Act → World → Prop} {E : Prop}
    (hg : o.guard = none) (s x : Operand) (t : TypeId) (hop : o.op = Op.call { callee := Callee.builtin Builtin.append, args := #[s, x], argTypes := #[t, t] })
    (v u : Value) (hs : a.eval s = v) (hx : a.eval x = u) {v' : Value} {w' : World} (hrun : (Builtin.append_ #[t, t] o.type #[v, u]).run P w = .ok v' w') (hK : K (a.put o.dst v') w') :
    if Region.wanted o (yielded ops a.tmps) = true then Oper.wp P o a w K Q else E := by
  have hw : Region.wanted o (yielded ops a.tmps) = true := by simp [Region.wanted, hg]
  rw [if_pos hw]
  unfold Oper.wp
  simp [execOp, hop, resolve, invoke, builtin, hs, hx, hrun, Result.andThen]
  exact hK
/-- clear of one upload. -/
theorem run_clear_one (w : World) (ty : TypeId) (g o c : Nat) (cur : Array Value) (hg : w.heap[g]? = some (.cells cur 40 (0, 0))) (hl : o + 2 ≤ cur.size) :
    (Builtin.clear_ #[23] ty #[.slice (some ⟨g, o, none⟩) 1 c]).run Tryz.prog w = .ok (.tuple #[]) (w.setRow g (cur.toList.take o ++ [Value.int .i64 0, Value.string ⟨#[]⟩] ++ cur.toList.drop (o + 2)).toArray) := by
  have hst := run_storeCells_at Tryz.prog g o 40 [.int .i64 0, .string ⟨#[]⟩] 0 cur w hg (by simpa using hl) (by intro v hv; simp at hv; rcases hv with rfl | rfl <;> rfl)
  simp only [Nat.add_zero, List.length_cons, List.length_nil] at hst
  have hz : (Builtin.zeroCells (Value.agg #[.int .i64 0, .string ⟨#[]⟩]).cells 1).toList = [Value.int .i64 0, Value.string ⟨#[]⟩] := by kernel_rfl
  simp [Builtin.clear_, run_underlying Tryz.underlying23, hz, hst]
theorem setRow_below {B g : Nat} {w0 w : World} (hb : Below B w0 w) (hBg : B ≤ g) (cs : Array Value) : Below B w0 (w.setRow g cs) := below_setRow hb hBg cs
theorem grownBy_setRow (w : World) (g : Nat) (cs : Array Value) : w.grownBy (w.setRow g cs) (some g) := ⟨rfl, rfl, rfl, by simp [World.setRow], fun k _ hk => setRow_other w g k cs (fun e => hk (by rw [e]))⟩
theorem grownBy_drew {w w' : World} {r : Option Nat} (h : w.grownBy w' r) : w.drew.grownBy w' r := ⟨h.os, h.tape, h.output, h.size, h.block⟩
set_option maxRecDepth 100000 in
set_option maxHeartbeats 4000000 in
/-- slices.Delete of one upload in a row of the call's own. -/
theorem upDelete_t (v : Value) (l : List (Int × ByteArray)) (base k : Nat) (w : World) (hown : w.ownsRow base 40 2 v l.length (cellsL (l.map upCell))) (hk : k < l.length) (hn : l.length ≤ 1000) :
    Calls Tryz.prog 48 #[v, .int .i64 k, .int .i64 ((k + 1 : Nat) : Int)] w fun e w' => ∃ v', e = .returned v' ∧ w'.ownsRow base 40 2 v' (l.length - 1) (cellsL ((l.take k ++ l.drop (k + 1)).map upCell)) ∧ w.grownBy w' v.ownBlock := by
  obtain ⟨i0, hi, hz0, hz1, hz2⟩ := info_parts infoUp
  obtain ⟨hxl, h0 | ⟨g, cap, cur, rfl, hbg, hg, hnc, hcm, hcs, htk⟩⟩ := hown
  · omega
  obtain ⟨n, hnn⟩ : ∃ n, l.length = n := ⟨_, rfl⟩
  obtain ⟨kk, hkk⟩ : ∃ x, k + 1 = x := ⟨_, rfl⟩
  rw [hnn] at hk hn hnc htk ⊢
  rw [hkk]
  obtain ⟨T, hT⟩ : ∃ T, cellsL ((l.drop kk).map upCell) = T := ⟨_, rfl⟩
  have hTl : T.length = (n - kk) * 2 := by rw [← hT, cellsL_length, List.length_map, List.length_drop, hnn]
  have hTT : T = (cur.toList.take (n * 2)).drop (kk * 2) := by rw [← hT, List.map_drop, cellsL_drop, htk]
  have hTk : cellsL ((l.take k).map upCell) = cur.toList.take (k * 2) := by rw [List.map_take, cellsL_take, ← htk, List.take_take, Nat.min_eq_left (by omega)]
  have hone : ∀ u ∈ T, u.oneCell' = true := by rw [← hT]; exact one_ups _
  have hcm' : cap ≤ 9223372036854775807 := by unfold maxLen at hcm; exact hcm
  have hcur : cur.toList.length = cap * 2 := by rw [Array.length_toList]; exact hcs
  -- what is moved, and where it is taken from
  obtain ⟨A, ca, hA, hsrc⟩ : ∃ (A : Addr) (ca : Nat), (if cap = kk then Value.slice (some ⟨g, 0, none⟩) 0 0 else .slice (some ⟨g, kk * 2, none⟩) (n - kk) (cap - kk)) = .slice (some A) (n - kk) ca ∧ (∀ j u, T[j]? = some u → w.drew.cell? (A.add j) = some u) := by
    by_cases hck : cap = kk
    · refine ⟨⟨g, 0, none⟩, 0, by rw [if_pos hck, show n - kk = 0 by omega], fun j u hj => ?_⟩
      have : T = [] := List.length_eq_zero_iff.1 (by rw [hTl]; omega)
      rw [this] at hj; simp at hj
    · refine ⟨⟨g, kk * 2, none⟩, cap - kk, by rw [if_neg hck], fun j u hj => ?_⟩
      have hjl : j < (n - kk) * 2 := by rw [← hTl]; exact (List.getElem?_eq_some_iff.1 hj).1
      rw [hTT, List.getElem?_drop, List.getElem?_take, if_pos (by omega), Array.getElem?_toList] at hj
      rw [add_plain]
      show w.cell? _ = _
      simp [World.cell?, hg, hj]
  obtain ⟨m, hm⟩ : ∃ m, n - kk = m := ⟨_, rfl⟩
  rw [hm] at hTl hA
  have hrun := run_append_room (P := Tryz.prog) w.drew 23 23 40 i0 Tryz.underlying23 hi g k cap cur hg A m ca T (by rw [hz1]; exact hTl) hsrc hone (by omega) (by rw [hz1, hTl, hcs]; omega)
  rw [hz1] at hrun
  obtain ⟨c1, hc1⟩ : ∃ c1, (cur.toList.take (k * 2) ++ T ++ cur.toList.drop (k * 2 + T.length)) = c1 := ⟨_, rfl⟩
  rw [hc1] at hrun
  have hc1l : c1.length = cap * 2 := by rw [← hc1]; simp only [List.length_append, List.length_take, List.length_drop, hcur, hTl]; omega
  obtain ⟨W1, hW1⟩ : ∃ W1, w.drew.setRow g c1.toArray = W1 := ⟨_, rfl⟩
  rw [hW1] at hrun
  have hg1 : W1.heap[g]? = some (.cells c1.toArray 40 (0, 0)) := by rw [← hW1]; exact setRow_heap _ _ cur _ _ _ hg
  have hcl := fun ty c => run_clear_one W1 ty g ((k + m) * 2) c c1.toArray hg1 (by rw [List.size_toArray, hc1l]; omega)
  obtain ⟨c2, hc2⟩ : ∃ c2, (c1.toArray.toList.take ((k + m) * 2) ++ [Value.int .i64 0, .string ⟨#[]⟩] ++ c1.toArray.toList.drop ((k + m) * 2 + 2)) = c2 := ⟨_, rfl⟩
  rw [hc2] at hcl
  obtain ⟨W2, hW2⟩ : ∃ W2, W1.setRow g c2.toArray = W2 := ⟨_, rfl⟩
  rw [hW2] at hcl
  have HOUT := Lib.hid (show W2.ownsRow base 40 2 (.slice (some ⟨g, 0, none⟩) (k + m) cap) (k + m) (cellsL ((l.take k ++ l.drop kk).map upCell)) by
    have hx : cellsL ((l.take k ++ l.drop kk).map upCell) = cur.toList.take (k * 2) ++ T := by rw [List.map_append, cellsL_append, hTk, hT]
    have hxlen : (cur.toList.take (k * 2) ++ T).length = (k + m) * 2 := by rw [List.length_append, List.length_take, hcur, hTl]; omega
    refine ⟨by rw [hx]; exact hxlen, Or.inr ⟨g, cap, c2.toArray, rfl, hbg, by rw [← hW2]; exact setRow_heap _ _ c1.toArray _ _ _ hg1, by omega, hcm, ?_, ?_⟩⟩
    · rw [List.size_toArray, ← hc2]
      simp only [List.length_append, List.length_take, List.length_drop, hc1l, List.length_cons, List.length_nil]
      omega
    · have e1 : c1.take ((k + m) * 2) = cur.toList.take (k * 2) ++ T := by rw [← hc1, ← hxlen]; exact List.take_left
      have e2 : c2.take ((k + m) * 2) = c1.take ((k + m) * 2) := by
        rw [← hc2, List.append_assoc]
        exact List.take_left' (by rw [List.length_take]; simp only [hc1l]; omega)
      rw [hx]
      show c2.take ((k + m) * 2) = _
      rw [e2, e1])
  have HG := Lib.hid (show w.grownBy W2 (some g) by
    rw [← hW2, ← hW1]
    have h1 := grownBy_setRow w.drew g c1.toArray
    have h2 := grownBy_setRow (w.drew.setRow g c1.toArray) g c2.toArray
    exact ⟨h2.os.trans h1.os, h2.tape.trans h1.tape, h2.output.trans h1.output, Nat.le_trans h1.size h2.size, fun j hj hne => (h2.block j (Nat.lt_of_lt_of_le hj h1.size) hne).trans (h1.block j hj hne)⟩)
  obtain ⟨r, hr⟩ : ∃ r, k + m = r := ⟨_, rfl⟩
  rw [hr] at hrun hcl HOUT
  have hkm : r + 1 = n := by omega
  have h1 : n - r = 1 := by omega
  rw [← h1] at hcl
  have HRUN := Lib.hid hrun
  have HF := Lib.hid (show r = n - 1 by omega)
  have hkc : k ≤ cap := by omega
  have hki : (k : Int) + 1 = (kk : Int) := by omega
  have hkkn : kk ≤ n := by omega
  have hne : ¬ cap = r := by omega
  have hrc : r ≤ n := by omega
  clear hg hTT hTk hTl hT hone hsrc hc1 hc1l hW1 hg1 hc2 hW2 hcs htk hcur hxl hrun hcm h1 hr
  go_enter Tryz.func48, Tryz.ntmps48
  go_upto_region 5 with fail
  by_cases hck : cap = kk
  · rw [if_pos hck] at hA
    simp only [Value.slice.injEq, Option.some.injEq] at hA
    obtain ⟨rfl, rfl, rfl⟩ := hA
    subst hck
    go_region_law (refine step_append_eq rfl (.tmp 22) (.tmp 25) 23 rfl _ _ (by simp [Act.eval, Act.put]) (by simp [Act.eval, Act.put]) HRUN.out ?_)
    go_wp2_with fail
    go_ret
    exact ⟨_, rfl, by rw [← HF.out]; exact HOUT.out, HG.out⟩
  · rw [if_neg hck] at hA
    simp only [Value.slice.injEq, Option.some.injEq] at hA
    obtain ⟨rfl, -, rfl⟩ := hA
    go_region_law (refine step_append_eq rfl (.tmp 22) (.tmp 25) 23 rfl _ _ (by simp [Act.eval, Act.put]) (by simp [Act.eval, Act.put]) HRUN.out ?_)
    go_wp2_with fail
    go_ret
    exact ⟨_, rfl, by rw [← HF.out]; exact HOUT.out, HG.out⟩
end Go.Proofs.YtodjhmphneoifaaGreatDoor
/-! The program's copied and dropped of blobs, by contracts. Conditions: few objects and uploads. -/
namespace Go.Proofs.YtodjhmphneoifaaGreatDoor
open Go.RowKit Go.WideShapes

theorem Below.keepf {w w' : World} {p : Addr} (h : Below w.heap.size w w') (hp : p.block < w.heap.size) (hf : w.frozen? p = false) : w'.frozen? p = false := by
  have := h.block p.block hp
  simpa [World.frozen?, this] using hf
theorem At4.at02 {t : TypeId} {w : World} {B : Nat} {a b c d : Value} (h : At4 t w B a b c d) (x y : Value) : At4 t ((w.setCell ⟨B, 0, none⟩ x).setCell ⟨B, 2, none⟩ y) B x b y d := (h.at0 x).at2 y
theorem At4.at20 {t : TypeId} {w : World} {B : Nat} {a b c d : Value} (h : At4 t w B a b c d) (x y : Value) : At4 t ((w.setCell ⟨B, 2, none⟩ y).setCell ⟨B, 0, none⟩ x) B x b y d := (h.at2 y).at0 x
theorem two_same {w : World} {B i j g : Nat} (hg : g ≠ B) (x y : Value) : ((w.setCell ⟨B, i, none⟩ x).setCell ⟨B, j, none⟩ y).heap[g]? = w.heap[g]? := by
  rw [Below.heap_setCell _ _ _ _ hg, Below.heap_setCell _ _ _ _ hg]
/-- The end of copied. -/
theorem copied_end {w W w2 w3 w4 : World} {b : Blb} {vO vU o0 u0 : Value} {q l : Int} (hv : BlbAt w (.agg #[o0, .int .i64 q, u0, .int .i64 l]) b) (hW : W.heap.size = w.heap.size + 2)
    (hB : Below w.heap.size w W) (hb2 : Below W.heap.size W w2) (hown : w2.ownsRow W.heap.size 43 2 vO b.objs.length (cellsL (b.objs.map objCell)))
    (hb3 : Below w2.heap.size w2 w3) (hown3 : w3.ownsRow W.heap.size 40 2 vU b.ups.length (cellsL (b.ups.map upCell)))
    (h4 : ∀ g, g ≠ w.heap.size → w4.heap[g]? = w3.heap[g]?) (hb4 : Below w.heap.size w3 w4) :
    ∃ v', Ending.returned (.agg #[vO, .int .i64 q, vU, .int .i64 l]) = .returned v' ∧ OwnBlb (set4 w4 (w.heap.size + 1) vO (.int .i64 q) vU (.int .i64 l)) w.heap.size v' b ∧ Below w.heap.size w (set4 w4 (w.heap.size + 1) vO (.int .i64 q) vU (.int .i64 l)) := by
  obtain ⟨-, -, e1, e2⟩ := hv.parts
  simp only [Value.int.injEq, true_and] at e1 e2
  subst e1
  subst e2
  have hs : ∀ g, W.heap.size ≤ g → (set4 w4 (w.heap.size + 1) vO (.int .i64 b.quota) vU (.int .i64 b.last)).heap[g]? = w3.heap[g]? := fun g hg => by
    rw [set4_block _ _ _ _ _ _ _ (by omega), h4 g (by omega)]
  refine ⟨_, rfl, ⟨⟨_, _, rfl, own_base (own_same (own_keep hown hb3) hs) (by omega), own_base (own_same hown3 hs) (by omega)⟩, hv.objs, hv.ups, hv.quota, hv.last⟩, ?_⟩
  exact set4_below ((Below.then hB (Below.then hb2 hb3)).trans hb4) (Nat.le_succ _) _ _ _ _

set_option maxRecDepth 100000 in
set_option maxHeartbeats 4000000 in
theorem copied_t (v : Value) (b : Blb) (w : World) (h : BlbAt w v b) (hn : b.objs.length ≤ 1000) (hm : b.ups.length ≤ 1000) :
    Calls Tryz.prog 33 #[v] w fun e w' => ∃ v', e = .returned v' ∧ OwnBlb w' w.heap.size v' b ∧ Below w.heap.size w w' := by
  have HV := Lib.hid h
  have hp := h
  obtain ⟨a, n, c, q, a', m, c', l, rfl⟩ := h.four
  have hpp := hp.parts
  obtain ⟨W, hW⟩ : ∃ W, (w.alloc (.cells #[.slice a n c, .int .i64 q, .slice a' m c', .int .i64 l] 25)).alloc (.cells #[nilV, zeroV, nilV, zeroV] 25) = W := ⟨_, rfl⟩
  have HB := Lib.hid (show Below w.heap.size w W by rw [← hW]; exact Below.then (below_new _ _) (below_new _ _))
  have HA := Lib.hid (show At4 25 W w.heap.size (.slice a n c) (.int .i64 q) (.slice a' m c') (.int .i64 l) by rw [← hW]; exact (At4.new _ _ _ _ _ _).keep (below_new _ _))
  have HR := Lib.hid (show At4 25 W (w.heap.size + 1) nilV zeroV nilV zeroV by
    rw [← hW]
    have e := At4.new 25 (w.alloc (.cells #[.slice a n c, .int .i64 q, .slice a' m c', .int .i64 l] 25)) nilV zeroV nilV zeroV
    rwa [World.size_alloc] at e)
  have HSZ := Lib.hid (show W.heap.size = w.heap.size + 2 by rw [← hW]; simp)
  have OC := Lib.hid (fun w' (hb : Below W.heap.size W w') => objClone_t _ b.objs w' (hpp.1.keep (Below.then HB.out hb)) hn)
  have UC := Lib.hid (fun w' (hb : Below W.heap.size W w') => upClone_t _ b.ups w' (hpp.2.1.keep (Below.then HB.out hb)) hm)
  have HW := Lib.hid hW
  clear hW h hp hpp hn hm
  go_enter Tryz.func33, Tryz.ntmps33
  go_upto_region 1 with fail
  rw [HW.out]
  obtain ⟨a0, a1, a2, a3⟩ := HA.out.cells
  obtain ⟨f0, f1, f2, f3⟩ := HA.out.free
  have hbA := Below.refl W.heap.size W
  have hbO : Below W.heap.size W W := Below.refl W.heap.size W
  go_region_law (first
    | (go_simp; go_at_call 46; refine (OC.out _ (by first | exact hbA | exact hbA.drew)).mono ?_; rintro e wO ⟨vO, rfl, hownO, hbO⟩; have hbA : Below W.heap.size W wO := (by first | exact Below.then hbA hbO | exact Below.then hbA.drew hbO); obtain ⟨sO, kO, rfl⟩ := own_shape hownO; obtain ⟨a0, a1, a2, a3⟩ := (HA.out.keep hbA).cells; obtain ⟨f0, f1, f2, f3⟩ := (HA.out.keep hbA).free)
    | (go_simp; go_at_call 47; refine (UC.out _ hbA).mono ?_; rintro e wU ⟨vU, rfl, hownU, hbU⟩; have hbB : Below W.heap.size W wU := Below.then hbA hbU; obtain ⟨sU, kU, rfl⟩ := own_shape hownU; obtain ⟨a0, a1, a2, a3⟩ := (HA.out.keep hbB).cells; obtain ⟨f0, f1, f2, f3⟩ := (HA.out.keep hbB).free))
  all_goals
    have HO2 := Lib.hid (show wO.ownsRow W.heap.size 43 2 (.slice sO b.objs.length kO) b.objs.length (cellsL (b.objs.map objCell)) from hownO)
    have HO3 := Lib.hid (own_base hownU hbA.size)
    have HB2 := Lib.hid hbA
    have HB3 := Lib.hid hbU
    have HAB := Lib.hid hbB
    have HA3 := Lib.hid (HA.out.keep hbB)
    have HR3 := Lib.hid (HR.out.keep hbB)
    clear hownO hownU hbA hbU hbB a0 a1 a2 a3 f0 f1 f2 f3 hbO
    go_upto_region 2 with fail
    first
      | (obtain ⟨w4, hw4⟩ : ∃ x, (wU.setCell ⟨w.heap.size, 0, none⟩ (.slice sO b.objs.length kO)).setCell ⟨w.heap.size, 2, none⟩ (.slice sU b.ups.length kU) = x := ⟨_, rfl⟩
         rw [hw4]
         have HA4 := Lib.hid (show At4 25 w4 w.heap.size (.slice sO b.objs.length kO) (.int .i64 q) (.slice sU b.ups.length kU) (.int .i64 l) by rw [← hw4]; exact HA3.out.at02 _ _)
         have HR4 := Lib.hid (show At4 25 w4 (w.heap.size + 1) nilV zeroV nilV zeroV by rw [← hw4]; exact (HR3.out.other (by omega) _).other (by omega) _)
         have HS4 := Lib.hid (show ∀ g, g ≠ w.heap.size → w4.heap[g]? = wU.heap[g]? by rw [← hw4]; exact fun g hg => two_same hg _ _)
         have HB4 := Lib.hid (show Below w.heap.size wU w4 by rw [← hw4]; exact ((Below.refl _ _).setCell (p := ⟨w.heap.size, 0, none⟩) (Nat.le_refl _) _).setCell (p := ⟨w.heap.size, 2, none⟩) (Nat.le_refl _) _)
         clear hw4)
      | (obtain ⟨w4, hw4⟩ : ∃ x, (wU.setCell ⟨w.heap.size, 2, none⟩ (.slice sU b.ups.length kU)).setCell ⟨w.heap.size, 0, none⟩ (.slice sO b.objs.length kO) = x := ⟨_, rfl⟩
         rw [hw4]
         have HA4 := Lib.hid (show At4 25 w4 w.heap.size (.slice sO b.objs.length kO) (.int .i64 q) (.slice sU b.ups.length kU) (.int .i64 l) by rw [← hw4]; exact HA3.out.at20 _ _)
         have HR4 := Lib.hid (show At4 25 w4 (w.heap.size + 1) nilV zeroV nilV zeroV by rw [← hw4]; exact (HR3.out.other (by omega) _).other (by omega) _)
         have HS4 := Lib.hid (show ∀ g, g ≠ w.heap.size → w4.heap[g]? = wU.heap[g]? by rw [← hw4]; exact fun g hg => two_same hg _ _)
         have HB4 := Lib.hid (show Below w.heap.size wU w4 by rw [← hw4]; exact ((Below.refl _ _).setCell (p := ⟨w.heap.size, 2, none⟩) (Nat.le_refl _) _).setCell (p := ⟨w.heap.size, 0, none⟩) (Nat.le_refl _) _)
         clear hw4)
    obtain ⟨a0, a1, a2, a3⟩ := HA4.out.cells
    obtain ⟨r0, r1, r2, r3⟩ := HR4.out.cells
    obtain ⟨f0, f1, f2, f3⟩ := HR4.out.free
    go_wp2_with fail
    exact bodyPost_ret (results_cell_row (p := 2) rfl _ _ (w.heap.size + 1) 25 _ (0, 0) _ rfl (HR4.out.set _ _ _ _) Tryz.underlying25 rfl infoBlb) rfl (copied_end HV.out HSZ.out HB.out HB2.out HO2.out HB3.out HO3.out HS4.out HB4.out)
end Go.Proofs.YtodjhmphneoifaaGreatDoor
/-! The program's dropped of blobs, by a contract. Conditions: there is such an upload; few objects and uploads. -/
namespace Go.Proofs.YtodjhmphneoifaaGreatDoor
open Go.RowKit Go.WideShapes

theorem OwnBlb.shape {w : World} {base : Nat} {v : Value} {b : Blb} (h : OwnBlb w base v b) : ∃ sO kO sU kU, v = .agg #[.slice sO b.objs.length kO, .int .i64 b.quota, .slice sU b.ups.length kU, .int .i64 b.last] ∧
    w.ownsRow base 43 2 (.slice sO b.objs.length kO) b.objs.length (cellsL (b.objs.map objCell)) ∧ w.ownsRow base 40 2 (.slice sU b.ups.length kU) b.ups.length (cellsL (b.ups.map upCell)) := by
  obtain ⟨⟨ov, uv, rfl, h1, h2⟩, -⟩ := h
  obtain ⟨sO, kO, rfl⟩ := own_shape h1
  obtain ⟨sU, kU, rfl⟩ := own_shape h2
  exact ⟨sO, kO, sU, kU, rfl, h1, h2⟩
theorem At4.grown {t : TypeId} {w w' : World} {B : Nat} {a b c d : Value} {ob : Option Nat} (h : At4 t w B a b c d) (hg : w.grownBy w' ob) (hne : ∀ g, ob = some g → g ≠ B) : At4 t w' B a b c d :=
  (hg.block B h.lt (fun e => hne B e.symm rfl)).trans h
theorem objNeUp : 43 ≠ 40 := by decide
theorem dropped_end {w W w1 w2 w3 w4 : World} {b : Blb} {k m : Nat} {o vU u2 : Value}
    (hv : OwnBlb w1 W.heap.size (.agg #[o, .int .i64 b.quota, vU, .int .i64 b.last]) b) (hW : W.heap.size = w.heap.size + 2)
    (hB : Below w.heap.size w W) (hb1 : Below W.heap.size W w1) (hm : b.ups.length = m) (hk : k < m)
    (h2 : ∀ g, g ≠ w.heap.size → w2.heap[g]? = w1.heap[g]?) (hb2 : Below w.heap.size w1 w2)
    (hown3 : w3.ownsRow W.heap.size 40 2 u2 (m - 1) (cellsL ((b.ups.take k ++ b.ups.drop (k + 1)).map upCell))) (hg3 : w2.grownBy w3 vU.ownBlock)
    (h4 : ∀ g, g ≠ w.heap.size → w4.heap[g]? = w3.heap[g]?) (hb4 : Below w.heap.size w3 w4) :
    ∃ v', Ending.returned (.agg #[o, .int .i64 b.quota, u2, .int .i64 b.last]) = .returned v' ∧ OwnBlb (set4 w4 (w.heap.size + 1) o (.int .i64 b.quota) u2 (.int .i64 b.last)) w.heap.size v' (withoutB b k) ∧ Below w.heap.size w (set4 w4 (w.heap.size + 1) o (.int .i64 b.quota) u2 (.int .i64 b.last)) := by
  obtain ⟨⟨o', u', e, ho, hu⟩, hz1, hz2, hz3, hz4⟩ := hv
  simp only [Value.agg.injEq, Array.mk.injEq, List.cons.injEq, and_true, true_and] at e
  obtain ⟨rfl, rfl⟩ := e
  have hs : ∀ g, W.heap.size ≤ g → (set4 w4 (w.heap.size + 1) o (.int .i64 b.quota) u2 (.int .i64 b.last)).heap[g]? = w3.heap[g]? := fun g hg => by
    rw [set4_block _ _ _ _ _ _ _ (by omega), h4 g (by omega)]
  have ho2 := own_same ho fun g hg => h2 g (by omega)
  have hu2 := own_same hu fun g hg => h2 g (by omega)
  have ho3 := own_grown ho2 hu2 objNeUp hg3
  have hB3 : Below w.heap.size w w3 := own_grown_lt hu2 hg3 w w.heap.size ((Below.then hB hb1).trans hb2) (by omega) (by have := (Below.then hB hb1).size; have := hb2.size; omega)
  refine ⟨_, rfl, ⟨⟨_, _, rfl, own_base (own_same ho3 hs) (by omega), ?_⟩, hz1, fun u hu => hz2 u ?_, hz3, hz4⟩, set4_below (hB3.trans hb4) (Nat.le_succ _) _ _ _ _⟩
  · have := own_base (own_same hown3 hs) (show w.heap.size ≤ W.heap.size by omega)
    have hl : (withoutB b k).ups.length = m - 1 := by
      show (b.ups.take k ++ b.ups.drop (k + 1)).length = _
      rw [List.length_append, List.length_take, List.length_drop, hm]; omega
    rw [hl]
    exact this
  · rcases List.mem_append.1 hu with hu | hu
    · exact List.mem_of_mem_take hu
    · exact List.mem_of_mem_drop hu

set_option maxRecDepth 100000 in
set_option maxHeartbeats 4000000 in
theorem dropped_t (v : Value) (b : Blb) (k : Nat) (w : World) (h : BlbAt w v b) (hk : k < b.ups.length) (hn : b.objs.length ≤ 1000) (hm : b.ups.length ≤ 1000) :
    Calls Tryz.prog 35 #[v, .int .i64 k] w fun e w' => ∃ v', e = .returned v' ∧ OwnBlb w' w.heap.size v' (withoutB b k) ∧ Below w.heap.size w w' := by
  have CP := Lib.hid (fun w' (hb : Below w.heap.size w w') => copied_t v b w' (h.keep hb) hn hm)
  obtain ⟨a, n, c, q, a', m', c', l, rfl⟩ := h.four
  obtain ⟨W, hW⟩ : ∃ W, (w.alloc (.cells #[.slice a n c, .int .i64 q, .slice a' m' c', .int .i64 l] 25)).alloc (.cells #[nilV, zeroV, nilV, zeroV] 25) = W := ⟨_, rfl⟩
  have HB := Lib.hid (show Below w.heap.size w W by rw [← hW]; exact Below.then (below_new _ _) (below_new _ _))
  have HA := Lib.hid (show At4 25 W w.heap.size (.slice a n c) (.int .i64 q) (.slice a' m' c') (.int .i64 l) by rw [← hW]; exact (At4.new _ _ _ _ _ _).keep (below_new _ _))
  have HR := Lib.hid (show At4 25 W (w.heap.size + 1) nilV zeroV nilV zeroV by
    rw [← hW]
    have e := At4.new 25 (w.alloc (.cells #[.slice a n c, .int .i64 q, .slice a' m' c', .int .i64 l] 25)) nilV zeroV nilV zeroV
    rwa [World.size_alloc] at e)
  have HSZ := Lib.hid (show W.heap.size = w.heap.size + 2 by rw [← hW]; simp)
  have CP1 := Lib.hid (CP.out W HB.out)
  obtain ⟨m, hmm⟩ : ∃ m, b.ups.length = m := ⟨_, rfl⟩
  obtain ⟨kk, hkk⟩ : ∃ kk, k + 1 = kk := ⟨_, rfl⟩
  have hki : (k : Int) + 1 = (kk : Int) := by omega
  have DL := Lib.hid (fun vU w' hown => upDelete_t vU b.ups W.heap.size k w' hown hk hm)
  rw [hkk] at DL
  rw [hmm] at hk hm DL
  have HN := Lib.hid (And.intro hmm (And.intro hkk hk))
  have HW := Lib.hid hW
  have hk63 : (k : Int) ≤ 1000 := by omega
  clear hW h CP hmm hkk hk hm hn
  go_enter Tryz.func35, Tryz.ntmps35
  go_upto_region 1 with fail
  rw [HW.out]
  obtain ⟨a0, a1, a2, a3⟩ := HA.out.cells
  go_wp2_with fail
  refine CP1.out.mono ?_
  rintro e w1 ⟨v1, rfl, hv1, hb1⟩
  obtain ⟨sO, kO, sU, kU, rfl, -, -⟩ := hv1.shape
  rw [HN.out.1] at hv1 ⊢
  have HV1 := Lib.hid hv1
  have HB1 := Lib.hid hb1
  have HA1 := Lib.hid (HA.out.keep hb1)
  have HR1 := Lib.hid (HR.out.keep hb1)
  clear hv1 hb1 a0 a1 a2 a3 CP1
  obtain ⟨a0, a1, a2, a3⟩ := HA1.out.cells
  obtain ⟨f0, f1, f2, f3⟩ := HA1.out.free
  obtain ⟨no, hno⟩ : ∃ no, b.objs.length = no := ⟨_, rfl⟩
  rw [hno] at HV1 ⊢
  obtain ⟨bq, hbq⟩ : ∃ x, b.quota = x := ⟨_, rfl⟩
  obtain ⟨bl, hbl⟩ : ∃ x, b.last = x := ⟨_, rfl⟩
  rw [hbq, hbl] at HV1 ⊢
  have HQ := Lib.hid (And.intro hbq hbl)
  clear hno hbq hbl
  go_upto_region 2 with fail
  obtain ⟨w2, hw2⟩ : ∃ x, (((w1.setCell ⟨w.heap.size, 0, none⟩ (.slice sO no kO)).setCell ⟨w.heap.size, 1, none⟩ (.int .i64 bq)).setCell ⟨w.heap.size, 2, none⟩ (.slice sU m kU)).setCell ⟨w.heap.size, 3, none⟩ (.int .i64 bl) = x := ⟨_, rfl⟩
  rw [hw2]
  have HA2 := Lib.hid (show At4 25 w2 w.heap.size (.slice sO no kO) (.int .i64 bq) (.slice sU m kU) (.int .i64 bl) by rw [← hw2]; exact HA1.out.set _ _ _ _)
  have HS2 := Lib.hid (show ∀ g, g ≠ w.heap.size → w2.heap[g]? = w1.heap[g]? by rw [← hw2]; exact fun g hg => set4_block w1 w.heap.size g (.slice sO no kO) (.int .i64 bq) (.slice sU m kU) (.int .i64 bl) hg)
  have HB2 := Lib.hid (show Below w.heap.size w1 w2 by rw [← hw2]; exact set4_below (Below.refl _ _) (Nat.le_refl _) (.slice sO no kO) (.int .i64 bq) (.slice sU m kU) (.int .i64 bl))
  clear hw2 a0 a1 a2 a3 f0 f1 f2 f3
  obtain ⟨a0, a1, a2, a3⟩ := HA2.out.cells
  have DL1 := Lib.hid (DL.out (.slice sU m kU) w2 (by
    obtain ⟨⟨o', u', e, -, hu⟩, -⟩ := HV1.out
    simp only [Value.agg.injEq, Array.mk.injEq, List.cons.injEq, and_true] at e
    rw [← e.2.2.1, HN.out.1] at hu
    exact own_same hu fun g hg => HS2.out g (by have := HSZ.out; omega)))
  clear DL
  have HNE := Lib.hid (show ∀ g, (Value.slice sU m kU).ownBlock = some g → W.heap.size ≤ g from fun g hg => by
    obtain ⟨⟨o', u', e, -, hu⟩, -⟩ := HV1.out
    simp only [Value.agg.injEq, Array.mk.injEq, List.cons.injEq, and_true] at e
    rw [← e.2.2.1] at hu
    exact (own_lt hu hg).1)
  have HR2 := Lib.hid (show At4 25 w2 (w.heap.size + 1) nilV zeroV nilV zeroV from (HS2.out (w.heap.size + 1) (by omega)).trans HR1.out)
  go_wp2_with fail
  refine DL1.out.mono ?_
  rintro e w3 ⟨u2, rfl, hown3, hg3⟩
  obtain ⟨s2, k2, rfl⟩ := own_shape hown3
  have HO3 := Lib.hid hown3
  have HG3 := Lib.hid hg3
  have HA3 := Lib.hid (HA2.out.grown hg3 fun g hg => by have := HNE.out g hg; have := HSZ.out; omega)
  have HR3 := Lib.hid (HR2.out.grown hg3 fun g hg => by have := HNE.out g hg; have := HSZ.out; omega)
  clear hown3 hg3 a0 a1 a2 a3 DL1
  obtain ⟨a0, a1, a2, a3⟩ := HA3.out.cells
  obtain ⟨f0, f1, f2, f3⟩ := HA3.out.free
  go_upto_region 3 with fail
  obtain ⟨w4, hw4⟩ : ∃ x, w3.setCell ⟨w.heap.size, 2, none⟩ (.slice s2 (m - 1) k2) = x := ⟨_, rfl⟩
  rw [hw4]
  have HA4 := Lib.hid (show At4 25 w4 w.heap.size (.slice sO no kO) (.int .i64 bq) (.slice s2 (m - 1) k2) (.int .i64 bl) by rw [← hw4]; exact HA3.out.at2 _)
  have HR4 := Lib.hid (show At4 25 w4 (w.heap.size + 1) nilV zeroV nilV zeroV by rw [← hw4]; exact HR3.out.other (by omega) _)
  have HS4 := Lib.hid (show ∀ g, g ≠ w.heap.size → w4.heap[g]? = w3.heap[g]? by rw [← hw4]; exact fun g hg => Below.heap_setCell _ _ _ _ hg)
  have HB4 := Lib.hid (show Below w.heap.size w3 w4 by rw [← hw4]; exact (Below.refl _ _).setCell (p := ⟨w.heap.size, 2, none⟩) (Nat.le_refl _) _)
  clear hw4 a0 a1 a2 a3 f0 f1 f2 f3
  obtain ⟨a0, a1, a2, a3⟩ := HA4.out.cells
  obtain ⟨r0, r1, r2, r3⟩ := HR4.out.cells
  obtain ⟨f0, f1, f2, f3⟩ := HR4.out.free
  go_wp2_with fail
  exact bodyPost_ret (results_cell_row (p := 4) rfl _ _ (w.heap.size + 1) 25 _ (0, 0) _ rfl (HR4.out.set _ _ _ _) Tryz.underlying25 rfl infoBlb) rfl (by
    obtain ⟨hq1, hl1⟩ := HQ.out
    obtain ⟨hm1, hk1, hk2⟩ := HN.out
    have hv := HV1.out
    have ho := HO3.out
    subst hq1
    subst hl1
    subst hk1
    exact dropped_end hv HSZ.out HB.out HB1.out hm1 hk2 HS2.out HB2.out ho HG3.out HS4.out HB4.out)
end Go.Proofs.YtodjhmphneoifaaGreatDoor
