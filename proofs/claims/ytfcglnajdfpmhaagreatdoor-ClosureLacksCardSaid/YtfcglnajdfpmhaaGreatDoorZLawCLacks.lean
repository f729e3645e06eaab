/-
  ClosureLacks' walk: it answers true. Conditions: what comes in reads as objects; the package-level variables as MEnv says.
-/
import Derived.Test.YtfcglnajdfpmhaaGreatDoorZClo3
import Derived.Test.YtfcglnajdfpmhaaGreatDoorZClo4
import Derived.Deep.CutBlock
import Derived.Deep.CutRange
import Derived.Deep.DeepCutAuto
import Derived.Deep.RegionWith
import Derived.BigQuiet
namespace Go.Proofs.YtfcglnajdfpmhaaGreatDoor
open Go.RowKit Go.WideShapes

theorem OwnO.cells {w : World} {B g n c : Nat} {l : List Obj} (h : OwnO w B (.slice (some ⟨g, 0, none⟩) n c) n l) (k : Nat) (hk : k < l.length) : w.cell? ⟨g, k * 2, none⟩ = some (.string l[k].1) ∧ w.cell? ⟨g, k * 2 + 1, none⟩ = some (.string l[k].2) := by
  have h1 := cellsL_at (l.map objCell) k (by rw [List.length_map]; exact hk)
  rw [obj_getElem l k hk] at h1
  exact ⟨(own_cell h.own h1.1).1, (own_cell h.own h1.2).1⟩
theorem fullL_none (d : ByteArray) : fullL [] d = 9 := by
  have he : errO [] d = 9 := errO_none rfl
  have hw : walkL [] 4 noWk d = .error 9 := by rw [walkL_bad (by simp [noWk]) (by rw [he]; decide), he]
  unfold fullL; rw [hw]
theorem ObjsFew.filter {l : List Obj} (h : ObjsFew l) (p : Obj → Bool) : ObjsFew (l.filter p) :=
  ⟨Nat.le_trans (List.length_filter_le _ _) h.len, fun o ho => h.size o (List.mem_filter.1 ho).1⟩
theorem rem_place (i : Int) (n : Nat) (hn : 0 < n) (h12 : n ≤ 12) : ∃ j : Nat, j < n ∧ Int.tmod (wrap64 (Int.tmod i n + n)) n = j := by
  have h1 : (Int.tmod i n).natAbs < n := by
    rw [Int.natAbs_tmod]
    exact Nat.mod_lt _ (by simpa using hn)
  have h0 : wrap64 (Int.tmod i n + n) = Int.tmod i n + n := by unfold wrap64; omega
  rw [h0]
  have h2 := Int.tmod_nonneg (a := Int.tmod i n + n) (n : Int) (by omega)
  have h3 := Int.tmod_lt_of_pos (Int.tmod i n + n) (b := (n : Int)) (by omega)
  exact ⟨(Int.tmod (Int.tmod i n + n) n).toNat, by omega, by omega⟩

set_option maxRecDepth 100000 in
set_option maxHeartbeats 8000000 in
theorem clacks_walk (la : List Obj) (d : ByteArray) (i : Int) (va : Value) (w : World) (he : MEnv w) (ha : ObjsAt w va la) :
    Calls Tryz.prog 11 #[va, .string d, .int .i64 i] w fun e w' => e = .returned (.bool true) ∧ Below w.heap.size w w' := by
  have CA := Lib.hid (few06_t va la w ha)
  obtain ⟨aa, ac, rfl, -, -⟩ := ha.shape
  have hlA := fewO_len la
  have hfA := fewO_few la
  obtain ⟨na, hna⟩ : ∃ n, la.length = n := ⟨_, rfl⟩
  rw [hna] at CA ⊢
  unfold FewEnds at CA
  obtain ⟨A, hA⟩ : ∃ x, fewO la = x := ⟨_, rfl⟩
  rw [hA] at hlA hfA CA
  have HFA := Lib.hid hfA
  have HE := Lib.hid he
  have AL := Lib.hid (fun w' (h : Below w.heap.size w w') => aliveC_t w' (he.below h))
  clear ha hna hA hfA he
  go_enter Tryz.func11, Tryz.ntmps11
  go_wp2_with fail
  refine CA.out.mono ?_
  rintro e w2 ⟨v1, n, rfl, ho1, hb2⟩
  have hl1 := ho1.len
  obtain ⟨a1, c1, rfl, hn1, hc1⟩ := ho1.shape
  have HB2 := Lib.hid hb2
  have OF := Lib.hid (of_t _ A d w2 (HE.out.below hb2) ho1.objs HFA.out)
  unfold OfEnds at OF
  have HO2 := Lib.hid ho1
  obtain ⟨⟨t, k0⟩, ht⟩ : ∃ x, ofL A d = x := ⟨_, rfl⟩
  rw [ht] at OF
  have HT := Lib.hid ht
  clear ho1 hb2 ht
  go_wp2_with fail
  refine OF.out.mono ?_
  rintro e w3 ⟨mv, bv, nm, nb, rfl, hom, hob, hb3⟩
  have hlm := hom.len
  have hlb := hob.len
  obtain ⟨ma, mc, rfl, -, -⟩ := hom.shape
  obtain ⟨ba, bc, rfl, -, -⟩ := hob.shape
  obtain ⟨W4, hW4⟩ : ∃ x, w3.alloc (.cells #[.slice ma nm mc, .slice ba nb bc] 47) = x := ⟨_, rfl⟩
  have hb4 : Below w3.heap.size w3 W4 := by rw [← hW4]; exact below_new _ _
  have hZ : At2 47 W4 w3.heap.size (.slice ma nm mc) (.slice ba nb bc) := by rw [← hW4]; exact At2.new _ _ _ _
  have HW4 := Lib.hid hW4
  have HB4 := Lib.hid (Below.then HB2.out (Below.then hb3 hb4))
  have HO4 := Lib.hid (HO2.out.keep (Below.then hb3 hb4))
  have HM4 := Lib.hid (hom.keep hb4)
  have HS4 := Lib.hid (hob.keep hb4)
  have HZ := Lib.hid hZ
  have WA := Lib.hid (cloWhole_t _ A d W4 (HE.out.below HB4.out) HO4.out.objs HFA.out)
  obtain ⟨x, hx⟩ : ∃ x, fullL A d = x := ⟨_, rfl⟩
  rw [hx] at WA
  have HX := Lib.hid hx
  clear hom hob hb3 hb4 hW4 hZ hx
  go_upto_region 3 with fail
  rw [HW4.out]
  by_cases h0 : x = 0
  rotate_left
  · have q : (x != 0) = true := bne_iff_ne.2 h0
    clear h0
    go_wp2_with fail
    refine WA.out.mono ?_
    rintro e w4 ⟨rfl, hb4⟩
    have HB5 := Lib.hid (Below.then HB4.out hb4)
    clear hb4
    go_wp2_with fail
    refine (AL.out w4 HB5.out).mono ?_
    rintro e w5 ⟨rfl, hb5⟩
    have HB6 := Lib.hid (Below.then HB5.out hb5)
    clear hb5
    go_wp2_with fail
    go_ret
    exact ⟨rfl, HB6.out⟩
  subst h0
  have hpos : 0 < n := by
    rcases Nat.eq_zero_or_pos n with h | h
    · have hA0 : A = [] := List.length_eq_zero_iff.1 (hl1.trans h)
      have := HX.out
      rw [hA0, fullL_none] at this
      exact absurd this (by decide)
    · exact h
  have hn12 : n ≤ 12 := by omega
  have q1 : ((n : Int) == 0) = false := beq_eq_false_iff_ne.2 (by omega)
  obtain ⟨g, rfl, -, -⟩ := own_some HO4.out.own hpos
  obtain ⟨tt, htt, -⟩ := fullL_ok.1 HX.out
  have ht0 := HT.out
  rw [ofL_ok htt] at ht0
  simp only [Prod.mk.injEq] at ht0
  obtain ⟨rfl, rfl⟩ := ht0
  have HLK := Lib.hid (fun g => fullL_lacks (g := g) HX.out htt)
  obtain ⟨j, hj, hje⟩ := rem_place i n hpos hn12
  obtain ⟨Z, hZZ⟩ : ∃ Z, w3.heap.size = Z := ⟨_, rfl⟩
  rw [hZZ] at HZ ⊢
  have HLEN := Lib.hid hl1
  have HLM := Lib.hid hlm
  have HLB := Lib.hid hlb
  have hjA : j < A.length := by omega
  go_upto_region 6 with (go_at_call 30; refine WA.out.mono ?_; rintro e w5 ⟨rfl, hb5⟩; have HK5 := Lib.hid hb5; clear hb5)
  try rw [hje]
  have HB5 := Lib.hid (Below.then HB4.out HK5.out)
  have HO5 := Lib.hid (HO4.out.keep HK5.out)
  have HM5 := Lib.hid (HM4.out.keep HK5.out)
  have HS5 := Lib.hid (HS4.out.keep HK5.out)
  have HZ5 := Lib.hid (HZ.out.keep HK5.out)
  obtain ⟨g0, -⟩ := HO5.out.cells j hjA
  obtain ⟨G, hG⟩ : ∃ G, A[j].1 = G := ⟨_, rfl⟩
  rw [hG] at g0
  have HLG := Lib.hid (HLK.out G)
  have HTN := Lib.hid (walkL_len A 4 noWk d tt htt)
  clear HLK hG hjA hl1 hlm hlb hZZ htt HT hje
  go_wp2_with fail
  go_loopw [10, 52] (fun kv iv wr => ∃ (k n' : Nat), k ≤ n ∧ n' ≤ k ∧ iv = .int .i64 k ∧ OwnO wr w5.heap.size kv n' ((A.take k).filter fun o => decide (o.1 ≠ G)) ∧ Below w5.heap.size w5 wr) (fun _ i _ => n - (intOf i).toNat)
  case atStart => exact ⟨0, 0, Nat.zero_le _, Nat.le_refl _, rfl, ⟨rfl, World.ownsRow_nil _ _ _ _, (fun o h => by cases h)⟩, Below.refl _ _⟩
  case round =>
    obtain ⟨k, n', hk, hn', rfl, ho, hb⟩ := hrel
    obtain ⟨va, vc, rfl, -, -⟩ := ho.shape
    have HBR := Lib.hid hb
    have HOK := Lib.hid ho
    by_cases hlt : k < n
    · have h1 : k < A.length := by rw [HLEN.out]; exact hlt
      obtain ⟨e0, e1⟩ := (HO5.out.keep hb).cells k h1
      have hts := List.take_succ_eq_append_getElem h1
      have hzs := HO5.out.size _ (List.getElem_mem h1)
      obtain ⟨⟨x, y⟩, hx⟩ : ∃ x, A[k] = x := ⟨_, rfl⟩
      rw [hx] at e0 e1 hts hzs
      obtain ⟨W8, hW8⟩ : ∃ W8, wr.alloc (.cells #[.string x, .string y] 57) = W8 := ⟨_, rfl⟩
      have hb8 : Below wr.heap.size wr W8 := by rw [← hW8]; exact below_new _ _
      obtain ⟨t0, t1⟩ := At2.cells (show At2 57 W8 wr.heap.size (.string x) (.string y) by rw [← hW8]; exact At2.new _ _ _ _)
      have HW8 := Lib.hid hW8
      have HB8 := Lib.hid (Below.then hb hb8)
      have HO8 := Lib.hid (ho.keep hb8)
      by_cases hxg : x = G
      · have qa : (x.toList == G.toList) = true := by rw [beqB]; exact decide_eq_true hxg
        have qb : (x.toList != G.toList) = false := by rw [bne, qa]; rfl
        have HF := Lib.hid (show OwnO W8 w5.heap.size (.slice va n' vc) n' ((A.take (k + 1)).filter fun o => decide (o.1 ≠ G)) by
          rw [hts, List.filter_append, List.filter_cons_of_neg (by simp [hxg]), List.filter_nil, List.append_nil]; exact HO8.out)
        clear hW8 hb8 hb ho hx hts hzs hxg
        go_upto_region 11 with fail
        rw [HW8.out]
        go_wp2_with fail
        go_roundw
        case rel => exact ⟨k + 1, n', by omega, by omega, by go_num, HF.out, HB8.out⟩
        case measure => simp [intOf]; omega
      · have qa : (x.toList == G.toList) = false := by rw [beqB]; exact decide_eq_false hxg
        have qb : (x.toList != G.toList) = true := by rw [bne, qa]; rfl
        have HF := Lib.hid (show (A.take (k + 1)).filter (fun o => decide (o.1 ≠ G)) = (A.take k).filter (fun o => decide (o.1 ≠ G)) ++ [(x, y)] by
          rw [hts, List.filter_append, List.filter_cons_of_pos (by simp [hxg]), List.filter_nil])
        have hbn := below_new W8 (.cells #[.string x, .string y] 57)
        have HO9 := Lib.hid (HO8.out.keep hbn)
        have HB9 := Lib.hid (Below.then HB8.out hbn)
        have HSR := Lib.hid (show SrcOf 2 (W8.alloc (.cells #[.string x, .string y] 57)) (.slice (some ⟨W8.heap.size, 0, none⟩) 1 1) 1 (cellsL ([(x, y)].map objCell)) from Or.inr ⟨_, 1, rfl, rfl, fun q u hq => by
          have hq2 : q < 2 := (List.getElem?_eq_some_iff.1 hq).1
          rw [add_plain, World.cell?_alloc_at _ _ _ _ rfl]
          match q, hq2 with
          | 0, _ => exact hq
          | 1, _ => exact hq⟩)
        have HXZ := Lib.hid (show ∀ o ∈ [(x, y)], o.1.size ≤ maxLen ∧ o.2.size ≤ maxLen from fun o ho => by rw [List.mem_singleton.1 ho]; exact hzs)
        have hw5 : w.heap.size ≤ w5.heap.size := HB5.out.size
        have hwr : w5.heap.size ≤ (W8.alloc (.cells #[.string x, .string y] 57)).heap.size := HB9.out.size
        clear hW8 hb8 hb ho hx hts hzs hxg hbn
        go_upto_region 11 with fail
        rw [HW8.out]
        go_wp2_with (at_builtin; refine wpList_objs _ rfl _ _ rfl w5.heap.size _ n' _ rfl HO9.out _ 1 [(x, y)] rfl HSR.out rfl HXZ.out (by omega) (by omega) ?_; intro v9 w9 ho9 hg9 hb9; have HX9 := Lib.hid ho9; have HB10 := Lib.hid (HB9.out.trans hb9); clear ho9 hg9 hb9)
        go_roundw
        case rel => exact ⟨k + 1, n' + 1, by omega, by omega, by go_num, by rw [HF.out]; exact HX9.out, HB10.out⟩
        case measure => simp [intOf]; omega
    · obtain ⟨wo, rfl⟩ : ∃ wo : World, wo = wr := ⟨_, rfl⟩
      have hfl : A.take k = A := List.take_of_length_le (by rw [HLEN.out]; omega)
      rw [hfl] at HOK
      obtain ⟨L2, hL2⟩ : ∃ x, A.filter (fun o => decide (o.1 ≠ G)) = x := ⟨_, rfl⟩
      rw [hL2] at HOK
      have HFK := Lib.hid (show ObjsFew L2 by rw [← hL2]; exact HFA.out.filter _)
      have HLG2 := Lib.hid (show fullL L2 d = if G ∈ tt.ms ∨ G ∈ tt.bs then 9 else 0 by rw [← hL2]; exact HLG.out)
      have HBo := Lib.hid (Below.then HB5.out hb)
      have HZo := Lib.hid (HZ5.out.keep hb)
      have HSM := Lib.hid (show SrcOf 1 wo (.slice ma nm mc) nm (tt.ms.map Value.string) by have h := (HM5.out.keep hb).strs.src; rw [HLM.out] at h; exact h)
      have HSB := Lib.hid (show SrcOf 1 wo (.slice ba nb bc) nb (tt.bs.map Value.string) by have h := (HS5.out.keep hb).strs.src; rw [HLB.out] at h; exact h)
      have HNN := Lib.hid (show nm ≤ 4369 ∧ nb ≤ 39321 from by
        have h := HTN.out
        rw [HLM.out, HLB.out, show capW 4 = 4369 from rfl, show noWk.ms.length = 0 from rfl, show noWk.bs.length = 0 from rfl] at h
        omega)
      obtain ⟨i0, hi0, hz0, hz1, hz2⟩ := info_parts infoStr
      obtain ⟨z0, z1⟩ := HZo.out.cells
      clear hb ho hfl hL2
      go_upto_region 15 with fail
      have hbA := Below.refl wo.heap.size wo
      refine wp_region_held_drew (S := fun w' => w'.cell? ⟨Z, 0, none⟩ = some (.slice ma nm mc) ∧ w'.cell? ⟨Z, 1, none⟩ = some (.slice ba nb bc)) (by kernel_rfl) ?hSq (fun hHeld => ?hRq)
      case hSq => exact ⟨z0, z1⟩
      obtain ⟨wD, hwD⟩ : ∃ x, wo.drew = x := ⟨_, rfl⟩
      have hbD : Below wo.heap.size wo wD := by rw [← hwD]; exact hbA.drew
      rw [hwD] at hHeld ⊢
      refine wpAnyH_take (i := 8) (oi := { dst := some 73, op := Op.move (Operand.const (Value.int IntKind.i64 0)), type := 3, pos := "law.go:142", after := #[], guard := none }) (v := ?gvq8) rfl (by kernel_rfl) (by kernel_rfl) (by kernel_rfl) (fun _ _ _ h => h) (Or.inl ⟨by rfl, ?gyq8⟩) (by assumption) ?grq8
      case gyq8 => (intro w hSw; (try dsimp only at hSw); go_simp; try with_reducible rfl)
      try simp only [Act.put, List.setIfInBounds_toArray, List.set_cons_zero, List.set_cons_succ]
      refine wpAnyH_take (i := 1) (oi := { dst := some 66, op := Op.fieldAddr 47 (Operand.tmp 7) 0, type := 0, pos := "law.go:142", after := #[], guard := none }) (v := ?gvq1) rfl (by kernel_rfl) (by kernel_rfl) (by kernel_rfl) (fun _ _ _ h => h) (Or.inl ⟨by rfl, ?gyq1⟩) (by assumption) ?grq1
      case gyq1 => (intro w hSw; (try dsimp only at hSw); go_simp; try with_reducible rfl)
      try simp only [Act.put, List.setIfInBounds_toArray, List.set_cons_zero, List.set_cons_succ]
      refine wpAnyH_take (i := 2) (oi := { dst := some 67, op := Op.load 23 (Operand.tmp 66), type := 23, pos := "law.go:142", after := #[{ on := 1, ground := Ground.data }], guard := none }) (v := ?gvq2) rfl (by kernel_rfl) (by kernel_rfl) (by kernel_rfl) (fun _ _ _ h => h) (Or.inl ⟨by rfl, ?gyq2⟩) (by assumption) ?grq2
      case gyq2 => (intro w hSw; (try dsimp only at hSw); go_simp; try with_reducible rfl)
      try simp only [Act.put, List.setIfInBounds_toArray, List.set_cons_zero, List.set_cons_succ]
      refine wpAnyH_take (i := 4) (oi := { dst := some 69, op := Op.fieldAddr 47 (Operand.tmp 7) 1, type := 0, pos := "law.go:142", after := #[], guard := none }) (v := ?gvq4) rfl (by kernel_rfl) (by kernel_rfl) (by kernel_rfl) (fun _ _ _ h => h) (Or.inl ⟨by rfl, ?gyq4⟩) (by assumption) ?grq4
      case gyq4 => (intro w hSw; (try dsimp only at hSw); go_simp; try with_reducible rfl)
      try simp only [Act.put, List.setIfInBounds_toArray, List.set_cons_zero, List.set_cons_succ]
      refine wpAnyH_take (i := 5) (oi := { dst := some 70, op := Op.load 23 (Operand.tmp 69), type := 23, pos := "law.go:142", after := #[{ on := 4, ground := Ground.data }], guard := none }) (v := ?gvq5) rfl (by kernel_rfl) (by kernel_rfl) (by kernel_rfl) (fun _ _ _ h => h) (Or.inl ⟨by rfl, ?gyq5⟩) (by assumption) ?grq5
      case gyq5 => (intro w hSw; (try dsimp only at hSw); go_simp; try with_reducible rfl)
      try simp only [Act.put, List.setIfInBounds_toArray, List.set_cons_zero, List.set_cons_succ]
      refine wpAnyH_ready (rs := [0]) (by kernel_rfl) (by simp) ?_
      refine AllReadyH.cons (o := { dst := some 65, op := Op.buildSlice 23 0 #[], type := 23, pos := "law.go:142", after := #[], guard := none }) rfl (fun K hK => ?_) AllReadyH.nil
      rw [if_pos (by kernel_rfl)]
      go_simp
      obtain ⟨wA, hwA⟩ : ∃ x, wD.alloc (.cells #[] 9) = x := ⟨_, rfl⟩
      try rw [hwA]
      have hb1 : Below wo.heap.size wo wA := by rw [← hwA]; exact hbD.alloc hbD.size _
      have o1 : wA.ownsRow wo.heap.size 9 1 (.slice (some ⟨wD.heap.size, 0, none⟩) 0 0) 0 [] := by rw [← hwA]; exact World.ownsRow_lit wD #[] 0 hbD.size (Nat.zero_le _) rfl
      refine hK.out _ _ ?hSq0 (fun hHeldq0 => ?hRq0)
      case hSq0 => exact (HZo.out.keep hb1).cells
      clear hK K
      try simp only [Act.put, List.setIfInBounds_toArray, List.set_cons_zero, List.set_cons_succ]
      refine wpAnyH_ready (rs := [3]) (by kernel_rfl) (by simp) ?_
      refine AllReadyH.cons (o := { dst := some 68, op := Op.call { callee := Callee.builtin Builtin.append, args := #[Operand.tmp 65, Operand.tmp 67], argTypes := #[23, 23] }, type := 23, pos := "law.go:142", after := #[{ on := 0, ground := Ground.data }, { on := 2, ground := Ground.data }], guard := none }) rfl (fun K hK => ?_) AllReadyH.nil
      refine step_append_src _ (by rfl) (.tmp 65) (.tmp 67) 23 (by rfl) wo.heap.size 9 i0 (.string ⟨#[]⟩) 1 16 Tryz.underlying23 hi0 hz0 hz1 hz2 rfl (by decide) _ 0 [] (by rfl) o1 _ nm (tt.ms.map Value.string) (by rfl) (HSM.out.keep hb1) (one_strs _) (by unfold maxLen; have := HNN.out; omega) (by have := HNN.out; omega) hb1.size ?_
      intro vwB wB howB hgwB
      have hb2 : Below wo.heap.size wo wB := hb1.trans (below_own o1 hgwB (Nat.le_refl _) hb1.size)
      obtain ⟨a7, c7, rfl, -, -⟩ := own_shape howB
      refine hK.out _ _ ?hSq3 (fun hHeldq3 => ?hRq3)
      case hSq3 => exact (HZo.out.keep hb2).cells
      clear hK K
      try simp only [Act.put, List.setIfInBounds_toArray, List.set_cons_zero, List.set_cons_succ]
      refine wpAnyH_ready (rs := [6]) (by kernel_rfl) (by simp) ?_
      refine AllReadyH.cons (o := { dst := some 71, op := Op.call { callee := Callee.builtin Builtin.append, args := #[Operand.tmp 68, Operand.tmp 70], argTypes := #[23, 23] }, type := 23, pos := "law.go:142", after := #[{ on := 3, ground := Ground.data }, { on := 5, ground := Ground.data }, { on := 3, ground := Ground.chain }], guard := none }) rfl (fun K hK => ?_) AllReadyH.nil
      refine step_append_src _ (by rfl) (.tmp 68) (.tmp 70) 23 (by rfl) wo.heap.size 9 i0 (.string ⟨#[]⟩) 1 16 Tryz.underlying23 hi0 hz0 hz1 hz2 rfl (by decide) _ (0 + nm) ([] ++ tt.ms.map Value.string) (by rfl) howB _ nb (tt.bs.map Value.string) (by rfl) (HSB.out.keep hb2) (one_strs _) (by unfold maxLen; have := HNN.out; omega) (by have := HNN.out; omega) hb2.size ?_
      intro vwC wC howC hgwC
      have hb3 : Below wo.heap.size wo wC := hb2.trans (below_own howB hgwC (Nat.le_refl _) hb2.size)
      obtain ⟨a8, c8, rfl, -, -⟩ := own_shape howC
      obtain ⟨N, hN⟩ : ∃ N, 0 + nm + nb = N := ⟨_, rfl⟩
      rw [hN] at howC ⊢
      refine hK.out _ _ ?hSq6 (fun hHeldq6 => ?hRq6)
      case hSq6 => exact (HZo.out.keep hb3).cells
      clear hK K
      try simp only [Act.put, List.setIfInBounds_toArray, List.set_cons_zero, List.set_cons_succ]
      refine wpAnyH_take (i := 7) (oi := { dst := some 72, op := Op.call { callee := Callee.builtin Builtin.len, args := #[Operand.tmp 71], argTypes := #[23] }, type := 3, pos := "law.go:142", after := #[{ on := 6, ground := Ground.data }], guard := none }) (v := ?gvq7) rfl (by kernel_rfl) (by kernel_rfl) (by kernel_rfl) (fun _ _ _ h => h) (Or.inl ⟨by rfl, ?gyq7⟩) (by assumption) ?grq7
      case gyq7 => (intro w hSw; (try dsimp only at hSw); go_simp; try with_reducible rfl)
      try simp only [Act.put, List.setIfInBounds_toArray, List.set_cons_zero, List.set_cons_succ]
      refine wpAnyH_done (by kernel_rfl) ?_ _
      have HR := Lib.hid (show OwnS wC wo.heap.size (.slice a8 N c8) N (tt.ms ++ tt.bs) from ⟨by rw [List.length_append, HLM.out, HLB.out]; omega, by rw [List.map_append]; exact howC⟩)
      have hN6 : N ≤ 100000 := by have := HNN.out; omega
      obtain ⟨L, hL⟩ : ∃ L, tt.ms ++ tt.bs = L := ⟨_, rfl⟩
      rw [hL] at HR
      have HUSED := Lib.hid (show (G ∈ tt.ms ∨ G ∈ tt.bs) ↔ G ∈ L by rw [← hL, List.mem_append])
      have HBC := Lib.hid (Below.then HBo.out hb3)
      have HOC := Lib.hid (HOK.out.keep hb3)
      have hlen := HR.out.len
      have HLL := Lib.hid hlen
      clear howC howB hgwB hgwC hwA hwD o1 hb1 hb2 hb3 hbA hbD hHeld hN hL z0 z1 hlen
      go_wp2_with fail
      go_loopw [13, 73] (fun uv iv wr => ∃ k : Nat, k ≤ N ∧ uv = .bool (decide (G ∈ L.take k)) ∧ iv = .int .i64 k ∧ Below wC.heap.size wC wr) (fun _ i _ => N - (intOf i).toNat)
      case atStart => exact ⟨0, Nat.zero_le _, by simp, rfl, Below.refl _ _⟩
      case round =>
        obtain ⟨k, hk, rfl, rfl, hb⟩ := hrel
        have HBR2 := Lib.hid hb
        by_cases hlt : k < N
        · have h1 : k < L.length := by rw [HLL.out]; exact hlt
          obtain ⟨lb, lo, rfl, e0⟩ := (HR.out.keep hb).strs.at k h1
          have hts := List.take_succ_eq_append_getElem h1
          obtain ⟨x, hx⟩ : ∃ x, L[k] = x := ⟨_, rfl⟩
          rw [hx] at e0 hts
          have HTS := Lib.hid hts
          clear hb hts hx
          by_cases hu : G ∈ L.take k
          · have HF := Lib.hid (show decide (G ∈ L.take (k + 1)) = true from decide_eq_true (by rw [HTS.out]; exact List.mem_append_left _ hu))
            rw [decide_eq_true hu]
            clear hu
            go_wp2_with fail
            go_roundw
            case rel => exact ⟨k + 1, by omega, by rw [HF.out], by go_num, HBR2.out⟩
            case measure => simp [intOf]; omega
          · rw [decide_eq_false hu]
            by_cases hxg : x = G
            · have qa : (x.toList == G.toList) = true := by rw [beqB]; exact decide_eq_true hxg
              have HF := Lib.hid (show decide (G ∈ L.take (k + 1)) = true from decide_eq_true (by rw [HTS.out, hxg]; simp))
              clear hu hxg
              go_wp2_with fail
              go_roundw
              case rel => exact ⟨k + 1, by omega, by rw [HF.out], by go_num, HBR2.out⟩
              case measure => simp [intOf]; omega
            · have qa : (x.toList == G.toList) = false := by rw [beqB]; exact decide_eq_false hxg
              have HF := Lib.hid (show decide (G ∈ L.take (k + 1)) = false from decide_eq_false (by rw [HTS.out]; simp [hu, Ne.symm hxg]))
              clear hu hxg
              go_wp2_with fail
              go_roundw
              case rel => exact ⟨k + 1, by omega, by rw [HF.out], by go_num, HBR2.out⟩
              case measure => simp [intOf]; omega
        · have htk : L.take k = L := List.take_of_length_le (by rw [HLL.out]; omega)
          rw [htk]
          have HBE := Lib.hid (Below.then HBC.out hb)
          have WK := Lib.hid (cloWhole_t _ L2 d wr (HE.out.below HBE.out) (HOC.out.keep hb).objs HFK.out)
          rw [HLG2.out] at WK
          clear hb htk
          by_cases hu : G ∈ L
          · rw [if_pos (HUSED.out.2 hu)] at WK
            rw [decide_eq_true hu]
            clear hu
            go_wp2_with fail
            refine WK.out.mono ?_
            rintro e w9 ⟨rfl, hb9⟩
            have HB9 := Lib.hid (Below.then HBE.out hb9)
            clear hb9
            go_wp2_with fail
            refine (AL.out w9 HB9.out).mono ?_
            rintro e w10 ⟨rfl, hb10⟩
            have HB10 := Lib.hid (Below.then HB9.out hb10)
            clear hb10
            go_wp2_with fail
            go_ret
            exact ⟨rfl, HB10.out⟩
          · rw [if_neg (fun h => hu (HUSED.out.1 h))] at WK
            rw [decide_eq_false hu]
            clear hu
            go_wp2_with fail
            refine WK.out.mono ?_
            rintro e w9 ⟨rfl, hb9⟩
            have HB9 := Lib.hid (Below.then HBE.out hb9)
            clear hb9
            go_wp2_with fail
            refine (AL.out w9 HB9.out).mono ?_
            rintro e w10 ⟨rfl, hb10⟩
            have HB10 := Lib.hid (Below.then HB9.out hb10)
            clear hb10
            go_wp2_with fail
            go_ret
            exact ⟨rfl, HB10.out⟩
end Go.Proofs.YtfcglnajdfpmhaaGreatDoor
