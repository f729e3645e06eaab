/-
  ClosureMore's walk: it answers true. Conditions: what comes in reads as objects; the package-level variables as MEnv says.
-/
import Derived.Test.YtfcglnajdfpmhaaGreatDoorZClo3
import Derived.Test.YtfcglnajdfpmhaaGreatDoorZClo4
namespace Go.Proofs.YtfcglnajdfpmhaaGreatDoor
open Go.RowKit

theorem ObjsFew.append {l m : List Obj} (h : ObjsFew l) (g : ObjsFew m) (hn : l.length + m.length ≤ 1048576) : ObjsFew (l ++ m) :=
  ⟨by rw [List.length_append]; exact hn, fun o ho => (List.mem_append.1 ho).elim (h.size o) (g.size o)⟩
theorem mem_cut {l : List Obj} {o : Obj} (h : o ∈ l.dropLast) : o ∈ l := by rw [List.dropLast_eq_take] at h; exact List.mem_of_mem_take h
theorem ObjsFew.cut {l : List Obj} (h : ObjsFew l) : ObjsFew l.dropLast :=
  ⟨by rw [List.length_dropLast]; exact Nat.le_trans (Nat.sub_le _ _) h.len, fun o ho => h.size o (mem_cut ho)⟩
theorem fullL_none (d : ByteArray) : fullL [] d = 9 := by
  have he : errO [] d = 9 := errO_none rfl
  have hw : walkL [] 4 noWk d = .error 9 := by rw [walkL_bad (by simp [noWk]) (by rw [he]; decide), he]
  unfold fullL; rw [hw]
theorem ObjsAt.drop {w : World} {a : Option Addr} {n c : Nat} {l : List Obj} (h : ObjsAt w (.slice a n c) l) (hn : l.length = n) : ObjsAt w (.slice a (n - 1) c) l.dropLast := by
  refine ⟨?_, fun o ho => h.size o (mem_cut ho)⟩
  have h1 := h.is.cut (n - 1) (by rw [List.length_map]; omega)
  rw [← List.map_take] at h1
  rwa [List.dropLast_eq_take, hn]

set_option maxRecDepth 100000 in
set_option maxHeartbeats 8000000 in
theorem cmore_walk (la lb : List Obj) (d : ByteArray) (va vb : Value) (w : World) (he : MEnv w) (ha : ObjsAt w va la) (hb : ObjsAt w vb lb) :
    Calls Tryz.prog 10 #[va, vb, .string d] w fun e w' => e = .returned (.bool true) ∧ Below w.heap.size w w' := by
  have CA := Lib.hid (few06_t va la w ha)
  have CB := Lib.hid (fun w' (h : Below w.heap.size w w') => few06_t vb lb w' (hb.keep h))
  obtain ⟨aa, ac, rfl, -, -⟩ := ha.shape
  obtain ⟨ba, bc, rfl, -, -⟩ := hb.shape
  have hlA := fewO_len la
  have hlB := fewO_len lb
  have hfA := fewO_few la
  have hfB := fewO_few lb
  obtain ⟨na, hna⟩ : ∃ n, la.length = n := ⟨_, rfl⟩
  obtain ⟨nb, hnb⟩ : ∃ n, lb.length = n := ⟨_, rfl⟩
  rw [hna] at CA ⊢
  rw [hnb] at CB ⊢
  unfold FewEnds at CA CB
  obtain ⟨A, hA⟩ : ∃ x, fewO la = x := ⟨_, rfl⟩
  obtain ⟨B, hB⟩ : ∃ x, fewO lb = x := ⟨_, rfl⟩
  rw [hA] at hlA hfA CA
  rw [hB] at hlB hfB CB
  have HFA := Lib.hid hfA
  have HFB := Lib.hid hfB
  have HE := Lib.hid he
  have AL := Lib.hid (fun w' (h : Below w.heap.size w w') => aliveC_t w' (he.below h))
  clear ha hb hna hnb hA hB hfA hfB he
  go_enter Tryz.func10, Tryz.ntmps10
  go_wp2_with fail
  refine CA.out.mono ?_
  rintro e w2 ⟨v1, n1, rfl, ho1, hb2⟩
  have hl1 := ho1.len
  obtain ⟨a1, c1, rfl, hn1, hc1⟩ := ho1.shape
  have HB2 := Lib.hid hb2
  have HO1 := Lib.hid ho1
  clear ho1 hb2
  go_wp2_with fail
  refine (CB.out w2 HB2.out).mono ?_
  rintro e w3 ⟨v2, n2, rfl, ho2, hb3⟩
  have hl2 := ho2.len
  obtain ⟨a2, c2, rfl, -, -⟩ := ho2.shape
  have HB3 := Lib.hid (Below.then HB2.out hb3)
  have HO1' := Lib.hid (HO1.out.keep hb3)
  have HO2 := Lib.hid ho2
  have WA := Lib.hid (cloWhole_t _ A d w3 (HE.out.below HB3.out) HO1'.out.objs HFA.out)
  obtain ⟨x, hx⟩ : ∃ x, fullL A d = x := ⟨_, rfl⟩
  rw [hx] at WA
  have HX := Lib.hid hx
  clear ho2 hb3 hx
  go_wp2_with fail
  refine WA.out.mono ?_
  rintro e w4 ⟨rfl, hb4⟩
  have HB4 := Lib.hid (Below.then HB3.out hb4)
  have HP1 := Lib.hid (HO1'.out.keep hb4)
  have HP2 := Lib.hid (HO2.out.keep hb4)
  clear hb4
  by_cases h0 : x = 0
  rotate_left
  · have q : (x != 0) = true := bne_iff_ne.2 h0
    clear h0
    go_wp2_with fail
    refine (AL.out w4 HB4.out).mono ?_
    rintro e w5 ⟨rfl, hb5⟩
    have HB5 := Lib.hid (Below.then HB4.out hb5)
    clear hb5
    go_wp2_with fail
    go_ret
    exact ⟨rfl, HB5.out⟩
  subst h0
  have hpos : n1 ≠ 0 := fun h => by
    have hA0 : A = [] := List.length_eq_zero_iff.1 (hl1.trans h)
    have := HX.out
    rw [hA0, fullL_none] at this
    exact absurd this (by decide)
  have HMORE := Lib.hid (fullL_more (more := B) HX.out)
  have hcut := fullL_fewer (fun x => findO_dropLast A x) HX.out
  have HCUT := Lib.hid hcut
  have q1 : ((n1 : Int) == 0) = false := beq_eq_false_iff_ne.2 (by omega)
  have HE0 := Lib.hid (OwnO.lit (w := w4) (Nat.le_refl _))
  have HBN := Lib.hid (below_new w4 (.cells #[] 57))
  have HSRC1 := Lib.hid (by have h := (HP1.out.keep HBN.out).objs.is.src; rw [List.length_map, hl1] at h; exact h)
  have HLEN := Lib.hid (show A.length = n1 ∧ B.length = n2 ∧ A.length ≤ 12 ∧ B.length ≤ 12 from ⟨hl1, hl2, hlA, hlB⟩)
  clear hcut
  have HS2 := Lib.hid (show ∀ w', Below w4.heap.size w4 w' → SrcOf 2 w' (.slice a2 n2 c2) n2 (cellsL (B.map objCell)) from fun w' h => by have h := (HP2.out.keep h).objs.is.src; rw [List.length_map, hl2] at h; exact h)
  have WM := Lib.hid (show ∀ v n w', OwnO w' w4.heap.size v n (A ++ B) → Below w4.heap.size w4 w' → Calls Tryz.prog 30 #[v, .string d] w' fun e w'' => e = .returned (.int .i64 0) ∧ Below w'.heap.size w' w'' from fun v n w' ho h => by
    have hc := cloWhole_t v (A ++ B) d w' (HE.out.below (Below.then HB4.out h)) ho.objs (HFA.out.append HFB.out (by omega))
    rw [HMORE.out] at hc
    exact hc)
  have WC := Lib.hid (show ∀ w', Below w4.heap.size w4 w' → Calls Tryz.prog 30 #[.slice a1 (n1 - 1) c1, .string d] w' fun e w'' => e = .returned (.int .i64 (fullL A.dropLast d)) ∧ Below w'.heap.size w' w'' from fun w' h =>
    cloWhole_t _ _ d w' (HE.out.below (Below.then HB4.out h)) ((HP1.out.keep h).objs.drop hl1) HFA.out.cut)
  obtain ⟨y, hy⟩ : ∃ y, fullL A.dropLast d = y := ⟨_, rfl⟩
  have HY := Lib.hid (show y = 0 ∨ y = 9 by rw [← hy]; exact HCUT.out)
  rw [hy] at WC
  obtain ⟨k, rfl⟩ : ∃ k, n1 = k + 1 := ⟨n1 - 1, by omega⟩
  rw [Nat.add_sub_cancel] at WC
  have e1 : IntKind.i64.wrap (((k + 1 : Nat) : Int) - 1) = (k : Int) := by rw [IntKind.wrap_i64]; omega
  have hk12 : k + 1 ≤ 12 := by omega
  have hn12 : n2 ≤ 12 := by omega
  clear hy hl1 hl2 hpos
  go_upto_region 6 with (first
    | (at_builtin; refine wpList_objs _ rfl _ _ rfl w4.heap.size _ 0 [] rfl HE0.out _ (k + 1) A rfl HSRC1.out HLEN.out.1 HP1.out.size (by omega) HBN.out.size ?_; intro v5 w5 ho5 hg5 hb5; rw [Nat.zero_add, List.nil_append] at ho5; have HO5 := Lib.hid ho5; have HB5 := Lib.hid (HBN.out.trans hb5); obtain ⟨a5, c5, rfl, -, -⟩ := ho5.shape; clear ho5 hg5 hb5)
    | (at_builtin; refine wpList_objs _ rfl _ _ rfl w4.heap.size _ (k + 1) A rfl HO5.out _ n2 B rfl (HS2.out _ HB5.out) HLEN.out.2.1 HP2.out.size (by omega) HB5.out.size ?_; intro v6 w6 ho6 hg6 hb6; have HB6 := Lib.hid (HB5.out.trans hb6); have WM6 := Lib.hid (WM.out _ _ _ ho6 HB6.out); obtain ⟨a6, c6, rfl, -, -⟩ := ho6.shape; clear ho6 hg6 hb6)
    | (go_at_call 30; refine WM6.out.mono ?_; rintro e w7 ⟨rfl, hb7⟩; have HB7 := Lib.hid (Below.then HB6.out hb7); clear hb7))
  rcases HY.out with h0 | h9
  · subst h0
    go_wp2_with fail
    refine (WC.out _ HB7.out).mono ?_
    rintro e w8 ⟨rfl, hb8⟩
    have HB8 := Lib.hid (Below.then HB4.out (Below.then HB7.out hb8))
    clear hb8
    go_wp2_with fail
    refine (AL.out _ HB8.out).mono ?_
    rintro e w9 ⟨rfl, hb9⟩
    have HB9 := Lib.hid (Below.then HB8.out hb9)
    clear hb9
    go_wp2_with fail
    go_ret
    exact ⟨rfl, HB9.out⟩
  · subst h9
    go_wp2_with fail
    refine (WC.out _ HB7.out).mono ?_
    rintro e w8 ⟨rfl, hb8⟩
    have HB8 := Lib.hid (Below.then HB4.out (Below.then HB7.out hb8))
    clear hb8
    go_wp2_with fail
    refine (AL.out _ HB8.out).mono ?_
    rintro e w9 ⟨rfl, hb9⟩
    have HB9 := Lib.hid (Below.then HB8.out hb9)
    clear hb9
    go_wp2_with fail
    go_ret
    exact ⟨rfl, HB9.out⟩
end Go.Proofs.YtfcglnajdfpmhaaGreatDoor
