/-
  slices.Grow of nil, slices.Concat of two rows of messages, slices.Clone of one, by contracts. Conditions: few messages.
-/
import Derived.Test.YtjjefdgcbdfclaaNetFew
import Derived.Lib.AppendZeros
namespace Go.Proofs.Ytjjefdgcbdfclaa
open Go.RowKit Go.WideShapes

abbrev zeroM : Value := .agg #[.int .i64 0, .int .i64 0, .string ⟨#[]⟩, .int .i64 0]
set_option maxRecDepth 100000 in
set_option maxHeartbeats 2000000 in
/-- slices.Grow of nil. -/
theorem msGrow_t (n : Nat) (w : World) (hn : n ≤ 400) :
    Calls Try.prog 28 #[.slice none 0 0, .int .i64 n] w fun e w' => ∃ v, e = .returned v ∧ w'.ownsRow w.heap.size 30 4 v 0 [] ∧ Below w.heap.size w w' := by
  obtain ⟨i0, hi, hz0, hz1, hz2⟩ := info_parts infoMsg
  rcases Nat.eq_zero_or_pos n with rfl | hp
  · go_enter Try.func28, Try.ntmps28
    go_wp2_with fail
    go_ret
    exact ⟨_, rfl, World.ownsRow_nil _ _ _ _, Below.refl _ _⟩
  · have hrz : ∀ ty, (Builtin.append_ #[22, 3] ty #[.slice none 0 0, .int .i64 n]).run Try.prog w = _ := fun ty => Lib.run_append_nil_zeros w 22 3 ty 30 i0 _ .i64 .i64 Try.underlying22 Try.underlying3 hi hz0 n hp (by omega) (by omega) (by rw [hz2]; omega)
    have hG : n ≤ grownCap w n 0 30 := grownCap_ge w _ _ _
    have hG2 := grownCap_le_maxLen w n 0 30 (by unfold maxLen; omega)
    obtain ⟨G, hGe⟩ : ∃ G, grownCap w n 0 30 = G := ⟨_, rfl⟩
    rw [hGe] at hrz hG hG2
    have HZ : (Builtin.zeroCells zeroM.cells n ++ Builtin.zeroCells zeroM.cells (G - n)).size = G * 4 := by
      rw [Array.size_append]
      simp [Builtin.zeroCells, Value.cells]
      omega
    obtain ⟨cur, hcur⟩ : ∃ c, (Builtin.zeroCells zeroM.cells n ++ Builtin.zeroCells zeroM.cells (G - n)) = c := ⟨_, rfl⟩
    rw [hcur] at hrz HZ
    have hown := Lib.hid (World.ownsRow_made (e := 30) (base := w.heap.size) (size := 4) w.drew cur G (Nat.le_refl _) hG2 HZ)
    unfold maxLen at hG2
    clear hcur HZ hGe
    go_enter Try.func28, Try.ntmps28
    go_wp2_with (at_builtin; refine Lib.wpList_append_run _ rfl _ _ _ _ rfl _ _ rfl rfl _ _ (hrz _) ?_)
    all_goals (go_ret; exact ⟨_, rfl, hown.out, (below_drewN (Below.refl _ _) 1).alloc (Nat.le_refl _) _⟩)

/-- The first k of two. -/
def partM (k : Nat) (l1 l2 : List Ms) : List Ms := if k = 0 then [] else if k = 1 then l1 else l1 ++ l2
set_option maxRecDepth 100000 in
set_option maxHeartbeats 4000000 in
theorem msConcat_t (b o c : Nat) (v1 v2 : Value) (l1 l2 : List Ms) (w : World) (h1 : RwAt 4 w v1 (l1.map msCell)) (h2 : RwAt 4 w v2 (l2.map msCell)) (hlen : l1.length + l2.length ≤ 400)
    (c1 : w.cell? ⟨b, o, none⟩ = some v1) (c2 : w.cell? ⟨b, o + 1, none⟩ = some v2) :
    Calls Try.prog 27 #[.slice (some ⟨b, o, none⟩) 2 c] w fun e w' => ∃ v, e = .returned v ∧ w'.ownsRow w.heap.size 30 4 v (l1 ++ l2).length (cellsN (l1 ++ l2)) ∧ Below w.heap.size w w' := by
  obtain ⟨i0, hi, hz0, hz1, hz2⟩ := info_parts infoMsg
  have S1 := Lib.hid (h1.src (msWide l1) (by decide))
  have S2 := Lib.hid (h2.src (msWide l2) (by decide))
  obtain ⟨a1, k1, rfl, -, -⟩ := h1.shape
  obtain ⟨a2, k2, rfl, -, -⟩ := h2.shape
  rw [List.length_map] at S1 S2 c1 c2
  have HP1 := Lib.hid (show partM 1 l1 l2 = l1 from rfl)
  have HP2 := Lib.hid (show partM 2 l1 l2 = l1 ++ l2 from rfl)
  have HO1 := Lib.hid (ms_one l1)
  have HO2 := Lib.hid (ms_one l2)
  obtain ⟨n1, hn1⟩ : ∃ n, l1.length = n := ⟨_, rfl⟩
  obtain ⟨n2, hn2⟩ : ∃ n, l2.length = n := ⟨_, rfl⟩
  rw [hn1] at S1 c1 hlen
  rw [hn2] at S2 c2 hlen
  have HN := Lib.hid (And.intro hn1 hn2)
  have HC := Lib.hid (And.intro c1 c2)
  clear h1 h2 hn1 hn2 c1 c2
  go_enter Try.func27, Try.ntmps27
  go_wp2_with fail
  go_loopw [3, 11] (fun sv iv wr => ∃ k : Nat, k ≤ 2 ∧ iv = .int .i64 k ∧ sv = .int .i64 ((if k = 0 then 0 else if k = 1 then n1 else n1 + n2 : Nat) : Int) ∧ w = wr) (fun _ i _ => 2 - (intOf i).toNat)
  case atStart => exact ⟨0, by omega, rfl, rfl, rfl⟩
  case round =>
    obtain ⟨k, hk, rfl, rfl, rfl⟩ := hrel
    rcases (show k = 0 ∨ k = 1 ∨ k = 2 by omega) with rfl | rfl | rfl
    · have hc := HC.out.1
      have hc' : w.cell? ⟨b, o + 0, none⟩ = some (.slice a1 n1 k1) := hc
      go_wp2_with fail
      go_roundw
      case rel => exact ⟨1, by omega, rfl, by simp, trivial⟩
      case measure => simp [intOf]
    · have hc := HC.out.2
      go_wp2_with fail
      go_roundw
      case rel => exact ⟨2, by omega, rfl, by simp, trivial⟩
      case measure => simp [intOf]
    · have G := Lib.hid (msGrow_t (n1 + n2) w hlen)
      go_wp2_with fail
      refine G.out.mono ?_
      rintro e w1 ⟨gv, rfl, hown, hb⟩
      obtain ⟨w1', hw1⟩ : ∃ x, x = w1 := ⟨_, rfl⟩
      have HO := Lib.hid hown
      have HB := Lib.hid hb
      clear hown hb
      go_wp2_with fail
      go_loopw [6, 27] (fun gv iv wr => ∃ k : Nat, k ≤ 2 ∧ iv = .int .i64 k ∧ wr.ownsRow w.heap.size 30 4 gv (partM k l1 l2).length (cellsN (partM k l1 l2)) ∧ Below w.heap.size w wr) (fun _ i _ => 2 - (intOf i).toNat)
      case atStart => exact ⟨0, by omega, rfl, HO.out, HB.out⟩
      case round =>
        obtain ⟨k, hk, rfl, hown, hb⟩ := hrel
        rcases (show k = 0 ∨ k = 1 ∨ k = 2 by omega) with rfl | rfl | rfl
        · have hc := (hb.cell (World.block_lt_of_cell? _ _ HC.out.1)).trans HC.out.1
          have hc' : wr.cell? ⟨b, o + 0, none⟩ = some (.slice a1 n1 k1) := hc
          have T := Lib.hid (S1.out.keep hb)
          have HB2 := Lib.hid hb
          have HO2 := Lib.hid hown
          clear hb hown
          go_wp2_with (at_builtin; refine wpList_append_src _ rfl _ _ 22 rfl w.heap.size 30 i0 zeroM 4 40 Try.underlying22 hi hz0 hz1 hz2 rfl (by decide) _ _ _ rfl HO2.out _ n1 _ rfl T.out HO1.out (by unfold maxLen; simp [partM]; omega) (by simp [partM]; omega) HB2.out.size ?_; intro v' w2 hown' hgrow)
          have HO3 := Lib.hid (show w2.ownsRow w.heap.size 30 4 v' (partM 1 l1 l2).length (cellsN (partM 1 l1 l2)) by
            rw [HP1.out, HN.out.1]
            simpa [partM, cellsN] using hown')
          have HB3 := Lib.hid (HB2.out.grown hgrow HB2.out.size (fun k hk => (HO2.out.lt k hk).1))
          clear hown' hgrow
          go_wp2_with fail
          go_roundw
          case rel => exact ⟨1, by omega, rfl, HO3.out, HB3.out⟩
          case measure => simp [intOf]
        · have hc := (hb.cell (World.block_lt_of_cell? _ _ HC.out.2)).trans HC.out.2
          have T := Lib.hid (S2.out.keep hb)
          have HB2 := Lib.hid hb
          rw [HP1.out, HN.out.1] at hown
          have HO2' := Lib.hid hown
          clear hb hown
          go_wp2_with (at_builtin; refine wpList_append_src _ rfl _ _ 22 rfl w.heap.size 30 i0 zeroM 4 40 Try.underlying22 hi hz0 hz1 hz2 rfl (by decide) _ n1 _ rfl HO2'.out _ n2 _ rfl T.out HO2.out (by unfold maxLen; omega) (by omega) HB2.out.size ?_; intro v' w2 hown' hgrow)
          have HO3 := Lib.hid (show w2.ownsRow w.heap.size 30 4 v' (partM 2 l1 l2).length (cellsN (partM 2 l1 l2)) by
            rw [HP2.out, List.length_append, HN.out.1, HN.out.2, cellsN_append]
            exact hown')
          have HB3 := Lib.hid (HB2.out.grown hgrow HB2.out.size (fun k hk => (HO2'.out.lt k hk).1))
          clear hown' hgrow
          go_wp2_with fail
          go_roundw
          case rel => exact ⟨2, by omega, rfl, HO3.out, HB3.out⟩
          case measure => simp [intOf]
        · rw [HP2.out] at hown
          have HR := Lib.hid hown
          have HB2 := Lib.hid hb
          clear hb hown
          go_wp2_with fail
          go_ret
          exact ⟨_, rfl, HR.out, HB2.out⟩

theorem RwAt.shape2 {m : Nat} {w : World} {v : Value} {l : List (List Value)} (h : RwAt m w v l) : ∃ a cap, v = .slice a l.length cap ∧ (a = none → l = [] ∧ cap = 0) := by
  rcases h with ⟨rfl, rfl | ⟨a, cap, rfl, hc⟩⟩ | ⟨b, o, cap, rfl, h2, h3, h4, -⟩
  · exact ⟨none, 0, rfl, fun _ => ⟨rfl, rfl⟩⟩
  · exact ⟨_, _, rfl, fun h => by cases h⟩
  · exact ⟨_, _, rfl, fun h => by cases h⟩
set_option maxRecDepth 100000 in
set_option maxHeartbeats 2000000 in
theorem msClone_t (v : Value) (l : List Ms) (w : World) (h : RwAt 4 w v (l.map msCell)) (hn : l.length ≤ 1000) :
    Calls Try.prog 24 #[v] w fun e w' => ∃ v', e = .returned v' ∧ w'.ownsRow w.heap.size 30 4 v' l.length (cellsN l) ∧ Below w.heap.size w w' := by
  obtain ⟨i0, hi, hz0, hz1, hz2⟩ := info_parts infoMsg
  have HS := Lib.hid (fun w' (hb : Below w.heap.size w w') => (h.keep hb).src (msWide l) (by decide))
  have q22 : ∀ (w : World) (a : Option Addr) (n c n' c' : Nat), (binOp .eql 22 (.slice a n c) (.slice none n' c')).run Try.prog w = .ok (.bool a.isNone) w := fun w a n c n' c' => Lib.run_eql_slice_nil w _ _ a n c n' c' Try.underlying22
  obtain ⟨a, c, rfl, ha⟩ := h.shape2
  rw [List.length_map] at HS ⊢
  obtain ⟨n, hnn⟩ : ∃ n, l.length = n := ⟨_, rfl⟩
  rw [hnn] at hn HS ⊢
  cases a with
  | none =>
    obtain ⟨h0, rfl⟩ := ha rfl
    have hl0 : l = [] := List.map_eq_nil_iff.1 h0
    subst hl0
    obtain rfl : n = 0 := hnn.symm
    clear h ha h0 HS
    go_enter Try.func24, Try.ntmps24
    go_wp2_with fail
    go_ret
    exact ⟨_, rfl, World.ownsRow_nil _ _ _ _, Below.refl _ _⟩
  | some ad =>
    have HO1 := Lib.hid (ms_one l)
    obtain ⟨W1, hW1⟩ : ∃ W1, w.alloc (.cells #[] 30) = W1 := ⟨_, rfl⟩
    have hb1 : Below w.heap.size w W1 := by rw [← hW1]; exact below_new _ _
    have HOWN1 := Lib.hid (show W1.ownsRow w.heap.size 30 4 (.slice (some ⟨w.heap.size, 0, none⟩) 0 0) 0 [] by rw [← hW1]; exact World.ownsRow_lit w #[] 0 (Nat.le_refl _) (Nat.zero_le _) rfl)
    have HB1 := Lib.hid hb1
    have HS1 := Lib.hid (HS.out W1 hb1)
    have HW1 := Lib.hid hW1
    have hsz : w.heap.size ≤ W1.heap.size := hb1.size
    clear h ha hb1 hW1 HS hnn
    go_enter Try.func24, Try.ntmps24
    go_upto_region 3 with fail
    go_wp2_with (first | (rw [HW1.out]; clear HW1) | (at_builtin; refine wpList_append_src _ rfl _ _ 22 rfl w.heap.size 30 i0 zeroM 4 40 Try.underlying22 hi hz0 hz1 hz2 rfl (by decide) _ 0 [] rfl HOWN1.out _ n _ rfl HS1.out HO1.out (by unfold maxLen; omega) (by omega) hsz ?_; intro v2 w2 hown2 hgrow2))
    have HB2 := Lib.hid (HB1.out.grown hgrow2 hsz (fun k hk => (HOWN1.out.lt k hk).1))
    have HO2 := Lib.hid hown2
    clear hown2 hgrow2
    go_wp2_with fail
    go_ret
    exact ⟨_, rfl, by simpa using HO2.out, HB2.out⟩
end Go.Proofs.Ytjjefdgcbdfclaa
