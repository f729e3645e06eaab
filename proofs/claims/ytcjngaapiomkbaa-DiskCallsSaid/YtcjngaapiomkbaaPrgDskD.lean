/-
  slices.Concat of two rows of writes, by a contract. Conditions: few writes.
-/
import Derived.Test.YtcjngaapiomkbaaPrgDskC
namespace Go.Proofs.Ytcjngaapiomkbaa
open Go.RowKit Go.WideShapes

/-- The first k of two. -/
def partL (k : Nat) (l1 l2 : List (Int × ByteArray)) : List (Int × ByteArray) := if k = 0 then [] else if k = 1 then l1 else l1 ++ l2
set_option maxRecDepth 100000 in
set_option maxHeartbeats 4000000 in
theorem Concat_t (b o c : Nat) (v1 v2 : Value) (l1 l2 : List (Int × ByteArray)) (w : World) (h1 : PairsAt w v1 (l1.map writeCell)) (h2 : PairsAt w v2 (l2.map writeCell)) (hlen : l1.length + l2.length ≤ 400)
    (c1 : w.cell? ⟨b, o, none⟩ = some v1) (c2 : w.cell? ⟨b, o + 1, none⟩ = some v2) :
    Calls Try.prog 28 #[.slice (some ⟨b, o, none⟩) 2 c] w fun e w' => ∃ v, e = .returned v ∧ PairsAt w' v ((l1 ++ l2).map writeCell) ∧ Below w.heap.size w w' := by
  obtain ⟨i0, hi, hz0, hz1, hz2⟩ := info_parts infoWrite
  have S1 := Lib.hid h1.src
  have S2 := Lib.hid h2.src
  obtain ⟨a1, k1, rfl, -, -⟩ := h1.shape
  obtain ⟨a2, k2, rfl, -, -⟩ := h2.shape
  rw [List.length_map] at S1 S2 c1 c2
  have HP1 := Lib.hid (show partL 1 l1 l2 = l1 from rfl)
  have HP2 := Lib.hid (show partL 2 l1 l2 = l1 ++ l2 from rfl)
  have HO1 := Lib.hid (one_writes l1)
  have HO2 := Lib.hid (one_writes l2)
  obtain ⟨n1, hn1⟩ : ∃ n, l1.length = n := ⟨_, rfl⟩
  obtain ⟨n2, hn2⟩ : ∃ n, l2.length = n := ⟨_, rfl⟩
  rw [hn1] at S1 c1 hlen
  rw [hn2] at S2 c2 hlen
  have HN := Lib.hid (And.intro hn1 hn2)
  have HC := Lib.hid (And.intro c1 c2)
  clear h1 h2 hn1 hn2 c1 c2
  go_enter Try.func28, Try.ntmps28
  go_wp2_with fail
  go_loopw [3, 11] (fun sv iv wr => ∃ k : Nat, k ≤ 2 ∧ iv = .int .i64 k ∧ sv = .int .i64 ((if k = 0 then 0 else if k = 1 then n1 else n1 + n2 : Nat) : Int) ∧ w = wr) (fun _ i _ => 2 - (intOf i).toNat)
  case atStart => exact ⟨0, by omega, rfl, rfl, rfl⟩
  case round =>
    obtain ⟨k, hk, rfl, rfl, rfl⟩ := hrel
    rcases (show k = 0 ∨ k = 1 ∨ k = 2 by omega) with rfl | rfl | rfl
    · have hc := HC.out.1
      have hc' : w.cell? ⟨b, o + 0, none⟩ = some (.slice a1 n1 k1) := hc
      go_wp2_with fail
      go_roundw
      case rel => exact ⟨1, by omega, rfl, by simp, trivial⟩
      case measure => simp [intOf]
    · have hc := HC.out.2
      go_wp2_with fail
      go_roundw
      case rel => exact ⟨2, by omega, rfl, by simp, trivial⟩
      case measure => simp [intOf]
    · have G := Lib.hid (Grow_t (n1 + n2) w hlen)
      go_wp2_with fail
      refine G.out.mono ?_
      rintro e w1 ⟨gv, rfl, hown, hb⟩
      obtain ⟨w1', hw1⟩ : ∃ x, x = w1 := ⟨_, rfl⟩
      have HO := Lib.hid hown
      have HB := Lib.hid hb
      clear hown hb
      go_wp2_with fail
      go_loopw [6, 27] (fun gv iv wr => ∃ k : Nat, k ≤ 2 ∧ iv = .int .i64 k ∧ wr.ownsRow w.heap.size 45 2 gv (partL k l1 l2).length (cellsL ((partL k l1 l2).map writeCell)) ∧ Below w.heap.size w wr) (fun _ i _ => 2 - (intOf i).toNat)
      case atStart => exact ⟨0, by omega, rfl, HO.out, HB.out⟩
      case round =>
        obtain ⟨k, hk, rfl, hown, hb⟩ := hrel
        rcases (show k = 0 ∨ k = 1 ∨ k = 2 by omega) with rfl | rfl | rfl
        · have hc := (hb.cell (World.block_lt_of_cell? _ _ HC.out.1)).trans HC.out.1
          have hc' : wr.cell? ⟨b, o + 0, none⟩ = some (.slice a1 n1 k1) := hc
          have T := Lib.hid (S1.out.keep hb)
          have HB2 := Lib.hid hb
          have HO2 := Lib.hid hown
          clear hb hown
          go_wp2_with (at_builtin; refine wpList_append_src _ rfl _ _ 23 rfl w.heap.size 45 i0 (.agg #[.int .i64 0, .string ⟨#[]⟩]) 2 24 Try.underlying23 hi hz0 hz1 hz2 rfl (by decide) _ _ _ rfl HO2.out _ n1 _ rfl T.out HO1.out (by unfold maxLen; simp [partL]; omega) (by simp [partL]; omega) HB2.out.size ?_; intro v' w2 hown' hgrow)
          have HO3 := Lib.hid (show w2.ownsRow w.heap.size 45 2 v' (partL 1 l1 l2).length (cellsL ((partL 1 l1 l2).map writeCell)) by
            rw [HP1.out, HN.out.1]
            simpa [partL, cellsL] using hown')
          have HB3 := Lib.hid (HB2.out.grown hgrow HB2.out.size (fun k hk => (HO2.out.lt k hk).1))
          clear hown' hgrow
          go_wp2_with fail
          go_roundw
          case rel => exact ⟨1, by omega, rfl, HO3.out, HB3.out⟩
          case measure => simp [intOf]
        · have hc := (hb.cell (World.block_lt_of_cell? _ _ HC.out.2)).trans HC.out.2
          have T := Lib.hid (S2.out.keep hb)
          have HB2 := Lib.hid hb
          rw [HP1.out, HN.out.1] at hown
          have HO2' := Lib.hid hown
          clear hb hown
          go_wp2_with (at_builtin; refine wpList_append_src _ rfl _ _ 23 rfl w.heap.size 45 i0 (.agg #[.int .i64 0, .string ⟨#[]⟩]) 2 24 Try.underlying23 hi hz0 hz1 hz2 rfl (by decide) _ n1 _ rfl HO2'.out _ n2 _ rfl T.out HO2.out (by unfold maxLen; omega) (by omega) HB2.out.size ?_; intro v' w2 hown' hgrow)
          have HO3 := Lib.hid (show w2.ownsRow w.heap.size 45 2 v' (partL 2 l1 l2).length (cellsL ((partL 2 l1 l2).map writeCell)) by
            rw [HP2.out, List.length_append, HN.out.1, HN.out.2, List.map_append, cellsL_append]
            exact hown')
          have HB3 := Lib.hid (HB2.out.grown hgrow HB2.out.size (fun k hk => (HO2'.out.lt k hk).1))
          clear hown' hgrow
          go_wp2_with fail
          go_roundw
          case rel => exact ⟨2, by omega, rfl, HO3.out, HB3.out⟩
          case measure => simp [intOf]
        · rw [HP2.out] at hown
          have HR := Lib.hid (PairsAt.of_own hown (by rw [List.length_map]))
          have HB2 := Lib.hid hb
          clear hb hown
          go_wp2_with fail
          go_ret
          exact ⟨_, rfl, HR.out, HB2.out⟩
end Go.Proofs.Ytcjngaapiomkbaa
