/-
  The digest's wide by its contract: a number's bytes, the highest first. Conditions: at most 8 bytes.
-/
import Derived.Test.YtcdibcogboaikaaDoorAdd
import Derived.Test.YtcdibcogboaikaaDoorWide
import Derived.Laws.MakeOwn
namespace Go.Proofs.YtcdibcogboaikaaDoor
open Go.RowKit

theorem set_wideR (n j k : Nat) (h : j < k) : (Lib.byteCells (List.replicate (k - j) 0 ++ wideR n j)).set (k - 1 - j) (.int .u8 ((n : Int) / 2 ^ (8 * j) % 256)) = Lib.byteCells (List.replicate (k - (j + 1)) 0 ++ wideR n (j + 1)) := by
  have hb : Value.int .u8 ((n : Int) / 2 ^ (8 * j) % 256) = Value.int .u8 ((UInt8.ofNat (n / 256 ^ j % 256)).toNat) := by
    congr 1
    have h : ((n : Int) / 2 ^ (8 * j) % 256) = ((n / 2 ^ (8 * j) % 256 : Nat) : Int) := by
      rw [Int.natCast_emod, Int.natCast_ediv, Int.natCast_pow]; rfl
    rw [h, Nat.pow_mul]
    have : n / 256 ^ j % 256 < 256 := Nat.mod_lt _ (by decide)
    show ((n / 256 ^ j % 256 : Nat) : Int) = _
    rw [UInt8.toNat_ofNat_of_lt' (by simpa using this)]
  rw [hb]
  have e : List.replicate (k - j) (0 : UInt8) = List.replicate (k - (j + 1)) 0 ++ [0] := by
    rw [show k - j = (k - (j + 1)) + 1 by omega, List.replicate_succ']
  have e2 : wideR n (j + 1) = UInt8.ofNat (n / 256 ^ j % 256) :: wideR n j := by
    unfold wideR; rw [wideL_succ, List.reverse_append]; rfl
  rw [e, e2, List.append_assoc, Lib.byteCells_append, Lib.byteCells_append, List.set_append_right _ _ (by rw [Lib.byteCells_length, List.length_replicate]; omega), Lib.byteCells_length, List.length_replicate, show k - 1 - j - (k - (j + 1)) = 0 by omega]
  simp [Lib.byteCells]

set_option maxRecDepth 100000 in
set_option maxHeartbeats 1000000 in
theorem wideD_any (n k : Nat) (w : World) (hk : k ≤ 8) :
    Calls Tryd.prog 60 #[.int .u64 n, .int .i64 k] w fun e w' => e = .returned (.string ⟨(wideR n k).toArray⟩) ∧ Below w.heap.size w w' := by
  obtain ⟨i0, hi, hz0, hz1, hz2⟩ := info_parts infoByte
  go_enter Tryd.func60, Tryd.ntmps60
  go_wp2_with (at_make; refine wpList_make_full w rfl _ _ 55 rfl w.heap.size 5 i0 (.int .u8 0) 1 Tryd.underlying55 hi hz0 hz1 .i64 .i64 k k k rfl rfl rfl rfl ?c1 ?c2 ?c3 ?_)
  case c1 => rw [hz2]; omega
  case c2 => unfold maxLen; omega
  case c3 => exact Nat.le_refl _
  intro w1 hown hgrow
  have hz : (madeCells #[Value.int IntKind.u8 0] k).toList = Lib.byteCells (List.replicate (k - 0) 0 ++ wideR n 0) := by
    rw [toList_madeCells_one]; simp [wideR, wideL, Lib.byteCells]
  rw [hz] at hown
  clear hz
  have hb1 : Below w.heap.size w w1 := (Below.refl _ _).grown hgrow (Nat.le_refl _) (fun _ e => by cases e)
  go_wp2_with fail
  go_loopw [11] (fun i wr => ∃ j : Nat, j ≤ k ∧ i = .int .i64 j ∧ wr.ownsRow w.heap.size 5 1 (.slice (some ⟨w.heap.size, 0, none⟩) k k) k (Lib.byteCells (List.replicate (k - j) 0 ++ wideR n j)) ∧ Below w.heap.size w wr) (fun i _ => k - (intOf i).toNat)
  case atStart => exact ⟨0, Nat.zero_le _, rfl, hown, hb1⟩
  case round =>
    obtain ⟨j, hj, rfl, ho, hbw⟩ := hrel
    by_cases hlt : j < k
    · have q := ho.cellAt (k - 1 - j) (by omega)
      have f := ho.frozenAt (k - 1 - j)
      have hlen : (Lib.byteCells (List.replicate (k - j) 0 ++ wideR n j)).length = k := by rw [Lib.byteCells_length]; simp [wideR_length]; omega
      obtain ⟨y, hy⟩ : ∃ y, (Lib.byteCells (List.replicate (k - j) 0 ++ wideR n j))[k - 1 - j]? = some y := ⟨_, List.getElem?_eq_getElem (by omega)⟩
      rw [hy] at q
      clear hy
      have HO := Lib.hid ho
      have HB := Lib.hid hbw
      clear ho hbw hlen
      have e1 : ((k : Int) - 1 - (j : Int)) = ((k - 1 - j : Nat) : Int) := by omega
      have e1' := Lib.hid e1
      clear e1
      have i1 : (0 : Int) ≤ (k : Int) - 1 - (j : Int) := by omega
      have i2 : (k : Int) - 1 - (j : Int) < (k : Int) := by omega
      have i3 : ((k : Int) - 1 - (j : Int)).toNat = k - 1 - j := by omega
      go_wp2_with fail
      go_roundw
      case rel =>
        have st := HO.out.stored (k - 1 - j) (.int .u8 ((n : Int) / 2 ^ (8 * j) % 256))
        refine ⟨j + 1, by omega, by go_num, ?_, HB.out.grown st.2 HB.out.size (fun _ e => by cases e; exact Nat.le_refl _)⟩
        rw [← set_wideR n j k hlt]
        exact st.1
      case measure => simp [intOf]; omega
    · obtain rfl : j = k := by omega
      rw [Nat.sub_self, List.replicate_zero, List.nil_append] at ho
      have hcv := run_convert_bytes_back (P := Tryd.prog) wr 55 9 5 ⟨w.heap.size, 0, none⟩ j (wideR n j) Tryd.underlying55 Tryd.underlying5 Tryd.underlying9 (fun i hi => by
        rw [wideR_length] at hi
        have := ho.cellAt i (by omega)
        rw [addr0_add, this, List.getElem?_eq_getElem (by rw [Lib.byteCells_length, wideR_length]; exact hi)]
        simp [Lib.byteCells])
      rw [wideR_length] at hcv
      go_wp2_with fail
      go_ret
      exact ⟨rfl, hbw⟩
end Go.Proofs.YtcdibcogboaikaaDoor
