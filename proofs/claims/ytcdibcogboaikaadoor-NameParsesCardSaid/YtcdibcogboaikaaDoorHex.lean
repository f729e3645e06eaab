/-
  octet.Hex by its contract: the digits of the bytes. Conditions: at most 2^40 bytes.
-/
import Derived.Test.YtcdibcogboaikaaDoorShelf
import Derived.Test.YtcdibcogboaikaaDoorPlain
import Derived.WalkKit
import Derived.WalkLawsBesides
import Derived.WalkSpells
import Derived.BigCall
import Derived.Lib.Hide
import Derived.Outline
namespace Go.Proofs.YtcdibcogboaikaaDoor
open Go.RowKit

theorem dig_at (n : Nat) (h : n < 16) : ({ data := #[48, 49, 50, 51, 52, 53, 54, 55, 56, 57, 97, 98, 99, 100, 101, 102] } : ByteArray)[n]'h = hexDig n := by
  have : ∀ m : Fin 16, ({ data := #[48, 49, 50, 51, 52, 53, 54, 55, 56, 57, 97, 98, 99, 100, 101, 102] } : ByteArray)[m.1]'m.2 = hexDig m.1 := by decide
  exact this ⟨n, h⟩
theorem take_hexL (s : ByteArray) (k : Nat) (h : k < s.size) : hexL (s.data.toList.take (k + 1)) = hexL (s.data.toList.take k) ++ [hexDig (s[k].toNat / 16), hexDig (s[k].toNat % 16)] := by
  rw [List.take_succ_eq_append_getElem (by simpa using h), hexL_append]; rfl

set_option maxHeartbeats 1000000 in
theorem Hex_any (s : ByteArray) (w : World) (hs : s.size ≤ 1099511627776) :
    Calls Tryd.prog 31 #[.string s] w fun e w' => e = .returned (.string ⟨(hexL s.data.toList).toArray⟩) ∧ Below w.heap.size w w' := by
  have hg := Tryd.Builder_Grow_fresh_cap w.heap.size w.heap.size (2 * s.size) (w.alloc (.cells #[.pointer none, .slice none 0 0] 57)) (Nat.le_refl _) (by show (w.heap.push _)[w.heap.size]? = _; simp) (by simp) (by omega)
  have HG := Lib.hid hg
  clear hg
  go_enter Tryd.func31, Tryd.ntmps31
  go_wp2_with fail
  refine (show Calls _ _ _ _ _ from by rw [show (2 * (s.size : Int)) = ((2 * s.size : Nat) : Int) from by omega]; exact HG.out).mono ?_
  rintro e w1 ⟨rfl, ⟨h1, hb1⟩, -⟩
  have I1 : Lib.IsBuilderF 57 5 w.heap.size w.heap.size (Lib.byteCells []) w1 := Or.inr (Lib.BuilderAtF.of h1)
  have b1 : Below w.heap.size w w1 := ((Below.refl _ _).alloc (by omega) _).trans hb1
  clear h1 hb1
  go_wp2_with fail
  go_loopw [11] (fun i wr => ∃ k : Nat, k ≤ s.size ∧ i = .int .i64 k ∧ Lib.IsBuilderF 57 5 w.heap.size w.heap.size (Lib.byteCells (hexL (s.data.toList.take k))) wr ∧ Below w.heap.size w wr) (fun i _ => s.size - (intOf i).toNat)
  case atStart => exact ⟨0, Nat.zero_le _, rfl, I1, b1⟩
  case round =>
    obtain ⟨k, hk, rfl, hI, hb⟩ := hrel
    by_cases hlt : k < s.size
    · have hbs := hb.size
      have hc := s[k].toNat_lt
      have q1 : (0 : Int) ≤ (s[k].toNat : Int) / 16 := by omega
      have q2 : (s[k].toNat : Int) / 16 < 16 := by omega
      have q3 : (0 : Int) ≤ (s[k].toNat : Int) % 16 := by omega
      have q4 : (s[k].toNat : Int) % 16 < 16 := by omega
      have ts := Lib.hid (take_hexL s k hlt)
      have hl : (Lib.byteCells (hexL (s.data.toList.take k))).length ≤ 2 * k := by rw [Lib.byteCells_length, hexL_length]; have := List.length_take_le k s.data.toList; omega
      go_wp2_with fail
      refine (Tryd.Builder_WriteByte_k w.heap.size w.heap.size _ _ wr hI (by omega) hbs).mono ?_
      rintro e w2 ⟨rfl, h2, hb2, -⟩
      have hbs2 := hb2.size
      go_wp2_with fail
      refine (Tryd.Builder_WriteByte_k w.heap.size w.heap.size _ _ w2 (Or.inr h2) (by simp only [List.length_append, List.length_cons, List.length_nil]; omega) (by omega)).mono ?_
      rintro e w3 ⟨rfl, h3, hb3, -⟩
      go_wp2
      go_roundw
      case rel =>
        refine ⟨k + 1, by omega, by go_num, ?_, (hb.trans hb2).trans hb3⟩
        rw [ts.out]
        rw [dig_at _ (by omega), dig_at _ (by omega)] at h3
        refine Or.inr ?_
        simpa [Lib.byteCells] using h3
      case measure => simp [intOf]; omega
    · rw [List.take_of_length_le (by simp; omega)] at hI
      go_wp2_with fail
      refine (Tryd.Builder_String_any_k w.heap.size w.heap.size _ wr hI hb.size).mono ?_
      rintro e w2 ⟨rfl, -, hb2, -⟩
      go_wp2
      go_ret
      exact ⟨rfl, hb.trans hb2⟩
end Go.Proofs.YtcdibcogboaikaaDoor
