/-
  TextOne's walk: it answers true. Conditions: what comes in reads as a tree; the package-level variables as TEnv says.
-/
import Derived.Test.YtlhnefeeihghgaaGreatDoorFew2
import Derived.Test.YtlhnefeeihghgaaGreatDoorPrint
import Derived.Test.YtlhnefeeihghgaaGreatDoorTextLaws
import Derived.Deep.DeepCutAuto
import Derived.Deep.RegionLaw
namespace Go.Proofs.YtlhnefeeihghgaaGreatDoor
open Go.RowKit

theorem printOut_ok (T : Val) (h : mayV 6 T = true) (hl : (textL T).length ≤ 4096) : printOut T = (⟨(textL T).toArray⟩, 0) := by
  unfold printOut
  rw [if_pos h, if_pos hl]
theorem printOut_cases (T : Val) : (mayV 6 T = true ∧ (textL T).length ≤ 4096 ∧ printOut T = (⟨(textL T).toArray⟩, 0)) ∨ ∃ k : Int, (k == 0) = false ∧ ¬ (mayV 6 T = true ∧ (textL T).length ≤ 4096) ∧ printOut T = (⟨#[]⟩, k) := by
  unfold printOut
  cases h : mayV 6 T with
  | false => exact Or.inr ⟨1, rfl, (fun h => by cases h.1), rfl⟩
  | true =>
    by_cases hl : (textL T).length ≤ 4096
    · exact Or.inl ⟨rfl, hl, by rw [if_pos rfl, if_pos hl]⟩
    · exact Or.inr ⟨2, rfl, (fun h => hl h.2), by rw [if_pos rfl, if_neg hl]⟩
/-- A row of two, each where it was laid. -/
theorem row_two (w : World) (R : Nat) (T U : Val) (c0 c1 c2 c3 c4 d0 d1 d2 d3 d4 : Value) (hT : IsVal w (.agg #[c0, c1, c2, c3, c4]) T) (hU : IsVal w (.agg #[d0, d1, d2, d3, d4]) U)
    (hR : w.heap[R]? = some (.cells #[c0, c1, c2, c3, c4, d0, d1, d2, d3, d4] 25 (0, 0))) :
    IsVal w (.agg #[.int .i64 3, .int .i64 0, .string ⟨#[]⟩, .slice (some ⟨R, 0, none⟩) 2 2, .slice none 0 0]) (.mk 3 0 ⟨#[]⟩ [T, U] []) := by
  refine .mk 3 0 ⟨#[]⟩ _ _ _ [] (fun i => if i = 0 then .agg #[c0, c1, c2, c3, c4] else .agg #[d0, d1, d2, d3, d4]) (by decide) (by decide) (by decide) (Or.inl ⟨rfl, Or.inl rfl⟩) (by simp) (Or.inr ⟨R, 0, 2, rfl, by simp, by simp, by decide, fun i hi => ?_⟩) (fun i hi => ?_)
  · have : i = 0 ∨ i = 1 := by simp at hi; omega
    rcases this with rfl | rfl <;> (refine ⟨_, _, _, _, _, rfl, ?_, ?_, ?_, ?_, ?_⟩ <;> simp [World.cell?, hR])
  · have : i = 0 ∨ i = 1 := by simp at hi; omega
    rcases this with rfl | rfl
    · exact hT
    · exact hU
theorem text_row2 (T U : Val) : textL (.mk 3 0 ⟨#[]⟩ [T, U] []) = [91] ++ textL T ++ [44] ++ textL U ++ [93] := by
  rw [textL_eq, if_neg (by decide), if_neg (by decide), if_neg (by decide), bodyL, bodyL, bodyL]
  simp
/-- Behind both calls of 'few': what came in lies, cut, where it lay. -/
structure TwoFew (V1 V2 : Nat) (T U : Val) (w0 w : World) : Prop where
  below : Below w0.heap.size w0 w
  one : ∃ c0 c1 c2 c3 c4, At5 w V1 c0 c1 c2 c3 c4 ∧ IsVal w (.agg #[c0, c1, c2, c3, c4]) T
  two : ∃ c0 c1 c2 c3 c4, At5 w V2 c0 c1 c2 c3 c4 ∧ IsVal w (.agg #[c0, c1, c2, c3, c4]) U
theorem TwoFew.mk2 {w w0 : World} {V1 V2 : Nat} {T U : Val} {a0 a1 a2 a3 a4 b0 b1 b2 b3 b4 c0 c1 c2 c3 c4 d0 d1 d2 d3 d4 : Value} (h1 : V1 = w0.heap.size) (h2 : V2 = w0.heap.size + 1) (hb : Below w0.heap.size w0 w)
    (hA : At5 w V1 a0 a1 a2 a3 a4) (hB : At5 w V2 b0 b1 b2 b3 b4) (hv : ValIn (fun k => k < w0.heap.size ∨ w0.heap.size + 2 ≤ k) w (.agg #[c0, c1, c2, c3, c4]) T) (hu : ValIn (fun k => k < w0.heap.size ∨ w0.heap.size + 2 ≤ k) w (.agg #[d0, d1, d2, d3, d4]) U) :
    TwoFew V1 V2 T U w0 (set5 (set5 w V1 0 c0 c1 c2 c3 c4) V2 0 d0 d1 d2 d3 d4) := by
  obtain ⟨s1, s2, s3⟩ := set5_rest w V1 0 c0 c1 c2 c3 c4
  obtain ⟨r1, r2, r3⟩ := set5_rest (set5 w V1 0 c0 c1 c2 c3 c4) V2 0 d0 d1 d2 d3 d4
  have hB1 := set5_five hB (g := V1) (by omega) 0 c0 c1 c2 c3 c4
  have hk : ∀ k, k ≠ V1 → k ≠ V2 → (set5 (set5 w V1 0 c0 c1 c2 c3 c4) V2 0 d0 d1 d2 d3 d4).heap[k]? = w.heap[k]? := fun k h h' => (set5_block _ _ _ _ _ _ _ _ k h').trans (set5_block _ _ _ _ _ _ _ _ k h)
  refine ⟨⟨r1.trans (s1.trans hb.os), r2.trans (s2.trans hb.tape), r3.trans (s3.trans hb.output), by rw [set5_size, set5_size]; exact hb.size, fun k hk' => (hk k (by omega) (by omega)).trans (hb.block k hk')⟩,
    ⟨_, _, _, _, _, set5_five (set5_five0 hA c0 c1 c2 c3 c4) (g := V2) (by omega) 0 d0 d1 d2 d3 d4, (hv.keep (S' := fun _ => True) fun k hS _ => ⟨hk k (by omega) (by omega), trivial⟩).isVal⟩,
    ⟨_, _, _, _, _, set5_five0 hB1 d0 d1 d2 d3 d4, (hu.keep (S' := fun _ => True) fun k hS _ => ⟨hk k (by omega) (by omega), trivial⟩).isVal⟩⟩

end Go.Proofs.YtlhnefeeihghgaaGreatDoor
