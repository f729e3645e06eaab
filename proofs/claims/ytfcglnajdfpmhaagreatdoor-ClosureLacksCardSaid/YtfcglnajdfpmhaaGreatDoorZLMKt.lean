/-
  What the manifests' laws' walks have in common: a variable that holds a manifest, few's answer laid into it, what is few. Conditions: none.
-/
import Derived.Test.YtfcglnajdfpmhaaGreatDoorZCloP
import Derived.Test.YtfcglnajdfpmhaaGreatDoorZMan4
import Derived.Test.YtfcglnajdfpmhaaGreatDoorZMan5
/-! What the manifests' laws' walks have in common: a variable that holds a manifest, few's answer laid into it, what is few. Conditions: none. -/
namespace Go.Proofs.YtfcglnajdfpmhaaGreatDoor
open Go.RowKit

/-- Block M holds the manifest m. -/
def VarM (w : World) (M : Nat) (i : Bool) (c : ByteArray) (la : Option Addr) (nl lc : Nat) (ka : Option Addr) (nk kc : Nat) (m : Man) : Prop :=
  At4 w M (.bool i) (.string c) (.slice la nl lc) (.slice ka nk kc) ∧ ManAt w (.agg #[.bool i, .string c, .slice la nl lc, .slice ka nk kc]) m
theorem VarM.keep {w w' : World} {M : Nat} {i : Bool} {c : ByteArray} {la : Option Addr} {nl lc : Nat} {ka : Option Addr} {nk kc : Nat} {m : Man} (h : VarM w M i c la nl lc ka nk kc m) (hb : Below w.heap.size w w') : VarM w' M i c la nl lc ka nk kc m := ⟨h.1.keep hb, h.2.keep hb⟩
/-- What a call made, laid into a variable that was there. -/
theorem VarM.set {W w2 : World} {M : Nat} {a b c' d : Value} {i : Bool} {c : ByteArray} {la : Option Addr} {nl lc : Nat} {ka : Option Addr} {nk kc : Nat} {m : Man} (hA : At4 w2 M a b c' d) (hM : M < W.heap.size)
    (h : ManMade W m (.agg #[.bool i, .string c, .slice la nl lc, .slice ka nk kc]) w2) : VarM (set4 w2 M (.bool i) (.string c) (.slice la nl lc) (.slice ka nk kc)) M i c la nl lc ka nk kc m :=
  ⟨set4_four hA _ _ _ _, h.far _ fun j h1 _ => set4_block _ _ _ _ _ _ j (by omega)⟩
/-- .. into one that was made behind it. -/
theorem VarM.new {W w2 : World} {i : Bool} {c : ByteArray} {la : Option Addr} {nl lc : Nat} {ka : Option Addr} {nk kc : Nat} {m : Man} 
    (h : ManMade W m (.agg #[.bool i, .string c, .slice la nl lc, .slice ka nk kc]) w2) : VarM (w2.alloc (.cells #[.bool i, .string c, .slice la nl lc, .slice ka nk kc] 25)) w2.heap.size i c la nl lc ka nk kc m :=
  ⟨At4.new _ _ _ _ _, h.man.keep (below_new _ _)⟩
theorem below_set4 {B : Nat} {w0 w2 : World} {M : Nat} (h : Below B w0 w2) (hM : B ≤ M) (c0 c1 c2 c3 : Value) : Below B w0 (set4 w2 M c0 c1 c2 c3) :=
  ⟨h.os, h.tape, h.output, by rw [set4_size]; exact h.size, fun j hj => (set4_block _ _ _ _ _ _ j (by omega)).trans (h.block j hj)⟩
theorem set4_eq {w W : World} {M : Nat} {a b c d : Value} (h : set4 w M a b c d = W) : (((w.setCell ⟨M, 0, none⟩ a).setCell ⟨M, 1, none⟩ b).setCell ⟨M, 2, none⟩ c).setCell ⟨M, 3, none⟩ d = W := h
theorem fewM_few (m : Man) : (fewM m).Few := by
  refine ⟨⟨?_, fun l hl => ?_, fun k hk => ?_⟩, ?_, ?_⟩
  · exact Nat.lt_of_le_of_lt (cut80_size _) (by decide)
  · obtain ⟨y, -, rfl⟩ := List.mem_map.1 hl
    exact Nat.lt_of_le_of_lt (cut80_size _) (by decide)
  · obtain ⟨y, -, rfl⟩ := List.mem_map.1 hk
    exact Nat.lt_of_le_of_lt (cut80_size _) (by decide)
  · show ((m.layers.take 10).map _).length ≤ _
    rw [List.length_map, List.length_take]; omega
  · show ((m.kids.take 10).map _).length ≤ _
    rw [List.length_map, List.length_take]; omega
/-- What is parsed is few. -/
theorem parseM_few (s : ByteArray) : (parseM s).1.Few := by
  rcases parseM_cases s with ⟨m, h, hr, -⟩ | ⟨e, h, -⟩
  · rw [h]
    show m.Few
    cases hi : m.index with
    | true =>
      obtain ⟨h1, h2, -, h4, h5⟩ := (rightM_index hi).1 hr
      exact ⟨⟨by rw [h1]; decide, by rw [h2]; simp, fun k hk => by rw [isD_size (apartL_isD _ _ h5 k hk)]; decide⟩, by rw [h2]; exact Nat.zero_le _, by omega⟩
    | false =>
      obtain ⟨h1, h2, h3, h4⟩ := (rightM_image hi).1 hr
      refine ⟨⟨by rw [isD_size h1]; decide, fun l hl => ?_, by rw [h4]; simp⟩, by omega, by rw [h4]; exact Nat.zero_le _⟩
      have := h3 l hl
      unfold okLayer at this
      rw [Bool.and_eq_true] at this
      rw [isD_size this.1]; decide
  · rw [h]
    exact ⟨⟨(by decide : (0 : Nat) < 1099511627776), by simp [noMan], by simp [noMan]⟩, Nat.zero_le _, Nat.zero_le _⟩
end Go.Proofs.YtfcglnajdfpmhaaGreatDoor
