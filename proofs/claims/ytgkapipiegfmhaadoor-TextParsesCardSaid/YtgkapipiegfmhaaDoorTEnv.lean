/-
  What the walks of package text want of the package-level variables, kept by what follows; strconv.Itoa and Atoi by contracts over it. Conditions: none.
-/
import Derived.Test.YtgkapipiegfmhaaDoorRd
import Derived.Test.YtgkapipiegfmhaaDoorShelf
import Derived.Lib.AtoiErrMem
import Derived.Shelf.Strings.SlTrimAscii
import Derived.Shelf.Strings.Prefix
namespace Go.Proofs.YtgkapipiegfmhaaDoor
open Go.RowKit

/-- The package-level variables: a length, the powers of ten, the library's two refusals. -/
structure TEnv (w : World) : Prop where
  size : 8 ≤ w.heap.size
  max : ∃ m, w.cell? ⟨0, 0, none⟩ = some (.int .i64 m)
  pow : Lib.TabIs Tryd.prog w "internal/strconv.uint64pow10" .u64 Lib.pow10Tab
  syn : ∃ tp p, w.var? Tryd.prog "strconv.ErrSyntax" = some #[.iface tp p]
  ran : ∃ tp p, w.var? Tryd.prog "strconv.ErrRange" = some #[.iface tp p]
theorem var_keep {w w' : World} {name : String} {g : Nat} {cs : Array Value} (hg : Tryd.prog.globalNamed name = some g) (hb : w'.heap[g]? = w.heap[g]?) (h : w.var? Tryd.prog name = some cs) : w'.var? Tryd.prog name = some cs := by
  unfold World.var? at h ⊢
  rw [hg] at h ⊢
  simp only [Option.bind_some] at h ⊢
  rw [hb]; exact h
theorem TEnv.keep {w w' : World} (h : TEnv w) (hs : w.heap.size ≤ w'.heap.size) (hb : ∀ k, k < 8 → w'.heap[k]? = w.heap[k]?) : TEnv w' where
  size := Nat.le_trans h.size hs
  max := by obtain ⟨m, hm⟩ := h.max; exact ⟨m, (World.cell?_of_block (a := ⟨0, 0, none⟩) (hb 0 (by decide))).trans hm⟩
  pow := var_keep (g := 3) (by kernel_rfl) (hb _ (by decide)) h.pow
  syn := by obtain ⟨tp, p, e⟩ := h.syn; exact ⟨tp, p, var_keep (g := 1) (by kernel_rfl) (hb _ (by decide)) e⟩
  ran := by obtain ⟨tp, p, e⟩ := h.ran; exact ⟨tp, p, var_keep (g := 2) (by kernel_rfl) (hb _ (by decide)) e⟩
theorem TEnv.below {w w' : World} (h : TEnv w) (hb : Below w.heap.size w w') : TEnv w' := h.keep hb.size fun k hk => hb.block k (Nat.lt_of_lt_of_le hk h.size)
theorem TEnv.gone {w w' : World} {B : Nat} (h : TEnv w) (hb : Gone B w w') (hB : 8 ≤ B) : TEnv w' := h.keep hb.size fun k hk => hb.block k (Nat.lt_of_lt_of_le hk h.size) (by simp; omega)

theorem below_grow (w : World) (q : Nat) (os : Array Obj) : Below w.heap.size w (Sort.grow (w.drewN q) os) := by
  refine ⟨rfl, rfl, rfl, by simp [Sort.grow], fun k hk => ?_⟩
  show (w.heap ++ os)[k]? = _
  rw [Array.getElem?_append_left hk]

theorem itoa_any (n : Int) (h0 : -9223372036854775808 ≤ n) (h1 : n ≤ 9223372036854775807) (w : World) (h : TEnv w) :
    Calls Tryd.prog 27 #[.int .i64 n] w fun e w' => e = .returned (.string ⟨(Lib.itoa n).toArray⟩) ∧ Below w.heap.size w w' := by
  refine (Tryd.strconv_Itoa n h0 h1 w h.pow).mono ?_
  rintro e w' ⟨rfl, k, os, rfl⟩
  exact ⟨rfl, below_grow w k os⟩

/-- How strconv.Atoi ends. -/
def AtoiEnd (s : ByteArray) (e : Ending) : Prop :=
  (∃ n, Lib.atoiAll s.data.toList = .ok n ∧ e = .returned (.tuple #[.int .i64 n, .nilIface])) ∨
  (∃ n p, (∀ m, Lib.atoiAll s.data.toList ≠ .ok m) ∧ e = .returned (.tuple #[.int .i64 n, .iface 83 p]))
theorem atoi_any (s : ByteArray) (hs : s.size ≤ 281474976710656) (w : World) (h : TEnv w) :
    Calls Tryd.prog 37 #[.string s] w fun e w' => AtoiEnd s e ∧ Below w.heap.size w w' := by
  rcases ha : Lib.atoiAll s.data.toList with n | - | -
  · refine (Tryd.strconv_Atoi_ok s (by omega) n ha w).mono ?_
    rintro e w' ⟨rfl, h⟩
    refine ⟨Or.inl ⟨n, ha, rfl⟩, ?_⟩
    rcases h with rfl | ⟨t, rfl⟩
    · exact Below.refl _ _
    · exact Lib.bytesWorld_below _ _ _
  · obtain ⟨tp, p, hv⟩ := h.syn
    refine (Tryd.strconv_Atoi_syntax_var s hs ha tp p w hv).mono ?_
    rintro e w' ⟨N, rfl, -, -, hb⟩
    exact ⟨Or.inr ⟨_, _, (fun m e => by rw [ha] at e; cases e), rfl⟩, hb⟩
  · obtain ⟨tp, p, hv⟩ := h.ran
    refine (Tryd.strconv_Atoi_range_var s hs ha tp p w hv).mono ?_
    rintro e w' ⟨N, rfl, -, -, hb⟩
    exact ⟨Or.inr ⟨_, _, (fun m e => by rw [ha] at e; cases e), rfl⟩, hb⟩

/-! ### The texts that the library's calls answer -/
theorem index_quote : ∀ l : List UInt8, Lib.index l [34] = match wordEnd l with | some p => (p.1.length : Int) | none => -1
  | [] => rfl
  | c :: l => by
    rw [Lib.index, wordEnd, index_quote l]
    by_cases h : c = 34
    · rw [if_pos h, if_pos (by rw [h]; simp [List.isPrefixOf])]; rfl
    · rw [if_neg h, if_neg (by simp [List.isPrefixOf]; exact fun e => h e.symm)]
      cases wordEnd l with
      | none => rfl
      | some p =>
        simp only [Option.map_some]
        rw [if_neg (by rw [beq_iff_eq]; omega)]
        simp
theorem cut_quote (l : List UInt8) : Lib.cut l [34] = match wordEnd l with | some p => (p.1, p.2, true) | none => (l, [], false) := by
  unfold Lib.cut
  rw [index_quote]
  cases h : wordEnd l with
  | none => rfl
  | some p =>
    have hs := wordEnd_sound l p.1 p.2 h
    simp only
    rw [if_pos (by omega), Int.toNat_natCast, hs]
    simp
theorem digits_contains (c : UInt8) : ([48, 49, 50, 51, 52, 53, 54, 55, 56, 57] : List UInt8).contains c = digitC c := by
  have h8 := c.toNat_lt
  rw [Bool.eq_iff_iff, digitC_iff, List.contains_iff_mem]
  simp only [List.mem_cons, List.not_mem_nil, or_false, ← UInt8.toNat_inj]
  constructor
  · intro h; simp at h; omega
  · intro h; simp; omega
theorem trimLeft_digits (l : List UInt8) : Lib.trimLeftS l [48, 49, 50, 51, 52, 53, 54, 55, 56, 57] = l.dropWhile digitC := by
  unfold Lib.trimLeftS
  congr 1
  funext c
  exact digits_contains c
theorem trimSuffix_digits (l : List UInt8) : Lib.trimSuffix l (l.dropWhile digitC) = l.takeWhile digitC := by
  unfold Lib.trimSuffix Lib.hasSuffix
  rw [if_pos (List.isSuffixOf_iff_suffix.2 (List.dropWhile_suffix _))]
  have h := List.takeWhile_append_dropWhile (p := digitC) (l := l)
  have hl : l.length = (l.takeWhile digitC).length + (l.dropWhile digitC).length := by rw [← List.length_append, h]
  rw [hl, Nat.add_sub_cancel]
  generalize l.takeWhile digitC = p at h ⊢
  rw [← h, List.take_left' rfl]
end Go.Proofs.YtgkapipiegfmhaaDoor
