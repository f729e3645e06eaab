/-
  References: cut, mayBe, Print, Parse by contracts. Conditions: fewer than 2^32 - 15 bytes a text; octet's errors lie where they lie; an int where the library keeps one.
-/
import Derived.Test.YtcdibcogboaikaaDoorName2
import Derived.Test.YtcdibcogboaikaaDoorParse
import Derived.BigRegion
namespace Go.Proofs.YtcdibcogboaikaaDoor
open Go.RowKit

/-- A reference: name, tag, digest. -/
structure RefB where
  repo : ByteArray
  tag : ByteArray
  dig : ByteArray
def RefB.val (r : RefB) : Value := .agg #[.string r.repo, .string r.tag, .string r.dig]
/-- May a reference be? -/
def RefB.may (r : RefB) : Bool := repoB r.repo && (if r.dig.size = 0 then tagB r.tag else (parseD r.dig).2 == 0 && decide (r.tag.size = 0))
/-- A text, taken apart at its first mark. -/
def cutR (s : ByteArray) : RefB :=
  if markAt s < 0 then ⟨s, ⟨#[]⟩, ⟨#[]⟩⟩
  else if (s.extract (markAt s).toNat ((markAt s).toNat + 1)).toList == [58] then ⟨s.extract 0 (markAt s).toNat, s.extract ((markAt s).toNat + 1) s.size, ⟨#[]⟩⟩
  else ⟨s.extract 0 (markAt s).toNat, ⟨#[]⟩, s.extract ((markAt s).toNat + 1) s.size⟩
/-- The environment of the names' walks. -/
structure NEnv (w : World) (aD aS aZ : Addr) : Prop where
  env : Env w aD aS aZ
  max : SomeMax w
theorem NEnv.keep {w w' : World} {aD aS aZ : Addr} (h : NEnv w aD aS aZ) (hb : Below w.heap.size w w') : NEnv w' aD aS aZ := ⟨h.env.keep hb, h.max.keep hb⟩

theorem markAt_lt (s : ByteArray) : markAt s = -1 ∨ ∃ i : Nat, markAt s = i ∧ i < s.size := by
  have h : ∀ l : List UInt8, Lib.indexAny l [58, 64] = -1 ∨ ∃ i : Nat, Lib.indexAny l [58, 64] = i ∧ i < l.length := by
    intro l
    induction l with
    | nil => exact Or.inl rfl
    | cons c l ih =>
      unfold Lib.indexAny
      split
      · exact Or.inr ⟨0, rfl, by simp⟩
      · rcases ih with h | ⟨i, h, hi⟩
        · exact Or.inl (by rw [h]; rfl)
        · refine Or.inr ⟨i + 1, ?_, by simpa using hi⟩
          rw [h, if_neg (fun e => by have := beq_iff_eq.1 e; omega)]; rfl
  have := h s.data.toList
  rwa [← Lib.size_eq] at this

/-- Three cells that were laid, behind a call. -/
theorem laid3 {w w1 : World} {a b c : Value} {t : TypeId} (hb : Below (w.alloc (.cells #[a, b, c] t)).heap.size (w.alloc (.cells #[a, b, c] t)) w1) :
    (w1.cell? ⟨w.heap.size, 0, none⟩ = some a ∧ w1.cell? ⟨w.heap.size, 1, none⟩ = some b ∧ w1.cell? ⟨w.heap.size, 2, none⟩ = some c) ∧
    (w1.frozen? ⟨w.heap.size, 0, none⟩ = false ∧ w1.frozen? ⟨w.heap.size, 1, none⟩ = false ∧ w1.frozen? ⟨w.heap.size, 2, none⟩ = false) ∧ Below w.heap.size w w1 ∧ w1.heap[w.heap.size]? = some (.cells #[a, b, c] t (0, 0)) := by
  have hl : w.heap.size < (w.alloc (.cells #[a, b, c] t)).heap.size := by simp
  have hc : ∀ i, w1.cell? ⟨w.heap.size, i, none⟩ = #[a, b, c][i]? := fun i => by
    rw [hb.cell (p := ⟨w.heap.size, i, none⟩) hl, World.cell?_alloc_at _ _ _ _ rfl]
  have hf : ∀ i, w1.frozen? ⟨w.heap.size, i, none⟩ = false := fun i => by
    rw [hb.frozen (p := ⟨w.heap.size, i, none⟩) hl, World.frozen?_alloc_at _ _ _ _ rfl]
  exact ⟨⟨hc 0, hc 1, hc 2⟩, ⟨hf 0, hf 1, hf 2⟩, ((Below.refl _ _).alloc (Nat.le_refl _) _).trans (hb.mono (by omega)), by rw [hb.block _ hl]; show (w.heap.push (Obj.cells #[a, b, c] t (0, 0)))[w.heap.size]? = _; simp⟩

theorem set3 {w : World} {B : Nat} {a b c x y z : Value} {t : TypeId} (h : w.heap[B]? = some (.cells #[a, b, c] t (0, 0))) :
    (((w.setCell ⟨B, 0, none⟩ x).setCell ⟨B, 1, none⟩ y).setCell ⟨B, 2, none⟩ z).heap[B]? = some (.cells #[x, y, z] t (0, 0)) := by
  rw [heap_setCell_same _ _ _ _ _ _ (heap_setCell_same _ _ _ _ _ _ (heap_setCell_same _ _ _ _ _ _ h))]; rfl
theorem infoRef : (Tryd.prog.info? 23).map (·.size) = some 3 := by kernel_rfl
theorem below3 {w w1 : World} (h : Below w.heap.size w w1) (x y z : Value) : Below w.heap.size w (((w1.setCell ⟨w.heap.size, 0, none⟩ x).setCell ⟨w.heap.size, 1, none⟩ y).setCell ⟨w.heap.size, 2, none⟩ z) :=
  ((h.setCell (Nat.le_refl _) _).setCell (Nat.le_refl _) _).setCell (Nat.le_refl _) _

set_option maxRecDepth 100000 in
theorem cut_any (s : ByteArray) (w : World) (hs : s.size < 4294967281) :
    Calls Tryd.prog 29 #[.string s] w fun e w' => e = .returned (cutR s).val ∧ Below w.heap.size w w' := by
  have M := Lib.hid (fun w => first_mark s w hs)
  rcases markAt_lt s with hm | ⟨i, hm, hi⟩
  · have HO := Lib.hid (show cutR s = ⟨s, ⟨#[]⟩, ⟨#[]⟩⟩ by unfold cutR; rw [hm]; rfl)
    rw [hm] at M
    clear hm
    go_enter Tryd.func29, Tryd.ntmps29
    go_wp2_with fail
    refine (M.out _).mono ?_
    rintro e w1 ⟨rfl, hb⟩
    obtain ⟨⟨c0, c1, c2⟩, ⟨z0, z1, z2⟩, hb0, hh⟩ := laid3 hb
    have HB := Lib.hid hb0
    have HH := Lib.hid hh
    clear hb hb0 hh
    go_wp2_with fail
    exact bodyPost_ret (results_cell_row (p := 2) rfl _ _ w.heap.size 23 _ (0, 0) _ rfl (set3 HH.out) Tryd.underlying23 rfl infoRef) rfl ⟨by rw [HO.out]; rfl, below3 HB.out _ _ _⟩
  · rw [hm] at M
    have HO := Lib.hid (show cutR s = if (s.extract i (i + 1)).toList == [58] then ⟨s.extract 0 i, s.extract (i + 1) s.size, ⟨#[]⟩⟩ else ⟨s.extract 0 i, ⟨#[]⟩, s.extract (i + 1) s.size⟩ by
      unfold cutR; rw [hm, if_neg (by omega)]; rfl)
    clear hm
    cases hc : ((s.extract i (i + 1)).toList == [58])
    all_goals
      rw [hc] at HO
      go_enter Tryd.func29, Tryd.ntmps29
      go_wp2_with fail
      refine (M.out _).mono ?_
      rintro e w1 ⟨rfl, hb⟩
      obtain ⟨⟨c0, c1, c2⟩, ⟨z0, z1, z2⟩, hb0, hh⟩ := laid3 hb
      have HB := Lib.hid hb0
      have HH := Lib.hid hh
      clear hb hb0 hh
      go_wp2_with fail
      go_region
      go_wp2_with fail
      exact bodyPost_ret (results_cell_row (p := 2) rfl _ _ w.heap.size 23 _ (0, 0) _ rfl (set3 HH.out) Tryd.underlying23 rfl infoRef) rfl ⟨by rw [HO.out]; rfl, (below3 HB.out _ _ _).drew⟩
end Go.Proofs.YtcdibcogboaikaaDoor
