/-
  A message as a value; a row of ints that are no less than zero. Conditions: none.
-/
import Derived.Test.YtjjefdgcbdfclaaNetPlain
namespace Go.Proofs.Ytjjefdgcbdfclaa
open Go.RowKit Go.WideShapes

def msV (m : Ms) : Value := .agg #[.int .i64 m.id, .int .i64 m.to, .string m.body, .int .i64 m.tm]
/-- A row of ints. -/
def IntsRow (w : World) (v : Value) (l : List Nat) : Prop := RwAt 1 w v (l.map fun (k : Nat) => [Value.int .i64 (k : Int)])
theorem IntsRow.keep {w w' : World} {v : Value} {l : List Nat} (h : IntsRow w v l) (hb : Below w.heap.size w w') : IntsRow w' v l := RwAt.keep h hb
theorem IntsRow.at {w : World} {a : Option Addr} {n c : Nat} {l : List Nat} (h : IntsRow w (.slice a n c) l) (j : Nat) (hj : j < l.length) : ∃ b o, a = some ⟨b, o, none⟩ ∧ w.cell? ⟨b, o + j, none⟩ = some (.int .i64 ((l[j] : Nat) : Int)) := by
  obtain ⟨b, o, e, hc⟩ := RwAt.at h j (by rw [List.length_map]; exact hj)
  have := hc 0 (.int .i64 ((l[j] : Nat) : Int)) (by rw [List.getElem_map]; rfl)
  rw [Nat.mul_one] at this
  exact ⟨b, o, e, this⟩
theorem any_take_succ (l : List Nat) (k j : Nat) (hj : j < l.length) : (l.take (j + 1)).any (· == k) = ((l.take j).any (· == k) || l[j] == k) := by
  rw [List.take_succ_eq_append_getElem hj, List.any_append]; simp
/-- A row of ints, whatever they are. -/
def IntRw (w : World) (v : Value) (l : List Int) : Prop := RwAt 1 w v (l.map fun x => [Value.int .i64 x])
theorem IntRw.keep {w w' : World} {v : Value} {l : List Int} (h : IntRw w v l) (hb : Below w.heap.size w w') : IntRw w' v l := RwAt.keep h hb
theorem IntRw.shape {w : World} {v : Value} {l : List Int} (h : IntRw w v l) : ∃ a c, v = .slice a l.length c ∧ l.length ≤ c ∧ c ≤ 9223372036854775807 := by
  obtain ⟨a, c, e, h1, h2⟩ := RwAt.shape h
  rw [List.length_map] at e h1
  unfold maxLen at h2
  exact ⟨a, c, e, h1, by omega⟩
theorem IntRw.at {w : World} {a : Option Addr} {n c : Nat} {l : List Int} (h : IntRw w (.slice a n c) l) (j : Nat) (hj : j < l.length) : ∃ b o, a = some ⟨b, o, none⟩ ∧ w.cell? ⟨b, o + j, none⟩ = some (.int .i64 l[j]) := by
  obtain ⟨b, o, e, hc⟩ := RwAt.at h j (by rw [List.length_map]; exact hj)
  have := hc 0 (.int .i64 l[j]) (by rw [List.getElem_map]; rfl)
  rw [Nat.mul_one] at this
  exact ⟨b, o, e, this⟩
theorem intCells : Try.prog.cellsOf 3 = 1 := by kernel_rfl
/-- A slice of ints that was read. -/
theorem ints_read {H : Type} {enc : TypeId × Value → H} {W : World} {fuel : Nat} {v : Value} {x : DataW H × List MemPlace}
    (h : DataW.trod enc Try.prog W 0 (fun _ => true) true fuel 35 [v] = some x) : ∃ ls : List Int, IntRw W v ls ∧ ∀ l ∈ ls, i64 l := by
  rcases slice_cells Try.underlying35 intCells (by decide) h with h | ⟨b, o, len, cap, rfl, h1, h2, h3, h4⟩
  · exact ⟨[], Or.inl ⟨rfl, h⟩, by simp⟩
  · obtain ⟨l, hl, hp⟩ := exists_list (P := fun i (x : Int) => W.cell? ⟨b, o + i, none⟩ = some (.int .i64 x) ∧ i64 x) len fun i hi => by
      obtain ⟨cs, n', y, -, hcl, hca, hr⟩ := h4 i hi
      obtain ⟨c0, rfl⟩ : ∃ c0, cs = [c0] := by
        match cs, hcl with
        | [a], _ => exact ⟨a, rfl⟩
      obtain ⟨num, e0, -, b1⟩ := DataW.trod_int Try.underlying3 hr
      obtain rfl : c0 = .int .i64 num := by simpa using e0
      have := hca 0 (by decide)
      rw [Nat.mul_one, Nat.add_zero] at this
      exact ⟨num, this, bounds_i64 b1⟩
    refine ⟨l, Or.inr ⟨b, o, cap, by rw [List.length_map, hl], by rw [List.length_map]; omega, by rw [List.length_map]; omega, h3, fun i hi j u hj => ?_⟩, fun x hx => ?_⟩
    · rw [List.length_map] at hi
      rw [List.getElem_map] at hj
      have hlt : j < 1 := (List.getElem?_eq_some_iff.1 hj).1
      obtain rfl : j = 0 := by omega
      obtain rfl : Value.int .i64 l[i] = u := by simpa using hj
      rw [Nat.mul_one]
      exact (hp i hi).1
    · obtain ⟨i, hi, rfl⟩ := List.getElem_of_mem hx
      exact (hp i hi).2
/-- The same world, under a name that the walk does not see through. -/
def SameW (a b : World) : Prop := a = b
theorem SameW.rfl' {a : World} : SameW a a := rfl
theorem SameW.out {a b : World} (h : SameW a b) : a = b := h
end Go.Proofs.Ytjjefdgcbdfclaa
