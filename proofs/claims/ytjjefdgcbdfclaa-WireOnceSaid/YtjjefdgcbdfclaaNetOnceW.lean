/-
  What WireOnce holds: a net, the texts that were sent, how many of each are on their way; what stays beside each store. A row of texts that came in. Conditions: none.
-/
import Derived.Test.YtjjefdgcbdfclaaNetMaps
import Derived.Test.YtjjefdgcbdfclaaNetVar
import Derived.Test.YtjjefdgcbdfclaaNetInts
namespace Go.Proofs.Ytjjefdgcbdfclaa
open Go.RowKit Go.WideShapes

/-! ### A row of texts -/
def StrRw (w : World) (v : Value) (l : List ByteArray) : Prop := RwAt 1 w v (l.map fun x => [Value.string x])
theorem StrRw.keep {w w' : World} {v : Value} {l : List ByteArray} (h : StrRw w v l) (hb : Below w.heap.size w w') : StrRw w' v l := RwAt.keep h hb
theorem StrRw.shape {w : World} {v : Value} {l : List ByteArray} (h : StrRw w v l) : ∃ a c, v = .slice a l.length c ∧ l.length ≤ c ∧ c ≤ 9223372036854775807 := by
  obtain ⟨a, c, e, h1, h2⟩ := RwAt.shape h
  rw [List.length_map] at e h1
  unfold maxLen at h2
  exact ⟨a, c, e, h1, by omega⟩
theorem StrRw.at {w : World} {a : Option Addr} {n c : Nat} {l : List ByteArray} (h : StrRw w (.slice a n c) l) (j : Nat) (hj : j < l.length) : ∃ b o, a = some ⟨b, o, none⟩ ∧ w.cell? ⟨b, o + j, none⟩ = some (.string l[j]) := by
  obtain ⟨b, o, e, hc⟩ := RwAt.at h j (by rw [List.length_map]; exact hj)
  have := hc 0 (.string l[j]) (by rw [List.getElem_map]; rfl)
  rw [Nat.mul_one] at this
  exact ⟨b, o, e, this⟩
theorem strCells : Try.prog.cellsOf 9 = 1 := by kernel_rfl
theorem strs_read {H : Type} {enc : TypeId × Value → H} {W : World} {fuel : Nat} {v : Value} {x : DataW H × List MemPlace}
    (h : DataW.trod enc Try.prog W 0 (fun _ => true) true fuel 41 [v] = some x) : ∃ ls : List ByteArray, StrRw W v ls ∧ ∀ l ∈ ls, l.size ≤ maxLen := by
  rcases slice_cells Try.underlying41 strCells (by decide) h with h | ⟨b, o, len, cap, rfl, h1, h2, h3, h4⟩
  · exact ⟨[], Or.inl ⟨rfl, h⟩, by simp⟩
  · obtain ⟨l, hl, hp⟩ := exists_list (P := fun i (x : ByteArray) => W.cell? ⟨b, o + i, none⟩ = some (.string x) ∧ x.size ≤ maxLen) len fun i hi => by
      obtain ⟨cs, n', y, -, hcl, hca, hr⟩ := h4 i hi
      obtain ⟨c0, rfl⟩ : ∃ c0, cs = [c0] := by
        match cs, hcl with
        | [a], _ => exact ⟨a, rfl⟩
      obtain ⟨s, e0, -, b1⟩ := DataW.trod_string Try.underlying9 hr
      obtain rfl : c0 = .string s := by simpa using e0
      have := hca 0 (by decide)
      rw [Nat.mul_one, Nat.add_zero] at this
      exact ⟨s, this, b1⟩
    refine ⟨l, Or.inr ⟨b, o, cap, by rw [List.length_map, hl], by rw [List.length_map]; omega, by rw [List.length_map]; omega, h3, fun i hi j u hj => ?_⟩, fun x hx => ?_⟩
    · rw [List.length_map] at hi
      rw [List.getElem_map] at hj
      have hlt : j < 1 := (List.getElem?_eq_some_iff.1 hj).1
      obtain rfl : j = 0 := by omega
      obtain rfl : Value.string l[i] = u := by simpa using hj
      rw [Nat.mul_one]
      exact (hp i hi).1
    · obtain ⟨i, hi, rfl⟩ := List.getElem_of_mem hx
      exact (hp i hi).2

/-! ### What stays beside a store into a map -/
theorem IntMap.isMap {w : World} {b n : Nat} {f : Int → Int} (h : IntMap w b n f) : ∃ es c, w.heap[b]? = some (.map es c) := by
  obtain ⟨D, ⟨es, c, h1, -⟩, -⟩ := h
  exact ⟨es, c, h1⟩
theorem StrMap.isMap {w : World} {b n : Nat} {f : Int → ByteArray} (h : StrMap w b n f) : ∃ es c, w.heap[b]? = some (.map es c) := by
  obtain ⟨D, ⟨es, c, h1, -⟩, -⟩ := h
  exact ⟨es, c, h1⟩
theorem cell_not_map {w : World} {b : Nat} (hb : ∃ es c, w.heap[b]? = some (.map es c)) {p : Addr} {v : Value} (h : w.cell? p = some v) : p.block ≠ b := by
  rintro rfl
  obtain ⟨es, c, hb⟩ := hb
  simp [World.cell?, hb] at h
theorem RwAt.past {m : Nat} {w w' : World} {v : Value} {l : List (List Value)} {b : Nat} (h : RwAt m w v l) (hb : ∃ es c, w.heap[b]? = some (.map es c)) (hg : w.grownBy w' (some b)) : RwAt m w' v l := by
  rcases h with h | ⟨g, o, cap, h1, h2, h3, h4, h5⟩
  · exact Or.inl h
  · exact Or.inr ⟨g, o, cap, h1, h2, h3, h4, fun i hi j u hu => hg.cell (h5 i hi j u hu) (fun e => cell_not_map hb (h5 i hi j u hu) (Option.some.inj e))⟩
theorem VarN.beside {w w' : World} {B b : Nat} {n : Nt} (h : VarN w B n) (hb : ∃ es c, w.heap[b]? = some (.map es c)) (hg : w.grownBy w' (some b)) : VarN w' B n := by
  obtain ⟨a, k, c, l, t, h1, ⟨fv, e, h2⟩, h3, h4, h5⟩ := h.is
  have hne : B ≠ b := by
    rintro rfl
    obtain ⟨es, c', hb⟩ := hb
    unfold At3 at h1
    rw [hb] at h1
    simp at h1
  exact ⟨a, k, c, l, t, (hg.block B h1.lt (by simpa using hne)).trans h1, ⟨fv, e, h2.past hb hg⟩, h3, h4, h5⟩
/-- What WireOnce holds: c1, c2 bound the entries. -/
structure OnceW (w wr : World) (Bn Bs Bl : Nat) (n : Nt) (g : Int → ByteArray) (f : Int → Int) (c1 c2 : Nat) : Prop where
  net : VarN wr Bn n
  sent : StrMap wr Bs c1 g
  left : IntMap wr Bl c2 f
  below : Below w.heap.size w wr
  ln : w.heap.size ≤ Bn
  ls : w.heap.size ≤ Bs
  ll : w.heap.size ≤ Bl
section
variable {w wr w' : World} {Bn Bs Bl : Nat} {n n' : Nt} {g g' : Int → ByteArray} {f f' : Int → Int} {c1 c2 : Nat}
theorem OnceW.nes (h : OnceW w wr Bn Bs Bl n g f c1 c2) : Bs ≠ Bn := by
  rintro rfl
  obtain ⟨a, k, c, l, t, h1, -⟩ := h.net.is
  obtain ⟨es, c', hb⟩ := h.sent.isMap
  unfold At3 at h1
  rw [hb] at h1
  simp at h1
theorem OnceW.nel (h : OnceW w wr Bn Bs Bl n g f c1 c2) : Bl ≠ Bn := by
  rintro rfl
  obtain ⟨a, k, c, l, t, h1, -⟩ := h.net.is
  obtain ⟨es, c', hb⟩ := h.left.isMap
  unfold At3 at h1
  rw [hb] at h1
  simp at h1
theorem OnceW.keep (h : OnceW w wr Bn Bs Bl n g f c1 c2) (hb : Below wr.heap.size wr w') : OnceW w w' Bn Bs Bl n g f c1 c2 :=
  ⟨h.net.keep hb, h.sent.keep hb, h.left.keep hb, Below.then h.below hb, h.ln, h.ls, h.ll⟩
theorem OnceW.set (h : OnceW w wr Bn Bs Bl n g f c1 c2) {a : Option Addr} {k c : Nat} {l t : Int} (hv : NtAt wr (.agg #[.slice a k c, .int .i64 l, .int .i64 t]) n') :
    OnceW w (set3 wr Bn (.slice a k c) (.int .i64 l) (.int .i64 t)) Bn Bs Bl n' g f c1 c2 :=
  ⟨h.net.set hv, h.sent.same (set3_block _ _ _ _ _ _ h.nes), h.left.same (set3_block _ _ _ _ _ _ h.nel), set3_below h.below h.ln _ _ _, h.ln, h.ls, h.ll⟩
theorem OnceW.putS (h : OnceW w wr Bn Bs Bl n g f c1 c2) (hne : Bs ≠ Bl) (hs : StrMap w' Bs (c1 + 1) g') (hg : wr.grownBy w' (some Bs)) : OnceW w w' Bn Bs Bl n g' f (c1 + 1) c2 :=
  ⟨h.net.beside h.sent.isMap hg, hs, h.left.same (hg.block Bl h.left.lt (by simpa using hne.symm)), h.below.grown hg h.below.size (fun k e => by cases e; exact h.ls), h.ln, h.ls, h.ll⟩
theorem OnceW.putL (h : OnceW w wr Bn Bs Bl n g f c1 c2) (hne : Bs ≠ Bl) (hs : IntMap w' Bl (c2 + 1) f') (hg : wr.grownBy w' (some Bl)) : OnceW w w' Bn Bs Bl n g f' c1 (c2 + 1) :=
  ⟨h.net.beside h.left.isMap hg, h.sent.same (hg.block Bs h.sent.lt (by simpa using hne)), hs, h.below.grown hg h.below.size (fun k e => by cases e; exact h.ll), h.ln, h.ls, h.ll⟩
end
end Go.Proofs.Ytjjefdgcbdfclaa
