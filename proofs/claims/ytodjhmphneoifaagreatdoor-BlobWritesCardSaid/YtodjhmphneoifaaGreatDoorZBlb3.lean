/-
  Blobs as results: a block of four cells; what stays beside it; a row that grew. Conditions: none.
-/
import Derived.Test.YtodjhmphneoifaaGreatDoorZBlb2
import Derived.Laws.ResultCell
/-! Blobs as results: a block of four cells; what stays beside it; a row that grew. Conditions: none. -/
namespace Go.Proofs.YtodjhmphneoifaaGreatDoor
open Go.RowKit Go.WideShapes

theorem BlbAt.ups_cap {w : World} {o q l : Value} {a : Option Addr} {m c : Nat} {b : Blb} (h : BlbAt w (.agg #[o, q, .slice a m c, l]) b) : m ≤ c ∧ c ≤ maxLen := by
  obtain ⟨x, y, e, h1, h2⟩ := h.parts.2.1.shape3
  simp only [Value.slice.injEq] at e
  obtain ⟨-, rfl, rfl⟩ := e
  exact ⟨h1, h2⟩
theorem own_shape {w : World} {base : Nat} {e : TypeId} {size n : Nat} {v : Value} {xs : List Value} (h : w.ownsRow base e size v n xs) : ∃ a cap, v = .slice a n cap := by
  rcases h.2 with ⟨rfl, rfl⟩ | ⟨g', cap, cur, rfl, -⟩
  · exact ⟨_, _, rfl⟩
  · exact ⟨_, _, rfl⟩
/-- A row of one's own in a world that is the same from there on. -/
theorem own_same {w w' : World} {B n size : Nat} {e : TypeId} {v : Value} {xs : List Value} (h : w.ownsRow B e size v n xs) (hs : ∀ g, B ≤ g → w'.heap[g]? = w.heap[g]?) : w'.ownsRow B e size v n xs := by
  refine ⟨h.1, ?_⟩
  rcases h.2 with h2 | ⟨g, cap, cur, hv, hb, hg, h3⟩
  · exact Or.inl h2
  · exact Or.inr ⟨g, cap, cur, hv, hb, by rw [hs g hb]; exact hg, h3⟩
theorem At4.at2 {t : TypeId} {w : World} {B : Nat} {a b c d : Value} (h : At4 t w B a b c d) (v : Value) : At4 t (w.setCell ⟨B, 2, none⟩ v) B a b v d := by
  unfold At4 at h ⊢
  rw [heap_setCell_same _ _ _ _ _ _ h]; rfl
theorem At4.other {t : TypeId} {w : World} {B B' j : Nat} {a b c d : Value} (h : At4 t w B a b c d) (hne : B ≠ B') (v : Value) : At4 t (w.setCell ⟨B', j, none⟩ v) B a b c d := by
  unfold At4 at h ⊢
  rw [Below.heap_setCell _ _ _ _ hne]; exact h
theorem results_blb {fn : Func} {p u : Tmp} (h : fn.results = #[.cell p 25, .tmp u]) (tmps : Array Value) (w : World) (g : Nat) (a b c d : Value)
    (hp : tmps.getD p undef = .pointer (some ⟨g, 0, none⟩)) (hg : At4 25 w g a b c d) :
    (results fn tmps).run Tryz.prog w = .ok (.tuple #[.agg #[a, b, c, d], tmps.getD u undef]) w := by
  rw [results_cell_tmp h, hp]
  simp [asAddr, run_loadVar_row w g 25 25 _ (0, 0) _ hg Tryz.underlying25 rfl infoBlb]
theorem nilBlb_at (w : World) : BlbAt w (.agg #[nilV, zeroV, nilV, zeroV]) nilBlb :=
  ⟨⟨nilV, nilV, rfl, Or.inl ⟨rfl, Or.inl rfl⟩, Or.inl ⟨rfl, Or.inl rfl⟩⟩, fun o ho => by simp [nilBlb] at ho, fun o ho => by simp [nilBlb] at ho, by decide, by decide⟩
/-- Blobs and a number, as a call answers them. -/
def BlbOut (r : Blb × Int) (w : World) (e : Ending) (w' : World) : Prop := ∃ v, e = .returned (.tuple #[v, .int .i64 r.2]) ∧ BlbAt w' v r.1 ∧ Below w.heap.size w w'
theorem blbOut_nil {w wx : World} {r : Blb × Int} {x : Int} {g : Nat} (hr : r = (nilBlb, x)) (hb : Below w.heap.size w wx) (hg : w.heap.size ≤ g) :
    BlbOut r w (.returned (.tuple #[.agg #[nilV, zeroV, nilV, zeroV], .int .i64 x])) (set4 wx g nilV zeroV nilV zeroV) := by
  subst hr
  exact ⟨_, rfl, nilBlb_at _, set4_below hb hg _ _ _ _⟩
theorem BlbAt.four {w : World} {v : Value} {b : Blb} (h : BlbAt w v b) : ∃ a n c q a' n' c' l, v = .agg #[.slice a n c, .int .i64 q, .slice a' n' c', .int .i64 l] := by
  obtain ⟨a, c, a', c', rfl, -, -⟩ := h.shape
  exact ⟨_, _, _, _, _, _, _, _, rfl⟩
/-- A row that holds strings does not lie in a block that holds none. -/
theorem PairsAt.away {t : TypeId} {w w' : World} {v : Value} {l : List (Value × Value)} {g : Nat} (h : PairsAt w v l) (hs : ∀ p ∈ l, ∃ s, p.2 = .string s) (hg : At4 t w g nilV zeroV nilV zeroV)
    (hk : ∀ k, k ≠ g → w'.heap[k]? = w.heap[k]?) : PairsAt w' v l := by
  rcases h with h | ⟨b, o, cap, rfl, h2, h3, h4, h5⟩
  · exact Or.inl h
  · have hb : b ≠ g := by
      rintro rfl
      obtain ⟨-, e⟩ := h5 0 h2
      obtain ⟨s, hs⟩ := hs _ (List.getElem_mem h2)
      rw [hs] at e
      unfold At4 at hg
      generalize o + 0 * 2 + 1 = i at e
      simp only [World.cell?, hg] at e
      match i, e with
      | 0, e => simp at e
      | 1, e => simp at e
      | 2, e => simp at e
      | 3, e => simp at e
      | i + 4, e => simp at e
    exact Or.inr ⟨b, o, cap, rfl, h2, h3, h4, fun i hi => by
      have e : ∀ x, w'.cell? ⟨b, x, none⟩ = w.cell? ⟨b, x, none⟩ := fun x => World.cell?_of_block (w := w) (hk b hb)
      rw [e, e]
      exact h5 i hi⟩
theorem BlbAt.away {t : TypeId} {w w' : World} {v : Value} {b : Blb} {g : Nat} (h : BlbAt w v b) (hg : At4 t w g nilV zeroV nilV zeroV) (hk : ∀ k, k ≠ g → w'.heap[k]? = w.heap[k]?) : BlbAt w' v b := by
  obtain ⟨⟨o, u, e, h1, h2⟩, h3, h4, h5, h6⟩ := h
  refine ⟨⟨o, u, e, h1.away ?_ hg hk, h2.away ?_ hg hk⟩, h3, h4, h5, h6⟩
  · intro p hp; obtain ⟨x, -, rfl⟩ := List.mem_map.1 hp; exact ⟨_, rfl⟩
  · intro p hp; obtain ⟨x, -, rfl⟩ := List.mem_map.1 hp; exact ⟨_, rfl⟩
theorem blbOut_ok {t : TypeId} {w wx : World} {r : Blb × Int} {b : Blb} {g : Nat} {o q u l : Value} (hr : r = (b, 0)) (hb : Below w.heap.size w wx) (hg : w.heap.size ≤ g)
    (hk : BlbAt wx (.agg #[o, q, u, l]) b) (hz : At4 t wx g nilV zeroV nilV zeroV) :
    BlbOut r w (.returned (.tuple #[.agg #[o, q, u, l], .int .i64 0])) (set4 wx g o q u l) := by
  subst hr
  exact ⟨_, rfl, hk.away hz fun k hk => set4_block _ _ _ _ _ _ _ hk, set4_below hb hg _ _ _ _⟩
theorem At4.at0 {t : TypeId} {w : World} {B : Nat} {a b c d : Value} (h : At4 t w B a b c d) (v : Value) : At4 t (w.setCell ⟨B, 0, none⟩ v) B v b c d := by
  unfold At4 at h ⊢
  rw [heap_setCell_same _ _ _ _ _ _ h]; rfl
theorem objs_more {w W w9 w10 : World} {b : Blb} {n : Nat} {o q u l v9 : Value} {q' : Int} {T : TypeId} {dg s : ByteArray}
    (hv : BlbAt w (.agg #[o, q, u, l]) b) (hn : b.objs.length = n) (hq : b.quota = q') (hW : w.heap.size < W.heap.size) (hb : Below w.heap.size w w10)
    (hown : w9.ownsRow W.heap.size T 2 v9 (n + 1) (cellsL (b.objs.map objCell) ++ cellsL [objCell (dg, s)])) (h10 : w9.setCell ⟨w.heap.size, 0, none⟩ v9 = w10)
    (hd : dg.size ≤ maxLen) (hs : s.size ≤ maxLen) : BlbAt w10 (.agg #[v9, q, u, l]) ⟨b.objs ++ [(dg, s)], q', b.ups, b.last⟩ := by
  subst hq
  obtain ⟨h1, h2, rfl, rfl⟩ := (hv.keep hb).parts
  have hown5 := own_same (w' := w10) hown fun g hg => by
    rw [← h10, Below.heap_setCell _ _ _ _ (show g ≠ w.heap.size by omega)]
  rw [← cellsL_append, show b.objs.map objCell ++ [objCell (dg, s)] = (b.objs ++ [(dg, s)]).map objCell by simp] at hown5
  refine ⟨⟨v9, u, rfl, PairsAt.of_own hown5 ?_, h2⟩, fun x hx => ?_, hv.ups, hv.quota, hv.last⟩
  · rw [List.length_map, List.length_append, hn]; rfl
  · rcases List.mem_append.1 hx with hx | hx
    · exact hv.objs x hx
    · obtain rfl := List.mem_singleton.1 hx
      exact ⟨hd, hs⟩
end Go.Proofs.YtodjhmphneoifaaGreatDoor
