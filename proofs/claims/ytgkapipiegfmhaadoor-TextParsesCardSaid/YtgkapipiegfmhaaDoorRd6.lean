/-
  The program's reader: a member's name, by a contract. Conditions: the package-level variables as TEnv says.
-/
import Derived.Test.YtgkapipiegfmhaaDoorRd5
namespace Go.Proofs.YtgkapipiegfmhaaDoor
open Go.RowKit

/-- The slice hn owns the names ns. -/
structure NamesOf (base : Nat) (w : World) (hn : Value) (ns : List ByteArray) : Prop where
  own : w.ownsRow base 9 1 hn ns.length (ns.map Value.string)
  size : ∀ x ∈ ns, x.size ≤ 4096
theorem NamesOf.keep {base : Nat} {w w' : World} {hn : Value} {ns : List ByteArray} (h : NamesOf base w hn ns) (hg : ∀ k, hn.ownBlock = some k → base ≤ k → k < w.heap.size → w'.heap[k]? = w.heap[k]?) : NamesOf base w' hn ns := by
  refine ⟨?_, h.size⟩
  obtain ⟨h1, h2⟩ := h.own
  refine ⟨h1, ?_⟩
  rcases h2 with h2 | ⟨g, cap, cur, e, hb, hc, r⟩
  · exact Or.inl h2
  · exact Or.inr ⟨g, cap, cur, e, hb, (hg g (by rw [e]; rfl) hb (Array.getElem?_eq_some_iff.1 hc).1).trans hc, r⟩
/-- The state of an object that is being read. -/
structure StO (base B V R : Nat) (a b c : Value) (w0 : World) (ns : List ByteArray) (ts : List Val) (t : ByteArray) (w : World) : Prop where
  fr : Fr2 base B V w0 w
  rd : RdAt w B t
  env : TEnv w
  ptr : PtrAt w R B
  size : base ≤ w.heap.size
  row : ∃ hv hn xs, At5 w V a b c hv hn ∧ RowOf base w hv hn.ownBlock ts xs ∧ NamesOf base w hn ns
theorem StO.set {base B V R : Nat} {a b c : Value} {w0 : World} {ns : List ByteArray} {ts : List Val} {t : ByteArray} {w : World} (h : StO base B V R a b c w0 ns ts t w) (g : Geo base B V R) (r : ByteArray) :
    StO base B V R a b c w0 ns ts r (w.setCell ⟨B, 0, none⟩ (.string r)) := by
  have f := Fr2.set (base := base) (B := B) (V := V) w 0 (.string r)
  obtain ⟨hv, hn, xs, h5, hr, hm⟩ := h.row
  have hne : ∀ k, base ≤ k → k ≠ B := fun k hk e => by have := g.hBb; omega
  exact ⟨h.fr.trans f, h.rd.set r, h.env.fr2 g f, h.ptr.fr2 g f, by rw [setCell_size]; exact h.size, hv, hn, xs, (Below.heap_setCell _ _ _ _ g.hVB).trans h5,
    hr.keep (fun k hk _ _ => Below.heap_setCell _ _ _ _ (hne k hk)) (Or.inl rfl), hm.keep fun k _ hk _ => Below.heap_setCell _ _ _ _ (hne k hk)⟩
theorem At5.set4 {w : World} {V : Nat} {a b c d e : Value} (h : At5 w V a b c d e) (e' : Value) : At5 (w.setCell ⟨V, 4, none⟩ e') V a b c d e' := by
  unfold At5 at h ⊢
  show (w.heap.modify V _)[V]? = _
  rw [Array.getElem?_modify, if_pos rfl, h]
  rfl
/-- One name more: w2 is behind the word, w3 behind the append. -/
theorem names_done {base B V R n : Nat} {a b c : Value} {w0 w W w2 w3 : World} {ns : List ByteArray} {ts : List Val} {t r k : ByteArray} {hv hn : Value} {xs : List Value} {g cap : Nat} {o : Obj} (G : Geo base B V R) (H : StO base B V R a b c w0 ns ts t w)
    (h5 : At5 w V a b c hv hn) (hr : RowOf base w hv hn.ownBlock ts xs) (hm : NamesOf base w hn ns) (hnn : ns.length = n) (hB : Below w.heap.size w W) (hg2 : Gone B W w2) (hr2 : RdAt w2 B r) (hk : k.size ≤ 4096)
    (hown : w3.ownsRow base 9 1 (.slice (some ⟨g, 0, none⟩) (n + 1) cap) (n + 1) (ns.map Value.string ++ [.string k])) (hg3 : (w2.alloc o).grownBy w3 hn.ownBlock) (hat : hn.ownBlock = some g ∨ g = w2.heap.size + 1) :
    StO base B V R a b c w0 (ns ++ [k]) ts r (w3.setCell ⟨V, 4, none⟩ (.slice (some ⟨g, 0, none⟩) (n + 1) cap)) := by
  have hob : ∀ k, hn.ownBlock = some k → base ≤ k ∧ k < w.heap.size := hm.own.lt
  have hs2 : w.heap.size ≤ w2.heap.size := Nat.le_trans hB.size hg2.size
  have hgb : base ≤ g := by
    rcases hat with h | h
    · exact (hob g h).1
    · have := H.size; omega
  have h3 : ∀ k, k < w.heap.size → k ≠ B → some k ≠ hn.ownBlock → w3.heap[k]? = w.heap[k]? := fun k hk h1 h2 =>
    (hg3.block k (by simp; omega) h2).trans ((Below.heap_alloc _ _ _ (by omega)).trans ((hg2.block k (Nat.lt_of_lt_of_le hk hB.size) (fun e => h1 (Option.some.inj e))).trans (hB.block k hk)))
  have hsz3 : w.heap.size ≤ w3.heap.size := Nat.le_trans hs2 (Nat.le_trans (by simp) hg3.size)
  have hVo : some V ≠ hn.ownBlock := fun e => by have := (hob V e.symm).1; have := G.hVb; omega
  have hBo : some B ≠ hn.ownBlock := fun e => by have := (hob B e.symm).1; have := G.hBb; omega
  have hgV : ¬ g = V := fun e => by have := G.hVb; omega
  have f : Fr2 base B V w (w3.setCell ⟨V, 4, none⟩ (.slice (some ⟨g, 0, none⟩) (n + 1) cap)) := by
    refine ⟨hg3.os.trans (hg2.os.trans hB.os), hg3.tape.trans (hg2.tape.trans hB.tape), hg3.output.trans (hg2.output.trans hB.output), by rw [setCell_size]; exact hsz3, fun k hk h1 h2 => ?_⟩
    rw [Below.heap_setCell _ _ _ _ h2]
    exact h3 k (by have := H.size; omega) h1 (fun e => by have := (hob k e.symm).1; omega)
  have hx5 : At5 w3 V a b c hv hn := (h3 V h5.lt G.hVB hVo).trans h5
  refine ⟨H.fr.trans f, ?_, H.env.fr2 G f, H.ptr.fr2 G f, by rw [setCell_size]; exact Nat.le_trans H.size hsz3, hv, _, xs, hx5.set4 _, ?_, ?_⟩
  · refine hr2.kept ?_
    rw [Below.heap_setCell _ _ _ _ (Ne.symm G.hVB)]
    exact (hg3.block B (by have := hr2.lt; simp; omega) hBo).trans (Below.heap_alloc _ _ _ hr2.lt)
  · refine hr.keep (fun k hk hlt hne => ?_) ?_
    · rw [Below.heap_setCell _ _ _ _ (fun e => by have := G.hVb; have e2 : k = V := e; omega)]
      exact h3 k hlt (fun e => by have := G.hBb; omega) (fun e => hne e.symm)
    · rcases hat with h | h
      · exact Or.inl h.symm
      · exact Or.inr fun k e => by have e2 : g = k := Option.some.inj e; omega
  · refine ⟨?_, fun x hx => ?_⟩
    · rw [List.length_append, List.map_append]
      subst hnn
      exact own_far hown V 4 hgV _
    · rcases List.mem_append.1 hx with hx | hx
      · exact hm.size x hx
      · rw [List.mem_singleton.1 hx]; exact hk

theorem strInfo : (Tryd.prog.info? 9).map (fun i => (i.zero, i.size, i.bytes)) = some (some (.string ⟨#[]⟩), 1, 16) := by kernel_rfl

/-- What stands behind the first statement of a member. -/
def MidO (base B V R : Nat) (a b c : Value) (w0 : World) (ns : List ByteArray) (ts : List Val) (t : ByteArray) : Exit → Act → World → Prop
  | .normal, x, w => (∃ u2 u3 u4 u5 u6 u7 u8, x = { tmps := #[.pointer (some ⟨V, 0, none⟩), .pointer (some ⟨R, 0, none⟩), u2, u3, u4, u5, u6, u7, u8, undef, undef, undef, undef, undef, undef, undef, undef, undef, undef, undef], defers := [] }) ∧
      ∃ p, quoteL t.data.toList = some p ∧ StO base B V R a b c w0 (ns ++ [⟨p.1.toArray⟩]) ts ⟨p.2.toArray⟩ w
  | .panic ch, x, w => ch = [{ v := .iface 26 (.int .i64 6), recovered := false }] ∧ x.defers = [] ∧ quoteL t.data.toList = none ∧ Fr2 base B V w0 w
  | _, _, _ => False
theorem quoteL_short (s : List UInt8) (p : List UInt8 × List UInt8) (h : quoteL s = some p) : p.1.length + p.2.length + 2 ≤ s.length := by
  cases s with
  | nil => rw [quoteL] at h; cases h
  | cons x l =>
    rw [quoteL] at h
    split at h
    · have := wordEnd_sound l p.1 p.2 h
      rw [this]; simp; omega
    · cases h
end Go.Proofs.YtgkapipiegfmhaaDoor
