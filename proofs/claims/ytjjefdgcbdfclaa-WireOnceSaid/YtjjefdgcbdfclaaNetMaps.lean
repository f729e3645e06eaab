/-
  Maps that the call makes, from ints to ints, from ints to texts: what a look-up gives, what a store makes. Conditions: none.
-/
import Derived.Test.YtjjefdgcbdfclaaNetOnce
import Derived.Maps.OwnSet
import Derived.Maps.RangeWalk
import Derived.WalkArith
namespace Go.Proofs.Ytjjefdgcbdfclaa
open Go.Maps (Keyed IsMap)
open Go.RowKit

theorem intK : Keyed Try.prog 3 := Go.Maps.int_keyed Try.underlying3
theorem wf64 {k : Int} (h : i64 k) : (Lit.int .i64 k).wf = true := Go.WalkArith.wf_i64 h
theorem key64 {k : Int} (h : i64 k) : keyOf Try.prog 3 (.int .i64 k) = some (.int .i64 k) := Go.Maps.keyOf_int_mk Try.underlying3 (wf64 h)
/-- A map from ints to ints: f says what a look-up gives. -/
def IntMap (w : World) (b n : Nat) (f : Int → Int) : Prop :=
  ∃ D : DataW Unit, w.ownsMap Try.prog 3 (plainElem Try.prog 3) b n D ∧ ∀ k, i64 k → D.atKey (.int .i64 k) (.lit (.int .i64 0)) = .lit (.int .i64 (f k))
/-- A map from ints to texts. -/
def StrMap (w : World) (b n : Nat) (g : Int → ByteArray) : Prop :=
  ∃ D : DataW Unit, w.ownsMap Try.prog 3 (plainElem Try.prog 9) b n D ∧ ∀ k, i64 k → D.atKey (.int .i64 k) (.lit (.string [])) = .lit (.string (g k).data.toList)
theorem IntMap.new (w : World) : IntMap (w.alloc (.map #[] 0)) w.heap.size 0 fun _ => 0 := ⟨.map [], World.ownsMap_made w _ _ _, fun _ _ => rfl⟩
theorem StrMap.new (w : World) : StrMap (w.alloc (.map #[] 0)) w.heap.size 0 fun _ => ⟨#[]⟩ := ⟨.map [], World.ownsMap_made w _ _ _, fun _ _ => rfl⟩
theorem IntMap.same {w w' : World} {b n : Nat} {f : Int → Int} (h : IntMap w b n f) (hb : w'.heap[b]? = w.heap[b]?) : IntMap w' b n f := by
  obtain ⟨D, ⟨es, clock, h1, h2⟩, h3⟩ := h
  exact ⟨D, ⟨es, clock, hb.trans h1, h2⟩, h3⟩
theorem StrMap.same {w w' : World} {b n : Nat} {g : Int → ByteArray} (h : StrMap w b n g) (hb : w'.heap[b]? = w.heap[b]?) : StrMap w' b n g := by
  obtain ⟨D, ⟨es, clock, h1, h2⟩, h3⟩ := h
  exact ⟨D, ⟨es, clock, hb.trans h1, h2⟩, h3⟩
theorem IntMap.lt {w : World} {b n : Nat} {f : Int → Int} (h : IntMap w b n f) : b < w.heap.size := h.choose_spec.1.lt
theorem StrMap.lt {w : World} {b n : Nat} {g : Int → ByteArray} (h : StrMap w b n g) : b < w.heap.size := h.choose_spec.1.lt
theorem IntMap.keep {w w' : World} {b n : Nat} {f : Int → Int} (h : IntMap w b n f) (hb : Below w.heap.size w w') : IntMap w' b n f := h.same (hb.block b h.lt)
theorem StrMap.keep {w w' : World} {b n : Nat} {g : Int → ByteArray} (h : StrMap w b n g) (hb : Below w.heap.size w w') : StrMap w' b n g := h.same (hb.block b h.lt)
theorem IntMap.run {w : World} {b n : Nat} {f : Int → Int} (h : IntMap w b n f) {k : Int} (hk : i64 k) : (Instr.lookup 43 (.map (some b)) (.int .i64 k) false).run Try.prog w = .ok (.int .i64 (f k)) w := by
  obtain ⟨D, h1, h2⟩ := h
  obtain ⟨c, hr, hc, -⟩ := h1.lookup_int intK Try.underlying43 Try.underlying3 (Try.zeroValue3 w) (key64 hk)
  rw [h2 k hk] at hc
  simp only [DataW.lit.injEq, Lit.int.injEq, true_and] at hc
  rw [hc]; exact hr
theorem StrMap.run {w : World} {b n : Nat} {g : Int → ByteArray} (h : StrMap w b n g) {k : Int} (hk : i64 k) : (Instr.lookup 42 (.map (some b)) (.int .i64 k) false).run Try.prog w = .ok (.string (g k)) w := by
  obtain ⟨D, h1, h2⟩ := h
  obtain ⟨v, ps, hr, hv⟩ := h1.lookup intK Try.underlying42 (Try.zeroValue9 w) (plainElem_string Try.underlying9 (s := ⟨#[]⟩) (by decide)) (key64 hk)
  rw [h2 k hk] at hv
  unfold plainElem at hv
  rw [Try.underlying9] at hv
  cases v <;> simp at hv
  rename_i s
  obtain ⟨-, e, -⟩ := hv
  obtain rfl : s = g k := ByteArray.ext (Array.ext' (by simpa using e))
  exact hr
theorem IntMap.put {w' : World} {b n : Nat} {f : Int → Int} {D : DataW Unit} (hD : IsMap D) (h2 : ∀ k, i64 k → D.atKey (.int .i64 k) (.lit (.int .i64 0)) = .lit (.int .i64 (f k))) {k c : Int} (hk : i64 k)
    (h : w'.ownsMap Try.prog 3 (plainElem Try.prog 3) b n (D.put (.int .i64 k) (.lit (.int .i64 c)))) : IntMap w' b n (upd f k c) := by
  refine ⟨_, h, fun x hx => ?_⟩
  by_cases e : x = k
  · subst e
    rw [upd_same]
    exact Go.Maps.atKey_put_same hD (intK.key (key64 hk)) _ _
  · rw [upd_other f c e, Go.Maps.atKey_put_other (fun h => e (by simpa using h)), h2 x hx]
/-- 'm[k] = c', at the operation. -/
theorem wpList_put_int (w : World) {ops : Array Oper} {rest : List Oper} {o : Oper} {a : Act} {Q : Exit → Act → World → Prop} (hg : o.guard = none) (m x v : Operand) (hop : o.op = Op.mapUpdate 43 m x v) (b n : Nat) (f : Int → Int)
    (h : IntMap w b n f) (hm : a.eval m = .map (some b)) (hn : n < maxLen) (k c : Int) (hx : a.eval x = .int .i64 k) (hv : a.eval v = .int .i64 c) (hk : i64 k) (hc : i64 c)
    (hK : ∀ w', IntMap w' b (n + 1) (upd f k c) → w.grownBy w' (some b) → wpList Try.prog ops Q rest (a.put o.dst undef) w') : wpList Try.prog ops Q (o :: rest) a w := by
  obtain ⟨D, h1, h2⟩ := h
  exact wpList_mapUpdate_own w hg m x v _ hop _ _ intK Try.underlying43 _ b n D hm h1 hn _ _ _ hx hv (key64 hk) _ _ (plainElem_int Try.underlying3 (wf64 hc)) fun w' h3 h4 => hK w' (IntMap.put h1.isMap h2 hk h3) h4
theorem wpList_put_str (w : World) {ops : Array Oper} {rest : List Oper} {o : Oper} {a : Act} {Q : Exit → Act → World → Prop} (hg : o.guard = none) (m x v : Operand) (hop : o.op = Op.mapUpdate 42 m x v) (b n : Nat) (f : Int → ByteArray)
    (h : StrMap w b n f) (hm : a.eval m = .map (some b)) (hn : n < maxLen) (k : Int) (c : ByteArray) (hx : a.eval x = .int .i64 k) (hv : a.eval v = .string c) (hk : i64 k) (hc : c.size ≤ maxLen)
    (hK : ∀ w', StrMap w' b (n + 1) (upd f k c) → w.grownBy w' (some b) → wpList Try.prog ops Q rest (a.put o.dst undef) w') : wpList Try.prog ops Q (o :: rest) a w := by
  obtain ⟨D, h1, h2⟩ := h
  refine wpList_mapUpdate_own w hg m x v _ hop _ _ intK Try.underlying42 _ b n D hm h1 hn _ _ _ hx hv (key64 hk) _ _ (plainElem_string Try.underlying9 hc) fun w' h3 h4 => hK w' ⟨_, h3, fun y hy => ?_⟩ h4
  by_cases e : y = k
  · subst e
    rw [upd_same]
    exact Go.Maps.atKey_put_same h1.isMap (intK.key (key64 hk)) _ _
  · rw [upd_other f c e, Go.Maps.atKey_put_other (fun h => e (by simpa using h)), h2 y hy]
end Go.Proofs.Ytjjefdgcbdfclaa
