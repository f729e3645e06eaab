/-
  Rows of structs of m cells in memory: what comes in, what a call makes, what an append takes. Conditions: none.
-/
import Derived.Test.YtjjefdgcbdfclaaChecked
import Derived.Below
import Derived.RowKit
import Derived.Deep.Fields
import Derived.ChangeArms
import Derived.ChangeSame
import Derived.DataReads
import Derived.WideShapes
import Derived.OpenShut
import Derived.Lib.SmallJoins
import Derived.WalkKit
import Derived.WalkLawsBesides
import Derived.WalkSpells
import Derived.BigCall
import Derived.Lib.Hide
import Derived.Outline
import Derived.Lib.OthersKept
import Derived.BigQuiet
import Derived.Deep.Cut
import Derived.Deep.QuietTactic
import Derived.OwnWalk
import Derived.Laws.AppendOwnNone
import Derived.Laws.AppendOwn
import Derived.Laws.OwnMore
import Derived.Deep.OwnRows
namespace Go.Proofs.Ytjjefdgcbdfclaa
open Go.ChangeShapes Go.WideShapes Go.RowKit Go.Deep

theorem exists_list {α : Type} {P : Nat → α → Prop} : ∀ n : Nat, (∀ i, i < n → ∃ x, P i x) → ∃ l : List α, l.length = n ∧ ∀ (i : Nat) (h : i < l.length), P i l[i]
  | 0, _ => ⟨[], rfl, fun i h => absurd h (Nat.not_lt_zero _)⟩
  | n + 1, h => by
    obtain ⟨l, hl, hp⟩ := exists_list n fun i hi => h i (by omega)
    obtain ⟨x, hx⟩ := h n (by omega)
    refine ⟨l ++ [x], by simp [hl], fun i hi => ?_⟩
    by_cases e : i < l.length
    · rw [List.getElem_append_left e]; exact hp i e
    · have : i = n := by simp [hl] at hi; omega
      subst this
      rw [List.getElem_append_right (by omega)]
      simpa [hl] using hx

theorem slice_cells {H : Type} {enc : TypeId × Value → H} {W : World} {fuel m : Nat} {t e : TypeId} {v : Value} {x : DataW H × List MemPlace} (ht : Try.prog.underlying t = some (.slice e)) (hm : Try.prog.cellsOf e = m) (hm0 : 0 < m)
    (h : DataW.trod enc Try.prog W 0 (fun _ => true) true fuel t [v] = some x) :
    (v = .slice none 0 0 ∨ ∃ a cap, v = .slice (some a) 0 cap ∧ cap ≤ maxLen) ∨
    ∃ (b o len cap : Nat), v = .slice (some ⟨b, o, none⟩) len cap ∧ 0 < len ∧ len ≤ cap ∧ cap ≤ maxLen ∧
      ∀ i, i < len → ∃ (cs : List Value) (n : Nat) (y : DataW H × List MemPlace), n < fuel ∧ cs.length = m ∧ (∀ j, j < m → W.cell? ⟨b, o + (i * m + j), none⟩ = cs[j]?) ∧ DataW.trod enc Try.prog W 0 (fun _ => true) true n e cs = some y := by
  rcases DataW.trod_slice ht h with ⟨h1, -⟩ | ⟨a, len, cap, elems, rest, n, hf, h1, -, -, hl, hc, hel, hat, -, -⟩
  · exact Or.inl (Or.inl (by simpa using h1))
  · have hv : v = .slice (some a) len cap := by simpa using h1
    subst hv
    rw [hm] at hat
    cases len with
    | zero => exact Or.inl (Or.inr ⟨a, cap, rfl, hc⟩)
    | succ len =>
      have hread : ∀ i, i < len + 1 → ∃ (cs : List Value) (y : DataW H × List MemPlace), W.cells? 0 (a.add (i * m)) m = some cs ∧ DataW.trod enc Try.prog W 0 (fun _ => true) true n e cs = some y := fun i hi => by
        have h2 := hat i hi
        have h3 : elems[i]? = some (elems[i]'(by omega)) := List.getElem?_eq_getElem (by omega)
        rw [h3, Option.bind_eq_some_iff] at h2
        obtain ⟨cs, h4, h5⟩ := h2
        exact ⟨cs, _, h4, h5⟩
      obtain ⟨b, o, sp⟩ := a
      have hsp : sp = none := by
        obtain ⟨cs, y, h4, -⟩ := hread 0 (by omega)
        obtain ⟨-, hcl, hca⟩ := World.cells?_some h4
        have h5 := hca 0 hm0
        rw [List.getElem?_eq_getElem (by omega)] at h5
        cases sp with
        | none => rfl
        | some q =>
          exfalso
          rw [Nat.zero_mul] at h5
          unfold Addr.add at h5
          simp only [if_true] at h5
          unfold World.cell? at h5
          split at h5 <;> simp at h5
      subst hsp
      refine Or.inr ⟨b, o, len + 1, cap, rfl, by omega, hl, hc, fun i hi => ?_⟩
      obtain ⟨cs, y, h4, h5⟩ := hread i hi
      obtain ⟨-, hcl, hca⟩ := World.cells?_some h4
      refine ⟨cs, n, y, by omega, hcl, fun j hj => ?_, h5⟩
      have := hca j hj
      rw [add_plain, add_plain, Nat.add_assoc] at this
      exact this

theorem below_new (w : World) (o : Obj) : Below w.heap.size w (w.alloc o) := (Below.refl _ _).alloc (Nat.le_refl _) _
theorem Below.then {w w1 w2 : World} (h : Below w.heap.size w w1) (h2 : Below w1.heap.size w1 w2) : Below w.heap.size w w2 := h.trans (h2.mono h.size)
theorem Below.keepc {w w' : World} {p : Addr} {v : Value} (h : Below w.heap.size w w') (hc : w.cell? p = some v) : w'.cell? p = some v := (h.cell (World.block_lt_of_cell? _ _ hc)).trans hc
theorem beqB (a b : ByteArray) : (a.toList == b.toList) = decide (a = b) := by
  rw [Bool.eq_iff_iff, beq_iff_eq, decide_eq_true_eq, ByteArray.toList_eq, ByteArray.toList_eq]
  exact ⟨fun h => ByteArray.ext (Array.ext' h), fun h => by rw [h]⟩
abbrev nilV : Value := .slice none 0 0

/-! ### Rows of structs -/
/-- Each of a row has m cells. -/
def Wide (m : Nat) (l : List (List Value)) : Prop := ∀ x ∈ l, x.length = m
theorem Wide.at {m : Nat} {l : List (List Value)} (h : Wide m l) (i : Nat) (hi : i < l.length) : l[i].length = m := h _ (List.getElem_mem hi)
theorem Wide.flat {m : Nat} : ∀ {l : List (List Value)}, Wide m l → l.flatten.length = l.length * m
  | [], _ => by simp
  | x :: l, h => by
    rw [List.flatten_cons, List.length_append, List.length_cons, Wide.flat (l := l) fun y hy => h y (List.mem_cons_of_mem _ hy), h x List.mem_cons_self, Nat.add_mul]; omega
theorem Wide.get {m : Nat} : ∀ {l : List (List Value)}, Wide m l → ∀ (i : Nat) (hi : i < l.length) (j : Nat), j < m → l.flatten[i * m + j]? = l[i][j]?
  | x :: l, h, 0, _, j, hj => by
    have hx := h x List.mem_cons_self
    rw [List.flatten_cons, Nat.zero_mul, Nat.zero_add, List.getElem?_append_left (by omega)]; rfl
  | x :: l, h, i + 1, hi, j, hj => by
    have hx := h x List.mem_cons_self
    have := Wide.get (l := l) (fun y hy => h y (List.mem_cons_of_mem _ hy)) i (by simpa using hi) j hj
    rw [List.flatten_cons, List.getElem?_append_right (by rw [hx, Nat.add_mul]; omega), hx, show (i + 1) * m + j - m = i * m + j by rw [Nat.add_mul]; omega, this]; rfl
/-- A row of structs of m cells. -/
def RwAt (m : Nat) (w : World) (v : Value) (l : List (List Value)) : Prop :=
  (l = [] ∧ (v = .slice none 0 0 ∨ ∃ a cap, v = .slice (some a) 0 cap ∧ cap ≤ maxLen)) ∨
  ∃ b o cap, v = .slice (some ⟨b, o, none⟩) l.length cap ∧ 0 < l.length ∧ l.length ≤ cap ∧ cap ≤ maxLen ∧ ∀ i (h : i < l.length) j u, l[i][j]? = some u → w.cell? ⟨b, o + i * m + j, none⟩ = some u
theorem RwAt.keep {m : Nat} {w w' : World} {v : Value} {l : List (List Value)} (h : RwAt m w v l) (hb : Below w.heap.size w w') : RwAt m w' v l := by
  rcases h with h | ⟨b, o, cap, h1, h2, h3, h4, h5⟩
  · exact Or.inl h
  · exact Or.inr ⟨b, o, cap, h1, h2, h3, h4, fun i hi j u hu => Go.Proofs.Ytjjefdgcbdfclaa.Below.keepc hb (h5 i hi j u hu)⟩
theorem RwAt.shape {m : Nat} {w : World} {v : Value} {l : List (List Value)} (h : RwAt m w v l) : ∃ a cap, v = .slice a l.length cap ∧ l.length ≤ cap ∧ cap ≤ maxLen := by
  rcases h with ⟨rfl, rfl | ⟨a, cap, rfl, hc⟩⟩ | ⟨b, o, cap, rfl, h2, h3, h4, -⟩
  · exact ⟨none, 0, rfl, Nat.le_refl _, by decide⟩
  · exact ⟨_, _, rfl, Nat.zero_le _, hc⟩
  · exact ⟨_, _, rfl, h3, h4⟩
theorem RwAt.at {m : Nat} {w : World} {a : Option Addr} {n cap : Nat} {l : List (List Value)} (h : RwAt m w (.slice a n cap) l) (i : Nat) (hi : i < l.length) : ∃ b o, a = some ⟨b, o, none⟩ ∧ ∀ j u, l[i][j]? = some u → w.cell? ⟨b, o + i * m + j, none⟩ = some u := by
  rcases h with ⟨h0, -⟩ | ⟨b, o, c, e, -, -, -, hc⟩
  · rw [h0] at hi; simp at hi
  · simp only [Value.slice.injEq] at e
    exact ⟨b, o, e.1, hc i hi⟩
theorem RwAt.addr {m : Nat} {w : World} {a : Option Addr} {n cap : Nat} {l : List (List Value)} (h : RwAt m w (.slice a n cap) l) (hn : l.length = n) (h0 : 0 < n) : ∃ b o, a = some ⟨b, o, none⟩ := by
  obtain ⟨b, o, e, -⟩ := h.at 0 (by omega)
  exact ⟨b, o, e⟩

/-! ### What an append takes -/
def SrcOf (size : Nat) (w : World) (x : Value) (m : Nat) (news : List Value) : Prop :=
  (x = .slice none 0 0 ∧ news = [] ∧ m = 0) ∨ ∃ ad c, x = .slice (some ad) m c ∧ news.length = m * size ∧ ∀ j u, news[j]? = some u → w.cell? (ad.add j) = some u
theorem SrcOf.keep {size m : Nat} {w w' : World} {x : Value} {news : List Value} (h : SrcOf size w x m news) (hb : Below w.heap.size w w') : SrcOf size w' x m news := by
  rcases h with h | ⟨ad, c, h1, h2, h3⟩
  · exact Or.inl h
  · exact Or.inr ⟨ad, c, h1, h2, fun j u hj => Go.Proofs.Ytjjefdgcbdfclaa.Below.keepc hb (h3 j u hj)⟩
theorem RwAt.src {m : Nat} {w : World} {v : Value} {l : List (List Value)} (h : RwAt m w v l) (hw : Wide m l) (hm : 0 < m) : SrcOf m w v l.length l.flatten := by
  rcases h with ⟨rfl, rfl | ⟨a, cap, rfl, -⟩⟩ | ⟨b, o, cap, rfl, -, -, -, h5⟩
  · exact Or.inl ⟨rfl, rfl, rfl⟩
  · exact Or.inr ⟨a, cap, rfl, by simp, fun j u hj => by simp at hj⟩
  · refine Or.inr ⟨_, _, rfl, hw.flat, fun j u hj => ?_⟩
    have hj' : j < l.length * m := by rw [← hw.flat]; exact (List.getElem?_eq_some_iff.1 hj).1
    have hi : j / m < l.length := (Nat.div_lt_iff_lt_mul hm).2 hj'
    have e : j / m * m + j % m = j := Nat.div_add_mod' j m
    have h6 := hw.get (j / m) hi (j % m) (Nat.mod_lt _ hm)
    rw [e, hj] at h6
    have h7 := h5 (j / m) hi (j % m) u h6.symm
    rw [add_plain]
    rwa [Nat.add_assoc, e] at h7
theorem wpList_append_src {P : Program} (w : World) {ops : Array Oper} {rest : List Oper} {o : Oper} {a : Act} {Q : Exit → Act → World → Prop} (hgd : o.guard = none) (s x : Operand) (t : TypeId)
    (ho : o.op = .call { callee := .builtin .append, args := #[s, x], argTypes := #[t, t] })
    (base : Nat) (e : TypeId) (i : TypeInfo) (z : Value) (size bytes : Nat) (ht : P.underlying t = some (.slice e)) (hi : P.info? e = some i) (hz : i.zero = some z)
    (hsize : i.size = size) (hby : i.bytes = bytes) (hzs : z.cells.size = size) (hsz : 0 < size)
    (v : Value) (n : Nat) (xs : List Value) (hs : a.eval s = v) (hown : w.ownsRow base e size v n xs)
    (xv : Value) (m : Nat) (news : List Value) (hx : a.eval x = xv) (hsrc : SrcOf size w xv m news) (h1 : ∀ u ∈ news, u.oneCell' = true)
    (h63 : n + m ≤ maxLen) (hbytes : (n + m) * bytes ≤ 140737488355328) (hbase : base ≤ w.heap.size)
    (h : ∀ v' w', w'.ownsRow base e size v' (n + m) (xs ++ news) → w.grownBy w' v.ownBlock → wpList P ops Q rest (a.put o.dst v') w') : wpList P ops Q (o :: rest) a w := by
  rcases hsrc with ⟨rfl, rfl, rfl⟩ | ⟨ad, c, rfl, hl, hnews⟩
  · exact wpList_append_own_none hgd s x t ho base e i size ht hi v n xs hs hown hx (h v w (by simpa using hown) (World.grownBy.refl w _))
  · exact wpList_append_own w hgd s x t ho base e i z size bytes ht hi hz hsize hby hzs hsz v n xs hs hown ad m c news hx hl hnews h1 h63 hbytes hbase fun v' w' h2 h3 _ => h v' w' h2 h3

/-! ### Rows that a call makes -/
theorem RwAt.of_own {m : Nat} {w : World} {B n : Nat} {e : TypeId} {v : Value} {l : List (List Value)} (h : w.ownsRow B e m v n l.flatten) (hw : Wide m l) (hn : l.length = n) : RwAt m w v l := by
  subst hn
  rcases h.2 with ⟨rfl, h0⟩ | ⟨g, cap, cur, rfl, hb, hg, h1, h2, h3, h4⟩
  · exact Or.inl ⟨List.length_eq_zero_iff.1 h0, Or.inl rfl⟩
  · rcases Nat.eq_zero_or_pos l.length with h0 | hp
    · refine Or.inl ⟨List.length_eq_zero_iff.1 h0, Or.inr ⟨_, cap, by rw [h0], h2⟩⟩
    · refine Or.inr ⟨g, 0, cap, rfl, hp, h1, h2, fun i hi j u hu => ?_⟩
      have hj : j < m := by rw [← hw.at i hi]; exact (List.getElem?_eq_some_iff.1 hu).1
      have k1 := h.cells (g := g) rfl (i * m + j) u (by rw [hw.get i hi j hj, hu])
      rw [add_plain] at k1
      rwa [← Nat.add_assoc] at k1
theorem own_shape {w : World} {base : Nat} {e : TypeId} {size n : Nat} {v : Value} {xs : List Value} (h : w.ownsRow base e size v n xs) : ∃ a c, v = .slice a n c ∧ n ≤ c ∧ c ≤ maxLen := by
  rcases h.2 with ⟨rfl, rfl⟩ | ⟨g, cap, cur, rfl, -, -, h1, h2, -, -⟩
  · exact ⟨none, 0, rfl, Nat.le_refl _, by decide⟩
  · exact ⟨_, _, rfl, h1, h2⟩
theorem own_same {w w' : World} {B n size : Nat} {e : TypeId} {v : Value} {xs : List Value} (h : w.ownsRow B e size v n xs) (hs : ∀ g, B ≤ g → w'.heap[g]? = w.heap[g]?) : w'.ownsRow B e size v n xs := by
  refine ⟨h.1, ?_⟩
  rcases h.2 with h | ⟨g, cap, cur, h1, h2, h3, h4⟩
  · exact Or.inl h
  · exact Or.inr ⟨g, cap, cur, h1, h2, (hs g h2).trans h3, h4⟩
theorem RwAt.take {m : Nat} {w : World} {a : Option Addr} {n c : Nat} {l : List (List Value)} (h : RwAt m w (.slice a n c) l) (hn : l.length = n) (k : Nat) (hk : k ≤ n) : RwAt m w (.slice a k c) (l.take k) := by
  subst hn
  rcases h with ⟨rfl, e⟩ | ⟨b, o, cap, e, h2, h3, h4, h5⟩
  · obtain rfl : k = 0 := by simpa using hk
    refine Or.inl ⟨rfl, ?_⟩
    rcases e with e | ⟨a2, cap, e, hc⟩
    · exact Or.inl (by simpa using e)
    · exact Or.inr ⟨a2, cap, by simpa using e, hc⟩
  · simp only [Value.slice.injEq] at e
    obtain ⟨rfl, -, rfl⟩ := e
    have hl : (l.take k).length = k := by rw [List.length_take]; omega
    rcases Nat.eq_zero_or_pos k with rfl | hp
    · exact Or.inl ⟨rfl, Or.inr ⟨_, _, rfl, h4⟩⟩
    · refine Or.inr ⟨b, o, c, by rw [hl], by omega, by omega, h4, fun i hi => ?_⟩
      simp only [List.getElem_take]
      exact h5 i (by omega)
theorem RwAt.drop {m : Nat} {w : World} {a : Addr} {n c : Nat} {l : List (List Value)} (h : RwAt m w (.slice (some a) n c) l) (hn : l.length = n) (k : Nat) (hk : k ≤ n) (hc : ¬ c = k) : RwAt m w (.slice (some (a.add (k * m))) (n - k) (c - k)) (l.drop k) := by
  subst hn
  rcases h with ⟨rfl, e⟩ | ⟨b, o, cap, e, h2, h3, h4, h5⟩
  · obtain rfl : k = 0 := by simpa using hk
    refine Or.inl ⟨rfl, Or.inr ⟨_, _, rfl, ?_⟩⟩
    rcases e with e | ⟨a2, cap, e, hm⟩
    · cases e
    · simp only [Value.slice.injEq] at e; omega
  · simp only [Value.slice.injEq, Option.some.injEq] at e
    obtain ⟨rfl, -, rfl⟩ := e
    rw [add_plain]
    rcases Nat.lt_or_ge k l.length with hlt | hge
    · refine Or.inr ⟨b, o + k * m, c - k, by rw [List.length_drop], by rw [List.length_drop]; omega, by rw [List.length_drop]; omega, by omega, fun i hi j u hu => ?_⟩
      rw [List.length_drop] at hi
      rw [List.getElem_drop] at hu
      have := h5 (k + i) (by omega) j u hu
      rw [show o + k * m + i * m + j = o + (k + i) * m + j by rw [Nat.add_mul]; omega]
      exact this
    · obtain rfl : k = l.length := by omega
      exact Or.inl ⟨by simp, Or.inr ⟨_, c - l.length, by rw [Nat.sub_self], by omega⟩⟩

/-! ### Rows of three, of four cells -/
def At3 (t : TypeId) (w : World) (B : Nat) (a b c : Value) : Prop := w.heap[B]? = some (.cells #[a, b, c] t (0, 0))
theorem At3.lt {t : TypeId} {w : World} {B : Nat} {a b c : Value} (h : At3 t w B a b c) : B < w.heap.size := (Array.getElem?_eq_some_iff.1 h).1
theorem At3.keep {t : TypeId} {w w' : World} {B : Nat} {a b c : Value} (h : At3 t w B a b c) (hb : Below w.heap.size w w') : At3 t w' B a b c := (hb.block B h.lt).trans h
theorem At3.cells {t : TypeId} {w : World} {B : Nat} {a b c : Value} (h : At3 t w B a b c) : w.cell? ⟨B, 0, none⟩ = some a ∧ w.cell? ⟨B, 1, none⟩ = some b ∧ w.cell? ⟨B, 2, none⟩ = some c := by
  unfold At3 at h
  refine ⟨?_, ?_, ?_⟩ <;> simp [World.cell?, h]
theorem At3.free {t : TypeId} {w : World} {B : Nat} {a b c : Value} (h : At3 t w B a b c) : w.frozen? ⟨B, 0, none⟩ = false ∧ w.frozen? ⟨B, 1, none⟩ = false ∧ w.frozen? ⟨B, 2, none⟩ = false := by
  unfold At3 at h
  refine ⟨?_, ?_, ?_⟩ <;> simp [World.frozen?, h]
theorem At3.new (t : TypeId) (w : World) (a b c : Value) : At3 t (w.alloc (.cells #[a, b, c] t)) w.heap.size a b c := heap_alloc_new w _
def set3 (w : World) (B : Nat) (a b c : Value) : World := ((w.setCell ⟨B, 0, none⟩ a).setCell ⟨B, 1, none⟩ b).setCell ⟨B, 2, none⟩ c
theorem At3.set {t : TypeId} {w : World} {B : Nat} {a b c : Value} (h : At3 t w B a b c) (a' b' c' : Value) : At3 t (set3 w B a' b' c') B a' b' c' := by
  have h0 : (w.setCell ⟨B, 0, none⟩ a').heap[B]? = some (.cells #[a', b, c] t (0, 0)) := by rw [heap_setCell_same _ _ _ _ _ _ h]; rfl
  have h1 : ((w.setCell ⟨B, 0, none⟩ a').setCell ⟨B, 1, none⟩ b').heap[B]? = some (.cells #[a', b', c] t (0, 0)) := by rw [heap_setCell_same _ _ _ _ _ _ h0]; rfl
  unfold set3 At3
  rw [heap_setCell_same _ _ _ _ _ _ h1]; rfl
theorem set3_below {B B0 : Nat} {w0 w : World} (h : Below B0 w0 w) (hB : B0 ≤ B) (a b c : Value) : Below B0 w0 (set3 w B a b c) :=
  ((h.setCell (p := ⟨B, 0, none⟩) hB _).setCell (p := ⟨B, 1, none⟩) hB _).setCell (p := ⟨B, 2, none⟩) hB _
theorem set3_block (w : World) (B k : Nat) (a b c : Value) (hne : k ≠ B) : (set3 w B a b c).heap[k]? = w.heap[k]? := by
  unfold set3
  rw [Below.heap_setCell _ _ _ _ hne, Below.heap_setCell _ _ _ _ hne, Below.heap_setCell _ _ _ _ hne]
def At4 (t : TypeId) (w : World) (B : Nat) (a b c d : Value) : Prop := w.heap[B]? = some (.cells #[a, b, c, d] t (0, 0))
theorem At4.lt {t : TypeId} {w : World} {B : Nat} {a b c d : Value} (h : At4 t w B a b c d) : B < w.heap.size := (Array.getElem?_eq_some_iff.1 h).1
theorem At4.keep {t : TypeId} {w w' : World} {B : Nat} {a b c d : Value} (h : At4 t w B a b c d) (hb : Below w.heap.size w w') : At4 t w' B a b c d := (hb.block B h.lt).trans h
theorem At4.cells {t : TypeId} {w : World} {B : Nat} {a b c d : Value} (h : At4 t w B a b c d) : w.cell? ⟨B, 0, none⟩ = some a ∧ w.cell? ⟨B, 1, none⟩ = some b ∧ w.cell? ⟨B, 2, none⟩ = some c ∧ w.cell? ⟨B, 3, none⟩ = some d := by
  unfold At4 at h
  refine ⟨?_, ?_, ?_, ?_⟩ <;> simp [World.cell?, h]
theorem At4.free {t : TypeId} {w : World} {B : Nat} {a b c d : Value} (h : At4 t w B a b c d) : w.frozen? ⟨B, 0, none⟩ = false ∧ w.frozen? ⟨B, 1, none⟩ = false ∧ w.frozen? ⟨B, 2, none⟩ = false ∧ w.frozen? ⟨B, 3, none⟩ = false := by
  unfold At4 at h
  refine ⟨?_, ?_, ?_, ?_⟩ <;> simp [World.frozen?, h]
theorem At4.new (t : TypeId) (w : World) (a b c d : Value) : At4 t (w.alloc (.cells #[a, b, c, d] t)) w.heap.size a b c d := heap_alloc_new w _
end Go.Proofs.Ytjjefdgcbdfclaa
