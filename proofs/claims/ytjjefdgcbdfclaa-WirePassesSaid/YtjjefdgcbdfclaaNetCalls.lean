/-
  What the law WireCalls looks at: like of two nets that are the same; a row that is put into a variable; which messages are late. Conditions: none.
-/
import Derived.Test.YtjjefdgcbdfclaaNetLaws
import Derived.Test.YtjjefdgcbdfclaaNetLike
import Derived.Test.YtjjefdgcbdfclaaNetVar
import Derived.Test.YtjjefdgcbdfclaaNetFew
import Derived.Deep.RegionLaw
import Derived.Deep.RegionHeld3
namespace Go.Proofs.Ytjjefdgcbdfclaa
open Go.RowKit Go.WideShapes

theorem like_yes13 (a b : Nt) (va vb : Value) (w : World) (ha : NtAt w va a) (hb : NtAt w vb b) (e : a = b) :
    Calls Try.prog 17 #[va, vb] w fun e w' => e = .returned (.bool true) ∧ Below w.heap.size w w' := by
  refine (like13_t a b va vb w ha hb).mono ?_
  rintro x w' ⟨hx, hb'⟩
  rw [(likeN_iff a b).2 e] at hx
  exact ⟨hx, hb'⟩
/-- A row of its own is put into a variable. -/
theorem put_row {w : World} {Bw base k : Nat} {s : Option Addr} {c : Nat} {l : List Ms} {q t : Int} {v0 : Value} (hA : At3 24 w Bw v0 (.int .i64 q) (.int .i64 t)) (ho : w.ownsRow base 30 4 (.slice s k c) k (cellsN l)) (hk : l.length = k) (hlt : Bw < base)
    (hf : ∀ m ∈ l, m.fits) (hq : i64 q) (ht : i64 t) : VarN (w.setCell ⟨Bw, 0, none⟩ (.slice s k c)) Bw ⟨l, q, t⟩ := by
  have ho' := own_same (w' := w.setCell ⟨Bw, 0, none⟩ (.slice s k c)) ho fun g hg => Below.heap_setCell _ _ _ _ (show g ≠ Bw by omega)
  refine ⟨s, k, c, q, t, ?_, ⟨_, rfl, ?_⟩, hf, hq, ht⟩
  · unfold At3; rw [heap_setCell_same _ _ _ _ _ _ hA]; rfl
  · exact RwAt.of_own ho' (msWide _) (by rw [List.length_map]; exact hk)
theorem At3.at0 {t : TypeId} {w : World} {B : Nat} {a b c : Value} (h : At3 t w B a b c) (x : Value) : At3 t (w.setCell ⟨B, 0, none⟩ x) B x b c := by unfold At3; rw [heap_setCell_same _ _ _ _ _ _ h]; rfl
theorem At3.at1 {t : TypeId} {w : World} {B : Nat} {a b c : Value} (h : At3 t w B a b c) (x : Value) : At3 t (w.setCell ⟨B, 1, none⟩ x) B a x c := by unfold At3; rw [heap_setCell_same _ _ _ _ _ _ h]; rfl
theorem At3.at2 {t : TypeId} {w : World} {B : Nat} {a b c : Value} (h : At3 t w B a b c) (x : Value) : At3 t (w.setCell ⟨B, 2, none⟩ x) B a b x := by unfold At3; rw [heap_setCell_same _ _ _ _ _ _ h]; rfl
theorem VarN.of {w : World} {B : Nat} {a : Option Addr} {k c : Nat} {l t : Int} {n : Nt} (h : At3 24 w B (.slice a k c) (.int .i64 l) (.int .i64 t)) (hv : NtAt w (.agg #[.slice a k c, .int .i64 l, .int .i64 t]) n) : VarN w B n := ⟨a, k, c, l, t, h, hv⟩
theorem NtAt.later {w : World} {a : Option Addr} {k c : Nat} {l t t' : Int} {n : Nt} (h : NtAt w (.agg #[.slice a k c, .int .i64 l, .int .i64 t]) n) (ht : i64 t') : NtAt w (.agg #[.slice a k c, .int .i64 l, .int .i64 t']) ⟨n.fl, n.last, t'⟩ := by
  obtain ⟨-, rfl, -, -, -, hr⟩ := h.parts
  exact ⟨⟨_, rfl, hr⟩, h.fits, h.last, ht⟩
theorem step_append_src {P : Program} (w : World) {ops : Array Oper} {o : Oper} {a : Act} {K : Act → World → Prop} {Q : Exit → Act → World → Prop} {E : Prop} (hgd : o.guard = none) (s x : Operand) (t : TypeId)
    (ho : o.op = .call { callee := .builtin .append, args := #[s, x], argTypes := #[t, t] })
    (base : Nat) (e : TypeId) (i : TypeInfo) (z : Value) (size bytes : Nat) (ht : P.underlying t = some (.slice e)) (hi : P.info? e = some i) (hz : i.zero = some z)
    (hsize : i.size = size) (hby : i.bytes = bytes) (hzs : z.cells.size = size) (hsz : 0 < size)
    (v : Value) (n : Nat) (xs : List Value) (hs : a.eval s = v) (hown : w.ownsRow base e size v n xs)
    (xv : Value) (m : Nat) (news : List Value) (hx : a.eval x = xv) (hsrc : SrcOf size w xv m news) (h1 : ∀ u ∈ news, u.oneCell' = true)
    (h63 : n + m ≤ maxLen) (hbytes : (n + m) * bytes ≤ 140737488355328) (hbase : base ≤ w.heap.size)
    (h : ∀ v' w', w'.ownsRow base e size v' (n + m) (xs ++ news) → w.grownBy w' v.ownBlock → K (a.put o.dst v') w') :
    if Region.wanted o (yielded ops a.tmps) = true then Oper.wp P o a w K Q else E := by
  have hw : Region.wanted o (yielded ops a.tmps) = true := by simp [Region.wanted, hgd]
  rw [if_pos hw]
  rcases hsrc with ⟨rfl, rfl, rfl⟩ | ⟨ad, c, rfl, hl, hnews⟩
  · have hrun := run_append_owned_none (P := P) (w := w) base t o.type e i size ht hi v n xs hown
    have hk := h v w (by simpa using hown) (World.grownBy.refl w _)
    unfold Oper.wp
    simp [execOp, ho, resolve, invoke, builtin, hs, hx, hrun, Result.andThen]
    exact hk
  · exact wp_append_own w s x t ho base e i z size bytes ht hi hz hsize hby hzs hsz v n xs hs hown ad m c news hx hl hnews h1 h63 hbytes hbase fun v' w' h2 h3 _ => h v' w' h2 h3
theorem size_one (wn : World) (o : Obj) : (wn.drew.alloc o).heap.size = wn.heap.size + 1 := by rw [World.size_alloc]; rfl
theorem row_next {wn w4 : World} {o o' : Obj} (hg : ((wn.drew.alloc o).alloc o').grownBy w4 (some wn.heap.size)) : w4.heap[wn.heap.size + 1]? = some o' := by
  have e := size_one wn o
  have h1 := hg.block (wn.heap.size + 1) (by rw [World.size_alloc, e]; omega) (by simp)
  have h2 := heap_alloc_new (wn.drew.alloc o) o'
  rw [e] at h2
  exact h1.trans h2
theorem row_first {wn w4 : World} {o o' : Obj} (hg : ((wn.drew.alloc o').alloc o).grownBy w4 (some (wn.heap.size + 1))) : w4.heap[wn.heap.size]? = some o' := by
  have e := size_one wn o'
  have h1 := hg.block wn.heap.size (by rw [World.size_alloc, e]; omega) (by simp)
  exact h1.trans ((Below.heap_alloc _ _ _ (by rw [e]; omega)).trans (heap_alloc_new wn.drew o'))
theorem far_cell {w : World} {Bo B i j : Nat} {v x : Value} (h : w.cell? ⟨B, j, none⟩ = some v) (hne : Bo ≠ B) : (w.setCell ⟨Bo, i, none⟩ x).cell? ⟨B, j, none⟩ = some v := by
  rw [World.cell?_setCell_far _ _ _ _ (by exact hne)]; exact h
theorem msg_one (m : Ms) : ∀ u ∈ msCell m, u.oneCell' = true := by
  intro u hu
  simp only [msCell, List.mem_cons, List.not_mem_nil, or_false] at hu
  rcases hu with rfl | rfl | rfl | rfl <;> rfl
/-- One more message in a copy. -/
theorem put_one {wB wn w6 : World} {Bq k g c : Nat} {l : List Ms} {m : Ms} {q t : Int} {v0 : Value} (hA : At3 24 wn Bq v0 (.int .i64 q) (.int .i64 t)) (h6 : Below wn.heap.size wn w6)
    (ho : w6.ownsRow wn.heap.size 30 4 (.slice (some ⟨g, 0, none⟩) (k + 1) c) (k + 1) (cellsN l ++ msCell m)) (hk : l.length = k) (hf : ∀ x ∈ l, x.fits) (hm : m.fits) (hq : i64 q) (ht : i64 t)
    (hB : Below wB.heap.size wB wn) (hBq : wB.heap.size ≤ Bq) : VarN (w6.setCell ⟨Bq, 0, none⟩ (.slice (some ⟨g, 0, none⟩) (k + 1) c)) Bq ⟨l ++ [m], q, t⟩ ∧ Below wB.heap.size wB (w6.setCell ⟨Bq, 0, none⟩ (.slice (some ⟨g, 0, none⟩) (k + 1) c)) := by
  refine ⟨put_row (hA.keep h6) (base := wn.heap.size) ?_ (by rw [List.length_append, hk]; rfl) hA.lt ?_ hq ht, (Below.then hB h6).setCell (p := ⟨Bq, 0, none⟩) hBq _⟩
  · rw [cellsN_append, show cellsN [m] = msCell m by simp [cellsN]]; exact ho
  · intro x hx
    rcases List.mem_append.1 hx with hx | hx
    · exact hf x hx
    · rw [List.mem_singleton.1 hx]; exact hm
theorem two_new (w : World) (a b c : Value) : At3 24 ((w.alloc (.cells #[a, b, c] 24)).alloc (.cells #[a, b, c] 24)).drew w.heap.size a b c ∧
    At3 24 ((w.alloc (.cells #[a, b, c] 24)).alloc (.cells #[a, b, c] 24)).drew (w.heap.size + 1) a b c ∧ Below w.heap.size w ((w.alloc (.cells #[a, b, c] 24)).alloc (.cells #[a, b, c] 24)).drew := by
  have e := At3.new 24 (w.alloc (.cells #[a, b, c] 24)) a b c
  rw [World.size_alloc] at e
  exact ⟨(At3.new 24 w a b c).keep (below_new _ _).drew, e, (Below.then (below_new _ _) (below_new _ _)).drew⟩
theorem VarN.past {w : World} {B Bs k c : Nat} {n : Nt} {a : Option Addr} {q t : Int} {x : Value} (h : VarN w B n) (hs : At3 24 w Bs (.slice a k c) (.int .i64 q) (.int .i64 t)) (hne : B ≠ Bs) : VarN (w.setCell ⟨Bs, 0, none⟩ x) B n := by
  obtain ⟨a', k', c', l', t', h1, h2⟩ := h.is
  have hk : ∀ g, g ≠ Bs → (w.setCell ⟨Bs, 0, none⟩ x).heap[g]? = w.heap[g]? := fun g hg => Below.heap_setCell _ _ _ _ hg
  exact ⟨a', k', c', l', t', (hk B hne).trans h1, h2.away ⟨_, _, _, _, _, hs⟩ hk⟩
/-- A row without one of its messages is put into a variable. -/
theorem put_off {wB wn w6 : World} {Br Bs k c p m : Nat} {l : List Ms} {s : Option Addr} {q t : Int} {v0 b0 b1 b2 : Value} (hA : At3 24 wn Br v0 (.int .i64 q) (.int .i64 t)) (hS : At3 24 wn Bs b0 b1 b2) (hne : Br ≠ Bs) (h6 : Below wn.heap.size wn w6)
    (ho : w6.ownsRow wn.heap.size 30 4 (.slice s k c) k (cellsN (l.take p) ++ cellsN (l.drop (p + 1)))) (hk : p + m = k) (hm : l.length = p + 1 + m) (hf : ∀ x ∈ l, x.fits) (hq : i64 q) (ht : i64 t)
    (hB : Below wB.heap.size wB wn) (hBr : wB.heap.size ≤ Br) : VarN (w6.setCell ⟨Br, 0, none⟩ (.slice s k c)) Br ⟨l.take p ++ l.drop (p + 1), q, t⟩ ∧ At3 24 (w6.setCell ⟨Br, 0, none⟩ (.slice s k c)) Bs b0 b1 b2 ∧
    Below wB.heap.size wB (w6.setCell ⟨Br, 0, none⟩ (.slice s k c)) := by
  refine ⟨put_row (hA.keep h6) (base := wn.heap.size) (by rw [cellsN_append]; exact ho) (by rw [List.length_append, List.length_take, List.length_drop]; omega) hA.lt (fun x hx => ?_) hq ht,
    (Below.heap_setCell _ _ _ _ (fun e => hne e.symm)).trans (hS.keep h6), (Below.then hB h6).setCell (p := ⟨Br, 0, none⟩) hBr _⟩
  rcases List.mem_append.1 hx with hx | hx
  · exact hf x (List.mem_of_mem_take hx)
  · exact hf x (List.mem_of_mem_drop hx)
theorem late_take {t : Int} {l : List Ms} {j : Nat} (hj : j < l.length) (h : l[j].tm ≤ t) :
    (lateL t 0 (l.take j)).length < (lateL t 0 l).length ∧ (∀ x, (lateL t 0 l)[(lateL t 0 (l.take j)).length]? = some x → x = j) ∧ (lateL t 0 (l.take (j + 1))).length = (lateL t 0 (l.take j)).length + 1 := by
  have e : lateL t 0 l = lateL t 0 (l.take j) ++ j :: lateL t (j + 1) (l.drop (j + 1)) := by
    have h1 : l = l.take j ++ l[j] :: l.drop (j + 1) := by rw [← List.drop_eq_getElem_cons hj, List.take_append_drop]
    have h2 : (l.take j).length = j := by rw [List.length_take]; omega
    conv => lhs; rw [h1]
    rw [lateL_app, h2, Nat.zero_add, lateL_cons, if_pos h]
  refine ⟨by rw [e, List.length_append, List.length_cons]; omega, fun x hx => ?_, ?_⟩
  · rw [e, List.getElem?_append_right (Nat.le_refl _), Nat.sub_self] at hx
    simpa using hx.symm
  · have h2 : (l.take j).length = j := by rw [List.length_take]; omega
    rw [List.take_succ_eq_append_getElem hj, lateL_app, h2, Nat.zero_add, lateL_cons, if_pos h, List.length_append]; rfl
theorem late_pass {t : Int} {l : List Ms} {j : Nat} (hj : j < l.length) (h : ¬ l[j].tm ≤ t) : (lateL t 0 (l.take (j + 1))).length = (lateL t 0 (l.take j)).length := by
  have h2 : (l.take j).length = j := by rw [List.length_take]; omega
  rw [List.take_succ_eq_append_getElem hj, lateL_app, h2, Nat.zero_add, lateL_cons, if_neg h, List.length_append]; rfl
/-! ### What the calls answer of a net that may not be -/
theorem send_bad {n : Nt} {to : Int} {b : ByteArray} (h : n.right = false) : sendA n to b = (noN, 0, 1) := by unfold sendA; rw [if_pos (Or.inl h)]
theorem place_bad {n : Nt} {p : Int} (h : n.right = false) : placeE n p = 1 := by unfold placeE; rw [if_pos h]
theorem take_bad {n : Nt} {p : Int} (h : n.right = false) : takeA n p = (noN, noM, 1) := by unfold takeA; rw [place_bad h, if_neg (by decide)]
theorem twice_bad {n : Nt} {p : Int} (h : n.right = false) : twiceA n p = (noN, 1) := by unfold twiceA; rw [place_bad h, if_neg (by decide)]
theorem lose_bad {n : Nt} {p : Int} (h : n.right = false) : loseA n p = (noN, 1) := by unfold loseA; rw [take_bad h]
theorem place_none {n : Nt} {p : Int} (h : n.right = true) (hp : p < 0 ∨ (n.fl.length : Int) ≤ p) : placeE n p = 9 := by unfold placeE; rw [if_neg (by rw [h]; decide), if_pos hp]
theorem take_none {n : Nt} {p : Int} (h : n.right = true) (hp : p < 0 ∨ (n.fl.length : Int) ≤ p) : takeA n p = (noN, noM, 9) := by unfold takeA; rw [place_none h hp, if_neg (by decide)]
theorem twice_none {n : Nt} {p : Int} (h : n.right = true) (hp : p < 0 ∨ (n.fl.length : Int) ≤ p) : twiceA n p = (noN, 9) := by unfold twiceA; rw [place_none h hp, if_neg (by decide)]
theorem lose_none {n : Nt} {p : Int} (h : n.right = true) (hp : p < 0 ∨ (n.fl.length : Int) ≤ p) : loseA n p = (noN, 9) := by unfold loseA; rw [take_none h hp]
theorem place_some {n : Nt} {p : Nat} (h : n.right = true) (hp : p < n.fl.length) : placeE n p = 0 := by unfold placeE; rw [if_neg (by rw [h]; decide), if_neg (by omega)]
theorem take_some {n : Nt} {p : Nat} (h : n.right = true) (hp : p < n.fl.length) : takeA n p = (⟨n.fl.take p ++ n.fl.drop (p + 1), n.last, n.now⟩, n.fl[p], 0) := by
  unfold takeA
  rw [if_pos (place_some h hp), Int.toNat_natCast, List.getD_eq_getElem?_getD, List.getElem?_eq_getElem hp]; rfl
theorem lose_some {n : Nt} {p : Nat} (h : n.right = true) (hp : p < n.fl.length) : loseA n p = (⟨n.fl.take p ++ n.fl.drop (p + 1), n.last, n.now⟩, 0) := by unfold loseA; rw [take_some h hp]
theorem twice_full {n : Nt} {p : Nat} (h : n.right = true) (hp : p < n.fl.length) (hf : n.fl.length = 32) : twiceA n p = (noN, 13) := by unfold twiceA; rw [if_pos (place_some h hp), if_pos hf]
theorem twice_some {n : Nt} {p : Nat} (h : n.right = true) (hp : p < n.fl.length) (hf : n.fl.length ≠ 32) : twiceA n p = (⟨n.fl ++ [n.fl[p]], n.last, n.now⟩, 0) := by
  unfold twiceA
  rw [if_pos (place_some h hp), if_neg hf, Int.toNat_natCast, List.getD_eq_getElem?_getD, List.getElem?_eq_getElem hp]; rfl
theorem send_to {n : Nt} {to : Int} {b : ByteArray} (h : to < 0 ∨ 63 < to) : sendA n to b = (noN, 0, 1) := by unfold sendA; rw [if_pos (Or.inr h)]
theorem send_long {n : Nt} {to : Int} {b : ByteArray} (h : n.right = true) (ht : 0 ≤ to ∧ to ≤ 63) (hb : 4096 < b.size) : sendA n to b = (noN, 0, 2) := by
  unfold sendA
  rw [if_neg (by rw [h]; rintro (h | h | h) <;> first | cases h | omega), if_pos hb]
end Go.Proofs.Ytjjefdgcbdfclaa
