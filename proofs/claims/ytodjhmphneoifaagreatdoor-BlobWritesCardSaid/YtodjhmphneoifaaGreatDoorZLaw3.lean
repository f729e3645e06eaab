/-
  What BlobWrites wants besides: contracts in one shape, and what the calls that make blobs answer. Conditions: none.
-/
import Derived.Test.YtodjhmphneoifaaGreatDoorZLaw2
/-! What BlobWrites wants besides: contracts in one shape, and what the calls that make blobs answer. Conditions: none. -/
namespace Go.Proofs.YtodjhmphneoifaaGreatDoor
open Go.RowKit Go.WideShapes

theorem rend_v (v : Value) (b : Blb) (id : Int) (d : ByteArray) (w : World) (aD aS aZ : Addr) (h : BlbAt w v b) (_ : DEnv w aD aS aZ) (hr : RightP b) {r : Blb} {e : Int} (hx : endL b id d = (r, e)) :
    Calls Tryz.prog 21 #[v, .int .i64 id, .string d] w (BlbOut (r, e) w) := by
  rw [← hx]
  exact refBEnd_t v b id d w h ⟨by have := hr.objs; omega, fun o ho => by have := (hr.data o ho).1; omega⟩ (by have := hr.ups; omega) (fun u hu => by have := (hr.short u hu).1; omega)
theorem rwithout_v (v : Value) (b : Blb) (k : Nat) (w : World) (h : BlbAt w v b) (hk : k < b.ups.length) (hr : RightP b) :
    Calls Tryz.prog 22 #[v, .int .i64 k] w fun e w' => ∃ v', e = .returned v' ∧ BlbAt w' v' (withoutB b k) ∧ Below w.heap.size w w' := refBWithout_t v b k w h hk (by have := hr.ups; omega)

theorem begin_no {b : Blb} (h : rightBlb b = false) : beginB b = (nilBlb, 0, 1) := by unfold beginB; rw [if_neg (by rw [h]; decide)]
theorem push_no {b : Blb} {id off : Int} {s : ByteArray} (h : rightBlb b = false) : pushB b id off s = (nilBlb, 1) := by unfold pushB; rw [place_no h, if_pos (by decide)]
theorem endB_no {b : Blb} {id : Int} {d : ByteArray} (h : rightBlb b = false) : endB b id d = (nilBlb, 1) := by unfold endB; rw [if_neg (by rw [h]; decide)]
theorem drop_no {b : Blb} {id : Int} (h : rightBlb b = false) : dropB b id = (nilBlb, 1) := by unfold dropB; rw [place_no h, if_pos (by decide)]
theorem begin_full {b : Blb} (h : rightBlb b = true) (hf : b.ups.length = 16 ∨ b.last = 1099511627776) : beginB b = (nilBlb, 0, 13) := by unfold beginB; rw [if_pos h, if_pos hf]
theorem begin_room {b : Blb} (h : rightBlb b = true) (hf : ¬ (b.ups.length = 16 ∨ b.last = 1099511627776)) : beginB b = (⟨b.objs, b.quota, b.ups ++ [(b.last + 1, ⟨#[]⟩)], b.last + 1⟩, b.last + 1, 0) := by unfold beginB; rw [if_pos h, if_neg hf]
theorem end_yes {b : Blb} {id : Int} {d : ByteArray} (h : rightBlb b = true) : endB b id d = endL b id d := by unfold endB; rw [if_pos h]
theorem push_none {b : Blb} {id off : Int} {s : ByteArray} (h : rightBlb b = true) (hu : upL b.ups id = -1) : pushB b id off s = (nilBlb, 9) := by unfold pushB; rw [place_none h hu, if_pos (by decide)]
theorem drop_none {b : Blb} {id : Int} (h : rightBlb b = true) (hu : upL b.ups id = -1) : dropB b id = (nilBlb, 9) := by unfold dropB; rw [place_none h hu, if_pos (by decide)]
theorem drop_some {b : Blb} {id : Int} {j : Nat} (h : rightBlb b = true) (hu : upL b.ups id = (j : Int)) : dropB b id = (withoutB b j, 0) := by
  unfold dropB
  rw [place_some h hu, if_neg (fun h => h rfl)]
  rfl
theorem upD_some {b : Blb} {j : Nat} (hj : j < b.ups.length) : upD b (j : Int) = b.ups[j].2 := by unfold upD; rw [Int.toNat_natCast, getD_of_lt hj]
theorem push_off {b : Blb} {id off : Int} {s : ByteArray} {j : Nat} (h : rightBlb b = true) (hu : upL b.ups id = (j : Int)) (hj : j < b.ups.length) (ho : off ≠ (b.ups[j].2.size : Nat)) : pushB b id off s = (nilBlb, 11) := by
  unfold pushB
  rw [place_some h hu, if_neg (fun h => h rfl)]
  simp only [upD_some hj]
  rw [if_pos ho]
theorem push_long {b : Blb} {id : Int} {s : ByteArray} {j : Nat} (h : rightBlb b = true) (hu : upL b.ups id = (j : Int)) (hj : j < b.ups.length) (hs : 4096 < b.ups[j].2.size + s.size) : pushB b id (b.ups[j].2.size : Nat) s = (nilBlb, 2) := by
  unfold pushB
  rw [place_some h hu, if_neg (fun h => h rfl)]
  simp only [upD_some hj]
  rw [if_neg (fun h => h rfl), if_pos hs]
theorem push_done {b : Blb} {id : Int} {s : ByteArray} {j : Nat} (h : rightBlb b = true) (hu : upL b.ups id = (j : Int)) (hj : j < b.ups.length) (hs : ¬ 4096 < b.ups[j].2.size + s.size) : pushB b id (b.ups[j].2.size : Nat) s = (setUp b j (b.ups[j].2 ++ s), 0) := by
  unfold pushB
  rw [place_some h hu, if_neg (fun h => h rfl)]
  simp only [upD_some hj]
  rw [if_neg (fun h => h rfl), if_neg hs]
  rfl
theorem up_facts {w : World} {b : Blb} {id : Int} {j : Nat} {a : Option Addr} {n c : Nat} (hr : rightBlb b = true) (hup : upL b.ups id = (j : Int)) (hj : j < b.ups.length) (hp : PairsAt w (.slice a n c) (b.ups.map upCell)) :
    ∃ ub uo ux us, a = some ⟨ub, uo, none⟩ ∧ b.ups[j]? = some (ux, us) ∧ us.size ≤ 4096 ∧ w.cell? ⟨ub, uo + j * 2, none⟩ = some (.int .i64 ux) ∧ w.cell? ⟨ub, uo + j * 2 + 1, none⟩ = some (.string us) ∧
      (∀ (off : Int) (s : ByteArray), off ≠ (us.size : Nat) → pushB b id off s = (nilBlb, 11)) ∧ (∀ s : ByteArray, 4096 < us.size + s.size → pushB b id (us.size : Nat) s = (nilBlb, 2)) ∧
      (∀ s : ByteArray, ¬ 4096 < us.size + s.size → pushB b id (us.size : Nat) s = (setUp b j (us ++ s), 0)) := by
  obtain ⟨ub, uo, ha, g0, g1⟩ := hp.at j (by rw [List.length_map]; exact hj)
  rw [up_getElem b.ups j hj] at g0 g1
  exact ⟨ub, uo, b.ups[j].1, b.ups[j].2, ha, List.getElem?_eq_getElem hj, (((right_iff _).1 hr).short _ (List.getElem_mem hj)).1, g0, g1, fun off s h => push_off hr hup hj h, fun s h => push_long hr hup hj h, fun s h => push_done hr hup hj h⟩
/-! ### What stays while one variable and new blocks are written -/
theorem PairsAt.past {t : TypeId} {w w' : World} {v : Value} {l : List (Value × Value)} {g : Nat} (h : PairsAt w v l) (hs : ∀ p ∈ l, ∃ s, p.2 = .string s) (hg : NoStr t w g)
    (hk : ∀ k, k < w.heap.size → k ≠ g → w'.heap[k]? = w.heap[k]?) : PairsAt w' v l := by
  rcases h with h | ⟨b, o, cap, rfl, h2, h3, h4, h5⟩
  · exact Or.inl h
  · have hlt : b < w.heap.size := World.block_lt_of_cell? _ _ (h5 0 h2).1
    have hb : b ≠ g := by
      rintro rfl
      obtain ⟨-, e⟩ := h5 0 h2
      obtain ⟨s, hs⟩ := hs _ (List.getElem_mem h2)
      rw [hs] at e
      obtain ⟨x1, x2, x3, x4, x5, x6, x7, x8, hg⟩ := hg
      unfold At4 at hg
      generalize o + 0 * 2 + 1 = i at e
      simp only [World.cell?, hg] at e
      match i, e with
      | 0, e => simp at e
      | 1, e => simp at e
      | 2, e => simp at e
      | 3, e => simp at e
      | i + 4, e => simp at e
    exact Or.inr ⟨b, o, cap, rfl, h2, h3, h4, fun i hi => by
      have e : ∀ x, w'.cell? ⟨b, x, none⟩ = w.cell? ⟨b, x, none⟩ := fun x => World.cell?_of_block (w := w) (hk b hlt hb)
      rw [e, e]
      exact h5 i hi⟩
theorem BlbAt.past {t : TypeId} {w w' : World} {v : Value} {b : Blb} {g : Nat} (h : BlbAt w v b) (hg : NoStr t w g) (hk : ∀ k, k < w.heap.size → k ≠ g → w'.heap[k]? = w.heap[k]?) : BlbAt w' v b := by
  obtain ⟨⟨o, u, e, h1, h2⟩, h3, h4, h5, h6⟩ := h
  refine ⟨⟨o, u, e, h1.past ?_ hg hk, h2.past ?_ hg hk⟩, h3, h4, h5, h6⟩
  · intro p hp; obtain ⟨x, -, rfl⟩ := List.mem_map.1 hp; exact ⟨_, rfl⟩
  · intro p hp; obtain ⟨x, -, rfl⟩ := List.mem_map.1 hp; exact ⟨_, rfl⟩
theorem VarB.past {w w' : World} {B g : Nat} {b c : Blb} (h : VarB w B b) (hg : VarB w g c) (hne : B ≠ g) (hk : ∀ k, k < w.heap.size → k ≠ g → w'.heap[k]? = w.heap[k]?) : VarB w' B b := by
  have hl := h.lt
  obtain ⟨a, n, x, q, a', n', c', l, h1, h2⟩ := h.is
  exact ⟨a, n, x, q, a', n', c', l, (hk B hl hne).trans h1, h2.past hg.noStr hk⟩
theorem VarB.past4 {t : TypeId} {w w' : World} {B g : Nat} {b : Blb} (h : VarB w B b) (hg : NoStr t w g) (hne : B ≠ g) (hk : ∀ k, k < w.heap.size → k ≠ g → w'.heap[k]? = w.heap[k]?) : VarB w' B b := by
  have hl := h.lt
  obtain ⟨a, n, x, q, a', n', c', l, h1, h2⟩ := h.is
  exact ⟨a, n, x, q, a', n', c', l, (hk B hl hne).trans h1, h2.past hg hk⟩
/-- An upload's bytes put in a copy. -/
theorem put_up {W w2 : World} {b : Blb} {Bu g j m ku : Nat} {a a' : Option Addr} {n c n' c' : Nat} {q l : Int} {x : ByteArray}
    (hA : At4 25 W Bu (.slice a n c) (.int .i64 q) (.slice a' n' c') (.int .i64 l)) (hV : BlbAt W (.agg #[.slice a n c, .int .i64 q, .slice a' n' c', .int .i64 l]) b)
    (hB : Below W.heap.size W w2) (hown : w2.ownsRow W.heap.size 40 2 (.slice (some ⟨g, 0, none⟩) m ku) m (cellsL (b.ups.map upCell))) (hm : b.ups.length = m) (hj : j < b.ups.length) (hx : x.size ≤ maxLen) :
    VarB ((w2.setCell ⟨Bu, 2, none⟩ (.slice (some ⟨g, 0, none⟩) m ku)).setCell ⟨g, j * 2 + 1, none⟩ (.string x)) Bu (setUp b j x) ∧
    ∀ k, k < W.heap.size → k ≠ Bu → ((w2.setCell ⟨Bu, 2, none⟩ (.slice (some ⟨g, 0, none⟩) m ku)).setCell ⟨g, j * 2 + 1, none⟩ (.string x)).heap[k]? = W.heap[k]? := by
  have hlt := hA.lt
  have hgb : W.heap.size ≤ g := (own_lt hown (g := g) rfl).1
  have hk : ∀ k, k < W.heap.size → k ≠ Bu → ((w2.setCell ⟨Bu, 2, none⟩ (.slice (some ⟨g, 0, none⟩) m ku)).setCell ⟨g, j * 2 + 1, none⟩ (.string x)).heap[k]? = W.heap[k]? := fun k h1 h2 => by
    rw [Below.heap_setCell _ _ _ _ (show k ≠ g by omega), Below.heap_setCell _ _ _ _ h2]
    exact hB.block k h1
  have hno : NoStr 25 W Bu := ⟨_, _, _, _, _, _, _, _, hA⟩
  have hA4 : At4 25 ((w2.setCell ⟨Bu, 2, none⟩ (.slice (some ⟨g, 0, none⟩) m ku)).setCell ⟨g, j * 2 + 1, none⟩ (.string x)) Bu (.slice a n c) (.int .i64 q) (.slice (some ⟨g, 0, none⟩) m ku) (.int .i64 l) :=
    ((hA.keep hB).at2 _).other (by omega) _
  have hu := own_set (s := x) (own_same (w' := w2.setCell ⟨Bu, 2, none⟩ (.slice (some ⟨g, 0, none⟩) m ku)) hown fun k hk => Below.heap_setCell _ _ _ _ (show k ≠ Bu by omega)) hm hj
  obtain ⟨ho, -, e1, e2⟩ := hV.parts
  obtain rfl : q = b.quota := by simpa using e1
  obtain rfl : l = b.last := by simpa using e2
  have hus : (setUp b j x).ups = b.ups.set j (b.ups[j].1, x) := by unfold setUp; rw [getD_of_lt hj]
  have hup : PairsAt _ (.slice (some ⟨g, 0, none⟩) m ku) ((setUp b j x).ups.map upCell) := PairsAt.of_own (by rw [hus]; exact hu) (by rw [hus, List.length_map, List.length_set, hm])
  refine ⟨⟨_, _, _, _, _, _, _, _, hA4, ⟨⟨_, _, rfl, ho.past ?_ hno hk, hup⟩, hV.objs, fun u hu => ?_, hV.quota, hV.last⟩⟩, hk⟩
  · intro p hp; obtain ⟨y, -, rfl⟩ := List.mem_map.1 hp; exact ⟨_, rfl⟩
  · have hu' := hu
    rw [hus] at hu'
    rcases List.mem_or_eq_of_mem_set hu' with hu' | rfl
    · exact hV.ups u hu'
    · exact ⟨hx, (hV.ups _ (List.getElem_mem hj)).2⟩
theorem VarB.beside4 {t : TypeId} {w w' : World} {B g : Nat} {b : Blb} (h : VarB w B b) (hg : NoStr t w g) (hne : B ≠ g) (hk : ∀ k, k ≠ g → w'.heap[k]? = w.heap[k]?) : VarB w' B b := by
  obtain ⟨a, n, x, q, a', n', c', l, h1, h2⟩ := h.is
  exact ⟨a, n, x, q, a', n', c', l, (hk B hne).trans h1, h2.away4 hg hk⟩
theorem At4.at3 {t : TypeId} {w : World} {B : Nat} {a b c d : Value} (h : At4 t w B a b c d) (v : Value) : At4 t (w.setCell ⟨B, 3, none⟩ v) B a b c v := by
  unfold At4 at h ⊢
  rw [heap_setCell_same _ _ _ _ _ _ h]; rfl
/-- An append of a row that may be nil, at a step of a drawn region. -/
theorem step_append_src {P : Program} (w : World) {ops : Array Oper} {o : Oper} {a : Act} {K : Act → World → Prop} {Q : Exit → Act → World → Prop} {E : Prop} (hgd : o.guard = none) (s x : Operand) (t : TypeId)
    (ho : o.op = .call { callee := .builtin .append, args := #[s, x], argTypes := #[t, t] })
    (base : Nat) (e : TypeId) (i : TypeInfo) (z : Value) (size bytes : Nat) (ht : P.underlying t = some (.slice e)) (hi : P.info? e = some i) (hz : i.zero = some z)
    (hsize : i.size = size) (hby : i.bytes = bytes) (hzs : z.cells.size = size) (hsz : 0 < size)
    (v : Value) (n : Nat) (xs : List Value) (hs : a.eval s = v) (hown : w.ownsRow base e size v n xs)
    (xv : Value) (m : Nat) (news : List Value) (hx : a.eval x = xv) (hsrc : SrcOf size w xv m news) (h1 : ∀ u ∈ news, u.oneCell' = true)
    (h63 : n + m ≤ maxLen) (hbytes : (n + m) * bytes ≤ 140737488355328) (hbase : base ≤ w.heap.size)
    (h : ∀ v' w', w'.ownsRow base e size v' (n + m) (xs ++ news) → w.grownBy w' v.ownBlock → K (a.put o.dst v') w') :
    if Region.wanted o (yielded ops a.tmps) = true then Oper.wp P o a w K Q else E := by
  have hw : Region.wanted o (yielded ops a.tmps) = true := by simp [Region.wanted, hgd]
  rw [if_pos hw]
  rcases hsrc with ⟨rfl, rfl, rfl⟩ | ⟨ad, c, rfl, hl, hnews⟩
  · have hrun := run_append_owned_none (P := P) (w := w) base t o.type e i size ht hi v n xs hown
    have hk := h v w (by simpa using hown) (World.grownBy.refl w _)
    unfold Oper.wp
    simp [execOp, ho, resolve, invoke, builtin, hs, hx, hrun, Result.andThen]
    exact hk
  · exact wp_append_own w s x t ho base e i z size bytes ht hi hz hsize hby hzs hsz v n xs hs hown ad m c news hx hl hnews h1 h63 hbytes hbase fun v' w' h2 h3 _ => h v' w' h2 h3
theorem VarB.opens {w : World} {B : Nat} {b : Blb} (h : VarB w B b) : ∃ a n c q a' n' c' l, At4 25 w B (.slice a n c) (.int .i64 q) (.slice a' n' c') (.int .i64 l) ∧ BlbAt w (.agg #[.slice a n c, .int .i64 q, .slice a' n' c', .int .i64 l]) b ∧ l = b.last := by
  obtain ⟨a, c, a', c', h1, h2⟩ := h.open
  exact ⟨a, _, c, _, a', _, c', _, h1, h2, rfl⟩
theorem size_one (wn : World) (o : Obj) : (wn.drew.alloc o).heap.size = wn.heap.size + 1 := by rw [World.size_alloc]; rfl
theorem row_next {wn w4 : World} {o o' : Obj} (hg : ((wn.drew.alloc o).alloc o').grownBy w4 (some wn.heap.size)) : w4.heap[wn.heap.size + 1]? = some o' := by
  have e := size_one wn o
  have h1 := hg.block (wn.heap.size + 1) (by rw [World.size_alloc, e]; omega) (by simp)
  have h2 := heap_alloc_new (wn.drew.alloc o) o'
  rw [e] at h2
  exact h1.trans h2
theorem row_first {wn w4 : World} {o o' : Obj} (hg : ((wn.drew.alloc o').alloc o).grownBy w4 (some (wn.heap.size + 1))) : w4.heap[wn.heap.size]? = some o' := by
  have e := size_one wn o'
  have h1 := hg.block wn.heap.size (by rw [World.size_alloc, e]; omega) (by simp)
  exact h1.trans ((Below.heap_alloc _ _ _ (by rw [e]; omega)).trans (heap_alloc_new wn.drew o'))
/-- One more upload in a copy. -/
theorem want_end {W w6 : World} {b : Blb} {Bn n c m n' c' cx : Nat} {a a' x : Option Addr} (hA : At4 25 W Bn (.slice a n c) (.int .i64 b.quota) (.slice a' n' c') (.int .i64 (b.last + 1)))
    (hp : PairsAt W (.slice a n c) (b.objs.map objCell)) (hr : RightP b) (ho : ∀ o ∈ b.objs, o.1.size ≤ maxLen ∧ o.2.size ≤ maxLen) (hB : Below W.heap.size W w6)
    (hown : w6.ownsRow W.heap.size 40 2 (.slice x (m + 1) cx) (m + 1) (cellsL (b.ups.map upCell) ++ [.int .i64 (b.last + 1), .string ⟨#[]⟩])) (hm : b.ups.length = m) :
    VarB (w6.setCell ⟨Bn, 2, none⟩ (.slice x (m + 1) cx)) Bn ⟨b.objs, b.quota, b.ups ++ [(b.last + 1, ⟨#[]⟩)], b.last + 1⟩ ∧
    ∀ k, k < W.heap.size → k ≠ Bn → (w6.setCell ⟨Bn, 2, none⟩ (.slice x (m + 1) cx)).heap[k]? = W.heap[k]? := by
  have hlt := hA.lt
  have hk : ∀ k, k < W.heap.size → k ≠ Bn → (w6.setCell ⟨Bn, 2, none⟩ (.slice x (m + 1) cx)).heap[k]? = W.heap[k]? := fun k h1 h2 => by
    rw [Below.heap_setCell _ _ _ _ h2]
    exact hB.block k h1
  have hno : NoStr 25 W Bn := ⟨_, _, _, _, _, _, _, _, hA⟩
  have hu : (w6.setCell ⟨Bn, 2, none⟩ (.slice x (m + 1) cx)).ownsRow W.heap.size 40 2 (.slice x (m + 1) cx) (m + 1) (cellsL ((b.ups ++ [(b.last + 1, (⟨#[]⟩ : ByteArray))]).map upCell)) := by
    have e : cellsL ((b.ups ++ [(b.last + 1, (⟨#[]⟩ : ByteArray))]).map upCell) = cellsL (b.ups.map upCell) ++ [.int .i64 (b.last + 1), .string ⟨#[]⟩] := by rw [List.map_append, cellsL_append]; rfl
    rw [e]
    exact own_same hown fun k hk => Below.heap_setCell _ _ _ _ (show k ≠ Bn by omega)
  have hl := hr.last
  have hq := hr.quota
  refine ⟨⟨_, _, _, _, _, _, _, _, (hA.keep hB).at2 _, ⟨⟨_, _, rfl, hp.past ?_ hno hk, PairsAt.of_own hu (by rw [List.length_map, List.length_append, hm, List.length_singleton])⟩, ho, fun u hu => ?_, ⟨?_, ?_⟩, ⟨?_, ?_⟩⟩⟩, hk⟩
  · intro p hp; obtain ⟨y, -, rfl⟩ := List.mem_map.1 hp; exact ⟨_, rfl⟩
  · rcases List.mem_append.1 hu with hu | hu
    · have := hr.short u hu
      unfold maxLen; omega
    · obtain rfl := List.mem_singleton.1 hu
      refine ⟨Nat.zero_le maxLen, ?_, ?_⟩
      · show _ ≤ b.last + 1; omega
      · show b.last + 1 ≤ _; omega
  · show _ ≤ b.quota; omega
  · show b.quota ≤ _; omega
  · show _ ≤ b.last + 1; omega
  · show b.last + 1 ≤ _; omega
end Go.Proofs.YtodjhmphneoifaaGreatDoor
