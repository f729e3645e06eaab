/-
  Rows of rows of strings, rows of bools and ledgers that came in: what they read as. Conditions: none.
  What the laws of ledgers share besides: variables that hold ledgers, whole. Conditions: none.
  Plain facts for LedgerCrashes: what a crash leaves of each step. Conditions: none.
-/
import Derived.Test.YtkplpodljmlanaaGreatDoorZLed1
import Derived.Test.YtkplpodljmlanaaGreatDoorZLed2
/-! Rows of rows of strings, rows of bools and ledgers that came in: what they read as. Conditions: none. -/
namespace Go.Proofs.YtkplpodljmlanaaGreatDoor
open Go.ChangeShapes Go.WideShapes Go.RowKit Go.Deep

/-- The value v reads as these rows. -/
def RowsAt (w : World) (v : Value) (rs : List (List ByteArray)) : Prop :=
  (rs = [] ∧ (v = .slice none 0 0 ∨ ∃ a cap, v = .slice (some a) 0 cap ∧ cap ≤ maxLen)) ∨
  ∃ b o cap, v = .slice (some ⟨b, o, none⟩) rs.length cap ∧ 0 < rs.length ∧ rs.length ≤ cap ∧ cap ≤ maxLen ∧ ∀ i (h : i < rs.length), ∃ u, w.cell? ⟨b, o + i, none⟩ = some u ∧ StrsAt w u rs[i]
theorem RowsAt.keep {w w' : World} {v : Value} {rs : List (List ByteArray)} (h : RowsAt w v rs) (hb : Below w.heap.size w w') : RowsAt w' v rs := by
  rcases h with h | ⟨b, o, cap, h1, h2, h3, h4, h5⟩
  · exact Or.inl h
  · refine Or.inr ⟨b, o, cap, h1, h2, h3, h4, fun i hi => ?_⟩
    obtain ⟨u, k1, k2⟩ := h5 i hi
    exact ⟨u, Below.keepc hb k1, k2.keep hb⟩
theorem RowsAt.shape {w : World} {v : Value} {l : List (List ByteArray)} (h : RowsAt w v l) : ∃ a cap, v = .slice a l.length cap ∧ l.length ≤ 9223372036854775807 := by
  rcases h with ⟨rfl, rfl | ⟨a, cap, rfl, hc⟩⟩ | ⟨b, o, cap, rfl, h2, h3, h4, -⟩
  · exact ⟨none, 0, rfl, by decide⟩
  · exact ⟨_, _, rfl, by decide⟩
  · unfold maxLen at h4; exact ⟨_, _, rfl, by omega⟩
theorem RowsAt.at {w : World} {a : Option Addr} {n cap : Nat} {l : List (List ByteArray)} (h : RowsAt w (.slice a n cap) l) (i : Nat) (hi : i < l.length) : ∃ b o, a = some ⟨b, o, none⟩ ∧ ∃ u, w.cell? ⟨b, o + i, none⟩ = some u ∧ StrsAt w u l[i] := by
  rcases h with ⟨h0, -⟩ | ⟨b, o, c, e, -, -, -, hc⟩
  · rw [h0] at hi; simp at hi
  · simp only [Value.slice.injEq] at e
    exact ⟨b, o, e.1, hc i hi⟩
/-- Rows that were read. -/
theorem rows_read {H : Type} {enc : TypeId × Value → H} {W : World} {fuel : Nat} {v : Value} {x : DataW H × List MemPlace}
    (h : DataW.trod enc Tryz.prog W 0 (fun _ => true) true fuel 55 [v] = some x) : ∃ rs, RowsAt W v rs ∧ ∀ r ∈ rs, ∀ s ∈ r, s.size ≤ maxLen := by
  rcases slice_cells Tryz.underlying55 (show Tryz.prog.cellsOf 22 = 1 by kernel_rfl) (by decide) h with h | ⟨b, o, len, cap, rfl, h1, h2, h3, h4⟩
  · exact ⟨[], Or.inl ⟨rfl, h⟩, by simp⟩
  · obtain ⟨l, hl, hp⟩ := exists_list (P := fun i (r : List ByteArray) => (∃ u, W.cell? ⟨b, o + i, none⟩ = some u ∧ StrsAt W u r) ∧ ∀ s ∈ r, s.size ≤ maxLen) len fun i hi => by
      obtain ⟨cs, n', y, -, hcl, hca, hr⟩ := h4 i hi
      obtain ⟨c0, rfl⟩ : ∃ c0, cs = [c0] := by
        match cs, hcl with
        | [a], _ => exact ⟨a, rfl⟩
      obtain ⟨r, hr1, hr2⟩ := strs_read hr
      have := hca 0 (by decide)
      simp only [Nat.mul_one, Nat.add_zero] at this
      exact ⟨r, ⟨c0, by rw [this]; rfl, hr1⟩, hr2⟩
    refine ⟨l, Or.inr ⟨b, o, cap, by rw [hl], by omega, by omega, h3, fun i hi => (hp i hi).1⟩, fun x hx => ?_⟩
    obtain ⟨i, hi, rfl⟩ := List.getElem_of_mem hx
    exact (hp i hi).2
set_option maxRecDepth 100000 in
/-- Rows that came in. -/
theorem open_rows {H : Type} {enc : TypeId × Value → H} {W : World} {b0 : Nat} {v : Value} {d : DataW H} {p : List MemPlace}
    (hval : Value.okWide Tryz.prog W .any b0 55 v) (hj : DataW.Trod enc Tryz.prog W 0 (fun _ => true) true 55 v d p) : ∃ rs, RowsAt W v rs ∧ ∀ r ∈ rs, ∀ s ∈ r, s.size ≤ maxLen := by
  obtain ⟨a0, len, cap, rfl⟩ := okWide_slice Tryz.underlying55 hval
  obtain ⟨fuel, hf⟩ := hj
  exact rows_read hf

/-- The value v reads as these bools. -/
def BoolsAt (w : World) (v : Value) (fs : List Bool) : Prop :=
  (fs = [] ∧ (v = .slice none 0 0 ∨ ∃ a cap, v = .slice (some a) 0 cap ∧ cap ≤ maxLen)) ∨
  ∃ b o cap, v = .slice (some ⟨b, o, none⟩) fs.length cap ∧ 0 < fs.length ∧ fs.length ≤ cap ∧ cap ≤ maxLen ∧ ∀ i (h : i < fs.length), w.cell? ⟨b, o + i, none⟩ = some (.bool fs[i])
theorem BoolsAt.keep {w w' : World} {v : Value} {fs : List Bool} (h : BoolsAt w v fs) (hb : Below w.heap.size w w') : BoolsAt w' v fs := by
  rcases h with h | ⟨b, o, cap, h1, h2, h3, h4, h5⟩
  · exact Or.inl h
  · exact Or.inr ⟨b, o, cap, h1, h2, h3, h4, fun i hi => Below.keepc hb (h5 i hi)⟩
theorem BoolsAt.shape {w : World} {v : Value} {l : List Bool} (h : BoolsAt w v l) : ∃ a cap, v = .slice a l.length cap ∧ l.length ≤ 9223372036854775807 := by
  rcases h with ⟨rfl, rfl | ⟨a, cap, rfl, hc⟩⟩ | ⟨b, o, cap, rfl, h2, h3, h4, -⟩
  · exact ⟨none, 0, rfl, by decide⟩
  · exact ⟨_, _, rfl, by decide⟩
  · unfold maxLen at h4; exact ⟨_, _, rfl, by omega⟩
theorem BoolsAt.at {w : World} {a : Option Addr} {n cap : Nat} {l : List Bool} (h : BoolsAt w (.slice a n cap) l) (i : Nat) (hi : i < l.length) : ∃ b o, a = some ⟨b, o, none⟩ ∧ w.cell? ⟨b, o + i, none⟩ = some (.bool l[i]) := by
  rcases h with ⟨h0, -⟩ | ⟨b, o, c, e, -, -, -, hc⟩
  · rw [h0] at hi; simp at hi
  · simp only [Value.slice.injEq] at e
    exact ⟨b, o, e.1, hc i hi⟩
set_option maxRecDepth 100000 in
/-- Bools that came in. -/
theorem open_bools {H : Type} {enc : TypeId × Value → H} {W : World} {b0 : Nat} {v : Value} {d : DataW H} {p : List MemPlace}
    (hval : Value.okWide Tryz.prog W .any b0 60 v) (hj : DataW.Trod enc Tryz.prog W 0 (fun _ => true) true 60 v d p) : ∃ fs, BoolsAt W v fs := by
  obtain ⟨a0, len, cap, rfl⟩ := okWide_slice Tryz.underlying60 hval
  obtain ⟨fuel, hf⟩ := hj
  rcases slice_cells Tryz.underlying60 (show Tryz.prog.cellsOf 4 = 1 by kernel_rfl) (by decide) hf with h | ⟨b, o, len', cap', e, h1, h2, h3, h4⟩
  · exact ⟨[], Or.inl ⟨rfl, h⟩⟩
  · obtain ⟨l, hl, hp⟩ := exists_list (P := fun i (x : Bool) => W.cell? ⟨b, o + i, none⟩ = some (.bool x)) len' fun i hi => by
      obtain ⟨cs, n', y, -, hcl, hca, hr⟩ := h4 i hi
      obtain ⟨q, hq, -⟩ := DataW.trod_bool Tryz.underlying4 hr
      subst hq
      have := hca 0 (by decide)
      simp only [Nat.mul_one, Nat.add_zero] at this
      exact ⟨q, by rw [this]; rfl⟩
    exact ⟨l, Or.inr ⟨b, o, cap', by rw [hl]; exact e, by omega, by omega, h3, fun i hi => hp i hi⟩⟩
end Go.Proofs.YtkplpodljmlanaaGreatDoor
/-! What the laws of ledgers share besides: variables that hold ledgers, whole. Conditions: none. -/
namespace Go.Proofs.YtkplpodljmlanaaGreatDoor
open Go.RowKit Go.WideShapes

/-- A step out of any number, as the laws make it. -/
theorem step_of (a : Int) : ∃ (r : Int) (st : Nat), a.tmod 2 = r ∧ (r + 2).tmod 2 = (st : Int) ∧ (st = 0 ∨ st = 1) ∧ -2 < r ∧ r < 2 := by
  have b1 := Int.tmod_lt_of_pos a (show (0 : Int) < 2 by decide)
  have b0 : -2 < a.tmod 2 := by
    rcases Int.le_total 0 a with h | h
    · have := Int.tmod_nonneg 2 h; omega
    · have e : a.tmod 2 = -((-a).tmod 2) := by rw [Int.neg_tmod, Int.neg_neg]
      have := Int.tmod_lt_of_pos (-a) (show (0 : Int) < 2 by decide)
      rw [e]; omega
  have c0 : 0 ≤ a.tmod 2 + 2 := by omega
  have d0 := Int.tmod_nonneg 2 c0
  have d1 := Int.tmod_lt_of_pos (a.tmod 2 + 2) (show (0 : Int) < 2 by decide)
  exact ⟨a.tmod 2, ((a.tmod 2 + 2).tmod 2).toNat, rfl, by omega, by omega, b0, b1⟩
theorem LedIn.nil {w : World} {B : Nat} (hz : At6 27 w B nilV nilV zeroV zeroV zeroV nilV) : LedIn w B nilLed := ⟨none, 0, none, 0, none, 0, hz, nilLed_at w⟩
theorem newI_alloc {w0 wD : World} {n0 n1 ne : Nat} {lh lg lu e1 : Int} {l : Led} {p1 p2 p3 : Option Addr} {k1 k2 k3 : Nat}
    (hlD : LedAt wD (.agg #[.slice p1 n0 k1, .slice p2 n1 k2, .int .i64 lh, .int .i64 lg, .int .i64 lu, .slice p3 ne k3]) l) (hbA : Below w0.heap.size w0 wD) :
    ∃ B, (Value.pointer (some ⟨wD.heap.size, 0, none⟩)) = .pointer (some ⟨B, 0, none⟩) ∧ (Value.int .i64 e1) = .int .i64 e1 ∧ LedIn (wD.alloc (.cells #[.slice p1 n0 k1, .slice p2 n1 k2, .int .i64 lh, .int .i64 lg, .int .i64 lu, .slice p3 ne k3] 27)) B l ∧ Below w0.heap.size w0 (wD.alloc (.cells #[.slice p1 n0 k1, .slice p2 n1 k2, .int .i64 lh, .int .i64 lg, .int .i64 lu, .slice p3 ne k3] 27)) ∧ w0.heap.size ≤ B :=
  ⟨_, rfl, rfl, LedIn.new hlD, Below.then hbA (below_new _ _), hbA.size⟩
theorem newI_set {w0 wD : World} {B n0 n1 ne : Nat} {lh lg lu e1 : Int} {l : Led} {p1 p2 p3 : Option Addr} {k1 k2 k3 : Nat} (hz : At6 27 wD B nilV nilV zeroV zeroV zeroV nilV) (hd : l.disk.dirty = [])
    (hlD : LedAt wD (.agg #[.slice p1 n0 k1, .slice p2 n1 k2, .int .i64 lh, .int .i64 lg, .int .i64 lu, .slice p3 ne k3]) l) (hbA : Below w0.heap.size w0 wD) (hB : w0.heap.size ≤ B) :
    ∃ B', (Value.pointer (some ⟨B, 0, none⟩)) = .pointer (some ⟨B', 0, none⟩) ∧ (Value.int .i64 e1) = .int .i64 e1 ∧ LedIn ((((((wD.setCell ⟨B, 0, none⟩ (.slice p1 n0 k1)).setCell ⟨B, 1, none⟩ (.slice p2 n1 k2)).setCell ⟨B, 2, none⟩ (.int .i64 lh)).setCell ⟨B, 3, none⟩ (.int .i64 lg)).setCell ⟨B, 4, none⟩ (.int .i64 lu)).setCell ⟨B, 5, none⟩ (.slice p3 ne k3)) B' l ∧ Below w0.heap.size w0 ((((((wD.setCell ⟨B, 0, none⟩ (.slice p1 n0 k1)).setCell ⟨B, 1, none⟩ (.slice p2 n1 k2)).setCell ⟨B, 2, none⟩ (.int .i64 lh)).setCell ⟨B, 3, none⟩ (.int .i64 lg)).setCell ⟨B, 4, none⟩ (.int .i64 lu)).setCell ⟨B, 5, none⟩ (.slice p3 ne k3)) ∧ w0.heap.size ≤ B' :=
  ⟨B, rfl, rfl, (LedIn.nil hz).set hlD hd, set6_below hbA hB _ _ _ _ _ _, hB⟩
/-- A call's ledger is put into a variable that is there. -/
theorem oldI_set {w0 wD : World} {B B0 n0 n1 ne : Nat} {lh lg lu e1 : Int} {l lx l0 : Led} {p1 p2 p3 : Option Addr} {k1 k2 k3 : Nat} (hx : LedIn wD B lx) (h0 : LedIn wD B0 l0) (hne : B0 ≠ B) (hd0 : l0.disk.dirty = []) (hd : l.disk.dirty = [])
    (hlD : LedAt wD (.agg #[.slice p1 n0 k1, .slice p2 n1 k2, .int .i64 lh, .int .i64 lg, .int .i64 lu, .slice p3 ne k3]) l) (hbA : Below w0.heap.size w0 wD) (hB : w0.heap.size ≤ B) :
    (Value.int .i64 e1) = .int .i64 e1 ∧ LedIn ((((((wD.setCell ⟨B, 0, none⟩ (.slice p1 n0 k1)).setCell ⟨B, 1, none⟩ (.slice p2 n1 k2)).setCell ⟨B, 2, none⟩ (.int .i64 lh)).setCell ⟨B, 3, none⟩ (.int .i64 lg)).setCell ⟨B, 4, none⟩ (.int .i64 lu)).setCell ⟨B, 5, none⟩ (.slice p3 ne k3)) B l ∧ LedIn ((((((wD.setCell ⟨B, 0, none⟩ (.slice p1 n0 k1)).setCell ⟨B, 1, none⟩ (.slice p2 n1 k2)).setCell ⟨B, 2, none⟩ (.int .i64 lh)).setCell ⟨B, 3, none⟩ (.int .i64 lg)).setCell ⟨B, 4, none⟩ (.int .i64 lu)).setCell ⟨B, 5, none⟩ (.slice p3 ne k3)) B0 l0 ∧ Below w0.heap.size w0 ((((((wD.setCell ⟨B, 0, none⟩ (.slice p1 n0 k1)).setCell ⟨B, 1, none⟩ (.slice p2 n1 k2)).setCell ⟨B, 2, none⟩ (.int .i64 lh)).setCell ⟨B, 3, none⟩ (.int .i64 lg)).setCell ⟨B, 4, none⟩ (.int .i64 lu)).setCell ⟨B, 5, none⟩ (.slice p3 ne k3)) :=
  ⟨rfl, hx.set hlD hd, h0.other hx hne hd0 _ _ _ _ _ _, set6_below hbA hB _ _ _ _ _ _⟩

/-! ### Rows that are appended to -/
theorem grow_below {w0 w w' : World} {base R : Nat} {e : TypeId} {size n : Nat} {v : Value} {xs : List Value} (h : Below R w0 w) (ho : w.ownsRow base e size v n xs) (hg : w.grownBy w' v.ownBlock) (hR : R ≤ base) (hs : R ≤ w.heap.size) : Below R w0 w' :=
  ⟨hg.os.trans h.os, hg.tape.trans h.tape, hg.output.trans h.output, Nat.le_trans h.size hg.size, fun k hk => (hg.block k (by omega) (fun e => by have := (ho.lt k e.symm).1; omega)).trans (h.block k hk)⟩
theorem row_shape {w : World} {base : Nat} {e : TypeId} {size n : Nat} {v : Value} {xs : List Value} (h : w.ownsRow base e size v n xs) : ∃ a cap, v = .slice a n cap := by
  rcases h.2 with ⟨rfl, rfl⟩ | ⟨g', cap, cur, rfl, -⟩
  · exact ⟨_, _, rfl⟩
  · exact ⟨_, _, rfl⟩
theorem same_eq (v u : Value) (ss ts : List ByteArray) (w : World) (h : StrsAt w v ss) (g : StrsAt w u ts) (e : ss = ts) :
    Calls Tryz.prog 32 #[v, u] w fun e w' => e = .returned (.bool true) ∧ Below w.heap.size w w' := by
  have H := Same_strs v u ss ts w h g
  rwa [decide_eq_true e] at H
theorem same_ne (v u : Value) (ss ts : List ByteArray) (w : World) (h : StrsAt w v ss) (g : StrsAt w u ts) (e : ¬ ss = ts) :
    Calls Tryz.prog 32 #[v, u] w fun e w' => e = .returned (.bool false) ∧ Below w.heap.size w w' := by
  have H := Same_strs v u ss ts w h g
  rwa [decide_eq_false e] at H

end Go.Proofs.YtkplpodljmlanaaGreatDoor
/-! Plain facts for LedgerCrashes: what a crash leaves of each step. Conditions: none. -/
namespace Go.Proofs.YtkplpodljmlanaaGreatDoor

theorem torn_list (s x : ByteArray) (hs : s.size = 128) : (tornB s x).data.toList = x.data.toList.take 64 ++ s.data.toList.drop 64 := by
  unfold tornB
  rw [ByteArray.data_append, Array.toList_append, Lib.extract_data, Lib.extract_data, List.drop_zero, hs]
  congr 1
  rw [List.take_of_length_le (by rw [List.length_drop, toList_size]; omega)]
/-- Each byte behind a crash is as it was, or as one of the writes there has it. -/
theorem torn_byte (s x : ByteArray) (hs : s.size = 128) (hx : x.size = 128) (j : Nat) : (tornB s x).data.toList[j]? = s.data.toList[j]? ∨ (tornB s x).data.toList[j]? = x.data.toList[j]? := by
  have e := torn_list s x hs
  rw [e]
  have h1 := toList_size s
  have h2 := toList_size x
  by_cases hj : j < 64
  · right
    rw [List.getElem?_append_left (by rw [List.length_take]; omega), List.getElem?_take, if_pos hj]
  · left
    rw [List.getElem?_append_right (by rw [List.length_take]; omega), List.length_take, List.getElem?_drop]
    congr 1
    omega
theorem left_byte (k j : Nat) : ∀ (l : List (Int × ByteArray)) (s : ByteArray) (fs : List Int), s.size = 128 → (∀ w ∈ l, w.2.size = 128) →
    (leftL k s l fs).data.toList[j]? = s.data.toList[j]? ∨ ∃ w ∈ l, w.1 = (k : Int) ∧ (leftL k s l fs).data.toList[j]? = w.2.data.toList[j]?
  | [], _, _, _, _ => Or.inl rfl
  | _ :: _, _, [], _, _ => Or.inl rfl
  | w :: l, s, f :: fs, h, hw => by
    have hx := hw w (List.mem_cons_self ..)
    have hr : ∀ w ∈ l, w.2.size = 128 := fun y hy => hw y (List.mem_cons_of_mem _ hy)
    obtain ⟨s1, hs1⟩ : ∃ s', (if w.1 = (k : Int) then (if f = 1 then w.2 else if f = 2 then tornB s w.2 else s) else s) = s' := ⟨_, rfl⟩
    have e : leftL k s (w :: l) (f :: fs) = leftL k s1 l fs := by rw [← hs1]; rfl
    have hz : s1.size = 128 := by
      rw [← hs1]
      split
      · split
        · exact hx
        · split
          · exact torn_size h hx
          · exact h
      · exact h
    have h1 : s1.data.toList[j]? = s.data.toList[j]? ∨ (w.1 = (k : Int) ∧ s1.data.toList[j]? = w.2.data.toList[j]?) := by
      rw [← hs1]
      split
      · rename_i hk
        split
        · exact Or.inr ⟨hk, rfl⟩
        · split
          · exact (torn_byte s w.2 h hx j).imp id fun q => ⟨hk, q⟩
          · exact Or.inl rfl
      · exact Or.inl rfl
    rw [e]
    rcases left_byte k j l s1 fs hz hr with h2 | ⟨y, hy, h3, h4⟩
    · rw [h2]
      rcases h1 with h1 | ⟨hk, h1⟩
      · exact Or.inl h1
      · exact Or.inr ⟨w, List.mem_cons_self .., hk, h1⟩
    · exact Or.inr ⟨y, List.mem_cons_of_mem _ hy, h3, h4⟩
theorem left_other (k : Nat) : ∀ (l : List (Int × ByteArray)) (s : ByteArray) (fs : List Int), (∀ w ∈ l, w.1 ≠ (k : Int)) → leftL k s l fs = s
  | [], _, _, _ => rfl
  | _ :: _, _, [], _ => rfl
  | w :: l, s, f :: fs, h => by
    show leftL k (if w.1 = (k : Int) then _ else s) l fs = s
    rw [if_neg (h w (List.mem_cons_self ..))]
    exact left_other k l s fs fun y hy => h y (List.mem_cons_of_mem _ hy)

theorem left_one (k : Nat) (s : ByteArray) (w : Int × ByteArray) (hw : w.1 = (k : Int)) (fs : List Int) : leftL k s [w] fs = s ∨ leftL k s [w] fs = w.2 ∨ leftL k s [w] fs = tornB s w.2 := by
  cases fs with
  | nil => exact Or.inl rfl
  | cons f fs =>
    have e : leftL k s [w] (f :: fs) = leftL k (if w.1 = (k : Int) then (if f = 1 then w.2 else if f = 2 then tornB s w.2 else s) else s) [] fs := rfl
    have e2 : ∀ s', leftL k s' [] fs = s' := fun s' => by cases fs <;> rfl
    rw [e, e2, if_pos hw]
    by_cases h1 : f = 1
    · rw [if_pos h1]; exact Or.inr (Or.inl rfl)
    · rw [if_neg h1]
      by_cases h2 : f = 2
      · rw [if_pos h2]; exact Or.inr (Or.inr rfl)
      · rw [if_neg h2]; exact Or.inl rfl

section
variable {d : Dsk} {n g u : Nat} {es : List ByteArray} {renew : Bool} {ss : List ByteArray}
/-- The disks on which a crash may come. -/
def stepD0 (d : Dsk) (n u : Nat) (renew : Bool) (ss : List ByteArray) : Dsk := ⟨d.secs, fillW d (mOf renew n) (thereOf renew d n u) (bindL ss)⟩
def stepD1 (d : Dsk) (n g u : Nat) (renew : Bool) (ss : List ByteArray) : Dsk := ⟨(fillOf d n u renew ss).secs, [headW (fillOf d n u renew ss) (mOf renew n) (gOf renew g) (usedOf d n u renew ss)]⟩
theorem Goes.right0 (h : Goes d n g u es renew ss) : RightIs (stepD0 d n u renew ss) := by
  obtain ⟨h1, h2⟩ := fillW_right h.opens.right h.le h.fits
  exact saved_right h.opens.right h1 (by omega)
theorem Goes.right1 (h : Goes d n g u es renew ss) : RightIs (stepD1 d n g u renew ss) := saved_right h.mid.right (headW_right h.mid.right h.le _ _) (by simp)
theorem Goes.save0 (h : Goes d n g u es renew ss) : saveD d (fillW d (mOf renew n) (thereOf renew d n u) (bindL ss)) = (stepD0 d n u renew ss, 0) := (fill_flush h.opens.right h.opens.clean h.le h.fits).1
theorem Goes.flush0 (h : Goes d n g u es renew ss) : flushD (stepD0 d n u renew ss) = (fillOf d n u renew ss, 0) := (fill_flush h.opens.right h.opens.clean h.le h.fits).2
theorem Goes.save1 (h : Goes d n g u es renew ss) : saveD (fillOf d n u renew ss) [headW d (mOf renew n) (gOf renew g) (usedOf d n u renew ss)] = (stepD1 d n g u renew ss, 0) := by
  rw [headW_fill d n u _ _ _ renew ss]
  exact (head_flush h.mid.right h.mid.clean h.le _ _).1
/-- A crash within the first step: the old ledger. -/
theorem Goes.crash0 (h : Goes d n g u es renew ss) (fs : List Int) : Opens (crashD (stepD0 d n u renew ss) fs).1 n g u es := by
  rw [crashD_ok h.right0]
  have hr := h.opens.right
  have h2 := hOf_two hr
  have hw : ∀ w ∈ (stepD0 d n u renew ss).dirty, w.2.size = 128 := fun w hw => (h.right0.well w hw).2.2
  have K : Kept d (clean d.secs.length fun k => (stepD0 d n u renew ss).left k fs) (mOf renew n) (thereOf renew d n u).length := by
    refine ⟨clean_right hr.least hr.most fun i hi => dleft_size h.right0 fs hi, rfl, clean_length _ _, fun k hk ho => ?_, fun i hi j hj hlt => ?_⟩
    · rw [sec_clean hk]
      show (leftL k (d.secs.getD k ⟨#[]⟩) _ fs).data.toList = _
      rw [left_other]
      · rfl
      · intro w hw hwk
        obtain ⟨i, h1, h3, rfl⟩ := fillL_mem hw
        have h4 := fillN_lt h3 h1
        have h5 := h.fits
        rw [List.length_append] at h4
        simp only at hwk
        apply ho
        unfold roomN at h5
        omega
    · have hk := half_lt (d := d) h.le hi
      rw [sec_clean hk]
      show (leftL (mOf renew n * hOf d + 1 + i) (d.secs.getD (mOf renew n * hOf d + 1 + i) ⟨#[]⟩) (fillW d (mOf renew n) (thereOf renew d n u) (bindL ss)) fs).data.toList[j]? = _
      rcases left_byte (mOf renew n * hOf d + 1 + i) j (fillW d (mOf renew n) (thereOf renew d n u) (bindL ss)) (d.secs.getD (mOf renew n * hOf d + 1 + i) ⟨#[]⟩) fs (sec_size hr hk) hw with e | ⟨w, hwm, hwk, e⟩
      · rw [e]; rfl
      · rw [e]
        obtain ⟨i', h1, h3, rfl⟩ := fillL_mem hwm
        obtain rfl : i' = i := by simp only at hwk; omega
        rw [secB'_list]
        exact fill_bytes h.there hr h.le (by have := h.fits; omega) hj hlt
  exact K.opens h.opens h.le (keptUsed h.opens renew)
/-- A crash within the second step: the old ledger, or the new one. -/
theorem Goes.crash1 (h : Goes d n g u es renew ss) (fs : List Int) : Opens (crashD (stepD1 d n g u renew ss) fs).1 n g u es ∨ Opens (crashD (stepD1 d n g u renew ss) fs).1 (mOf renew n) (gOf renew g) (usedOf d n u renew ss) (esOf renew es ss) := by
  rw [crashD_ok h.right1]
  obtain ⟨e, he⟩ : ∃ e, fillOf d n u renew ss = e := ⟨_, rfl⟩
  obtain ⟨m, hm⟩ : ∃ m, mOf renew n = m := ⟨_, rfl⟩
  have hmid := h.mid
  have hle := h.le
  have hnews := fun {d'} (k : Headed (fillOf d n u renew ss) d' (mOf renew n) (headL (gOf renew g) (usedOf d n u renew ss))) => h.news k
  rw [he, hm] at hnews
  rw [he] at hmid
  rw [hm] at hle ⊢
  have hS : stepD1 d n g u renew ss = ⟨e.secs, [headW e m (gOf renew g) (usedOf d n u renew ss)]⟩ := by unfold stepD1; rw [he, hm]
  have hl := head_lt hmid.right hle
  have hz := sec_size hmid.right hl
  obtain ⟨x, hx⟩ : ∃ x, leftL (m * hOf e) (e.secs.getD (m * hOf e) ⟨#[]⟩) [headW e m (gOf renew g) (usedOf d n u renew ss)] fs = x := ⟨_, rfl⟩
  have hxz : x.size = 128 := by
    rw [← hx]
    exact left_size _ _ _ _ hz fun w hw => by rw [List.mem_singleton.1 hw]; exact headB_size _ _
  have K : Headed e (clean e.secs.length fun k => (stepD1 d n g u renew ss).left k fs) m x.data.toList := by
    refine headed_of hmid.right hle (fun k => (stepD1 d n g u renew ss).left k fs) x hxz ?_ fun k hk hne => ?_
    · rw [hS]; exact hx
    · rw [hS]
      exact left_other k _ _ fs fun w hw => by
        rw [List.mem_singleton.1 hw]
        show ((m * hOf e : Nat) : Int) ≠ _
        omega
  have hlen : (stepD1 d n g u renew ss).secs.length = e.secs.length := by rw [hS]
  rw [hlen]
  have hx3 : x = e.secs.getD (m * hOf e) ⟨#[]⟩ ∨ x = headB (gOf renew g) (usedOf d n u renew ss) ∨ x = tornB (e.secs.getD (m * hOf e) ⟨#[]⟩) (headB (gOf renew g) (usedOf d n u renew ss)) := by
    rw [← hx]
    exact left_one (m * hOf e) _ (headW e m (gOf renew g) (usedOf d n u renew ss)) rfl fs
  rcases hx3 with rfl | rfl | rfl
  · left
    exact (Headed.same K).opens hmid hle fun _ => by have := hmid.used; have := roomN_le hmid.right; omega
  · right; exact hnews K
  · have et : (tornB (e.secs.getD (m * hOf e) ⟨#[]⟩) (headB (gOf renew g) (usedOf d n u renew ss))).data.toList = (headL (gOf renew g) (usedOf d n u renew ss)).take 64 ++ (secAt e (m * hOf e)).drop 64 := torn_list _ (headB (gOf renew g) (usedOf d n u renew ss)) hz
    rw [et] at K
    rcases toldGo_torn (roomN e) (gOf renew g) (usedOf d n u renew ss) (secAt e (m * hOf e)) with e1 | e1
    · rw [e1] at K
      right; exact hnews K
    · by_cases hnm : n = m
      · -- the head that was there tells: its tail is all zeros
        have ht : toldL e m = (g, u) := by rw [← hnm]; exact hmid.told
        have hd := (toldGo_pos (room := roomN e) (s := secAt e (m * hOf e)) ht hmid.pos).1
        have e2 : (headL (gOf renew g) (usedOf d n u renew ss)).take 64 ++ (secAt e (m * hOf e)).drop 64 = headL (gOf renew g) (usedOf d n u renew ss) := by
          have e0 : (secAt e (m * hOf e)).drop 64 = (headL (gOf renew g) (usedOf d n u renew ss)).drop 64 := by rw [headL_tail, hd]; exact headL_tail g u
          rw [e0, List.take_append_drop]
        rw [e2] at K
        right; exact hnews K
      · left
        exact K.none hmid hle hnm e1
end
end Go.Proofs.YtkplpodljmlanaaGreatDoor
