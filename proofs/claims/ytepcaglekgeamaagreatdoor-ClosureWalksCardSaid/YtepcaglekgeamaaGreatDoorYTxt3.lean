/-
  The program's reader: one item more, by a contract. Conditions: the reader's value by its contract.
  The program's reader: one item of a row more, by a contract. Conditions: the reader's value by its contract.
-/
import Derived.Test.YtepcaglekgeamaaGreatDoorYTxt1
import Derived.Test.YtepcaglekgeamaaGreatDoorYTxt2
import Derived.Deep.RegionLaw
import Derived.Deep.RegionHeld
import Derived.BigRegion
namespace Go.Proofs.YtepcaglekgeamaaGreatDoor
open Go.RowKit

def rdL (s : List UInt8) : Option (Val × List UInt8) := parseL (s.length + 1) s

structure ValEnds (B : Nat) (s : ByteArray) (w : World) (e : Ending) (w' : World) : Prop where
  gone : Gone B w w'
  is : match rdL s.data.toList with
    | some p => ∃ v, e = .returned v ∧ ValIn (fun b => w.heap.size ≤ b) w' v p.1 ∧ RdAt w' B ⟨p.2.toArray⟩
    | none => e = stop 6

structure Fr2 (base B V : Nat) (w w' : World) : Prop where
  os : w'.os = w.os
  tape : w'.tape = w.tape
  output : w'.output = w.output
  size : w.heap.size ≤ w'.heap.size
  block : ∀ k, k < base → k ≠ B → k ≠ V → w'.heap[k]? = w.heap[k]?

theorem Fr2.refl (base B V : Nat) (w : World) : Fr2 base B V w w := ⟨rfl, rfl, rfl, Nat.le_refl _, fun _ _ _ _ => rfl⟩

theorem Fr2.trans {base B V : Nat} {a b c : World} (h : Fr2 base B V a b) (k : Fr2 base B V b c) : Fr2 base B V a c :=
  ⟨k.os.trans h.os, k.tape.trans h.tape, k.output.trans h.output, Nat.le_trans h.size k.size, fun i hi h1 h2 => (k.block i hi h1 h2).trans (h.block i hi h1 h2)⟩

theorem Fr2.gone {base B V : Nat} {w w' : World} (h : Gone B w w') (hb : base ≤ w.heap.size) : Fr2 base B V w w' :=
  ⟨h.os, h.tape, h.output, h.size, fun k hk h1 _ => h.block k (by omega) (fun e => h1 (Option.some.inj e))⟩

def PtrAt (w : World) (R B : Nat) : Prop := w.heap[R]? = some (.cells #[.pointer (some ⟨B, 0, none⟩)] 188 (0, 0))

theorem PtrAt.cell {w : World} {R B : Nat} (h : PtrAt w R B) : w.cell? ⟨R, 0, none⟩ = some (.pointer (some ⟨B, 0, none⟩)) := by
  unfold PtrAt at h; simp [World.cell?, h]

theorem At5.frozen {w : World} {B : Nat} {a b c d e : Value} (h : At5 w B a b c d e) (j : Nat) : w.frozen? ⟨B, j, none⟩ = false := by
  unfold At5 at h; simp [World.frozen?, h]

structure OneEnds (base B V : Nat) (t : ByteArray) (ts : List Val) (a b c hv0 ne : Value) (nb : Option Nat) (w : World) (e : Ending) (w' : World) : Prop where
  fr : Fr2 base B V w w'
  is : match rdL t.data.toList with
    | some p => e = .returned (.tuple #[]) ∧ ∃ hv xs, At5 w' V a b c hv ne ∧ RdAt w' B ⟨p.2.toArray⟩ ∧ RowOf base w' hv nb (ts ++ [p.1]) xs ∧ ∀ k, base ≤ k → k < w.heap.size → some k ≠ hv0.ownBlock → w'.heap[k]? = w.heap[k]?
    | none => e = stop 6

theorem valInfo : (Tryz.prog.info? 71).map (fun i => (i.zero, i.size, i.bytes)) = some (some (.agg #[.int .i64 0, .int .i64 0, .string ⟨#[]⟩, .slice none 0 0, .slice none 0 0]), 5, 80) := by kernel_rfl

structure Aft (base B V n : Nat) (a b c hv ne : Value) (nb : Option Nat) (ts : List Val) (xs : List Value) (r : ByteArray) (v : Value) (T : Val) (W w2 : World) : Prop where
  gone : Gone B W w2
  rd : RdAt w2 B r
  five : At5 w2 V a b c hv ne
  row : RowOf base w2 hv nb ts xs
  own : w2.ownsRow base 71 5 hv n xs
  base : base ≤ w2.heap.size
  val : ValIn (fun k => W.heap.size ≤ k) w2 v T

def zero5 : List Value := [.int .i64 0, .int .i64 0, .string ⟨#[]⟩, .slice none 0 0, .slice none 0 0]

theorem App.at' {o : Option Nat} {w : World} {z : Obj} {g : Nat} (h : o = some g ∨ g = w.heap.size + 1) : o = some g ∨ g = (w.alloc z).heap.size := h.imp id fun e => by rw [e]; simp

structure App (base V n : Nat) (a b c hv ne : Value) (xs : List Value) (w2 w3 : World) (g cap : Nat) : Prop where
  own : w3.ownsRow base 71 5 (.slice (some ⟨g, 0, none⟩) (n + 1) cap) (n + 1) (xs ++ zero5)
  five : At5 w3 V a b c hv ne
  at_ : hv.ownBlock = some g ∨ w2.heap.size ≤ g
  gb : base ≤ g
  os : w3.os = w2.os
  tape : w3.tape = w2.tape
  output : w3.output = w2.output
  size : w2.heap.size ≤ w3.heap.size
  block : ∀ k, k < w2.heap.size → some k ≠ hv.ownBlock → w3.heap[k]? = w2.heap[k]?

theorem App.of {base B V n : Nat} {a b c hv ne : Value} {nb : Option Nat} {ts : List Val} {xs : List Value} {r : ByteArray} {v : Value} {T : Val} {W w2 wc w3 : World} {g cap : Nat} (hA : Aft base B V n a b c hv ne nb ts xs r v T W w2) (hVb : V < base)
    (hwc : Below w2.heap.size w2 wc) (hown : w3.ownsRow base 71 5 (.slice (some ⟨g, 0, none⟩) (n + 1) cap) (n + 1) (xs ++ zero5)) (hg : wc.grownBy w3 hv.ownBlock) (hat : hv.ownBlock = some g ∨ g = wc.heap.size) :
    App base V n a b c hv ne xs w2 w3 g cap := by
  have hob : ∀ k, hv.ownBlock = some k → base ≤ k ∧ k < w2.heap.size := hA.own.lt
  have hblk : ∀ k, k < w2.heap.size → some k ≠ hv.ownBlock → w3.heap[k]? = w2.heap[k]? := fun k hk hne => (hg.block k (Nat.lt_of_lt_of_le hk hwc.size) hne).trans (hwc.block k hk)
  refine ⟨hown, (hblk V hA.five.lt (fun e => by have := (hob V e.symm).1; omega)).trans hA.five, ?_, ?_, hg.os.trans hwc.os, hg.tape.trans hwc.tape, hg.output.trans hwc.output, Nat.le_trans hwc.size hg.size, hblk⟩
  · rcases hat with h | h
    · exact Or.inl h
    · exact Or.inr (by rw [h]; exact hwc.size)
  · rcases hat with h | h
    · exact (hob g h).1
    · rw [h]; exact Nat.le_trans hA.base hwc.size

theorem App.ne {base V n : Nat} {a b c hv ne : Value} {xs : List Value} {w2 w3 : World} {g cap : Nat} (h : App base V n a b c hv ne xs w2 w3 g cap) (hV : V < base) : ¬ g = V := fun e => by
  have := h.gb; omega

theorem App.zeros {base V n : Nat} {a b c hv ne : Value} {xs : List Value} {w2 w3 : World} {g cap : Nat} (h : App base V n a b c hv ne xs w2 w3 g cap) (hx : xs.length = n * 5) :
    w3.cell? ⟨g, n * 5, none⟩ = some (.int .i64 0) ∧ w3.cell? ⟨g, n * 5 + 1, none⟩ = some (.int .i64 0) ∧ w3.cell? ⟨g, n * 5 + 2, none⟩ = some (.string ⟨#[]⟩) ∧ w3.cell? ⟨g, n * 5 + 3, none⟩ = some (.slice none 0 0) ∧ w3.cell? ⟨g, n * 5 + 4, none⟩ = some (.slice none 0 0) := by
  have k : ∀ j, j < 5 → w3.cell? ⟨g, n * 5 + j, none⟩ = zero5[j]? := fun j hj => by
    rw [h.own.cellAt (n * 5 + j) (by omega), List.getElem?_append_right (by omega)]; congr 1; omega
  exact ⟨k 0 (by omega), k 1 (by omega), k 2 (by omega), k 3 (by omega), k 4 (by omega)⟩

def set5 (w : World) (g o : Nat) (c0 c1 c2 c3 c4 : Value) : World :=
  ((((w.setCell ⟨g, o, none⟩ c0).setCell ⟨g, o + 1, none⟩ c1).setCell ⟨g, o + 2, none⟩ c2).setCell ⟨g, o + 3, none⟩ c3).setCell ⟨g, o + 4, none⟩ c4

theorem set5_block (w : World) (g o : Nat) (c0 c1 c2 c3 c4 : Value) (k : Nat) (h : k ≠ g) : (set5 w g o c0 c1 c2 c3 c4).heap[k]? = w.heap[k]? := by
  unfold set5
  rw [Below.heap_setCell _ _ _ _ h, Below.heap_setCell _ _ _ _ h, Below.heap_setCell _ _ _ _ h, Below.heap_setCell _ _ _ _ h, Below.heap_setCell _ _ _ _ h]

theorem set5_size (w : World) (g o : Nat) (c0 c1 c2 c3 c4 : Value) : (set5 w g o c0 c1 c2 c3 c4).heap.size = w.heap.size := by simp [set5, World.setCell]

theorem set5_own {base n g cap : Nat} {w : World} {xs : List Value} (h : w.ownsRow base 71 5 (.slice (some ⟨g, 0, none⟩) (n + 1) cap) (n + 1) (xs ++ zero5)) (hx : xs.length = n * 5) (c0 c1 c2 c3 c4 : Value) :
    (set5 w g (n * 5) c0 c1 c2 c3 c4).ownsRow base 71 5 (.slice (some ⟨g, 0, none⟩) (n + 1) cap) (n + 1) (xs ++ [c0, c1, c2, c3, c4]) := by
  have a1 := (h.stored (n * 5) c0).1
  have a2 := (a1.stored (n * 5 + 1) c1).1
  have a3 := (a2.stored (n * 5 + 2) c2).1
  have a4 := (a3.stored (n * 5 + 3) c3).1
  have h5 := (a4.stored (n * 5 + 4) c4).1
  have e : (((((xs ++ zero5).set (n * 5) c0).set (n * 5 + 1) c1).set (n * 5 + 2) c2).set (n * 5 + 3) c3).set (n * 5 + 4) c4 = xs ++ [c0, c1, c2, c3, c4] := by
    rw [← hx]
    simp [zero5]
  rw [e] at h5
  exact h5

theorem At5.set3 {w : World} {V : Nat} {a b c d e : Value} (h : At5 w V a b c d e) (d' : Value) : At5 (w.setCell ⟨V, 3, none⟩ d') V a b c d' e := by
  unfold At5 at h ⊢
  show (w.heap.modify V _)[V]? = _
  rw [Array.getElem?_modify, if_pos rfl, h]
  rfl

theorem setCell_size (w : World) (p : Addr) (u : Value) : (w.setCell p u).heap.size = w.heap.size := by simp [World.setCell]

theorem setCell_rest (w : World) (p : Addr) (u : Value) : (w.setCell p u).os = w.os ∧ (w.setCell p u).tape = w.tape ∧ (w.setCell p u).output = w.output := ⟨rfl, rfl, rfl⟩

theorem set5_rest (w : World) (g o : Nat) (c0 c1 c2 c3 c4 : Value) : (set5 w g o c0 c1 c2 c3 c4).os = w.os ∧ (set5 w g o c0 c1 c2 c3 c4).tape = w.tape ∧ (set5 w g o c0 c1 c2 c3 c4).output = w.output := by
  unfold set5
  simp only [setCell_rest, and_self]

theorem set5_five {w : World} {V : Nat} {a b c d e : Value} (h : At5 w V a b c d e) {g : Nat} (hg : V ≠ g) (o : Nat) (c0 c1 c2 c3 c4 : Value) : At5 (set5 w g o c0 c1 c2 c3 c4) V a b c d e := by
  unfold At5 at h ⊢
  rw [set5_block w g o c0 c1 c2 c3 c4 V hg]
  exact h

theorem own_far {w : World} {base : Nat} {e : TypeId} {size : Nat} {g n cap : Nat} {xs : List Value} (h : w.ownsRow base e size (.slice (some ⟨g, 0, none⟩) n cap) n xs) (V o : Nat) (hV : ¬ g = V) (u : Value) : (w.setCell ⟨V, o, none⟩ u).ownsRow base e size (.slice (some ⟨g, 0, none⟩) n cap) n xs :=
  h.kept (Gone.set V o w u) (Or.inr (by show some g ≠ some V; exact fun e => hV (Option.some.inj e)))

theorem row_done {base B V n : Nat} {a b c hv ne : Value} {nb : Option Nat} {ts : List Val} {xs : List Value} {t : ByteArray} {r : List UInt8} {c0 c1 c2 c3 c4 : Value} {T : Val} {w W w2 w3 F : World} {g cap : Nat} (hB : Below w.heap.size w W) (hbase : base ≤ w.heap.size) (hBb : B < base) (hVb : V < base) (hVB : V ≠ B)
    (hrow : RowOf base w hv nb ts xs) (hnb : ∀ k, nb = some k → k < w.heap.size) (hn : ts.length = n) (hyes : rdL t.data.toList = some (T, r))
    (hA : Aft base B V n a b c hv ne nb ts xs ⟨r.toArray⟩ (.agg #[c0, c1, c2, c3, c4]) T W w2) (hP : App base V n a b c hv ne xs w2 w3 g cap)
    (hF : F = (set5 w3 g (n * 5) c0 c1 c2 c3 c4).setCell ⟨V, 3, none⟩ (.slice (some ⟨g, 0, none⟩) (n + 1) cap) ∨ F = set5 (w3.setCell ⟨V, 3, none⟩ (.slice (some ⟨g, 0, none⟩) (n + 1) cap)) g (n * 5) c0 c1 c2 c3 c4) :
    OneEnds base B V t ts a b c hv ne nb w (.returned (.tuple #[])) F := by
  have hgV := hP.ne hVb
  have hx : xs.length = n * 5 := by have := hA.own.1; exact this
  have hob : ∀ k, hv.ownBlock = some k → base ≤ k ∧ k < w2.heap.size := hA.own.lt
  have hnB : some B ≠ hv.ownBlock := fun e => by have := (hob B e.symm).1; omega
  have hnV : some V ≠ hv.ownBlock := fun e => by have := (hob V e.symm).1; omega
  have hgB : g ≠ B := fun e => by have := hP.gb; omega
  have facts : At5 F V a b c (.slice (some ⟨g, 0, none⟩) (n + 1) cap) ne ∧ F.ownsRow base 71 5 (.slice (some ⟨g, 0, none⟩) (n + 1) cap) (n + 1) (xs ++ [c0, c1, c2, c3, c4]) ∧ (∀ k, k ≠ g → k ≠ V → F.heap[k]? = w3.heap[k]?) ∧ F.os = w3.os ∧ F.tape = w3.tape ∧ F.output = w3.output ∧ F.heap.size = w3.heap.size := by
    rcases hF with rfl | rfl
    · refine ⟨?_, own_far (set5_own hP.own hx ..) V 3 hgV _, fun k h1 h2 => ?_, (setCell_rest _ _ _).1.trans (set5_rest _ _ _ _ _ _ _ _).1, (setCell_rest _ _ _).2.1.trans (set5_rest _ _ _ _ _ _ _ _).2.1, (setCell_rest _ _ _).2.2.trans (set5_rest _ _ _ _ _ _ _ _).2.2, ?_⟩
      · exact At5.set3 (set5_five hP.five (Ne.symm hgV) _ _ _ _ _ _) _
      · rw [Below.heap_setCell _ _ _ _ h2, set5_block _ _ _ _ _ _ _ _ _ h1]
      · rw [setCell_size, set5_size]
    · refine ⟨?_, set5_own (own_far hP.own V 3 hgV _) hx .., fun k h1 h2 => ?_, (set5_rest _ _ _ _ _ _ _ _).1.trans (setCell_rest _ _ _).1, (set5_rest _ _ _ _ _ _ _ _).2.1.trans (setCell_rest _ _ _).2.1, (set5_rest _ _ _ _ _ _ _ _).2.2.trans (setCell_rest _ _ _).2.2, ?_⟩
      · exact set5_five (At5.set3 hP.five _) (Ne.symm hgV) _ _ _ _ _ _
      · rw [set5_block _ _ _ _ _ _ _ _ _ h1, Below.heap_setCell _ _ _ _ h2]
      · rw [set5_size, setCell_size]
  obtain ⟨f5, fo, fb, fos, ftp, fou, fsz⟩ := facts
  have hold : ∀ k, k < w.heap.size → k ≠ B → w2.heap[k]? = w.heap[k]? := fun k hk h1 => (hA.gone.block k (Nat.lt_of_lt_of_le hk hB.size) (fun e => h1 (Option.some.inj e))).trans (hB.block k hk)
  have hs2 : w.heap.size ≤ w2.heap.size := Nat.le_trans hB.size hA.gone.size
  refine ⟨⟨?_, ?_, ?_, ?_, fun k hk h1 h2 => ?_⟩, ?_⟩
  · exact fos.trans (hP.os.trans (hA.gone.os.trans hB.os))
  · exact ftp.trans (hP.tape.trans (hA.gone.tape.trans hB.tape))
  · exact fou.trans (hP.output.trans (hA.gone.output.trans hB.output))
  · rw [fsz]; exact Nat.le_trans hs2 hP.size
  · rw [fb k (fun e => by have := hP.gb; omega) h2, hP.block k (by omega) (fun e => by have := (hob k e.symm).1; omega), hold k (by omega) h1]
  · rw [hyes]
    refine ⟨rfl, _, xs ++ [c0, c1, c2, c3, c4], f5, ?_, ?_, fun k h0 hk h1 => ?_⟩
    · exact hA.rd.kept ((fb B (Ne.symm hgB) (Ne.symm hVB)).trans (hP.block B hA.rd.lt hnB))
    · have hk : ∀ k, hv.ownBlock = some k → k < w.heap.size := fun k e => by have := (hrow.own.lt k e).2; exact this
      subst hn
      refine RowOf.push (n0 := W.heap.size) hA.row (Nat.le_trans hbase hB.size) hA.gone.size (fun k e => Nat.lt_of_lt_of_le (hnb k e) hB.size) (fun k e => Nat.lt_of_lt_of_le (hk k e) hB.size) hA.val fo hP.at_ fun k hk0 hk1 h1 h2 => ?_
      exact (fb k h1 (fun e => by omega)).trans (hP.block k hk1 h2)
    · have hkg : k ≠ g := fun e => by
        rcases hP.at_ with h | h
        · exact h1 (by rw [h, e])
        · omega
      rw [fb k hkg (by omega), hP.block k (by omega) h1, hold k hk (by omega)]
end Go.Proofs.YtepcaglekgeamaaGreatDoor
namespace Go.Proofs.YtepcaglekgeamaaGreatDoor
open Go.RowKit

set_option maxRecDepth 100000 in
set_option maxHeartbeats 4000000 in
theorem row1_none (base B V R : Nat) (t : ByteArray) (ts : List Val) (xs : List Value) (a b c hv ne : Value) (w : World)
    (CV : ∀ w, RdAt w B t → TEnv w → Calls Tryz.prog 122 #[.pointer (some ⟨B, 0, none⟩)] w (ValEnds B t w))
    (hR : RdAt w B t) (hE : TEnv w) (_hB : 13 ≤ B) (_hBb : B < base) (_hVb : V < base) (_hRb : R < base) (_hVB : V ≠ B) (_hRB : R ≠ B) (_hRV : R ≠ V) (hbase : base ≤ w.heap.size)
    (hV : At5 w V a b c hv ne) (hP : PtrAt w R B) (hrow : RowOf base w hv none ts xs) (_hlen : ts.length ≤ 5000) (hno : rdL t.data.toList = none) :
    Calls Tryz.prog 158 #[.pointer (some ⟨V, 0, none⟩), .pointer (some ⟨R, 0, none⟩)] w fun e w' => OneEnds base B V t ts a b c hv ne none w e w' := by
  obtain ⟨v0, v1, v2, v3, v4⟩ := hV.cells
  have p0 := hP.cell
  have CN := Lib.hid (show ∀ w', Below w.heap.size w w' → Calls Tryz.prog 122 #[.pointer (some ⟨B, 0, none⟩)] w' fun e w2 => e = .panicked [{ v := .iface 24 (.int .i64 6), recovered := false }] ∧ Fr2 base B V w w2 from fun w' hb =>
    (CV w' (hR.kept (hb.block B hR.lt)) (hE.below hb)).mono fun e w2 h => by
      have h1 := h.is
      rw [hno] at h1
      exact ⟨h1, (Fr2.gone (Gone.below hb) hbase).trans (Fr2.gone h.gone (Nat.le_trans hbase hb.size))⟩)
  have HO := Lib.hid hno
  have B0 := Lib.hid (Below.refl w.heap.size w)
  obtain ⟨ha, hc, rfl⟩ : ∃ ha hc, hv = .slice ha ts.length hc := by
    rcases hrow.own.2 with ⟨e, h0⟩ | ⟨g, cap, cur, e, -⟩
    · exact ⟨none, 0, by rw [e, h0]⟩
    · exact ⟨_, _, e⟩
  obtain ⟨n, hn⟩ : ∃ n, ts.length = n := ⟨_, rfl⟩
  rw [hn] at v3
  clear CV hR hE hbase hV hP hrow hno hn v0 v1 v2 v4
  go_enter Tryz.func158, Tryz.ntmps158
  go_wp2_with fail
  refine wp_region_held_drew (S := fun u => u.cell? ⟨V, 3, none⟩ = some (.slice ha n hc) ∧ u.cell? ⟨R, 0, none⟩ = some (.pointer (some ⟨B, 0, none⟩))) (by kernel_rfl) ⟨v3, p0⟩ fun hS => ?_
  refine wpAnyH_take (i := 0) (v := .pointer (some ⟨V, 3, none⟩)) rfl (by kernel_rfl) (by kernel_rfl) (by kernel_rfl) (fun _ _ _ h => h) (Or.inl ⟨by rfl, ?_⟩) hS ?_
  · intro u _; go_simp
  refine wpAnyH_take (i := 1) (v := .slice ha n hc) rfl (by kernel_rfl) (by kernel_rfl) (by kernel_rfl) (fun _ _ _ h => h) (Or.inl ⟨by rfl, ?_⟩) hS ?_
  · rintro u ⟨hu, -⟩; go_simp
  refine wpAnyH_take (i := 2) (v := .pointer (some ⟨B, 0, none⟩)) rfl (by kernel_rfl) (by kernel_rfl) (by kernel_rfl) (fun _ _ _ h => h) (Or.inl ⟨by rfl, ?_⟩) hS ?_
  · rintro u ⟨-, hu⟩; go_simp
  refine wpAnyH_take (i := 4) (v := .int .i64 n) rfl (by kernel_rfl) (by kernel_rfl) (by kernel_rfl) (fun _ _ _ h => h) (Or.inl ⟨by rfl, ?_⟩) hS ?_
  · intro u _; go_simp
  go_simp
  refine wpAnyH_ready (rs := [3, 5]) (by kernel_rfl) (by simp) ?_
  refine AllReadyH.cons (o := { dst := some 5, op := .call { callee := .value (.func 122), args := #[.tmp 4], argTypes := #[188] }, type := 71, pos := _, after := _, guard := none }) rfl (fun K hK => ?_) (AllReadyH.cons (o := { dst := some 7, op := .buildSlice 69 1 _, type := 69, pos := _, after := _, guard := none }) rfl (fun K hK => ?_) AllReadyH.nil)
  · go_simp
    go_at_call 122
    refine (CN.out _ B0.out.drew).mono ?_
    rintro e w2 ⟨rfl, hf⟩
    go_wp2_with fail
    exact ⟨rfl, ⟨hf, by rw [HO.out]; rfl⟩⟩
  · go_simp
    have B1 := Lib.hid (((below_new w (.cells #[.int .i64 0, .int .i64 0, .string ⟨#[]⟩, .slice none 0 0, .slice none 0 0] 71))).drew)
    refine hK.out _ _ ⟨(B1.out.cell (World.block_lt_of_cell? _ _ v3)).trans v3, (B1.out.cell (World.block_lt_of_cell? _ _ p0)).trans p0⟩ (fun hS2 => ?_)
    clear hK K
    go_simp
    refine wpAnyH_ready (rs := [3]) (by kernel_rfl) (by simp) ?_
    refine AllReadyH.cons (o := { dst := some 5, op := .call { callee := .value (.func 122), args := #[.tmp 4], argTypes := #[188] }, type := 71, pos := _, after := _, guard := none }) rfl (fun K hK => ?_) AllReadyH.nil
    go_simp
    go_at_call 122
    refine (CN.out _ B1.out).mono ?_
    rintro e w2 ⟨rfl, hf⟩
    go_wp2_with fail
    exact ⟨rfl, ⟨hf, by rw [HO.out]; rfl⟩⟩

set_option maxRecDepth 100000 in
set_option maxHeartbeats 4000000 in
theorem row1_some (base B V R : Nat) (t : ByteArray) (ts : List Val) (xs : List Value) (a b c hv ne : Value) (w : World)
    (CV : ∀ w, RdAt w B t → TEnv w → Calls Tryz.prog 122 #[.pointer (some ⟨B, 0, none⟩)] w (ValEnds B t w))
    (hR : RdAt w B t) (hE : TEnv w) (_hB : 13 ≤ B) (hBb : B < base) (hVb : V < base) (_hRb : R < base) (hVB : V ≠ B) (_hRB : R ≠ B) (_hRV : R ≠ V) (hbase : base ≤ w.heap.size)
    (hV : At5 w V a b c hv ne) (hP : PtrAt w R B) (hrow : RowOf base w hv none ts xs) (hlen : ts.length ≤ 5000) (T : Val) (r : List UInt8) (hyes : rdL t.data.toList = some (T, r)) :
    Calls Tryz.prog 158 #[.pointer (some ⟨V, 0, none⟩), .pointer (some ⟨R, 0, none⟩)] w fun e w' => OneEnds base B V t ts a b c hv ne none w e w' := by
  obtain ⟨v0, v1, v2, v3, v4⟩ := hV.cells
  have p0 := hP.cell
  obtain ⟨ha, hc, rfl⟩ : ∃ ha hc, hv = .slice ha ts.length hc := by
    rcases hrow.own.2 with ⟨e, h0⟩ | ⟨g, cap, cur, e, -⟩
    · exact ⟨none, 0, by rw [e, h0]⟩
    · exact ⟨_, _, e⟩
  obtain ⟨n, hn⟩ : ∃ n, ts.length = n := ⟨_, rfl⟩
  have hV5 := hV
  rw [hn] at v3 hV5 hrow hlen ⊢
  have CS := Lib.hid (show ∀ w', Below w.heap.size w w' → Calls Tryz.prog 122 #[.pointer (some ⟨B, 0, none⟩)] w' fun e w2 =>
      ∃ (xk xn : Int) (xs' : ByteArray) (xia xna : Option Addr) (xli xic xnn xnc : Nat), e = .returned (.agg #[.int .i64 xk, .int .i64 xn, .string xs', .slice xia xli xic, .slice xna xnn xnc]) ∧
        Below w.heap.size w w' ∧ Aft base B V n a b c (.slice ha n hc) ne none ts xs ⟨r.toArray⟩ (.agg #[.int .i64 xk, .int .i64 xn, .string xs', .slice xia xli xic, .slice xna xnn xnc]) T w' w2 from fun w' hb =>
    (CV w' (hR.kept (hb.block B hR.lt)) (hE.below hb)).mono fun e w2 h => by
      have h1 := h.is
      rw [hyes] at h1
      obtain ⟨v, rfl, hv, hr⟩ := h1
      obtain ⟨xk, xn, xs', xia, xna, xli, xic, xnn, xnc, rfl⟩ := hv.isVal.shape
      have hVlt := hV5.lt
      have hrk : RowOf base w2 (.slice ha n hc) none ts xs := hrow.keep (fun k hk hlt _ => (h.gone.block k (Nat.lt_of_lt_of_le hlt hb.size) (fun e => by have := Option.some.inj e; omega)).trans (hb.block k hlt)) (Or.inl rfl)
      refine ⟨xk, xn, xs', xia, xna, xli, xic, xnn, xnc, rfl, hb, h.gone, hr, ?_, hrk, by have := hrk.own; rwa [hn] at this, Nat.le_trans hbase (Nat.le_trans hb.size h.gone.size), hv⟩
      · exact (h.gone.block V (Nat.lt_of_lt_of_le hVlt hb.size) (fun e => hVB (Option.some.inj e))).trans ((hb.block V hVlt).trans hV5))
  have HO := Lib.hid hyes
  have B0 := Lib.hid (Below.refl w.heap.size w)
  have HROW := Lib.hid hrow
  have HXL := Lib.hid (show xs.length = n * 5 by have := hrow.own.1; rwa [hn] at this)
  have HLT := hV5.lt
  have HBL := Lib.hid hR.lt
  have HNN := Lib.hid hn
  obtain ⟨i0, hi, hz0, hz1, hz2⟩ := info_parts valInfo
  have hn1 : (n : Int) < (n : Int) + 1 := by omega
  have p0a : ∀ o, (w.alloc o).cell? ⟨R, 0, none⟩ = some (.pointer (some ⟨B, 0, none⟩)) := fun o => ((below_new w o).cell (World.block_lt_of_cell? _ _ p0)).trans p0
  have v3a : ∀ o, (w.alloc o).cell? ⟨V, 3, none⟩ = some (.slice ha n hc) := fun o => ((below_new w o).cell (World.block_lt_of_cell? _ _ v3)).trans v3
  clear CV hR hE hV hV5 hP hrow hyes hn v0 v1 v2 v4
  go_enter Tryz.func158, Tryz.ntmps158
  go_region_law (first
    | (go_simp; go_at_call 122; refine (CS.out _ ?_).mono ?_; (first | exact B0.out.drew | exact (B0.out.alloc (Nat.le_refl _) _).drew | exact (B0.out.drew).alloc (Nat.le_refl _) _); rintro e w2 ⟨xk, xn, xs', xia, xna, xli, xic, xnn, xnc, rfl, hBW, hA⟩; have c3v := hA.five.cells.2.2.2.1; have c3a : ∀ o, (w2.alloc o).cell? ⟨V, 3, none⟩ = some (.slice ha n hc) := (fun o => ((below_new w2 o).cell (World.block_lt_of_cell? _ _ c3v)).trans c3v))
    | (refine step_append_lies _ (by rfl) (.tmp 3) (.tmp 7) 69 (by rfl) base 71 i0 _ 5 80 Tryz.underlying69 hi hz0 hz1 hz2 rfl (by decide) _ n xs (by rfl) hA.own ⟨w.heap.size, 0, none⟩ 1 1 zero5 (by rfl) (by rfl) (World.news_of_block ((hA.gone.block w.heap.size (by simp) (fun e => by have := Option.some.inj e; have := HBL.out; omega)).trans (heap_alloc_new w _))) (by unfold zero5; simp [Value.oneCell']) (by decide) (by unfold maxLen; omega) (by omega) (hA.base) w2.heap.size (by rfl) ?_; intro g3 c3 w3 hown3 hgrow3 hat3 hlt3; have hP := App.of hA hVb (Below.refl _ _) hown3 hgrow3 hat3; have hgV := hP.ne hVb; obtain ⟨z0, z1, z2, z3, z4⟩ := hP.zeros HXL.out; obtain ⟨-, -, -, u3, -⟩ := hP.five.cells; have uf := hP.five.frozen 3; have f0 := hP.own.frozenAt (n * 5); have f1 := hP.own.frozenAt (n * 5 + 1); have f2 := hP.own.frozenAt (n * 5 + 2); have f3 := hP.own.frozenAt (n * 5 + 3); have f4 := hP.own.frozenAt (n * 5 + 4); clear hown3 hgrow3 hat3 hlt3)
    | (refine step_append_lies _ (by rfl) (.tmp 3) (.tmp 7) 69 (by rfl) base 71 i0 _ 5 80 Tryz.underlying69 hi hz0 hz1 hz2 rfl (by decide) _ n xs (by rfl) (hA.own.alloc _) ⟨w2.heap.size, 0, none⟩ 1 1 zero5 (by rfl) (by rfl) (World.news_of_block (heap_alloc_new w2 _)) (by unfold zero5; simp [Value.oneCell']) (by decide) (by unfold maxLen; omega) (by omega) (Nat.le_trans hA.base (below_new w2 _).size) (w2.heap.size + 1) (by simp) ?_; intro g3 c3 w3 hown3 hgrow3 hat3 hlt3; have hP := App.of hA hVb (below_new w2 _) hown3 hgrow3 (App.at' hat3); have hgV := hP.ne hVb; obtain ⟨z0, z1, z2, z3, z4⟩ := hP.zeros HXL.out; obtain ⟨-, -, -, u3, -⟩ := hP.five.cells; have uf := hP.five.frozen 3; have f0 := hP.own.frozenAt (n * 5); have f1 := hP.own.frozenAt (n * 5 + 1); have f2 := hP.own.frozenAt (n * 5 + 2); have f3 := hP.own.frozenAt (n * 5 + 3); have f4 := hP.own.frozenAt (n * 5 + 4); clear hown3 hgrow3 hat3 hlt3))
  all_goals
    clear CS c3v c3a p0a v3a hi hz0 hz1 hz2 z0 z1 z2 z3 z4 f0 f1 f2 f3 f4 u3 uf
    refine bodyPost_end (results_none rfl _ _ _) rfl ?_
    refine row_done hBW hbase hBb hVb hVB HROW.out (fun k e => by cases e) HNN.out HO.out hA hP ?_
    unfold set5
    first
      | (left; with_reducible rfl)
      | (right; with_reducible rfl)
end Go.Proofs.YtepcaglekgeamaaGreatDoor
