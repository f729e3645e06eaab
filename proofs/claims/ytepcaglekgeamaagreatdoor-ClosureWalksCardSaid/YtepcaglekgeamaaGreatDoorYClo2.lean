/-
  The program's walker: its state, what keeps it, add, by a contract. Conditions: the state as WSt says; fewer than 2^40 words.
  The program's walk: each of the kids, visit, by contracts, as deep as may be. Conditions: the package-level variables as MEnv says; objects as ObjsFew says.
  The program's Of and Whole, by contracts. Conditions: the package-level variables as MEnv says; objects as ObjsFew says.
-/
import Derived.Test.YtepcaglekgeamaaGreatDoorYClo1
import Derived.Test.YtepcaglekgeamaaGreatDoorYMnBl
import Derived.Test.YtepcaglekgeamaaGreatDoorYLMKt
import Derived.Laws.EntriesVeiled
namespace Go.Proofs.YtepcaglekgeamaaGreatDoor
open Go.RowKit

structure Kept (K : Nat → Prop) (w w' : World) : Prop where
  below : Below 0 w w'
  block : ∀ k, k < w.heap.size → K k → w'.heap[k]? = w.heap[k]?

theorem Kept.refl (K : Nat → Prop) (w : World) : Kept K w w := ⟨Below.refl _ _, fun _ _ _ => rfl⟩

theorem Kept.trans {K : Nat → Prop} {a b c : World} (h : Kept K a b) (g : Kept K b c) : Kept K a c := ⟨h.below.trans g.below, fun k hk hK => (g.block k (Nat.lt_of_lt_of_le hk h.below.size) hK).trans (h.block k hk hK)⟩

theorem Kept.of_below {K : Nat → Prop} {w w' : World} (h : Below w.heap.size w w') : Kept K w w' := ⟨h.mono (Nat.zero_le _), fun k hk _ => h.block k hk⟩

theorem Kept.set {K : Nat → Prop} {w : World} {B : Nat} (h : ¬ K B) (j : Nat) (u : Value) : Kept K w (w.setCell ⟨B, j, none⟩ u) :=
  ⟨(Below.refl 0 w).setCell (p := ⟨B, j, none⟩) (Nat.zero_le _) u, fun k _ hK => Below.heap_setCell _ _ _ _ (fun e => h (by have e : k = B := e; rw [← e]; exact hK))⟩

theorem Kept.grown {K : Nat → Prop} {w w' : World} {row : Option Nat} (h : w.grownBy w' row) (hr : ∀ g, row = some g → ¬ K g) : Kept K w w' :=
  ⟨⟨h.os, h.tape, h.output, h.size, fun k hk => absurd hk (Nat.not_lt_zero k)⟩, fun k hk hK => h.block k hk fun e => hr k e.symm hK⟩

theorem Kept.low {K : Nat → Prop} {C : Nat} {w0 w w' : World} (hK : ∀ k, k < C → K k) (h0 : Below C w0 w) (hC : C ≤ w.heap.size) (h : Kept K w w') : Below C w0 w' :=
  h0.trans ⟨h.below.os, h.below.tape, h.below.output, h.below.size, fun k hk => h.block k (Nat.lt_of_lt_of_le hk hC) (hK k hk)⟩

theorem Kept.mono {K K' : Nat → Prop} {w w' : World} (h : Kept K w w') (hK : ∀ k, K' k → K k) : Kept K' w w' := ⟨h.below, fun k hk h' => h.block k hk (hK k h')⟩

structure WFix (K : Nat → Prop) (w0 : World) (B R : Nat) (v : Value) (l : List Obj) : Prop where
  env : MEnv w0
  objs : ObjsAt w0 v l
  few : ObjsFew l
  low : ∀ k, k < w0.heap.size → K k
  keepR : K R
  freeB : ¬ K B

structure WSt (K : Nat → Prop) (w0 : World) (B R : Nat) (v : Value) (dep : Int) (mv bv : Value) (nm nb : Nat) (t : Wk) (w : World) : Prop where
  walker : WalkerAt w B R dep mv bv
  ms : OwnS w (B + 1) mv nm t.ms
  bs : OwnS w (B + 1) bv nb t.bs
  apart : ∀ g, mv.ownBlock = some g → bv.ownBlock ≠ some g
  freeM : ∀ g, mv.ownBlock = some g → ¬ K g
  freeS : ∀ g, bv.ownBlock = some g → ¬ K g
  under : ∀ k, K k → k < w.heap.size
  base : Below w0.heap.size w0 w
  row : w.cell? ⟨R, 0, none⟩ = some v
section
variable {K : Nat → Prop} {w0 : World} {B R : Nat} {v : Value} {l : List Obj} {dep : Int} {mv bv : Value} {nm nb : Nat} {t : Wk} {w w' : World}

theorem WFix.step (hx : WFix K w0 B R v l) (hb : Below w0.heap.size w0 w) (h : Kept K w w') : Below w0.heap.size w0 w' := Kept.low hx.low hb hb.size h

theorem WSt.cellR (hx : WFix K w0 B R v l) (h : WSt K w0 B R v dep mv bv nm nb t w) (hk : Kept K w w') : w'.cell? ⟨R, 0, none⟩ = some v :=
  (World.cell?_of_block (a := ⟨R, 0, none⟩) (hk.block R (h.under R hx.keepR) hx.keepR)).trans h.row

theorem OwnS.past {n : Nat} {u : Value} {l : List ByteArray} (h : OwnS w (B + 1) u n l) (j : Nat) (x : Value) : OwnS (w.setCell ⟨B, j, none⟩ x) (B + 1) u n l :=
  ⟨h.len, own_block h.own fun g hg => Below.heap_setCell _ _ _ _ (fun e => by have e : g = B := e; have := (h.lt g hg).1; omega)⟩

theorem WSt.below (hx : WFix K w0 B R v l) (h : WSt K w0 B R v dep mv bv nm nb t w) (hb : Below w.heap.size w w') : WSt K w0 B R v dep mv bv nm nb t w' :=
  ⟨h.walker.keep hb, h.ms.keep hb, h.bs.keep hb, h.apart, h.freeM, h.freeS, fun k hk => Nat.lt_of_lt_of_le (h.under k hk) hb.size, hx.step h.base (.of_below hb), h.cellR hx (.of_below hb)⟩

theorem WSt.more {K' : Nat → Prop} (h : WSt K w0 B R v dep mv bv nm nb t w) (hu : ∀ k, K' k → k < w.heap.size) (hM : ∀ g, mv.ownBlock = some g → ¬ K' g) (hS : ∀ g, bv.ownBlock = some g → ¬ K' g) : WSt K' w0 B R v dep mv bv nm nb t w :=
  ⟨h.walker, h.ms, h.bs, h.apart, hM, hS, hu, h.base, h.row⟩

theorem WSt.depth (hx : WFix K w0 B R v l) (h : WSt K w0 B R v dep mv bv nm nb t w) (x : Int) : WSt K w0 B R v x mv bv nm nb t (w.setCell ⟨B, 1, none⟩ (.int .i64 x)) ∧ Kept K w (w.setCell ⟨B, 1, none⟩ (.int .i64 x)) :=
  have hk : Kept K w (w.setCell ⟨B, 1, none⟩ (.int .i64 x)) := .set hx.freeB _ _
  ⟨⟨h.walker.put1 x, h.ms.past _ _, h.bs.past _ _, h.apart, h.freeM, h.freeS, fun k hk => by rw [setCell_size]; exact h.under k hk, hx.step h.base hk, h.cellR hx hk⟩, hk⟩

theorem WSt.pushB (hx : WFix K w0 B R v l) (h : WSt K w0 B R v dep mv bv nm nb t w) {g cap : Nat} {p : ByteArray} (ho : OwnS w' (B + 1) (.slice (some ⟨g, 0, none⟩) (nb + 1) cap) (nb + 1) (t.bs ++ [p])) (hg : w.grownBy w' bv.ownBlock) (hor : bv.ownBlock = some g ∨ g = w.heap.size) :
    WalkerAt w' B R dep mv bv ∧ WSt K w0 B R v dep mv (.slice (some ⟨g, 0, none⟩) (nb + 1) cap) nm (nb + 1) ⟨t.ms, t.bs ++ [p]⟩ (w'.setCell ⟨B, 3, none⟩ (.slice (some ⟨g, 0, none⟩) (nb + 1) cap)) ∧ Kept K w (w'.setCell ⟨B, 3, none⟩ (.slice (some ⟨g, 0, none⟩) (nb + 1) cap)) := by
  have hB := h.walker.lt
  have hW : WalkerAt w' B R dep mv bv := h.walker.block (hg.block B hB fun e => by have := (h.bs.lt B e.symm).1; omega)
  have hk : Kept K w (w'.setCell ⟨B, 3, none⟩ (.slice (some ⟨g, 0, none⟩) (nb + 1) cap)) := (Kept.grown hg h.freeS).trans (.set hx.freeB _ _)
  have hgK : ¬ K g := by
    rcases hor with e | rfl
    · exact h.freeS g e
    · exact fun hK => Nat.lt_irrefl _ (h.under _ hK)
  refine ⟨hW, ⟨hW.put3 _, (h.ms.grown hg ?_).past _ _, ho.past _ _, fun g' e e' => ?_, h.freeM, fun g' e => ?_, fun k hk => by rw [setCell_size]; exact Nat.lt_of_lt_of_le (h.under k hk) hg.size, hx.step h.base hk, h.cellR hx hk⟩, hk⟩
  · cases hm : mv.ownBlock with
    | none => exact Or.inl rfl
    | some g' => exact Or.inr fun e => h.apart g' hm e.symm
  · obtain rfl : g = g' := by simpa [Value.ownBlock] using e'
    rcases hor with e2 | rfl
    · exact h.apart g e e2
    · exact Nat.lt_irrefl _ (h.ms.lt _ e).2
  · obtain rfl : g = g' := by simpa [Value.ownBlock] using e
    exact hgK

theorem WSt.pushM (hx : WFix K w0 B R v l) (h : WSt K w0 B R v dep mv bv nm nb t w) {g cap : Nat} {p : ByteArray} (ho : OwnS w' (B + 1) (.slice (some ⟨g, 0, none⟩) (nm + 1) cap) (nm + 1) (t.ms ++ [p])) (hg : w.grownBy w' mv.ownBlock) (hor : mv.ownBlock = some g ∨ g = w.heap.size) :
    WalkerAt w' B R dep mv bv ∧ WSt K w0 B R v dep (.slice (some ⟨g, 0, none⟩) (nm + 1) cap) bv (nm + 1) nb ⟨t.ms ++ [p], t.bs⟩ (w'.setCell ⟨B, 2, none⟩ (.slice (some ⟨g, 0, none⟩) (nm + 1) cap)) ∧ Kept K w (w'.setCell ⟨B, 2, none⟩ (.slice (some ⟨g, 0, none⟩) (nm + 1) cap)) := by
  have hB := h.walker.lt
  have hW : WalkerAt w' B R dep mv bv := h.walker.block (hg.block B hB fun e => by have := (h.ms.lt B e.symm).1; omega)
  have hk : Kept K w (w'.setCell ⟨B, 2, none⟩ (.slice (some ⟨g, 0, none⟩) (nm + 1) cap)) := (Kept.grown hg h.freeM).trans (.set hx.freeB _ _)
  have hgK : ¬ K g := by
    rcases hor with e | rfl
    · exact h.freeM g e
    · exact fun hK => Nat.lt_irrefl _ (h.under _ hK)
  refine ⟨hW, ⟨hW.put2 _, ho.past _ _, (h.bs.grown hg ?_).past _ _, fun g' e e' => ?_, fun g' e => ?_, h.freeS, fun k hk => by rw [setCell_size]; exact Nat.lt_of_lt_of_le (h.under k hk) hg.size, hx.step h.base hk, h.cellR hx hk⟩, hk⟩
  · cases hm : bv.ownBlock with
    | none => exact Or.inl rfl
    | some g' => exact Or.inr fun e => h.apart g' e.symm hm
  · obtain rfl : g = g' := by simpa [Value.ownBlock] using e
    rcases hor with e2 | rfl
    · exact h.apart g e2 e'
    · exact Nat.lt_irrefl _ (h.bs.lt _ e').2
  · obtain rfl : g = g' := by simpa [Value.ownBlock] using e
    exact hgK
end

def Went (K : Nat → Prop) (w0 : World) (B R : Nat) (v : Value) (dep : Int) (t : Wk) (w w' : World) : Prop :=
  Kept K w w' ∧ ∃ mv bv nm nb, WSt K w0 B R v dep mv bv nm nb t w'

set_option maxRecDepth 100000 in
set_option maxHeartbeats 4000000 in
theorem add_t (K : Nat → Prop) (w0 : World) (B R : Nat) (v : Value) (l : List Obj) (dep : Int) (mv bv : Value) (nm nb : Nat) (t : Wk) (d : ByteArray) (rv : Value) (bl : List ByteArray) (w : World)
    (hx : WFix K w0 B R v l) (hs : WSt K w0 B R v dep mv bv nm nb t w) (hr : ∀ w', Kept K w w' → StrsAt w' rv bl) (hm : nm < 1099511627776) (hn : nb + bl.length < 1099511627776) :
    Calls Tryz.prog 30 #[.pointer (some ⟨B, 0, none⟩), .string d, rv] w fun e w' => e = .returned (.tuple #[]) ∧ Went K w0 B R v dep ⟨t.ms ++ [d], onceL t.bs bl⟩ w w' := by
  have hr0 := hr w (Kept.refl _ _)
  have hlen := hr0.len
  obtain ⟨ra, rc, rfl, -⟩ := hr0.shape
  obtain ⟨n, hln⟩ : ∃ n, bl.length = n := ⟨_, rfl⟩
  rw [hln] at hr hn hlen ⊢
  unfold maxLen at hlen
  have HN := Lib.hid hln
  have HX := Lib.hid hx
  have HS := Lib.hid hs
  have HR := Lib.hid hr
  clear hr0 hx hs hr hln
  go_enter Tryz.func30, Tryz.ntmps30
  go_wp2_with fail
  go_loopw [10] (fun iv wr => ∃ (k : Nat) (bv' : Value) (nb' : Nat), k ≤ n ∧ nb' ≤ nb + k ∧ iv = .int .i64 k ∧ WSt K w0 B R v dep mv bv' nm nb' ⟨t.ms, onceL t.bs (bl.take k)⟩ wr ∧ Kept K w wr) (fun i _ => n - (intOf i).toNat)
  case atStart => exact ⟨0, bv, nb, Nat.zero_le _, Nat.le_refl _, rfl, HS.out, Kept.refl _ _⟩
  case round =>
    obtain ⟨k, bv', nb', hk, hnb, rfl, hs, hkp⟩ := hrel
    have HS1 := Lib.hid hs
    have HK1 := Lib.hid hkp
    obtain ⟨c0, c1, c2, c3⟩ := hs.walker.cells
    by_cases hlt : k < n
    · have h1 : k < bl.length := by rw [HN.out]; exact hlt
      obtain ⟨lb, lo, rfl, e0⟩ := (HR.out wr hkp).at k h1
      have HT := Lib.hid (show onceL t.bs (bl.take (k + 1)) = _ by rw [List.take_succ_eq_append_getElem h1, onceL_snoc])
      obtain ⟨x, hxx⟩ : ∃ x, bl[k] = x := ⟨_, rfl⟩
      rw [hxx] at e0 HT
      obtain ⟨L, hL⟩ : ∃ L, onceL t.bs (bl.take k) = L := ⟨_, rfl⟩
      rw [hL] at HS1 HT
      obtain ⟨ba, bc, rfl, -, -⟩ := hs.bs.shape
      have C := Lib.hid (contains_t _ L x wr HS1.out.bs.strs)
      clear hs hkp hxx hL
      by_cases hm : x ∈ L
      · rw [decide_eq_true hm] at C
        have HF := Lib.hid (show WSt K w0 B R v dep mv (.slice ba nb' bc) nm nb' ⟨t.ms, onceL t.bs (bl.take (k + 1))⟩ wr by rw [HT.out, if_pos hm]; exact HS1.out)
        clear hm
        go_wp2_with fail
        refine C.out.mono ?_
        rintro e w2 ⟨rfl, rfl⟩
        go_wp2_with fail
        go_roundw
        case rel => exact ⟨k + 1, _, nb', by omega, by omega, by go_num, HF.out, HK1.out⟩
        case measure => simp [intOf]; omega
      · rw [decide_eq_false hm] at C
        have HF := Lib.hid (show onceL t.bs (bl.take (k + 1)) = L ++ [x] by rw [HT.out, if_neg hm])
        have HSA := Lib.hid (HS1.out.below HX.out (below_new wr (.cells #[.string x] 9)))
        have HKA := Lib.hid (HK1.out.trans (.of_below (below_new wr (.cells #[.string x] 9))))
        have HBZ := Lib.hid HS1.out.walker.lt
        clear hm
        go_wp2_with fail
        refine C.out.mono ?_
        rintro e w2 ⟨rfl, rfl⟩
        go_wp2_with (at_builtin; refine wpList_push _ rfl _ _ rfl (B + 1) _ nb' L rfl HSA.out.bs x w2.heap.size rfl (heap_alloc_new w2 _) (by omega) (by have := HBZ.out; simp; omega) _ rfl ?_)
        intro g cap' w5 ho5 hg5 hor _
        obtain ⟨hW5, hS5, hK5⟩ := HSA.out.pushB HX.out ho5 hg5 (by rw [World.size_alloc]; exact hor)
        have HS5 := Lib.hid hS5
        have HK5 := Lib.hid (HKA.out.trans hK5)
        obtain ⟨b0, b1, b2, b3⟩ := hW5.cells
        have f3 := hW5.frozen 3
        clear ho5 hg5 hor hW5 hS5 hK5 c0 c1 c2 c3
        go_wp2_with fail
        go_roundw
        case rel => exact ⟨k + 1, _, nb' + 1, by omega, by omega, by go_num, by rw [HF.out]; exact HS5.out, HK5.out⟩
        case measure => simp [intOf]; omega
    · have HSE := Lib.hid (show WSt K w0 B R v dep mv bv' nm nb' ⟨t.ms, onceL t.bs bl⟩ wr by
        rw [List.take_of_length_le (by rw [HN.out]; omega)] at hs
        exact hs)
      obtain ⟨ma, mc, rfl, -, -⟩ := hs.ms.shape
      have HSA := Lib.hid (HSE.out.below HX.out (below_new wr (.cells #[.string d] 9)))
      have HKA := Lib.hid (HK1.out.trans (.of_below (below_new wr (.cells #[.string d] 9))))
      have HBZ := Lib.hid hs.walker.lt
      clear hs hkp
      go_wp2_with (at_builtin; refine wpList_push _ rfl _ _ rfl (B + 1) _ nm t.ms rfl HSA.out.ms d wr.heap.size rfl (heap_alloc_new wr _) (by omega) (by have := HBZ.out; simp; omega) _ rfl ?_)
      intro g cap' w5 ho5 hg5 hor _
      obtain ⟨hW5, hS5, hK5⟩ := HSA.out.pushM HX.out ho5 hg5 (by rw [World.size_alloc]; exact hor)
      have HS5 := Lib.hid hS5
      have HK5 := Lib.hid (HKA.out.trans hK5)
      obtain ⟨b0, b1, b2, b3⟩ := hW5.cells
      have f2 := hW5.frozen 2
      clear ho5 hg5 hor hW5 hS5 hK5 c0 c1 c2 c3
      go_wp2_with fail
      go_end0
      exact ⟨rfl, HK5.out, _, _, _, _, HS5.out⟩
end Go.Proofs.YtepcaglekgeamaaGreatDoor
namespace Go.Proofs.YtepcaglekgeamaaGreatDoor
open Go.RowKit

def capW : Nat → Nat
  | 0 => 0
  | n + 1 => 16 * capW n + 1

theorem parseM_short (s : ByteArray) : (parseM s).1.kids.length ≤ 16 ∧ (blobsM (parseM s).1).length ≤ 9 := by
  rcases parseM_cases s with ⟨m, h, hr, -⟩ | ⟨e, h, -⟩
  · rw [h]
    show m.kids.length ≤ 16 ∧ (blobsM m).length ≤ 9
    cases hi : m.index with
    | true =>
      obtain ⟨-, -, -, h4, -⟩ := (rightM_index hi).1 hr
      exact ⟨by omega, by rw [blobsM_none (Or.inl hi)]; exact Nat.zero_le _⟩
    | false =>
      obtain ⟨rest, -, h1, -⟩ := blobsM_of hi hr
      obtain ⟨-, h2, -, h4⟩ := (rightM_image hi).1 hr
      exact ⟨by rw [h4]; exact Nat.zero_le _, by omega⟩
  · rw [h]
    exact ⟨Nat.zero_le _, by rw [blobsM_none (Or.inr (by kernel_rfl))]; exact Nat.zero_le _⟩

theorem kidsL_len {f : Wk → ByteArray → Except Int Wk} {c : Nat} (hf : ∀ t k t', f t k = .ok t' → t'.ms.length ≤ t.ms.length + c ∧ t'.bs.length ≤ t.bs.length + 9 * c) :
    ∀ (ks : List ByteArray) (t t' : Wk), kidsL f t ks = .ok t' → t'.ms.length ≤ t.ms.length + ks.length * c ∧ t'.bs.length ≤ t.bs.length + 9 * (ks.length * c)
  | [], t, t', h => by rw [kidsL] at h; cases h; simp
  | k :: ks, t, t', h => by
    rw [kidsL] at h
    cases hk : f t k with
    | error x => rw [hk] at h; cases h
    | ok t1 =>
      rw [hk] at h
      have h1 := hf t k t1 hk
      have h2 := kidsL_len hf ks t1 t' h
      rw [List.length_cons, Nat.add_mul, Nat.one_mul]
      omega

theorem walkL_len (l : List Obj) : ∀ (n : Nat) (t : Wk) (d : ByteArray) (t' : Wk), walkL l n t d = .ok t' → t'.ms.length ≤ t.ms.length + capW n ∧ t'.bs.length ≤ t.bs.length + 9 * capW n
  | n, t, d, t', h => by
    rcases walkL_ok l n t t' d h with ⟨-, rfl⟩ | ⟨n, t1, rfl, -, -, hk, rfl⟩
    · omega
    · obtain ⟨h1, h2⟩ := kidsL_len (fun t k t' h => walkL_len l n t k t' h) _ t t1 hk
      obtain ⟨h3, h4⟩ := parseM_short (findO l d).1
      have h5 := onceL_length t1.bs (blobsM (manO l d))
      have h6 : (manO l d).kids.length * capW n ≤ 16 * capW n := Nat.mul_le_mul_right _ h3
      have h7 : (blobsM (manO l d)).length ≤ 9 := h4
      simp only [List.length_append, List.length_cons, List.length_nil, capW]
      omega

theorem kidsL_append {f : Wk → ByteArray → Except Int Wk} : ∀ (a b : List ByteArray) (t : Wk), kidsL f t (a ++ b) = match kidsL f t a with
    | .ok t' => kidsL f t' b
    | .error e => .error e
  | [], b, t => by rw [List.nil_append, kidsL]
  | k :: a, b, t => by
    rw [List.cons_append, kidsL, kidsL]
    cases f t k with
    | ok t' => exact kidsL_append a b t'
    | error e => rfl

def WalkEnds (K : Nat → Prop) (w0 : World) (B R : Nat) (v : Value) (dep : Int) (r : Except Int Wk) (w : World) (e : Ending) (w' : World) : Prop :=
  match r with
  | .ok t => e = .returned (.int .i64 0) ∧ Went K w0 B R v dep t w w'
  | .error x => e = .returned (.int .i64 x) ∧ Kept K w w'

theorem WalkEnds.ok {K : Nat → Prop} {w0 : World} {B R : Nat} {v : Value} {dep : Int} {r : Except Int Wk} {t : Wk} {w w' : World} (h : r = .ok t) (hw : Went K w0 B R v dep t w w') : WalkEnds K w0 B R v dep r w (.returned (.int .i64 0)) w' := by
  subst h; exact ⟨rfl, hw⟩

theorem WalkEnds.bad {K : Nat → Prop} {w0 : World} {B R : Nat} {v : Value} {dep : Int} {r : Except Int Wk} {x : Int} {w w' : World} (h : r = .error x) (hw : Kept K w w') : WalkEnds K w0 B R v dep r w (.returned (.int .i64 x)) w' := by
  subst h; exact ⟨rfl, hw⟩

def VisitSays (n : Nat) (w0 : World) (B R : Nat) (v : Value) (l : List Obj) : Prop :=
  ∀ (K : Nat → Prop) (mv bv : Value) (nm nb : Nat) (t : Wk) (d : ByteArray) (w : World), WFix K w0 B R v l → WSt K w0 B R v (4 - (n : Int)) mv bv nm nb t w → t.ms.length + capW n ≤ 1073741824 → t.bs.length + 9 * capW n ≤ 17179869184 →
    Calls Tryz.prog 17 #[.pointer (some ⟨B, 0, none⟩), .string d] w (WalkEnds K w0 B R v (4 - (n : Int)) (walkL l n t d) w)

set_option maxRecDepth 100000 in
set_option maxHeartbeats 4000000 in
theorem eachV_t (n : Nat) (w0 : World) (B R : Nat) (v : Value) (l : List Obj) (hV : VisitSays n w0 B R v l) (K : Nat → Prop) (mv bv : Value) (nm nb : Nat) (t : Wk) (w : World) (hx : WFix K w0 B R v l) (hs : WSt K w0 B R v (4 - (n : Int)) mv bv nm nb t w)
    (kv : Value) (ks : List ByteArray) (hk : ∀ w', Kept K w w' → StrsAt w' kv ks) (hb1 : t.ms.length + ks.length * capW n ≤ 1073741824) (hb2 : t.bs.length + 9 * (ks.length * capW n) ≤ 17179869184) :
    Calls Tryz.prog 25 #[kv, .func (.func 17) #[.pointer (some ⟨B, 0, none⟩)] #[]] w (WalkEnds K w0 B R v (4 - (n : Int)) (kidsL (walkL l n) t ks) w) := by
  have hr0 := hk w (Kept.refl _ _)
  have hlen := hr0.len
  obtain ⟨ra, rc, rfl, -⟩ := hr0.shape
  obtain ⟨N, hln⟩ : ∃ N, ks.length = N := ⟨_, rfl⟩
  have HN := Lib.hid hln
  have HB1 := Lib.hid hb1
  have HB2 := Lib.hid hb2
  rw [hln] at hk hlen ⊢
  unfold maxLen at hlen
  have HX := Lib.hid hx
  have HS := Lib.hid hs
  have HR := Lib.hid hk
  have HV := Lib.hid hV
  clear hr0 hx hs hk hln hb1 hb2 hV
  go_enter Tryz.func25, Tryz.ntmps25
  go_wp2_with fail
  go_loopw [10] (fun iv wr => ∃ (k : Nat) (t' : Wk), k ≤ N ∧ iv = .int .i64 k ∧ kidsL (walkL l n) t (ks.take k) = .ok t' ∧ Went K w0 B R v (4 - (n : Int)) t' w wr) (fun i _ => N - (intOf i).toNat)
  case atStart => exact ⟨0, t, Nat.zero_le _, rfl, rfl, Kept.refl _ _, _, _, _, _, HS.out⟩
  case round =>
    obtain ⟨k, t', hk, rfl, hkt, hkp, mv', bv', nm', nb', hs⟩ := hrel
    by_cases hlt : k < N
    · have h1 : k < ks.length := by rw [HN.out]; exact hlt
      obtain ⟨lb, lo, rfl, e0⟩ := (HR.out wr hkp).at k h1
      have hts := List.take_succ_eq_append_getElem h1
      have hds : ks = ks.take k ++ ks[k] :: ks.drop (k + 1) := by rw [← List.drop_eq_getElem_cons h1, List.take_append_drop]
      obtain ⟨x, hxx⟩ : ∃ x, ks[k] = x := ⟨_, rfl⟩
      rw [hxx] at e0 hts hds
      have hl := kidsL_len (fun t k t' h => walkL_len l n t k t' h) _ t t' hkt
      have hm : (ks.take k).length * capW n + capW n ≤ ks.length * capW n := by
        rw [← Nat.succ_mul]
        exact Nat.mul_le_mul_right _ (by rw [List.length_take]; omega)
      have hB1 := HB1.out
      have hB2 := HB2.out
      have C := Lib.hid (HV.out K mv' bv' nm' nb' t' x wr HX.out hs (by omega) (by omega))
      have HKP := Lib.hid hkp
      have HTS := Lib.hid (show kidsL (walkL l n) t (ks.take (k + 1)) = kidsL (walkL l n) t' [x] by rw [hts, kidsL_append, hkt])
      have HDS := Lib.hid (show kidsL (walkL l n) t ks = kidsL (walkL l n) t' (x :: ks.drop (k + 1)) by rw [hds, kidsL_append, ← hds, hkt])
      clear hkp hs hts hds hxx hl hm hB1 hB2 hkt
      cases hw : walkL l n t' x with
      | ok t2 =>
        rw [hw] at C
        have HOK := Lib.hid (show kidsL (walkL l n) t (ks.take (k + 1)) = .ok t2 by rw [HTS.out, kidsL_ok [] hw]; rfl)
        clear hw
        go_wp2_with (go_at_call 17; refine C.out.mono ?_; rintro e w2 ⟨rfl, hkp2, hs2⟩; have HW2 := Lib.hid (show Went K w0 B R v (4 - (n : Int)) t2 w w2 from ⟨HKP.out.trans hkp2, hs2⟩); clear hkp2 hs2)
        go_roundw
        case rel => exact ⟨k + 1, t2, by omega, by go_num, HOK.out, HW2.out⟩
        case measure => simp [intOf]; omega
      | error x2 =>
        rw [hw] at C
        have q : (x2 != 0) = true := bne_iff_ne.2 (walkL_err l n t' x x2 hw)
        have HBAD := Lib.hid (show kidsL (walkL l n) t ks = .error x2 by rw [HDS.out, kidsL_bad _ hw])
        clear hw
        go_wp2_with (go_at_call 17; refine C.out.mono ?_; rintro e w2 ⟨rfl, hb2⟩; have HW2 := Lib.hid (HKP.out.trans hb2); clear hb2)
        go_ret
        exact WalkEnds.bad HBAD.out HW2.out
    · have HOK := Lib.hid (show kidsL (walkL l n) t ks = .ok t' by
        rw [List.take_of_length_le (by rw [HN.out]; omega)] at hkt
        exact hkt)
      have HW := Lib.hid (show Went K w0 B R v (4 - (n : Int)) t' w wr from ⟨hkp, _, _, _, _, hs⟩)
      clear hkt hkp hs
      go_wp2_with fail
      go_ret
      exact WalkEnds.ok HOK.out HW.out

theorem depth_wrap {D : Int} (h : -1 ≤ D ∧ D ≤ 5) : IntKind.i64.wrap D = D := by rw [IntKind.wrap_i64]; omega

set_option maxRecDepth 100000 in
/-- visit where the manifest is walked already. -/
theorem visit_in (K : Nat → Prop) (w0 : World) (B R : Nat) (v : Value) (l : List Obj) (dep : Int) (mv bv : Value) (nm nb n : Nat) (t : Wk) (d : ByteArray) (w : World) (hs : WSt K w0 B R v dep mv bv nm nb t w) (hd : d ∈ t.ms) :
    Calls Tryz.prog 17 #[.pointer (some ⟨B, 0, none⟩), .string d] w (WalkEnds K w0 B R v dep (walkL l n t d) w) := by
  have HE := Lib.hid (show WalkEnds K w0 B R v dep (walkL l n t d) w (.returned (.int .i64 0)) w from WalkEnds.ok (walkL_in hd) ⟨Kept.refl _ _, _, _, _, _, hs⟩)
  have C := Lib.hid (contains_t mv t.ms d w hs.ms.strs)
  rw [decide_eq_true hd] at C
  obtain ⟨ma, mc, rfl, -, -⟩ := hs.ms.shape
  obtain ⟨c0, c1, c2, c3⟩ := hs.walker.cells
  clear hs hd
  go_enter Tryz.func17, Tryz.ntmps17
  go_wp2_with fail
  refine C.out.mono ?_
  rintro e w2 ⟨rfl, rfl⟩
  go_wp2_with fail
  go_ret
  exact HE.out

set_option maxRecDepth 100000 in
/-- visit where it would go too deep. -/
theorem visit_deep (K : Nat → Prop) (w0 : World) (B R : Nat) (v : Value) (l : List Obj) (mv bv : Value) (nm nb : Nat) (t : Wk) (d : ByteArray) (w : World) (hx : WFix K w0 B R v l) (hs : WSt K w0 B R v 4 mv bv nm nb t w) (hd : d ∉ t.ms) :
    Calls Tryz.prog 17 #[.pointer (some ⟨B, 0, none⟩), .string d] w (WalkEnds K w0 B R v 4 (walkL l 0 t d) w) := by
  have HE := Lib.hid (show WalkEnds K w0 B R v 4 (walkL l 0 t d) w (.returned (.int .i64 7)) (w.setCell ⟨B, 1, none⟩ (.int .i64 5)) from WalkEnds.bad (walkL_zero hd) (hs.depth hx 5).2)
  have C := Lib.hid (contains_t mv t.ms d w hs.ms.strs)
  rw [decide_eq_false hd] at C
  obtain ⟨ma, mc, rfl, -, -⟩ := hs.ms.shape
  obtain ⟨c0, c1, c2, c3⟩ := hs.walker.cells
  have f1 := hs.walker.frozen 1
  obtain ⟨W1, hW1⟩ : ∃ W1, w.setCell ⟨B, 1, none⟩ (.int .i64 5) = W1 := ⟨_, rfl⟩
  obtain ⟨b0, b1, b2, b3⟩ := (show WalkerAt W1 B R 5 (.slice ma nm mc) bv by rw [← hW1]; exact hs.walker.put1 5).cells
  have HW1 := Lib.hid hW1
  rw [hW1] at HE
  clear hs hd hx hW1
  go_enter Tryz.func17, Tryz.ntmps17
  go_wp2_with fail
  refine C.out.mono ?_
  rintro e w2 ⟨rfl, rfl⟩
  go_upto_region 4 with fail
  rw [HW1.out]
  clear c0 c1 c2 c3 f1
  go_wp2_with fail
  go_ret
  exact HE.out

set_option maxRecDepth 100000 in
set_option maxHeartbeats 8000000 in
theorem visit_step (n : Nat) (hn : n < 4) (w0 : World) (B R : Nat) (v : Value) (l : List Obj) (hV : VisitSays n w0 B R v l) (K : Nat → Prop) (mv bv : Value) (nm nb : Nat) (t : Wk) (d : ByteArray) (w : World) (hx : WFix K w0 B R v l) (D : Int) (hD : D = 3 - (n : Int)) (hs : WSt K w0 B R v D mv bv nm nb t w)
    (hb1 : t.ms.length + capW (n + 1) ≤ 1073741824) (hb2 : t.bs.length + 9 * capW (n + 1) ≤ 17179869184) (hd : d ∉ t.ms) :
    Calls Tryz.prog 17 #[.pointer (some ⟨B, 0, none⟩), .string d] w (WalkEnds K w0 B R v D (walkL l (n + 1) t d) w) := by
  have C := Lib.hid (contains_t mv t.ms d w hs.ms.strs)
  rw [decide_eq_false hd] at C
  obtain ⟨ma, mc, rfl, -, -⟩ := hs.ms.shape
  obtain ⟨W1, hW1⟩ : ∃ W1, w.setCell ⟨B, 1, none⟩ (.int .i64 (D + 1)) = W1 := ⟨_, rfl⟩
  have hd1 := hs.depth hx (D + 1)
  rw [hW1] at hd1
  obtain ⟨hs1, hk1⟩ := hd1
  have hbs1 := hx.step hs.base hk1
  have A := Lib.hid (ask_t v l d B R (D + 1) _ bv W1 (hx.env.below hbs1) (hx.objs.keep hbs1) hx.few hs1.walker hs1.row)
  obtain ⟨c0, c1, c2, c3⟩ := hs.walker.cells
  have f1 := hs.walker.frozen 1
  obtain ⟨b0, b1, b2, b3⟩ := hs1.walker.cells
  have HW1 := Lib.hid hW1
  have HX := Lib.hid hx
  have HS1 := Lib.hid hs1
  have HK1 := Lib.hid hk1
  have HD := Lib.hid hd
  have HV := Lib.hid hV
  have HB1 := Lib.hid hb1
  have HB2 := Lib.hid hb2
  have HBS1 := Lib.hid hbs1
  have e1 : IntKind.i64.wrap (D + 1) = D + 1 := depth_wrap (by omega)
  have e2 : wrap64 D = D := by unfold wrap64; omega
  have q1 : decide ((4 : Int) < D + 1) = false := decide_eq_false (by omega)
  have HDD := Lib.hid (show 4 - (n : Int) = D + 1 by omega)
  obtain ⟨x, hex⟩ : ∃ x, errO l d = x := ⟨_, rfl⟩
  unfold AskEnds at A
  rw [hex] at A
  have HNO := Lib.hid (show x ≠ 0 → walkL l (n + 1) t d = .error x from fun h => by rw [walkL_bad HD.out (by rw [hex]; exact h), hex])
  have HYES := Lib.hid (show x = 0 → walkL l (n + 1) t d = _ from fun h => walkL_kids HD.out (hex.trans h))
  clear hs hd hx hW1 hs1 hk1 hbs1 hV hb1 hb2 hex hD
  go_enter Tryz.func17, Tryz.ntmps17
  go_wp2_with fail
  refine C.out.mono ?_
  rintro e w2 ⟨rfl, rfl⟩
  go_upto_region 4 with fail
  try rw [e1]
  rw [HW1.out]
  clear c0 c1 c2 c3 f1
  go_wp2_with fail
  refine A.out.mono ?_
  rintro e w3 ⟨m, r, rfl, hm, hme⟩
  obtain ⟨i, c, la, nl, lc, ka, nk, kc, rfl, -, -, -, -⟩ := hm.man.shape
  obtain ⟨W4, hW4⟩ : ∃ x, w3.alloc (.cells #[.bool i, .string c, .slice la nl lc, .slice ka nk kc] 53) = x := ⟨_, rfl⟩
  have hb34 : Below w3.heap.size w3 W4 := by rw [← hW4]; exact below_new _ _
  have hb14 : Below W1.heap.size W1 W4 := Below.then hm.below hb34
  have hA4 : At4 W4 w3.heap.size (.bool i) (.string c) (.slice la nl lc) (.slice ka nk kc) := by rw [← hW4]; exact At4.new _ _ _ _ _
  have HW4 := Lib.hid hW4
  have HE4 := Lib.hid (HX.out.step HBS1.out (.of_below hb14))
  have HK4 := Lib.hid (HK1.out.trans (Kept.of_below hb14))
  obtain ⟨a0, a1, a2, a3⟩ := hA4.cells
  clear b0 b1 b2 b3
  by_cases h0 : x = 0
  rotate_left
  · have q : (x != 0) = true := bne_iff_ne.2 h0
    have HO := Lib.hid (HNO.out h0)
    clear hm hme hb34 hb14 hA4 hW4 h0
    go_upto_region 7 with fail
    rw [HW4.out]
    go_wp2_with fail
    go_ret
    exact WalkEnds.bad HO.out HK4.out
  subst h0
  obtain rfl := hme rfl
  have HO := Lib.hid (HYES.out rfl)
  clear HNO HYES hme
  -- what is kept besides
  obtain ⟨K', hK'⟩ : ∃ K' : Nat → Prop, K' = fun k => K k ∨ (W1.heap.size ≤ k ∧ k < W4.heap.size) := ⟨_, rfl⟩
  have hKK : ∀ k, K k → K' k := fun k h => by rw [hK']; exact Or.inl h
  have hKN : ∀ k, W1.heap.size ≤ k → k < W4.heap.size → K' k := fun k h1 h2 => by rw [hK']; exact Or.inr ⟨h1, h2⟩
  have hfree : ∀ k, ¬ K k → k < W1.heap.size → ¬ K' k := fun k h1 h2 => by
    rw [hK']
    rintro (h | h)
    · exact h1 h
    · omega
  have hX' : WFix K' w0 B R v l := ⟨HX.out.env, HX.out.objs, HX.out.few, fun k hk => hKK k (HX.out.low k hk), hKK R HX.out.keepR, hfree B HX.out.freeB HS1.out.walker.lt⟩
  have hS4 : WSt K' w0 B R v (D + 1) (.slice ma nm mc) bv nm nb t W4 := (HS1.out.below HX.out hb14).more
    (fun k h => by
      rw [hK'] at h
      rcases h with h | h
      · exact Nat.lt_of_lt_of_le (HS1.out.under k h) hb14.size
      · exact h.2)
    (fun g e => hfree g (HS1.out.freeM g e) (HS1.out.ms.lt g e).2) (fun g e => hfree g (HS1.out.freeS g e) (HS1.out.bs.lt g e).2)
  have HFAR := Lib.hid (show ∀ w', Kept K' W4 w' → ManAt w' (.agg #[.bool i, .string c, .slice la nl lc, .slice ka nk kc]) (manO l d) from fun w' h => hm.far w' fun b h1 h2 => by
    have hb : b < W4.heap.size := Nat.lt_of_lt_of_le h2 hb34.size
    rw [h.block b hb (hKN b h1 hb), hb34.block b h2])
  have HM4 := Lib.hid (show ∀ w', Kept K' W4 w' → At4 w' w3.heap.size (.bool i) (.string c) (.slice la nl lc) (.slice ka nk kc) from fun w' h =>
    (h.block _ hA4.lt (hKN _ hm.below.size hA4.lt)).trans hA4)
  obtain ⟨M, hM⟩ : ∃ M, manO l d = M := ⟨_, rfl⟩
  have hsh := parseM_short (findO l d).1
  have hfw := parseM_few (findO l d).1
  change (manO l d).kids.length ≤ 16 ∧ (blobsM (manO l d)).length ≤ 9 at hsh
  change (manO l d).Few at hfw
  rw [hM] at HFAR hsh hfw HO
  have hkids : ∀ w', Kept K' W4 w' → StrsAt w' (.slice ka nk kc) M.kids := fun w' h => by
    obtain ⟨⟨lv, kv, ev, -, hk⟩, -⟩ := HFAR.out w' h
    simp only [Value.agg.injEq, Array.mk.injEq, List.cons.injEq, and_true] at ev
    obtain ⟨-, -, -, rfl⟩ := ev
    exact hk
  have hmul : M.kids.length * capW n ≤ 16 * capW n := Nat.mul_le_mul_right _ hsh.1
  have hB1 := HB1.out
  have hB2 := HB2.out
  rw [show capW (n + 1) = 16 * capW n + 1 from rfl] at hB1 hB2
  have E := Lib.hid (eachV_t n w0 B R v l HV.out K' (.slice ma nm mc) bv nm nb t W4 hX' (by rw [HDD.out]; exact hS4) (.slice ka nk kc) M.kids hkids (by omega) (by omega))
  rw [HDD.out] at E
  have HX' := Lib.hid hX'
  have HKK := Lib.hid hKK
  have HUP := Lib.hid hb14.size
  have HFW := Lib.hid hfw
  have HSH := Lib.hid hsh
  have HBN := Lib.hid (show t.ms.length + 16 * capW n + 1 ≤ 1073741824 ∧ t.bs.length + 9 * (16 * capW n + 1) ≤ 17179869184 ∧ M.kids.length * capW n ≤ 16 * capW n from ⟨by omega, by omega, hmul⟩)
  have hmf : ∀ (fn : Fn) (first cap : Array Value) (w : World), (Instr.makeFunc fn first cap).run Tryz.prog w = .ok (.func fn first cap) w := fun _ _ _ _ => rfl
  clear hm hb34 hb14 hA4 hW4 hX' hS4 hKK hKN hfree hkids hmul hB1 hB2 hsh hfw hM hK'
  cases hkr : kidsL (walkL l n) t M.kids with
  | error x2 =>
    rw [hkr] at E HO
    have q : (x2 != 0) = true := bne_iff_ne.2 (kidsL_err (walkL_err l n) _ _ _ hkr)
    clear hkr
    go_upto_region 7 with fail
    rw [HW4.out]
    go_wp2_with (go_at_call 25; refine E.out.mono ?_; rintro e w5 ⟨rfl, hb5⟩; have HE5 := Lib.hid (HK4.out.trans (hb5.mono HKK.out)); clear hb5)
    go_ret
    exact WalkEnds.bad HO.out HE5.out
  | ok t1 =>
    rw [hkr] at E HO
    have HL1 := Lib.hid (kidsL_len (fun t k t' h => walkL_len l n t k t' h) _ t t1 hkr)
    clear hkr
    go_upto_region 7 with fail
    rw [HW4.out]
    go_upto_region 13 with (go_at_call 25; refine E.out.mono ?_; rintro e w5 ⟨rfl, hk5, mv1, bv1, nm1, nb1, hs5⟩; have HS5 := Lib.hid hs5; have HK5 := Lib.hid hk5; obtain ⟨b0, b1, b2, b3⟩ := hs5.walker.cells; have f1 := hs5.walker.frozen 1; clear hs5 hk5 a0 a1 a2 a3)
    obtain ⟨W6, hW6⟩ : ∃ x, w5.setCell ⟨B, 1, none⟩ (.int .i64 D) = x := ⟨_, rfl⟩
    have hd6 := HS5.out.depth HX'.out D
    rw [hW6] at hd6 ⊢
    obtain ⟨hs6, hk6⟩ := hd6
    have hk46 := HK5.out.trans hk6
    have hA6 := HM4.out W6 hk46
    have G := Lib.hid (Blobs_t M _ W6 (HFAR.out W6 hk46) HFW.out (HX'.out.env.below (HX'.out.step HE4.out hk46)).lo)
    obtain ⟨a0, a1, a2, a3⟩ := hA6.cells
    have HS6 := Lib.hid hs6
    have HK6 := Lib.hid hk46
    clear hs6 hk6 hk46 hA6 hW6 b0 b1 b2 b3 f1
    go_wp2_with fail
    refine G.out.mono ?_
    rintro e w7 ⟨rv, rn, rfl, hrv, hb7⟩
    -- what is kept besides
    obtain ⟨K2, hK2⟩ : ∃ K2 : Nat → Prop, K2 = fun k => K' k ∨ (W6.heap.size ≤ k ∧ k < w7.heap.size) := ⟨_, rfl⟩
    have hKK2 : ∀ k, K' k → K2 k := fun k h => by rw [hK2]; exact Or.inl h
    have hfree : ∀ k, ¬ K' k → k < W6.heap.size → ¬ K2 k := fun k h1 h2 => by
      rw [hK2]
      rintro (h | h)
      · exact h1 h
      · omega
    have hX2 : WFix K2 w0 B R v l := ⟨HX.out.env, HX.out.objs, HX.out.few, fun k hk => hKK2 k (HX'.out.low k hk), hKK2 R HX'.out.keepR, hfree B HX'.out.freeB HS6.out.walker.lt⟩
    have hS7 : WSt K2 w0 B R v D mv1 bv1 nm1 nb1 t1 w7 := (HS6.out.below HX'.out hb7).more
      (fun k h => by
        rw [hK2] at h
        rcases h with h | h
        · exact Nat.lt_of_lt_of_le (HS6.out.under k h) hb7.size
        · exact h.2)
      (fun g e => hfree g (HS6.out.freeM g e) (HS6.out.ms.lt g e).2) (fun g e => hfree g (HS6.out.freeS g e) (HS6.out.bs.lt g e).2)
    have hrow : ∀ w', Kept K2 w7 w' → StrsAt w' rv (blobsM M) := fun w' h => (show OwnS w' W6.heap.size rv rn (blobsM M) from ⟨hrv.len, own_block hrv.own fun g hg => h.block g (hrv.lt g hg).2 (by rw [hK2]; exact Or.inr (hrv.lt g hg))⟩).strs
    have h1 := HL1.out
    have h2 := HBN.out
    have h3 := HSH.out.2
    have h4 := hS7.ms.len
    have h5 := hS7.bs.len
    have AD := Lib.hid (add_t K2 w0 B R v l D mv1 bv1 nm1 nb1 t1 d rv (blobsM M) w7 hX2 hS7 hrow (by omega) (by omega))
    have HEND := Lib.hid (show ∀ w', Went K2 w0 B R v D ⟨t1.ms ++ [d], onceL t1.bs (blobsM M)⟩ w7 w' → WalkEnds K w0 B R v D (walkL l (n + 1) t d) w2 (.returned (.int .i64 0)) w' from fun w' hw => by
      obtain ⟨hk, mv', bv', nm', nb', hs'⟩ := hw
      have hkk : ∀ k, K k → K2 k := fun k h => hKK2 k (HKK.out k h)
      refine WalkEnds.ok HO.out ⟨((HK4.out.trans (HK6.out.mono HKK.out)).trans (Kept.of_below hb7)).trans (hk.mono hkk), mv', bv', nm', nb', hs'.more (fun k h => hs'.under k (hkk k h)) (fun g e h => hs'.freeM g e (hkk g h)) (fun g e h => hs'.freeS g e (hkk g h))⟩)
    obtain ⟨ra, rc, rfl, -, -⟩ := hrv.shape
    clear hrv hb7 hKK2 hfree hX2 hS7 hrow h1 h2 h3 h4 h5 hK2 a0 a1 a2 a3
    go_wp2_with fail
    refine AD.out.mono ?_
    rintro e w8 ⟨rfl, hw8⟩
    have HW8 := Lib.hid hw8
    clear hw8
    go_wp2_with fail
    go_ret
    exact HEND.out _ HW8.out

theorem visit_t (w0 : World) (B R : Nat) (v : Value) (l : List Obj) (n : Nat) : n ≤ 4 → VisitSays n w0 B R v l := by
  induction n with
  | zero =>
    intro _ K mv bv nm nb t d w hx hs hb1 hb2
    by_cases hd : d ∈ t.ms
    · exact visit_in K w0 B R v l _ mv bv nm nb 0 t d w hs hd
    · exact visit_deep K w0 B R v l mv bv nm nb t d w hx hs hd
  | succ n ih =>
    intro hn K mv bv nm nb t d w hx hs hb1 hb2
    by_cases hd : d ∈ t.ms
    · exact visit_in K w0 B R v l _ mv bv nm nb (n + 1) t d w hs hd
    · exact visit_step n (by omega) w0 B R v l (ih (by omega)) K mv bv nm nb t d w hx _ (by omega) hs hb1 hb2 hd
end Go.Proofs.YtepcaglekgeamaaGreatDoor
namespace Go.Proofs.YtepcaglekgeamaaGreatDoor
open Go.RowKit

theorem walkSize : (Tryz.prog.info? 29).map (·.size) = some 2 := by kernel_rfl

def OfEnds (l : List Obj) (d : ByteArray) (w : World) (e : Ending) (w' : World) : Prop :=
  ∃ mv bv nm nb, e = .returned (.tuple #[.agg #[mv, bv], .int .i64 (ofL l d).2]) ∧ OwnS w' w.heap.size mv nm (ofL l d).1.ms ∧ OwnS w' w.heap.size bv nb (ofL l d).1.bs ∧ Below w.heap.size w w'

theorem ofL_ok {l : List Obj} {d : ByteArray} {t : Wk} (h : walkL l 4 noWk d = .ok t) : ofL l d = (t, 0) := by unfold ofL; rw [h]

theorem ofL_bad {l : List Obj} {d : ByteArray} {x : Int} (h : walkL l 4 noWk d = .error x) : ofL l d = (noWk, x) := by unfold ofL; rw [h]

set_option maxRecDepth 100000 in
set_option maxHeartbeats 4000000 in
theorem of_t (v : Value) (l : List Obj) (d : ByteArray) (w : World) (he : MEnv w) (hv : ObjsAt w v l) (hf : ObjsFew l) :
    Calls Tryz.prog 6 #[v, .string d] w (OfEnds l d w) := by
  obtain ⟨a, cap, rfl, -, -⟩ := hv.shape
  obtain ⟨n, hn⟩ : ∃ n, l.length = n := ⟨_, rfl⟩
  rw [hn] at hv ⊢
  obtain ⟨C, hC⟩ : ∃ C, w.heap.size = C := ⟨_, rfl⟩
  obtain ⟨W0, hW0⟩ : ∃ x, (w.alloc (.cells #[.slice a n cap] 22)).alloc (.cells #[.slice none 0 0, .slice none 0 0] 29) = x := ⟨_, rfl⟩
  obtain ⟨W1, hW1⟩ : ∃ x, W0.alloc (.cells #[.func (.func 16) #[] #[.pointer (some ⟨C, 0, none⟩)], .int .i64 0, .slice none 0 0, .slice none 0 0] 46) = x := ⟨_, rfl⟩
  have hs0 : W0.heap.size = C + 2 := by rw [← hW0, World.size_alloc, World.size_alloc, hC]
  have hs1 : W1.heap.size = C + 3 := by rw [← hW1, World.size_alloc, hs0]
  have hb0 : Below w.heap.size w W0 := by rw [← hW0]; exact Below.then (below_new _ _) (below_new _ _)
  have hb01 : Below W0.heap.size W0 W1 := by rw [← hW1]; exact below_new _ _
  have hb1 := Below.then hb0 hb01
  have hrow : W1.cell? ⟨C, 0, none⟩ = some (.slice a n cap) := by
    have h0 : W0.cell? ⟨C, 0, none⟩ = some (.slice a n cap) := by
      rw [← hW0]
      have e := below_new (w.alloc (.cells #[.slice a n cap] 22)) (.cells #[.slice none 0 0, .slice none 0 0] 29)
      have e2 : (w.alloc (.cells #[.slice a n cap] 22)).cell? ⟨C, 0, none⟩ = some (.slice a n cap) := by rw [World.cell?_alloc_at _ _ _ _ hC.symm]; rfl
      exact (e.cell (World.block_lt_of_cell? _ _ e2)).trans e2
    exact (hb01.cell (World.block_lt_of_cell? _ _ h0)).trans h0
  have hZ : At2 29 W1 (C + 1) (.slice none 0 0) (.slice none 0 0) := by
    refine At2.keep (w := W0) ?_ hb01
    rw [← hW0]
    have e := At2.new 29 (w.alloc (.cells #[.slice a n cap] 22)) (.slice none 0 0) (.slice none 0 0)
    rwa [World.size_alloc, hC] at e
  have hx : WFix (fun k => k < C + 2) w (C + 2) C (.slice a n cap) l := ⟨he, hv, hf, fun k hk => by omega, by omega, by omega⟩
  have hst : WSt (fun k => k < C + 2) w (C + 2) C (.slice a n cap) (4 - ((4 : Nat) : Int)) (.slice none 0 0) (.slice none 0 0) 0 0 noWk W1 :=
    ⟨by rw [← hW1, ← hs0]; exact heap_alloc_new W0 _, OwnS.nil _ _, OwnS.nil _ _, (fun g e => by cases e), (fun g e => by cases e), (fun g e => by cases e), fun k hk => by omega, hb1, hrow⟩
  have V := Lib.hid (visit_t w (C + 2) C (.slice a n cap) l 4 (Nat.le_refl _) _ _ _ 0 0 noWk d W1 hx hst (by decide) (by decide))
  have HW0 := Lib.hid hW0
  have HW1 := Lib.hid hW1
  have HC := Lib.hid hC
  have HS0 := Lib.hid hs0
  have HZ := Lib.hid hZ
  have HS1 := Lib.hid hs1
  have HX := Lib.hid hx
  have HB1 := Lib.hid hb1
  have hmf : ∀ (fn : Fn) (first cap : Array Value) (w : World), (Instr.makeFunc fn first cap).run Tryz.prog w = .ok (.func fn first cap) w := fun _ _ _ _ => rfl
  have HEND := Lib.hid (show ∀ mv bv nm nb k (t : Wk) w', ofL l d = (t, k) → At2 29 w' (C + 1) (.slice none 0 0) (.slice none 0 0) → OwnS w' (C + 3) mv nm t.ms → OwnS w' (C + 3) bv nb t.bs → Below w.heap.size w w' →
      OfEnds l d w (.returned (.tuple #[.agg #[mv, bv], .int .i64 k])) (set2 w' (C + 1) mv bv) from fun mv bv nm nb k t w' h _ hm hb hbw => by
    have hp : ∀ {u : Value} {q : Nat} {ll : List ByteArray}, OwnS w' (C + 3) u q ll → OwnS (set2 w' (C + 1) mv bv) w.heap.size u q ll := fun ho =>
      (show OwnS (set2 w' (C + 1) mv bv) (C + 3) _ _ _ from ⟨ho.len, own_block ho.own fun g hg => set2_block _ _ _ _ _ (by have := (ho.lt g hg).1; omega)⟩).base (by omega)
    exact ⟨mv, bv, nm, nb, by rw [h], by rw [h]; exact hp hm, by rw [h]; exact hp hb, below_two hbw (by omega) _ _⟩)
  clear hW0 hW1 hs0 hs1 hb0 hb01 hb1 hrow hZ hx hst hv he hf hn
  go_enter Tryz.func6, Tryz.ntmps6
  go_upto_region 1 with fail
  rw [HW0.out]
  try rw [HC.out]
  go_upto_region 2 with fail
  try rw [HS0.out]
  rw [HW1.out]
  cases hr : walkL l 4 noWk d with
  | error x =>
    rw [hr] at V
    have q : (x != 0) = true := bne_iff_ne.2 (walkL_err l 4 noWk d x hr)
    have HO := Lib.hid (ofL_bad hr)
    clear hr
    go_upto_region 4 with (go_at_call 17; refine V.out.mono ?_; rintro e w2 ⟨rfl, hk2⟩; have HB2 := Lib.hid (HX.out.step HB1.out hk2); have HZ2 := Lib.hid (show At2 29 w2 (C + 1) (.slice none 0 0) (.slice none 0 0) from (hk2.block (C + 1) (by have := HS1.out; omega) (by omega)).trans HZ.out); clear hk2)
    obtain ⟨z0, z1⟩ := HZ2.out.cells
    have f0 := HZ2.out.frozen 0
    have f1 := HZ2.out.frozen 1
    have HE := Lib.hid (HEND.out _ _ 0 0 x noWk w2 HO.out HZ2.out (OwnS.nil _ _) (OwnS.nil _ _) HB2.out)
    go_wp2_with fail
    refine bodyPost_ret (results_two (p := 4) (u := 5) rfl _ _ (C + 1) 29 _ (0, 0) _ rfl (set2_two HZ2.out _ _) Tryz.underlying29 rfl walkSize) rfl ?_
    exact HE.out
  | ok t =>
    rw [hr] at V
    have HO := Lib.hid (ofL_ok hr)
    clear hr
    go_upto_region 5 with (go_at_call 17; refine V.out.mono ?_; rintro e w2 ⟨rfl, hk, mv, bv, nm, nb, hs⟩; have HS := Lib.hid hs; have HK := Lib.hid hk; clear hs hk)
    have hZ2 : At2 29 w2 (C + 1) (.slice none 0 0) (.slice none 0 0) := (HK.out.block (C + 1) (by have := HS1.out; omega) (by omega)).trans HZ.out
    obtain ⟨b0, b1, b2, b3⟩ := HS.out.walker.cells
    obtain ⟨z0, z1⟩ := hZ2.cells
    have f0 := hZ2.frozen 0
    have f1 := hZ2.frozen 1
    have HZ2 := Lib.hid hZ2
    have HE := Lib.hid (HEND.out mv bv nm nb 0 t w2 HO.out hZ2 HS.out.ms HS.out.bs HS.out.base)
    obtain ⟨ma, mc, rfl, -, -⟩ := HS.out.ms.shape
    obtain ⟨ba, bc, rfl, -, -⟩ := HS.out.bs.shape
    clear hZ2
    go_wp2_with fail
    refine bodyPost_ret (results_two (p := 4) (u := 5) rfl _ _ (C + 1) 29 _ (0, 0) _ rfl (set2_two HZ2.out _ _) Tryz.underlying29 rfl walkSize) rfl ?_
    exact HE.out

set_option maxRecDepth 100000 in
theorem whole1_t (v : Value) (l : List Obj) (b : ByteArray) (R : Nat) (w : World) (he : MLow w) (hv : ObjsAt w v l) (hf : ObjsFew l) (hR : w.cell? ⟨R, 0, none⟩ = some v) :
    Calls Tryz.prog 26 #[.string b, .pointer (some ⟨R, 0, none⟩)] w fun e w' => e = .returned (.int .i64 (findO l b).2) ∧ Below w.heap.size w w' := by
  have F := Lib.hid (find_t v l b w he hv hf)
  obtain ⟨a, cap, rfl, -, -⟩ := hv.shape
  obtain ⟨n, hn⟩ : ∃ n, l.length = n := ⟨_, rfl⟩
  rw [hn] at F hR
  clear hv hn he hf
  go_enter Tryz.func26, Tryz.ntmps26
  go_wp2_with fail
  refine F.out.mono ?_
  rintro e w2 ⟨rfl, hb2⟩
  have HB2 := Lib.hid hb2
  clear hb2
  go_wp2_with fail
  go_ret
  exact ⟨rfl, HB2.out⟩

theorem blobsO_append (l : List Obj) : ∀ a b : List ByteArray, blobsO l (a ++ b) = if blobsO l a = 0 then blobsO l b else blobsO l a
  | [], b => by rw [List.nil_append, blobsO, if_pos rfl]
  | x :: a, b => by
    rw [List.cons_append, blobsO, blobsO, blobsO_append l a b]
    split
    · rfl
    · simp

set_option maxRecDepth 100000 in
set_option maxHeartbeats 2000000 in
theorem eachW_t (v : Value) (l : List Obj) (R : Nat) (w : World) (he : MLow w) (hv : ObjsAt w v l) (hf : ObjsFew l) (hR : w.cell? ⟨R, 0, none⟩ = some v) (kv : Value) (ks : List ByteArray) (hk : StrsAt w kv ks) :
    Calls Tryz.prog 25 #[kv, .func (.func 26) #[] #[.pointer (some ⟨R, 0, none⟩)]] w fun e w' => e = .returned (.int .i64 (blobsO l ks)) ∧ Below w.heap.size w w' := by
  have hlen := hk.len
  obtain ⟨ra, rc, rfl, -⟩ := hk.shape
  obtain ⟨N, hln⟩ : ∃ N, ks.length = N := ⟨_, rfl⟩
  have HN := Lib.hid hln
  rw [hln] at hk hlen ⊢
  unfold maxLen at hlen
  have HR := Lib.hid hk
  have F := Lib.hid (fun b w' (h : Below w.heap.size w w') => whole1_t v l b R w' (he.below h) (hv.keep h) hf ((h.cell (World.block_lt_of_cell? _ _ hR)).trans hR))
  clear he hv hf hR hk hln
  go_enter Tryz.func25, Tryz.ntmps25
  go_wp2_with fail
  go_loopw [10] (fun iv wr => ∃ k : Nat, k ≤ N ∧ iv = .int .i64 k ∧ blobsO l (ks.take k) = 0 ∧ Below w.heap.size w wr) (fun i _ => N - (intOf i).toNat)
  case atStart => exact ⟨0, Nat.zero_le _, rfl, rfl, Below.refl _ _⟩
  case round =>
    obtain ⟨k, hk, rfl, h0, hb⟩ := hrel
    have HB := Lib.hid hb
    by_cases hlt : k < N
    · have h1 : k < ks.length := by rw [HN.out]; exact hlt
      obtain ⟨lb, lo, rfl, e0⟩ := (HR.out.keep hb).at k h1
      have hts := List.take_succ_eq_append_getElem h1
      have hds : ks = ks.take k ++ ks[k] :: ks.drop (k + 1) := by rw [← List.drop_eq_getElem_cons h1, List.take_append_drop]
      obtain ⟨x, hxx⟩ : ∃ x, ks[k] = x := ⟨_, rfl⟩
      rw [hxx] at e0 hts hds
      have C := Lib.hid (F.out x wr hb)
      obtain ⟨c, hc⟩ : ∃ c, (findO l x).2 = c := ⟨_, rfl⟩
      rw [hc] at C
      have HTS := Lib.hid (show c = 0 → blobsO l (ks.take (k + 1)) = 0 from fun h => by rw [hts, blobsO_append, if_pos h0, blobsO, if_pos (hc.trans h)]; rfl)
      have HDS := Lib.hid (show c ≠ 0 → blobsO l ks = c from fun h => (congrArg (blobsO l) hds).trans (by rw [blobsO_append, if_pos h0, blobsO, if_neg (by rw [hc]; exact h), hc]))
      clear hb h0 hts hds hxx hc
      by_cases hc0 : c = 0
      · subst hc0
        have HO := Lib.hid (HTS.out rfl)
        clear HTS HDS
        go_wp2_with (go_at_call 26; refine C.out.mono ?_; rintro e w2 ⟨rfl, hb2⟩; have HW2 := Lib.hid (Below.then HB.out hb2); clear hb2)
        go_roundw
        case rel => exact ⟨k + 1, by omega, by go_num, HO.out, HW2.out⟩
        case measure => simp [intOf]; omega
      · have q : (c != 0) = true := bne_iff_ne.2 hc0
        have HO := Lib.hid (HDS.out hc0)
        clear HTS HDS hc0
        go_wp2_with (go_at_call 26; refine C.out.mono ?_; rintro e w2 ⟨rfl, hb2⟩; have HW2 := Lib.hid (Below.then HB.out hb2); clear hb2)
        go_ret
        exact ⟨by rw [HO.out]; rfl, HW2.out⟩
    · have HO := Lib.hid (show blobsO l ks = 0 by
        rw [List.take_of_length_le (by rw [HN.out]; omega)] at h0
        exact h0)
      clear hb h0
      go_wp2_with fail
      go_ret
      exact ⟨by rw [HO.out]; rfl, HB.out⟩

set_option maxRecDepth 100000 in
set_option maxHeartbeats 2000000 in
theorem cloWhole_t (v : Value) (l : List Obj) (d : ByteArray) (w : World) (he : MEnv w) (hv : ObjsAt w v l) (hf : ObjsFew l) :
    Calls Tryz.prog 11 #[v, .string d] w fun e w' => e = .returned (.int .i64 (fullL l d)) ∧ Below w.heap.size w w' := by
  obtain ⟨C, hC⟩ : ∃ C, w.heap.size = C := ⟨_, rfl⟩
  obtain ⟨W0, hW0⟩ : ∃ x, w.alloc (.cells #[v] 22) = x := ⟨_, rfl⟩
  have hb0 : Below w.heap.size w W0 := by rw [← hW0]; exact below_new _ _
  have hR : W0.cell? ⟨C, 0, none⟩ = some v := by rw [← hW0, World.cell?_alloc_at _ _ _ _ hC.symm]; rfl
  have O := Lib.hid (of_t v l d W0 (he.below hb0) (hv.keep hb0) hf)
  have E := Lib.hid (fun w' (h : Below W0.heap.size W0 w') kv ks hk => eachW_t v l C w' (he.below (Below.then hb0 h)).lo (hv.keep (Below.then hb0 h)) hf ((h.cell (World.block_lt_of_cell? _ _ hR)).trans hR) kv ks hk)
  obtain ⟨a, cap, rfl, -, -⟩ := hv.shape
  obtain ⟨n, hn⟩ : ∃ n, l.length = n := ⟨_, rfl⟩
  rw [hn] at O hR hW0 ⊢
  have HB0 := Lib.hid hb0
  have HW0 := Lib.hid hW0
  have HC := Lib.hid hC
  have hmf : ∀ (fn : Fn) (first cap : Array Value) (w : World), (Instr.makeFunc fn first cap).run Tryz.prog w = .ok (.func fn first cap) w := fun _ _ _ _ => rfl
  obtain ⟨⟨t, k⟩, ht⟩ : ∃ x, ofL l d = x := ⟨_, rfl⟩
  have HF := Lib.hid (show fullL l d = if k = 0 then blobsO l t.bs else k by
    unfold fullL
    unfold ofL at ht
    cases hw : walkL l 4 noWk d with
    | ok t' => rw [hw] at ht; cases ht; rfl
    | error e =>
      rw [hw] at ht
      cases ht
      rw [if_neg (walkL_err l 4 noWk d _ hw)])
  unfold OfEnds at O
  rw [ht] at O
  simp only at O
  clear he hv hf hn hb0 hW0 ht
  go_enter Tryz.func11, Tryz.ntmps11
  go_upto_region 1 with fail
  rw [HW0.out]
  go_wp2_with fail
  refine O.out.mono ?_
  rintro e w2 ⟨mv, bv, nm, nb, rfl, hom, hob, hb2⟩
  obtain ⟨ma, mc, rfl, -, -⟩ := hom.shape
  obtain ⟨ba, bc, rfl, -, -⟩ := hob.shape
  obtain ⟨W3, hW3⟩ : ∃ x, w2.alloc (.cells #[.slice ma nm mc, .slice ba nb bc] 29) = x := ⟨_, rfl⟩
  have hb3 : Below w2.heap.size w2 W3 := by rw [← hW3]; exact below_new _ _
  obtain ⟨a0, a1⟩ := At2.cells (show At2 29 W3 w2.heap.size (.slice ma nm mc) (.slice ba nb bc) by rw [← hW3]; exact At2.new _ _ _ _)
  have HW3 := Lib.hid hW3
  have HB3 := Lib.hid (Below.then HB0.out (Below.then hb2 hb3))
  by_cases h0 : k = 0
  · subst h0
    have EE := Lib.hid (E.out W3 (Below.then hb2 hb3) _ _ (hob.keep hb3).strs)
    have HO := Lib.hid (show fullL l d = blobsO l t.bs from HF.out)
    clear hom hob hb2 hb3 hW3
    go_upto_region 2 with fail
    rw [HW3.out]
    go_wp2_with fail
    refine EE.out.mono ?_
    rintro e w4 ⟨rfl, hb4⟩
    have HB4 := Lib.hid (Below.then HB3.out hb4)
    clear hb4
    go_wp2_with fail
    go_ret
    exact ⟨by rw [HO.out]; rfl, HB4.out⟩
  · have HO := Lib.hid (show fullL l d = k by rw [HF.out, if_neg h0])
    have q : (k != 0) = true := bne_iff_ne.2 h0
    clear hom hob hb2 hb3 hW3 h0
    go_upto_region 2 with fail
    rw [HW3.out]
    go_wp2_with fail
    go_ret
    exact ⟨by rw [HO.out]; rfl, HB3.out⟩
end Go.Proofs.YtepcaglekgeamaaGreatDoor
