/-
  The document's Find of an object, by a contract. Conditions: objects as ObjsFew says.
  The document's walk: its state, what keeps it; has, by a contract. Conditions: none.
-/
import Derived.Test.YtepcaglekgeamaaGreatDoorYClo1
import Derived.Test.YtepcaglekgeamaaGreatDoorYRefD
import Derived.Test.YtepcaglekgeamaaGreatDoorYRfSu
import Derived.Test.YtepcaglekgeamaaGreatDoorYClo2
namespace Go.Proofs.YtepcaglekgeamaaGreatDoor
open Go.RowKit

set_option maxRecDepth 100000 in
set_option maxHeartbeats 4000000 in
theorem refFind_t (v : Value) (l : List Obj) (d : ByteArray) (w : World) (hv : ObjsAt w v l) (hf : ObjsFew l) :
    Calls Tryz.prog 7 #[v, .string d] w fun e w' => e = .returned (.tuple #[.string (findO l d).1, .int .i64 (findO l d).2]) ∧ Below w.heap.size w w' := by
  obtain ⟨a, cap, rfl, -, -⟩ := hv.shape
  have hl := hf.len
  obtain ⟨n, hn⟩ : ∃ n, l.length = n := ⟨_, rfl⟩
  have HP := Lib.hid hv
  rw [hn] at hl HP ⊢
  have HN := Lib.hid hn
  have HF := Lib.hid hf
  have P := Lib.hid (fun w' => refParse_any d w')
  clear hv hn hf
  go_enter Tryz.func7, Tryz.ntmps7
  go_wp2_with fail
  go_loopw [12] (fun iv wr => ∃ k : Nat, k ≤ n ∧ iv = .int .i64 k ∧ (∀ j (hj : j < l.length), j < k → l[j].1 ≠ d) ∧ Below w.heap.size w wr) (fun i _ => n - (intOf i).toNat)
  case atStart => exact ⟨0, Nat.zero_le _, rfl, fun j _ h => absurd h (Nat.not_lt_zero j), Below.refl _ _⟩
  case round =>
    obtain ⟨k, hk, rfl, hno, hb⟩ := hrel
    have HNO := Lib.hid hno
    by_cases hlt : k < n
    · have h1 : k < l.length := by rw [HN.out]; exact hlt
      obtain ⟨lb, lo, rfl, e0, e1⟩ := HP.out.cells k h1
      have v0 := (hb.cell (World.block_lt_of_cell? _ _ e0)).trans e0
      have v1 := (hb.cell (World.block_lt_of_cell? _ _ e1)).trans e1
      have hxs := HF.out.size _ (List.getElem_mem h1)
      have hat := fun h => findO_at l d k h1 h HNO.out
      obtain ⟨⟨x, y⟩, hx⟩ : ∃ x, l[k] = x := ⟨_, rfl⟩
      rw [hx] at v0 v1 hxs
      have hys : y.size ≤ 1048576 := hxs.2
      have HX := Lib.hid (show l[k].1 = x by rw [hx])
      obtain ⟨W8, hW8⟩ : ∃ W8, wr.alloc (.cells #[.string x, .string y] 40) = W8 := ⟨_, rfl⟩
      have hb8 : Below wr.heap.size wr W8 := by rw [← hW8]; exact below_new _ _
      have hA : At2 40 W8 wr.heap.size (.string x) (.string y) := by rw [← hW8]; exact At2.new _ _ _ _
      obtain ⟨t0, t1⟩ := hA.cells
      have HA := Lib.hid hA
      have HW8 := Lib.hid hW8
      have HB8 := Lib.hid (Below.then hb hb8)
      have SM := Lib.hid (fun w' => show Calls Tryz.prog 19 #[.string y] w' fun e w'' => e = .returned (.string (sumB y)) ∧ Below w'.heap.size w' w'' from refSum_any y w' (by omega))
      have HAT := Lib.hid (show x = d → findO l d = if fitsD x y = 0 then (y, 0) else (⟨#[]⟩, 10) from fun h => by
        have h2 := hat (HX.out.trans h)
        rwa [hx] at h2)
      have HNN := Lib.hid (show x ≠ d → ∀ j (hj : j < l.length), j < k + 1 → l[j].1 ≠ d from fun hxd j hj h => by
        rcases Nat.lt_succ_iff_lt_or_eq.1 h with h | rfl
        · exact HNO.out j hj h
        · rw [HX.out]; exact hxd)
      have HK0 := Lib.hid (show k = 0 → wr.cell? ⟨lb, lo, none⟩ = some (.string x) ∧ wr.cell? ⟨lb, lo + 1, none⟩ = some (.string y) from fun h => by
        subst h
        exact ⟨by simpa using v0, by simpa using v1⟩)
      clear hno hb e0 e1 hx hat hW8 hb8 hA hxs
      by_cases hxd : x = d
      · subst hxd
        have qa : (x.toList == x.toList) = true := by simp
        have qb : (x.toList != x.toList) = false := by rw [bne_self_eq_false]
        have HO := Lib.hid (HAT.out rfl)
        clear HAT HNN
        rcases Nat.eq_zero_or_pos k with rfl | hk0
        · obtain ⟨v0', v1'⟩ := HK0.out rfl
          go_upto_region 4 with fail
          rw [HW8.out]
          go_wp2_with fail
          refine (P.out W8).mono ?_
          rintro e w2 ⟨y', b, rfl, hc, hb2⟩
          have HB2 := Lib.hid (Below.then HB8.out hb2)
          obtain ⟨u0, u1⟩ := (HA.out.keep hb2).cells
          clear hb2 t0 t1 v0 v1 v0' v1'
          rcases hc with ⟨rfl, hp⟩ | ⟨rfl, hp⟩
          · have HFT := Lib.hid (show fitsD x y = if sumB y = y' then 0 else 10 by unfold fitsD; rw [hp]; rfl)
            clear hp
            by_cases hsy : sumB y = y'
            · have HR := Lib.hid (show findO l x = (y, 0) by rw [HO.out, HFT.out, if_pos hsy]; rfl)
              have qs : ((sumB y).toList != y'.toList) = false := by rw [hsy, bne_self_eq_false]
              have qt : ((sumB y).toList == y'.toList) = true := by rw [hsy]; simp
              clear hsy
              go_wp2_with fail
              refine (SM.out w2).mono ?_
              rintro e w3 ⟨rfl, hb3⟩
              have HB3 := Lib.hid (Below.then HB2.out hb3)
              have r1 := (hb3.cell (World.block_lt_of_cell? _ _ u1)).trans u1
              clear hb3 u0 u1
              go_wp2_with fail
              go_ret2
              exact ⟨by rw [HR.out]; rfl, HB3.out⟩
            · have HR := Lib.hid (show findO l x = (⟨#[]⟩, 10) by rw [HO.out, HFT.out, if_neg hsy]; rfl)
              have qt : ((sumB y).toList == y'.toList) = false := by rw [toList_beq]; exact decide_eq_false hsy
              have qs : ((sumB y).toList != y'.toList) = true := by rw [bne, qt]; rfl
              clear hsy
              go_wp2_with fail
              refine (SM.out w2).mono ?_
              rintro e w3 ⟨rfl, hb3⟩
              have HB3 := Lib.hid (Below.then HB2.out hb3)
              clear hb3 u0 u1
              go_wp2_with fail
              go_ret2
              exact ⟨by rw [HR.out]; rfl, HB3.out⟩
          · have HR := Lib.hid (show findO l x = (⟨#[]⟩, 10) by
              rw [HO.out, if_neg]
              unfold fitsD; rw [hp]; simp)
            clear hp
            go_wp2_with fail
            go_ret2
            exact ⟨by rw [HR.out]; rfl, HB2.out⟩
        · go_upto_region 4 with fail
          rw [HW8.out]
          go_wp2_with fail
          refine (P.out W8).mono ?_
          rintro e w2 ⟨y', b, rfl, hc, hb2⟩
          have HB2 := Lib.hid (Below.then HB8.out hb2)
          obtain ⟨u0, u1⟩ := (HA.out.keep hb2).cells
          clear hb2 t0 t1 v0 v1
          rcases hc with ⟨rfl, hp⟩ | ⟨rfl, hp⟩
          · have HFT := Lib.hid (show fitsD x y = if sumB y = y' then 0 else 10 by unfold fitsD; rw [hp]; rfl)
            clear hp
            by_cases hsy : sumB y = y'
            · have HR := Lib.hid (show findO l x = (y, 0) by rw [HO.out, HFT.out, if_pos hsy]; rfl)
              have qs : ((sumB y).toList != y'.toList) = false := by rw [hsy, bne_self_eq_false]
              have qt : ((sumB y).toList == y'.toList) = true := by rw [hsy]; simp
              clear hsy
              go_wp2_with fail
              refine (SM.out w2).mono ?_
              rintro e w3 ⟨rfl, hb3⟩
              have HB3 := Lib.hid (Below.then HB2.out hb3)
              have r1 := (hb3.cell (World.block_lt_of_cell? _ _ u1)).trans u1
              clear hb3 u0 u1
              go_wp2_with fail
              go_ret2
              exact ⟨by rw [HR.out]; rfl, HB3.out⟩
            · have HR := Lib.hid (show findO l x = (⟨#[]⟩, 10) by rw [HO.out, HFT.out, if_neg hsy]; rfl)
              have qt : ((sumB y).toList == y'.toList) = false := by rw [toList_beq]; exact decide_eq_false hsy
              have qs : ((sumB y).toList != y'.toList) = true := by rw [bne, qt]; rfl
              clear hsy
              go_wp2_with fail
              refine (SM.out w2).mono ?_
              rintro e w3 ⟨rfl, hb3⟩
              have HB3 := Lib.hid (Below.then HB2.out hb3)
              clear hb3 u0 u1
              go_wp2_with fail
              go_ret2
              exact ⟨by rw [HR.out]; rfl, HB3.out⟩
          · have HR := Lib.hid (show findO l x = (⟨#[]⟩, 10) by
              rw [HO.out, if_neg]
              unfold fitsD; rw [hp]; simp)
            clear hp
            go_wp2_with fail
            go_ret2
            exact ⟨by rw [HR.out]; rfl, HB2.out⟩
      · have qa : (x.toList == d.toList) = false := by rw [toList_beq]; exact decide_eq_false hxd
        have qb : (x.toList != d.toList) = true := by rw [bne, qa]; rfl
        have HQ := Lib.hid (HNN.out hxd)
        clear hxd HNN HAT
        rcases Nat.eq_zero_or_pos k with rfl | hk0
        · obtain ⟨v0', v1'⟩ := HK0.out rfl
          go_upto_region 4 with fail
          rw [HW8.out]
          go_wp2_with fail
          go_roundw
          case rel => exact ⟨1, by omega, by go_num, HQ.out, HB8.out⟩
          case measure => simp [intOf]; omega
        · go_upto_region 4 with fail
          rw [HW8.out]
          go_wp2_with fail
          go_roundw
          case rel => exact ⟨k + 1, by omega, by go_num, HQ.out, HB8.out⟩
          case measure => simp [intOf]; omega
    · have HFN := Lib.hid (findO_none' (show ∀ o ∈ l, o.1 ≠ d from fun o ho => by
        obtain ⟨j, hj, rfl⟩ := List.getElem_of_mem ho
        exact hno j hj (by have := HN.out; omega)))
      have HB := Lib.hid hb
      clear hno hb
      go_wp2_with fail
      go_ret2
      exact ⟨by rw [HFN.out]; rfl, HB.out⟩
end Go.Proofs.YtepcaglekgeamaaGreatDoor
namespace Go.Proofs.YtepcaglekgeamaaGreatDoor
open Go.RowKit

set_option maxRecDepth 100000 in
set_option maxHeartbeats 1000000 in
theorem refHas_t (v : Value) (l : List ByteArray) (s : ByteArray) (w : World) (h : StrsAt w v l) :
    Calls Tryz.prog 21 #[v, .string s] w fun e w' => e = .returned (.bool (decide (s ∈ l))) ∧ w' = w := by
  have hl := h.len
  unfold maxLen at hl
  rcases h with ⟨rfl, h⟩ | ⟨b, o, cap, rfl, h2, h3, h4, h5⟩
  · obtain ⟨a, c, rfl⟩ : ∃ a c, v = .slice a 0 c := by
      rcases h with rfl | ⟨a, c, rfl, -⟩
      · exact ⟨_, _, rfl⟩
      · exact ⟨_, _, rfl⟩
    go_enter Tryz.func21, Tryz.ntmps21
    go_wp2_with fail
    refine wp_loop_rounds 1 ?_
    rw [rounds_succ]
    go_wp2_with fail
    go_ret
    exact ⟨by simp, rfl⟩
  · have H5 := Lib.hid h5
    clear h5 h4
    go_enter Tryz.func21, Tryz.ntmps21
    go_wp2_with fail
    go_loop [9] (fun i => ∃ k : Nat, k ≤ l.length ∧ i = .int .i64 k ∧ s ∉ l.take k) (fun i => l.length - (intOf i).toNat)
    case atStart => exact ⟨0, Nat.zero_le _, rfl, by simp⟩
    case round =>
      obtain ⟨k, hk, rfl, hall⟩ := hrel
      have HA := Lib.hid hall
      clear hall
      by_cases hlt : k < l.length
      · have hc := H5.out k hlt
        have hts := Lib.hid (List.take_succ_eq_append_getElem hlt)
        have HM := Lib.hid (List.getElem_mem hlt)
        obtain ⟨x, hx⟩ : ∃ x, l[k] = x := ⟨_, rfl⟩
        rw [hx] at hc hts HM
        clear hx
        by_cases hxs : x = s
        · subst hxs
          have q : (x.toList == x.toList) = true := by simp
          have HO := Lib.hid (show decide (x ∈ l) = true from decide_eq_true HM.out)
          go_wp2_with fail
          go_ret
          exact ⟨by rw [HO.out]; rfl, rfl⟩
        · have q : (x.toList == s.toList) = false := by rw [beqB]; exact decide_eq_false hxs
          have HN := Lib.hid (show s ∉ l.take (k + 1) by
            rw [hts.out, List.mem_append, List.mem_singleton]
            rintro (h | h)
            · exact HA.out h
            · exact hxs h.symm)
          clear hxs
          go_wp2_with fail
          go_round
          case rel => exact ⟨k + 1, by omega, by go_num, HN.out⟩
          case measure => simp [intOf]; omega
      · have HO := Lib.hid (show decide (s ∈ l) = false by
          have := HA.out
          rw [List.take_of_length_le (by omega)] at this
          exact decide_eq_false this)
        go_wp2_with fail
        go_ret
        exact ⟨by rw [HO.out]; rfl, rfl⟩

structure RSt (K : Nat → Prop) (w0 : World) (mv bv : Value) (nm nb : Nat) (t : Wk) (w : World) : Prop where
  ms : OwnS w w0.heap.size mv nm t.ms
  bs : OwnS w w0.heap.size bv nb t.bs
  apart : ∀ g, mv.ownBlock = some g → bv.ownBlock ≠ some g
  freeM : ∀ g, mv.ownBlock = some g → ¬ K g
  freeS : ∀ g, bv.ownBlock = some g → ¬ K g
  under : ∀ k, K k → k < w.heap.size
  base : Below w0.heap.size w0 w
section
variable {K : Nat → Prop} {w0 : World} {mv bv : Value} {nm nb : Nat} {t : Wk} {w w' : World}

theorem RSt.step (hK : ∀ k, k < w0.heap.size → K k) (h : RSt K w0 mv bv nm nb t w) (hk : Kept K w w') : Below w0.heap.size w0 w' := Kept.low hK h.base h.base.size hk

theorem RSt.below (hK : ∀ k, k < w0.heap.size → K k) (h : RSt K w0 mv bv nm nb t w) (hb : Below w.heap.size w w') : RSt K w0 mv bv nm nb t w' :=
  ⟨h.ms.keep hb, h.bs.keep hb, h.apart, h.freeM, h.freeS, fun k hk => Nat.lt_of_lt_of_le (h.under k hk) hb.size, h.step hK (.of_below hb)⟩

theorem RSt.more {K' : Nat → Prop} (h : RSt K w0 mv bv nm nb t w) (hu : ∀ k, K' k → k < w.heap.size) (hM : ∀ g, mv.ownBlock = some g → ¬ K' g) (hS : ∀ g, bv.ownBlock = some g → ¬ K' g) : RSt K' w0 mv bv nm nb t w :=
  ⟨h.ms, h.bs, h.apart, hM, hS, hu, h.base⟩

theorem RSt.other (h : RSt K w0 mv bv nm nb t w) {B : Nat} (hB : K B) (hB0 : w0.heap.size ≤ B) (j : Nat) (u : Value) : RSt K w0 mv bv nm nb t (w.setCell ⟨B, j, none⟩ u) :=
  ⟨⟨h.ms.len, own_block h.ms.own fun g hg => Below.heap_setCell _ _ _ _ (fun e => h.freeM g hg (by have e : g = B := e; rw [e]; exact hB))⟩,
   ⟨h.bs.len, own_block h.bs.own fun g hg => Below.heap_setCell _ _ _ _ (fun e => h.freeS g hg (by have e : g = B := e; rw [e]; exact hB))⟩,
   h.apart, h.freeM, h.freeS, fun k hk => by rw [setCell_size]; exact h.under k hk, h.base.setCell (p := ⟨B, j, none⟩) hB0 u⟩

theorem RSt.pushB (hK : ∀ k, k < w0.heap.size → K k) (h : RSt K w0 mv bv nm nb t w) {g cap : Nat} {p : ByteArray} (ho : OwnS w' w0.heap.size (.slice (some ⟨g, 0, none⟩) (nb + 1) cap) (nb + 1) (t.bs ++ [p])) (hg : w.grownBy w' bv.ownBlock) (hor : bv.ownBlock = some g ∨ g = w.heap.size) :
    RSt K w0 mv (.slice (some ⟨g, 0, none⟩) (nb + 1) cap) nm (nb + 1) ⟨t.ms, t.bs ++ [p]⟩ w' ∧ Kept K w w' := by
  have hk : Kept K w w' := Kept.grown hg h.freeS
  have hgK : ¬ K g := by
    rcases hor with e | rfl
    · exact h.freeS g e
    · exact fun hK => Nat.lt_irrefl _ (h.under _ hK)
  refine ⟨⟨h.ms.grown hg ?_, ho, fun g' e e' => ?_, h.freeM, fun g' e => ?_, fun k hk => Nat.lt_of_lt_of_le (h.under k hk) hg.size, h.step hK hk⟩, hk⟩
  · cases hm : mv.ownBlock with
    | none => exact Or.inl rfl
    | some g' => exact Or.inr fun e => h.apart g' hm e.symm
  · obtain rfl : g = g' := by simpa [Value.ownBlock] using e'
    rcases hor with e2 | rfl
    · exact h.apart g e e2
    · exact Nat.lt_irrefl _ (h.ms.lt _ e).2
  · obtain rfl : g = g' := by simpa [Value.ownBlock] using e
    exact hgK

theorem RSt.pushM (hK : ∀ k, k < w0.heap.size → K k) (h : RSt K w0 mv bv nm nb t w) {g cap : Nat} {p : ByteArray} (ho : OwnS w' w0.heap.size (.slice (some ⟨g, 0, none⟩) (nm + 1) cap) (nm + 1) (t.ms ++ [p])) (hg : w.grownBy w' mv.ownBlock) (hor : mv.ownBlock = some g ∨ g = w.heap.size) :
    RSt K w0 (.slice (some ⟨g, 0, none⟩) (nm + 1) cap) bv (nm + 1) nb ⟨t.ms ++ [p], t.bs⟩ w' ∧ Kept K w w' := by
  have hk : Kept K w w' := Kept.grown hg h.freeM
  have hgK : ¬ K g := by
    rcases hor with e | rfl
    · exact h.freeM g e
    · exact fun hK => Nat.lt_irrefl _ (h.under _ hK)
  refine ⟨⟨ho, h.bs.grown hg ?_, fun g' e e' => ?_, fun g' e => ?_, h.freeS, fun k hk => Nat.lt_of_lt_of_le (h.under k hk) hg.size, h.step hK hk⟩, hk⟩
  · cases hm : bv.ownBlock with
    | none => exact Or.inl rfl
    | some g' => exact Or.inr fun e => h.apart g' e.symm hm
  · obtain rfl : g = g' := by simpa [Value.ownBlock] using e
    rcases hor with e2 | rfl
    · exact h.apart g e2 e'
    · exact Nat.lt_irrefl _ (h.bs.lt _ e').2
  · obtain rfl : g = g' := by simpa [Value.ownBlock] using e
    exact hgK
end

def TAt (w : World) (B : Nat) (a b c : Value) : Prop := w.heap[B]? = some (.cells #[a, b, c] 33 (0, 0))

theorem TAt.lt {w : World} {B : Nat} {a b c : Value} (h : TAt w B a b c) : B < w.heap.size := (Array.getElem?_eq_some_iff.1 h).1

theorem TAt.block {w w' : World} {B : Nat} {a b c : Value} (h : TAt w B a b c) (hb : w'.heap[B]? = w.heap[B]?) : TAt w' B a b c := hb.trans h

theorem TAt.keep {w w' : World} {B : Nat} {a b c : Value} (h : TAt w B a b c) (hb : Below w.heap.size w w') : TAt w' B a b c := h.block (hb.block B h.lt)

theorem TAt.new (w : World) (a b c : Value) : TAt (w.alloc (.cells #[a, b, c] 33)) w.heap.size a b c := heap_alloc_new w _

theorem TAt.cells {w : World} {B : Nat} {a b c : Value} (h : TAt w B a b c) : w.cell? ⟨B, 0, none⟩ = some a ∧ w.cell? ⟨B, 1, none⟩ = some b ∧ w.cell? ⟨B, 2, none⟩ = some c := by
  unfold TAt at h
  refine ⟨?_, ?_, ?_⟩ <;> simp [World.cell?, h]

theorem TAt.frozen {w : World} {B : Nat} {a b c : Value} (h : TAt w B a b c) (j : Nat) : w.frozen? ⟨B, j, none⟩ = false := by
  unfold TAt at h; simp [World.frozen?, h]

theorem TAt.put0 {w : World} {B : Nat} {a b c : Value} (h : TAt w B a b c) (u : Value) : TAt (w.setCell ⟨B, 0, none⟩ u) B u b c := by unfold TAt; rw [heap_setCell_same _ _ _ _ _ _ h]; rfl

theorem TAt.put1 {w : World} {B : Nat} {a b c : Value} (h : TAt w B a b c) (u : Value) : TAt (w.setCell ⟨B, 1, none⟩ u) B a u c := by unfold TAt; rw [heap_setCell_same _ _ _ _ _ _ h]; rfl

def set3 (w : World) (B : Nat) (a b c : Value) : World := ((w.setCell ⟨B, 0, none⟩ a).setCell ⟨B, 1, none⟩ b).setCell ⟨B, 2, none⟩ c

theorem set3_block (w : World) (B : Nat) (a b c : Value) (k : Nat) (h : k ≠ B) : (set3 w B a b c).heap[k]? = w.heap[k]? := by
  unfold set3
  rw [Below.heap_setCell _ _ _ _ h, Below.heap_setCell _ _ _ _ h, Below.heap_setCell _ _ _ _ h]

theorem set3_at {w : World} {B : Nat} {a b c : Value} (h : TAt w B a b c) (a' b' c' : Value) : TAt (set3 w B a' b' c') B a' b' c' := by
  have st : ∀ {w : World} {cs : Array Value} {j : Nat} {u : Value}, w.heap[B]? = some (.cells cs 33 (0, 0)) → (w.setCell ⟨B, j, none⟩ u).heap[B]? = some (.cells (cs.setIfInBounds j u) 33 (0, 0)) := by
    intro w cs j u h
    show (w.heap.modify B _)[B]? = _
    rw [Array.getElem?_modify, if_pos rfl, h]
    rfl
  exact st (st (st h))

theorem Kept.set3 {K : Nat → Prop} {w : World} {B : Nat} (h : ¬ K B) (a b c : Value) : Kept K w (set3 w B a b c) := ((Kept.set h 0 a).trans (Kept.set h 1 b)).trans (Kept.set h 2 c)

theorem RSt.set3 {K : Nat → Prop} {w0 w : World} {mv bv : Value} {nm nb : Nat} {t : Wk} (h : RSt K w0 mv bv nm nb t w) {B : Nat} (hB : K B) (hB0 : w0.heap.size ≤ B) (a b c : Value) : RSt K w0 mv bv nm nb t (set3 w B a b c) := ((h.other hB hB0 0 a).other hB hB0 1 b).other hB hB0 2 c

theorem walkTSize : (Tryz.prog.info? 33).map (·.size) = some 3 := by kernel_rfl
end Go.Proofs.YtepcaglekgeamaaGreatDoor
