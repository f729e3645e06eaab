/-
  The laws' few of blobs, by a contract. Conditions: none.
  What the laws over any blobs share: contracts in one shape, and what the calls' answers are. Conditions: none.
-/
import Derived.Test.YtodjhmphneoifaaGreatDoorZPrg4
import Derived.Deep.RegionHeld3
import Derived.Deep.AppendLies
import Derived.Lib.MinMax
import Derived.Test.YtodjhmphneoifaaGreatDoorZRefB2
import Derived.Test.YtodjhmphneoifaaGreatDoorZLaw1
/-! The laws' few of blobs, by a contract. Conditions: none. -/
namespace Go.Proofs.YtodjhmphneoifaaGreatDoor
open Go.RowKit Go.WideShapes

def cutO (o : ByteArray × ByteArray) : ByteArray × ByteArray := (o.1, o.2.extract 0 (min o.2.size 300))
def fewB (b : Blb) : Blb := ⟨(b.objs.take 66).map cutO, b.quota, b.ups.take 18, b.last⟩
theorem few_ocell (o : ByteArray × ByteArray) : ∀ u ∈ [Value.string o.1, Value.string o.2], u.oneCell' = true := by
  intro u hu; simp at hu; rcases hu with rfl | rfl <;> rfl
theorem few_next {w : World} {base Bo n i : Nat} {e : TypeId} {v x : Value} {l l' : List (Value × Value)} {o : ByteArray × ByteArray} (h : w.ownsRow base e 2 v n (cellsL l ++ [.string o.1, .string o.2]))
    (hl : l' = l ++ [objCell o]) (hlt : Bo < base) : (w.setCell ⟨Bo, i, none⟩ x).ownsRow base e 2 v n (cellsL l') := by
  have h' := own_same (w' := w.setCell ⟨Bo, i, none⟩ x) h fun g hg => by rw [Below.heap_setCell _ _ _ _ (show g ≠ Bo by omega)]
  rw [hl, cellsL_append]; exact h'
theorem few_next_u {w : World} {base Bo n i : Nat} {e : TypeId} {v x : Value} {l l' : List (Value × Value)} {u : Int × ByteArray} (h : w.ownsRow base e 2 v n (cellsL l ++ [.int .i64 u.1, .string u.2]))
    (hl : l' = l ++ [upCell u]) (hlt : Bo < base) : (w.setCell ⟨Bo, i, none⟩ x).ownsRow base e 2 v n (cellsL l') := by
  have h' := own_same (w' := w.setCell ⟨Bo, i, none⟩ x) h fun g hg => by rw [Below.heap_setCell _ _ _ _ (show g ≠ Bo by omega)]
  rw [hl, cellsL_append]; exact h'
theorem few_ucell (u : Int × ByteArray) : ∀ x ∈ [Value.int .i64 u.1, Value.string u.2], x.oneCell' = true := by
  intro x hx; simp at hx; rcases hx with rfl | rfl <;> rfl
theorem few_lt1 {w : World} {o : Obj} {B : Nat} (h : B < w.heap.size) : B < (w.alloc o).drew.heap.size := by
  show B < (w.alloc o).heap.size
  rw [World.size_alloc]; omega
theorem few_far {w : World} {Bo B i j : Nat} {v x : Value} (h : w.cell? ⟨B, j, none⟩ = some v) (hne : Bo ≠ B) : (w.setCell ⟨Bo, i, none⟩ x).cell? ⟨B, j, none⟩ = some v := by
  rw [World.cell?_setCell_far _ _ _ _ (by exact hne)]; exact h
theorem few_row {w : World} {base Bo n i : Nat} {e : TypeId} {v x : Value} {xs : List Value} (h : w.ownsRow base e 2 v n xs) (hlt : Bo < base) : (w.setCell ⟨Bo, i, none⟩ x).ownsRow base e 2 v n xs :=
  own_same h fun g hg => by rw [Below.heap_setCell _ _ _ _ (show g ≠ Bo by omega)]
theorem few_below {B Bo i : Nat} {W W1 w3 : World} {x : Value} (h1 : Below Bo W W1) (h3 : Below B W1 w3) (hlt : Bo < B) : Below Bo W (w3.setCell ⟨Bo, i, none⟩ x) :=
  (h1.trans (h3.mono (Nat.le_of_lt hlt))).setCell (p := ⟨Bo, i, none⟩) (Nat.le_refl _) _
theorem few_end {w W W2 wr : World} {b : Blb} {Bo k k9 j n m : Nat} {vo vu : Value} {q l : Int}
    (hO : wr.ownsRow W.heap.size 43 2 vo k9 (cellsL (((b.objs.take k9).map cutO).map objCell))) (hU : wr.ownsRow W2.heap.size 40 2 vu j (cellsL ((b.ups.take j).map upCell)))
    (hB : Below w.heap.size w W) (hBR : Below Bo W wr) (h2 : Bo = w.heap.size + 2) (h1 : W.heap.size = Bo + 1) (hs : W.heap.size ≤ W2.heap.size)
    (hQ : b.objs.length = n ∧ b.ups.length = m ∧ b.quota = q ∧ b.last = l) (hk9 : k = k9) (hK : min n 66 = k ∧ min m 18 = j)
    (hV : (∀ o ∈ b.objs, o.1.size ≤ maxLen ∧ o.2.size ≤ maxLen) ∧ (∀ u ∈ b.ups, u.2.size ≤ maxLen ∧ -9223372036854775808 ≤ u.1 ∧ u.1 ≤ 9223372036854775807) ∧ (-9223372036854775808 ≤ b.quota ∧ b.quota ≤ 9223372036854775807) ∧ (-9223372036854775808 ≤ b.last ∧ b.last ≤ 9223372036854775807)) :
    ∃ v', Ending.returned (.agg #[vo, .int .i64 q, vu, .int .i64 l]) = .returned v' ∧ BlbAt (set4 wr (w.heap.size + 1) vo (.int .i64 q) vu (.int .i64 l)) v' (fewB b) ∧ Below w.heap.size w (set4 wr (w.heap.size + 1) vo (.int .i64 q) vu (.int .i64 l)) := by
  obtain ⟨hn, hm, rfl, rfl⟩ := hQ
  subst hk9
  have e1 : b.objs.take k = b.objs.take 66 := by rw [← hK.1, ← hn, List.take_eq_take_iff]; omega
  have e2 : b.ups.take j = b.ups.take 18 := by rw [← hK.2, ← hm, List.take_eq_take_iff]; omega
  have hO' := own_same (w' := set4 wr (w.heap.size + 1) vo (.int .i64 b.quota) vu (.int .i64 b.last)) hO fun g hg => set4_block _ _ _ _ _ _ _ (show g ≠ w.heap.size + 1 by omega)
  have hU' := own_same (w' := set4 wr (w.heap.size + 1) vo (.int .i64 b.quota) vu (.int .i64 b.last)) hU fun g hg => set4_block _ _ _ _ _ _ _ (show g ≠ w.heap.size + 1 by omega)
  rw [e1] at hO'
  rw [e2] at hU'
  refine ⟨_, rfl, ⟨⟨vo, vu, rfl, PairsAt.of_own hO' ?_, PairsAt.of_own hU' ?_⟩, ?_, ?_, hV.2.2.1, hV.2.2.2⟩, set4_below (hB.trans (hBR.mono (by omega))) (by omega) _ _ _ _⟩
  · show (List.map objCell (List.map cutO (b.objs.take 66))).length = k
    rw [List.length_map, List.length_map, List.length_take]; omega
  · show (List.map upCell (b.ups.take 18)).length = j
    rw [List.length_map, List.length_take]; omega
  · intro o ho
    obtain ⟨p, hp, rfl⟩ := List.mem_map.1 ho
    have := hV.1 p (List.mem_of_mem_take hp)
    refine ⟨this.1, ?_⟩
    show (p.2.extract 0 (min p.2.size 300)).size ≤ _
    rw [ByteArray.size_extract]; omega
  · intro u hu; exact hV.2.1 u (List.mem_of_mem_take hu)
theorem fewB_few (b : Blb) : FewIs (fewB b) := ⟨by show (List.map _ (b.objs.take 66)).length ≤ 100; rw [List.length_map, List.length_take]; omega, fun o ho => by obtain ⟨p, hp, rfl⟩ := List.mem_map.1 ho; show (p.2.extract 0 (min p.2.size 300)).size ≤ 5000; rw [ByteArray.size_extract]; omega⟩
set_option maxRecDepth 100000 in
set_option maxHeartbeats 4000000 in
theorem bfew_t (v : Value) (b : Blb) (w : World) (h : BlbAt w v b) : Calls Tryz.prog 6 #[v] w fun e w' => ∃ v', e = .returned v' ∧ BlbAt w' v' (fewB b) ∧ Below w.heap.size w w' := by
  obtain ⟨i0, hi, hz0, hz1, hz2⟩ := info_parts infoObj
  obtain ⟨i1, hi1, hy0, hy1, hy2⟩ := info_parts infoUp
  have HV := Lib.hid h
  obtain ⟨ov, uv, rfl, ho, hu⟩ := h.is
  obtain ⟨a, c, rfl, k1, k2⟩ := ho.shape3
  obtain ⟨a', c', rfl, k3, k4⟩ := hu.shape3
  rw [List.length_map] at ho hu k1 k3 HV ⊢
  rw [List.length_map] at HV ⊢
  obtain ⟨n, hn⟩ : ∃ x, b.objs.length = x := ⟨_, rfl⟩
  obtain ⟨m, hm⟩ : ∃ x, b.ups.length = x := ⟨_, rfl⟩
  obtain ⟨q, hq⟩ : ∃ x, b.quota = x := ⟨_, rfl⟩
  obtain ⟨l, hl⟩ : ∃ x, b.last = x := ⟨_, rfl⟩
  rw [hn, hm, hq, hl] at HV ⊢
  rw [hn] at ho k1
  rw [hm] at hu k3
  obtain ⟨k0, hk0⟩ : ∃ k, min n 66 = k := ⟨_, rfl⟩
  obtain ⟨j0, hj0⟩ : ∃ k, min m 18 = k := ⟨_, rfl⟩
  have hkn : k0 ≤ n ∧ k0 ≤ 66 := by omega
  have hjm : j0 ≤ m ∧ j0 ≤ 18 := by omega
  have q1 : min (n : Int) 66 = (k0 : Int) := by omega
  have q2 : min (m : Int) 18 = (j0 : Int) := by omega
  have q3 : (k0 : Int) ≤ (c : Int) := by omega
  have q4 : (j0 : Int) ≤ (c' : Int) := by omega
  unfold maxLen at k2 k4
  have HQ := Lib.hid (And.intro hn (And.intro hm (And.intro hq hl)))
  obtain ⟨W, hW⟩ : ∃ W, ((w.alloc (.cells #[.slice a n c, .int .i64 q, .slice a' m c', .int .i64 l] 25)).alloc (.cells #[nilV, zeroV, nilV, zeroV] 25)).alloc (.cells #[nilV, .int .i64 q, nilV, .int .i64 l] 25) = W := ⟨_, rfl⟩
  have HB := Lib.hid (show Below w.heap.size w W by rw [← hW]; exact Below.then (Below.then (below_new _ _) (below_new _ _)) (below_new _ _))
  have HA := Lib.hid (show At4 25 W w.heap.size (.slice a n c) (.int .i64 q) (.slice a' m c') (.int .i64 l) by rw [← hW]; exact ((At4.new _ _ _ _ _ _).keep (below_new _ _)).keep (below_new _ _))
  have HR := Lib.hid (show At4 25 W (w.heap.size + 1) nilV zeroV nilV zeroV by
    rw [← hW]
    have e := (At4.new 25 (w.alloc (.cells #[.slice a n c, .int .i64 q, .slice a' m c', .int .i64 l] 25)) nilV zeroV nilV zeroV).keep (below_new _ (.cells #[nilV, .int .i64 q, nilV, .int .i64 l] 25))
    rwa [World.size_alloc] at e)
  obtain ⟨Bo, hBo⟩ : ∃ B, w.heap.size + 1 + 1 = B := ⟨_, rfl⟩
  have HZ := Lib.hid (show At4 25 W Bo nilV (.int .i64 q) nilV (.int .i64 l) by
    rw [← hW, ← hBo]
    have e := At4.new 25 ((w.alloc (.cells #[.slice a n c, .int .i64 q, .slice a' m c', .int .i64 l] 25)).alloc (.cells #[nilV, zeroV, nilV, zeroV] 25)) nilV (.int .i64 q) nilV (.int .i64 l)
    rwa [World.size_alloc, World.size_alloc] at e)
  have HWS := Lib.hid (show W.heap.size = Bo + 1 ∧ Bo = w.heap.size + 2 by rw [← hW, ← hBo]; simp)
  have HPO := Lib.hid ho
  have HPU := Lib.hid hu
  have HW := Lib.hid hW
  have HK0 := Lib.hid (And.intro hk0 hj0)
  have HV0 := Lib.hid (And.intro h.objs (And.intro h.ups (And.intro h.quota h.last)))
  clear hW h ho hu hn hm hq hl hk0 hj0
  go_enter Tryz.func6, Tryz.ntmps6
  go_upto_region 2 with fail
  rw [HW.out]
  clear hBo
  obtain ⟨a0, a1, a2, a3⟩ := HA.out.cells
  go_wp2_with fail
  clear a0 a1 a2 a3
  go_loopw [21] (fun iv wr => ∃ k vo, k ≤ k0 ∧ iv = .int .i64 k ∧ wr.ownsRow W.heap.size 43 2 vo k (cellsL (((b.objs.take k).map cutO).map objCell)) ∧ At4 25 wr Bo vo (.int .i64 q) nilV (.int .i64 l) ∧ Below Bo W wr) (fun i _ => k0 - (intOf i).toNat)
  case atStart => exact ⟨0, nilV, Nat.zero_le _, rfl, World.ownsRow_nil _ _ _ _, HZ.out, Below.refl _ _⟩
  case round =>
    obtain ⟨k, vo, hk, rfl, hown, hat, hbr⟩ := hrel
    obtain ⟨so, ko, rfl⟩ := own_shape hown
    have HO := Lib.hid hown
    have HBo := Lib.hid hat
    have HBR := Lib.hid hbr
    clear hown hat hbr
    by_cases hlt : k < k0
    · have hkl : k < b.objs.length := by rw [HQ.out.1]; omega
      have HBW := Lib.hid (show Below w.heap.size w wr from HB.out.trans (HBR.out.mono (by have := HWS.out; omega)))
      obtain ⟨lb, lo, rfl, e0, e1⟩ := (HPO.out.keep HBW.out).at k (by rw [List.length_map]; exact hkl)
      rw [obj_getElem b.objs k hkl] at e0 e1
      have htk := List.take_succ_eq_append_getElem hkl
      obtain ⟨⟨x, y⟩, hx⟩ : ∃ x, b.objs[k] = x := ⟨_, rfl⟩
      rw [hx] at e0 e1 htk
      simp only at e0 e1
      obtain ⟨z, hz⟩ : ∃ z, min y.size 300 = z := ⟨_, rfl⟩
      have q5 : min (y.size : Int) 300 = (z : Int) := by omega
      have hzy : z ≤ y.size := by omega
      have HTK := Lib.hid (show ((b.objs.take (k + 1)).map cutO).map objCell = ((b.objs.take k).map cutO).map objCell ++ [objCell (x, y.extract 0 z)] by
        rw [htk, List.map_append, List.map_append, ← hz]; rfl)
      obtain ⟨W1, hW1⟩ : ∃ W1, wr.alloc (.cells #[.string x, .string y] 43) = W1 := ⟨_, rfl⟩
      obtain ⟨B1, hB1⟩ : ∃ B, wr.heap.size = B := ⟨_, rfl⟩
      have hB1l : Bo < B1 := by have h1 := HBR.out.size; have := HWS.out; omega
      have HX := Lib.hid (show At2 43 W1 B1 (.string x) (.string y) by rw [← hW1, ← hB1]; exact At2.new _ _ _ _)
      have HBo1 := Lib.hid (show At4 25 W1 Bo (.slice so k ko) (.int .i64 q) nilV (.int .i64 l) by rw [← hW1]; exact HBo.out.keep (below_new _ _))
      have HO1 := Lib.hid (show W1.ownsRow W.heap.size 43 2 (.slice so k ko) k (cellsL (((b.objs.take k).map cutO).map objCell)) by rw [← hW1]; exact HO.out.alloc _)
      have HNB := Lib.hid (show ∀ g, (Value.slice so k ko).ownBlock = some g → g ≠ B1 from fun g hg => by have := (own_lt HO.out hg).2; omega)
      have HB1 := Lib.hid (show Below Bo W W1 by rw [← hW1]; exact HBR.out.trans ((below_new _ _).mono (by omega)))
      have HW1 := Lib.hid hW1
      have HSZ := Lib.hid (show W.heap.size ≤ W1.heap.size + 1 by have := HB1.out.size; omega)
      clear hW1 hx htk hz
      go_upto_region 5 with fail
      rw [HW1.out]
      clear hB1
      obtain ⟨x0, x1⟩ := HX.out.cells
      obtain ⟨b0, b1, b2, b3⟩ := HBo1.out.cells
      have HSR := Lib.hid (HO1.out.drew.alloc (.cells #[.string x, .string (y.extract 0 z)] 43))
      have HS1 := Lib.hid (show W.heap.size ≤ (W1.drew.alloc (.cells #[.string x, .string (y.extract 0 z)] 43)).heap.size by rw [World.size_alloc]; exact HSZ.out)
      have HM1 := Lib.hid (show k + 1 ≤ maxLen by unfold maxLen; omega)
      have HM2 := Lib.hid (show (k + 1) * 32 ≤ 140737488355328 by omega)
      have HLE := Lib.hid (show W.heap.size ≤ W1.heap.size from by have := HB1.out.size; omega)
      have HLT := Lib.hid (show Bo < W.heap.size by have := HWS.out; omega)
      have HBB := Lib.hid hB1l
      have b0a : ∀ o, (W1.drew.alloc o).cell? ⟨Bo, 0, none⟩ = some (.slice so k ko) := fun o => Below.keepc (below_new W1.drew o) b0
      have x0a : ∀ o, (W1.drew.alloc o).cell? ⟨B1, 0, none⟩ = some (.string x) := fun o => Below.keepc (below_new W1.drew o) x0
      have x1a : ∀ o, (W1.drew.alloc o).cell? ⟨B1, 1, none⟩ = some (.string y) := fun o => Below.keepc (below_new W1.drew o) x1
      refine wp_region_held_drew (S := fun w' => w'.cell? ⟨B1, 0, none⟩ = some (.string x) ∧ w'.cell? ⟨B1, 1, none⟩ = some (.string y)) (by kernel_rfl) ?hSpo (fun hHeld => ?hRpo)
      case hSpo => exact ⟨x0, x1⟩
      refine wpAnyH_take (i := 0) (oi := { dst := some 25, op := Op.fieldAddr 25 (Operand.tmp 3) 0, type := 0, pos := "law.go:25", after := #[], guard := none }) (v := ?gvpo0) rfl (by kernel_rfl) (by kernel_rfl) (by kernel_rfl) (fun _ _ _ h => h) (Or.inl ⟨by rfl, ?gypo0⟩) (by assumption) ?grpo0
      case gypo0 => (intro w hSw; (try dsimp only at hSw); go_simp; try with_reducible rfl)
      try simp only [Act.put, List.setIfInBounds_toArray, List.set_cons_zero, List.set_cons_succ]
      refine wpAnyH_take (i := 2) (oi := { dst := some 27, op := Op.fieldAddr 43 (Operand.tmp 5) 0, type := 0, pos := "law.go:25", after := #[], guard := none }) (v := ?gvpo2) rfl (by kernel_rfl) (by kernel_rfl) (by kernel_rfl) (fun _ _ _ h => h) (Or.inl ⟨by rfl, ?gypo2⟩) (by assumption) ?grpo2
      case gypo2 => (intro w hSw; (try dsimp only at hSw); go_simp; try with_reducible rfl)
      try simp only [Act.put, List.setIfInBounds_toArray, List.set_cons_zero, List.set_cons_succ]
      refine wpAnyH_take (i := 3) (oi := { dst := some 28, op := Op.load 9 (Operand.tmp 27), type := 9, pos := "law.go:25", after := #[{ on := 2, ground := Ground.data }], guard := none }) (v := ?gvpo3) rfl (by kernel_rfl) (by kernel_rfl) (by kernel_rfl) (fun _ _ _ h => h) (Or.inl ⟨by rfl, ?gypo3⟩) (by assumption) ?grpo3
      case gypo3 => (intro w hSw; (try dsimp only at hSw); go_simp; try with_reducible rfl)
      try simp only [Act.put, List.setIfInBounds_toArray, List.set_cons_zero, List.set_cons_succ]
      refine wpAnyH_take (i := 4) (oi := { dst := some 29, op := Op.fieldAddr 43 (Operand.tmp 5) 1, type := 0, pos := "law.go:25", after := #[], guard := none }) (v := ?gvpo4) rfl (by kernel_rfl) (by kernel_rfl) (by kernel_rfl) (fun _ _ _ h => h) (Or.inl ⟨by rfl, ?gypo4⟩) (by assumption) ?grpo4
      case gypo4 => (intro w hSw; (try dsimp only at hSw); go_simp; try with_reducible rfl)
      try simp only [Act.put, List.setIfInBounds_toArray, List.set_cons_zero, List.set_cons_succ]
      refine wpAnyH_take (i := 5) (oi := { dst := some 30, op := Op.load 9 (Operand.tmp 29), type := 9, pos := "law.go:25", after := #[{ on := 4, ground := Ground.data }], guard := none }) (v := ?gvpo5) rfl (by kernel_rfl) (by kernel_rfl) (by kernel_rfl) (fun _ _ _ h => h) (Or.inl ⟨by rfl, ?gypo5⟩) (by assumption) ?grpo5
      case gypo5 => (intro w hSw; (try dsimp only at hSw); go_simp; try with_reducible rfl)
      try simp only [Act.put, List.setIfInBounds_toArray, List.set_cons_zero, List.set_cons_succ]
      refine wpAnyH_take (i := 6) (oi := { dst := some 31, op := Op.fieldAddr 43 (Operand.tmp 5) 1, type := 0, pos := "law.go:25", after := #[], guard := none }) (v := ?gvpo6) rfl (by kernel_rfl) (by kernel_rfl) (by kernel_rfl) (fun _ _ _ h => h) (Or.inl ⟨by rfl, ?gypo6⟩) (by assumption) ?grpo6
      case gypo6 => (intro w hSw; (try dsimp only at hSw); go_simp; try with_reducible rfl)
      try simp only [Act.put, List.setIfInBounds_toArray, List.set_cons_zero, List.set_cons_succ]
      refine wpAnyH_take (i := 7) (oi := { dst := some 32, op := Op.load 9 (Operand.tmp 31), type := 9, pos := "law.go:25", after := #[{ on := 6, ground := Ground.data }], guard := none }) (v := ?gvpo7) rfl (by kernel_rfl) (by kernel_rfl) (by kernel_rfl) (fun _ _ _ h => h) (Or.inl ⟨by rfl, ?gypo7⟩) (by assumption) ?grpo7
      case gypo7 => (intro w hSw; (try dsimp only at hSw); go_simp; try with_reducible rfl)
      try simp only [Act.put, List.setIfInBounds_toArray, List.set_cons_zero, List.set_cons_succ]
      refine wpAnyH_take (i := 8) (oi := { dst := some 33, op := Op.call { callee := Callee.builtin Builtin.len, args := #[Operand.tmp 32], argTypes := #[9] }, type := 3, pos := "law.go:25", after := #[{ on := 7, ground := Ground.data }], guard := none }) (v := ?gvpo8) rfl (by kernel_rfl) (by kernel_rfl) (by kernel_rfl) (fun _ _ _ h => h) (Or.inl ⟨by rfl, ?gypo8⟩) (by assumption) ?grpo8
      case gypo8 => (intro w hSw; (try dsimp only at hSw); go_simp; try with_reducible rfl)
      try simp only [Act.put, List.setIfInBounds_toArray, List.set_cons_zero, List.set_cons_succ]
      refine wpAnyH_take (i := 9) (oi := { dst := some 34, op := Op.call { callee := Callee.builtin Builtin.min, args := #[Operand.tmp 33, Operand.const (Value.int IntKind.i64 300)], argTypes := #[3, 3] }, type := 3, pos := "law.go:25", after := #[{ on := 8, ground := Ground.data }], guard := none }) (v := ?gvpo9) rfl (by kernel_rfl) (by kernel_rfl) (by kernel_rfl) (fun _ _ _ h => h) (Or.inl ⟨by rfl, ?gypo9⟩) (by assumption) ?grpo9
      case gypo9 => (intro w hSw; (try dsimp only at hSw); go_simp; try with_reducible rfl)
      try simp only [Act.put, List.setIfInBounds_toArray, List.set_cons_zero, List.set_cons_succ]
      refine wpAnyH_take (i := 10) (oi := { dst := some 35, op := Op.slice 9 (Operand.tmp 30) none (some (Operand.tmp 34)) none, type := 9, pos := "law.go:25", after := #[{ on := 5, ground := Ground.data }, { on := 9, ground := Ground.data }], guard := none }) (v := ?gvpo10) rfl (by kernel_rfl) (by kernel_rfl) (by kernel_rfl) (fun _ _ _ h => h) (Or.inl ⟨by rfl, ?gypo10⟩) (by assumption) ?grpo10
      case gypo10 => (intro w hSw; (try dsimp only at hSw); go_simp; try with_reducible rfl)
      try simp only [Act.put, List.setIfInBounds_toArray, List.set_cons_zero, List.set_cons_succ]
      refine wpAnyH_take (i := 11) (oi := { dst := some 36, op := Op.build 43 #[(0, Operand.tmp 28), (1, Operand.tmp 35)], type := 43, pos := "law.go:25", after := #[{ on := 3, ground := Ground.data }, { on := 10, ground := Ground.data }], guard := none }) (v := ?gvpo11) rfl (by kernel_rfl) (by kernel_rfl) (by kernel_rfl) (fun _ _ _ h => h) (Or.inl ⟨by rfl, ?gypo11⟩) (by assumption) ?grpo11
      case gypo11 => (intro w hSw; (try dsimp only at hSw); go_simp; try with_reducible rfl)
      try simp only [Act.put, List.setIfInBounds_toArray, List.set_cons_zero, List.set_cons_succ]
      refine wpAnyH_ready (rs := [1, 12]) (by kernel_rfl) (by simp) ?_
      refine AllReadyH.cons (o := { dst := some 26, op := Op.load 22 (Operand.tmp 25), type := 22, pos := "law.go:25", after := #[{ on := 0, ground := Ground.data }], guard := none }) rfl (fun K hK => ?poa) (AllReadyH.cons (o := { dst := some 37, op := Op.buildSlice 22 1 #[(0, Operand.tmp 36)], type := 22, pos := "law.go:25", after := #[{ on := 11, ground := Ground.data }], guard := none }) rfl (fun K hK => ?pob) AllReadyH.nil)
      case poa =>
        rw [if_pos (by kernel_rfl)]
        go_simp
        refine hK.out _ _ ?hSpa1 (fun hHeldpa1 => ?hRpa1)
        case hSpa1 => exact ⟨x0, x1⟩
        clear hK K
        try simp only [Act.put, List.setIfInBounds_toArray, List.set_cons_zero, List.set_cons_succ]
        refine wpAnyH_ready (rs := [12]) (by kernel_rfl) (by simp) ?_
        refine AllReadyH.cons (o := { dst := some 37, op := Op.buildSlice 22 1 #[(0, Operand.tmp 36)], type := 22, pos := "law.go:25", after := #[{ on := 11, ground := Ground.data }], guard := none }) rfl (fun K hK => ?_) AllReadyH.nil
        rw [if_pos (by kernel_rfl)]
        go_simp
        refine hK.out _ _ ?hSpa2 (fun hHeldpa2 => ?hRpa2)
        case hSpa2 => exact ⟨x0a _, x1a _⟩
        clear hK K
        try simp only [Act.put, List.setIfInBounds_toArray, List.set_cons_zero, List.set_cons_succ]
        refine wpAnyH_ready (rs := [13]) (by kernel_rfl) (by simp) ?_
        refine AllReadyH.cons (o := { dst := some 38, op := Op.call { callee := Callee.builtin Builtin.append, args := #[Operand.tmp 26, Operand.tmp 37], argTypes := #[22, 22] }, type := 22, pos := "law.go:25", after := #[{ on := 1, ground := Ground.data }, { on := 12, ground := Ground.data }], guard := none }) rfl (fun K hK => ?_) AllReadyH.nil
        refine step_append_lies _ (by rfl) (.tmp 26) (.tmp 37) 22 (by rfl) W.heap.size 43 i0 (.agg #[.string ⟨#[]⟩, .string ⟨#[]⟩]) 2 32 Tryz.underlying22 hi hz0 hz1 hz2 rfl (by decide) _ k _ (by rfl) HSR.out ⟨W1.drew.heap.size, 0, none⟩ 1 1 [.string x, .string (y.extract 0 z)] (by rfl) (by rfl) (World.news_of_block (heap_alloc_new W1.drew _)) (few_ocell (x, y.extract 0 z)) (by decide) HM1.out HM2.out HS1.out (W1.heap.size + 1) (by simp) ?_
        intro g3 c3 w3 hown3 hgrow3 hat3 hlt3
        have hB13 : Below W.heap.size W1 w3 := ((Below.refl W.heap.size W1).drew.alloc HLE.out _).grown hgrow3 HS1.out (fun k' hk' => (HO1.out.lt k' hk').1)
        have HZ3 := Lib.hid (HBo1.out.under hB13 HLT.out)
        have HB13 := Lib.hid hB13
        have HO3 := Lib.hid hown3
        have hx0 : w3.cell? ⟨B1, 0, none⟩ = _ := (hgrow3.cell_far ⟨B1, 0, none⟩ (few_lt1 HX.out.lt) (fun e => HNB.out _ e.symm rfl)).trans (x0a _)
        have hx1 : w3.cell? ⟨B1, 1, none⟩ = _ := (hgrow3.cell_far ⟨B1, 1, none⟩ (few_lt1 HX.out.lt) (fun e => HNB.out _ e.symm rfl)).trans (x1a _)
        clear hB13 hown3 hgrow3 hat3 hlt3 b0 b1 b2 b3 x0 x1
        refine hK.out _ _ ?hSpa3 (fun hHeldpa3 => ?hRpa3)
        case hSpa3 => exact ⟨hx0, hx1⟩
        clear hK K hx0 hx1
        try simp only [Act.put, List.setIfInBounds_toArray, List.set_cons_zero, List.set_cons_succ]
        refine wpAnyH_take (i := 14) (oi := { dst := some 39, op := Op.fieldAddr 25 (Operand.tmp 3) 0, type := 0, pos := "law.go:25", after := #[{ on := 0, ground := Ground.phase }, { on := 1, ground := Ground.phase }, { on := 2, ground := Ground.phase }, { on := 3, ground := Ground.phase }, { on := 4, ground := Ground.phase }, { on := 5, ground := Ground.phase }, { on := 6, ground := Ground.phase }, { on := 7, ground := Ground.phase }, { on := 8, ground := Ground.phase }, { on := 9, ground := Ground.phase }, { on := 10, ground := Ground.phase }, { on := 11, ground := Ground.phase }, { on := 12, ground := Ground.phase }, { on := 13, ground := Ground.phase }], guard := none }) (v := ?gvpa314) rfl (by kernel_rfl) (by kernel_rfl) (by kernel_rfl) (fun _ _ _ h => h) (Or.inl ⟨by rfl, ?gypa314⟩) (by assumption) ?grpa314
        case gypa314 => (intro w hSw; (try dsimp only at hSw); go_simp; try with_reducible rfl)
        try simp only [Act.put, List.setIfInBounds_toArray, List.set_cons_zero, List.set_cons_succ]
        have b0 := HZ3.out.cells.1
        have f0 := HZ3.out.free.1
        refine wpAnyH_ready (rs := [15]) (by kernel_rfl) (by simp) ?_
        refine AllReadyH.cons (o := { dst := none, op := Op.store 22 (Operand.tmp 39) (Operand.tmp 38), type := 0, pos := "law.go:25", after := #[{ on := 14, ground := Ground.data }, { on := 13, ground := Ground.data }, { on := 13, ground := Ground.chain }, { on := 0, ground := Ground.phase }, { on := 1, ground := Ground.phase }, { on := 2, ground := Ground.phase }, { on := 3, ground := Ground.phase }, { on := 4, ground := Ground.phase }, { on := 5, ground := Ground.phase }, { on := 6, ground := Ground.phase }, { on := 7, ground := Ground.phase }, { on := 8, ground := Ground.phase }, { on := 9, ground := Ground.phase }, { on := 10, ground := Ground.phase }, { on := 11, ground := Ground.phase }, { on := 12, ground := Ground.phase }, { on := 13, ground := Ground.phase }], guard := none }) rfl (fun K hK => ?_) AllReadyH.nil
        rw [if_pos (by kernel_rfl)]
        go_simp
        refine hK.out _ _ ?hSpa3s (fun hHeldpa3s => ?hRpa3s)
        case hSpa3s => exact ⟨few_far hHeldpa3.1 (by have := HBB.out; omega), few_far hHeldpa3.2 (by have := HBB.out; omega)⟩
        clear hK K
        try simp only [Act.put, List.setIfInBounds_toArray, List.set_cons_zero, List.set_cons_succ]
        refine wpAnyH_done (by kernel_rfl) ?_ _
        clear b0 f0
        go_wp2_with fail
        go_roundw
        case rel => exact ⟨k + 1, _, by omega, by go_num, few_next HO3.out HTK.out HLT.out, HZ3.out.at0 _, few_below HB1.out HB13.out HLT.out⟩
        case measure => simp [intOf]; omega
      case pob =>
        rw [if_pos (by kernel_rfl)]
        go_simp
        refine hK.out _ _ ?hSpb1 (fun hHeldpb1 => ?hRpb1)
        case hSpb1 => exact ⟨x0a _, x1a _⟩
        clear hK K
        try simp only [Act.put, List.setIfInBounds_toArray, List.set_cons_zero, List.set_cons_succ]
        have b0b : ∀ o, (W1.alloc o).cell? ⟨Bo, 0, none⟩ = _ := b0a
        have b0c : ∀ o, (W1.alloc o).drew.cell? ⟨Bo, 0, none⟩ = _ := b0a
        refine wpAnyH_ready (rs := [1]) (by kernel_rfl) (by simp) ?_
        refine AllReadyH.cons (o := { dst := some 26, op := Op.load 22 (Operand.tmp 25), type := 22, pos := "law.go:25", after := #[{ on := 0, ground := Ground.data }], guard := none }) rfl (fun K hK => ?_) AllReadyH.nil
        rw [if_pos (by kernel_rfl)]
        go_simp
        refine hK.out _ _ ?hSpb2 (fun hHeldpb2 => ?hRpb2)
        case hSpb2 => exact ⟨x0a _, x1a _⟩
        clear hK K
        try simp only [Act.put, List.setIfInBounds_toArray, List.set_cons_zero, List.set_cons_succ]
        clear b0b b0c
        refine wpAnyH_ready (rs := [13]) (by kernel_rfl) (by simp) ?_
        refine AllReadyH.cons (o := { dst := some 38, op := Op.call { callee := Callee.builtin Builtin.append, args := #[Operand.tmp 26, Operand.tmp 37], argTypes := #[22, 22] }, type := 22, pos := "law.go:25", after := #[{ on := 1, ground := Ground.data }, { on := 12, ground := Ground.data }], guard := none }) rfl (fun K hK => ?_) AllReadyH.nil
        refine step_append_lies _ (by rfl) (.tmp 26) (.tmp 37) 22 (by rfl) W.heap.size 43 i0 (.agg #[.string ⟨#[]⟩, .string ⟨#[]⟩]) 2 32 Tryz.underlying22 hi hz0 hz1 hz2 rfl (by decide) _ k _ (by rfl) HSR.out ⟨W1.drew.heap.size, 0, none⟩ 1 1 [.string x, .string (y.extract 0 z)] (by rfl) (by rfl) (World.news_of_block (heap_alloc_new W1.drew _)) (few_ocell (x, y.extract 0 z)) (by decide) HM1.out HM2.out HS1.out (W1.heap.size + 1) (by simp) ?_
        intro g3 c3 w3 hown3 hgrow3 hat3 hlt3
        have hB13 : Below W.heap.size W1 w3 := ((Below.refl W.heap.size W1).drew.alloc HLE.out _).grown hgrow3 HS1.out (fun k' hk' => (HO1.out.lt k' hk').1)
        have HZ3 := Lib.hid (HBo1.out.under hB13 HLT.out)
        have HB13 := Lib.hid hB13
        have HO3 := Lib.hid hown3
        have hx0 : w3.cell? ⟨B1, 0, none⟩ = _ := (hgrow3.cell_far ⟨B1, 0, none⟩ (few_lt1 HX.out.lt) (fun e => HNB.out _ e.symm rfl)).trans (x0a _)
        have hx1 : w3.cell? ⟨B1, 1, none⟩ = _ := (hgrow3.cell_far ⟨B1, 1, none⟩ (few_lt1 HX.out.lt) (fun e => HNB.out _ e.symm rfl)).trans (x1a _)
        clear hB13 hown3 hgrow3 hat3 hlt3 b0 b1 b2 b3 x0 x1
        refine hK.out _ _ ?hSpb3 (fun hHeldpb3 => ?hRpb3)
        case hSpb3 => exact ⟨hx0, hx1⟩
        clear hK K hx0 hx1
        try simp only [Act.put, List.setIfInBounds_toArray, List.set_cons_zero, List.set_cons_succ]
        refine wpAnyH_take (i := 14) (oi := { dst := some 39, op := Op.fieldAddr 25 (Operand.tmp 3) 0, type := 0, pos := "law.go:25", after := #[{ on := 0, ground := Ground.phase }, { on := 1, ground := Ground.phase }, { on := 2, ground := Ground.phase }, { on := 3, ground := Ground.phase }, { on := 4, ground := Ground.phase }, { on := 5, ground := Ground.phase }, { on := 6, ground := Ground.phase }, { on := 7, ground := Ground.phase }, { on := 8, ground := Ground.phase }, { on := 9, ground := Ground.phase }, { on := 10, ground := Ground.phase }, { on := 11, ground := Ground.phase }, { on := 12, ground := Ground.phase }, { on := 13, ground := Ground.phase }], guard := none }) (v := ?gvpb314) rfl (by kernel_rfl) (by kernel_rfl) (by kernel_rfl) (fun _ _ _ h => h) (Or.inl ⟨by rfl, ?gypb314⟩) (by assumption) ?grpb314
        case gypb314 => (intro w hSw; (try dsimp only at hSw); go_simp; try with_reducible rfl)
        try simp only [Act.put, List.setIfInBounds_toArray, List.set_cons_zero, List.set_cons_succ]
        have b0 := HZ3.out.cells.1
        have f0 := HZ3.out.free.1
        refine wpAnyH_ready (rs := [15]) (by kernel_rfl) (by simp) ?_
        refine AllReadyH.cons (o := { dst := none, op := Op.store 22 (Operand.tmp 39) (Operand.tmp 38), type := 0, pos := "law.go:25", after := #[{ on := 14, ground := Ground.data }, { on := 13, ground := Ground.data }, { on := 13, ground := Ground.chain }, { on := 0, ground := Ground.phase }, { on := 1, ground := Ground.phase }, { on := 2, ground := Ground.phase }, { on := 3, ground := Ground.phase }, { on := 4, ground := Ground.phase }, { on := 5, ground := Ground.phase }, { on := 6, ground := Ground.phase }, { on := 7, ground := Ground.phase }, { on := 8, ground := Ground.phase }, { on := 9, ground := Ground.phase }, { on := 10, ground := Ground.phase }, { on := 11, ground := Ground.phase }, { on := 12, ground := Ground.phase }, { on := 13, ground := Ground.phase }], guard := none }) rfl (fun K hK => ?_) AllReadyH.nil
        rw [if_pos (by kernel_rfl)]
        go_simp
        refine hK.out _ _ ?hSpb3s (fun hHeldpb3s => ?hRpb3s)
        case hSpb3s => exact ⟨few_far hHeldpb3.1 (by have := HBB.out; omega), few_far hHeldpb3.2 (by have := HBB.out; omega)⟩
        clear hK K
        try simp only [Act.put, List.setIfInBounds_toArray, List.set_cons_zero, List.set_cons_succ]
        refine wpAnyH_done (by kernel_rfl) ?_ _
        clear b0 f0
        go_wp2_with fail
        go_roundw
        case rel => exact ⟨k + 1, _, by omega, by go_num, few_next HO3.out HTK.out HLT.out, HZ3.out.at0 _, few_below HB1.out HB13.out HLT.out⟩
        case measure => simp [intOf]; omega
    · obtain rfl : k = k0 := by omega
      have HA2 := Lib.hid (HA.out.under HBR.out (by have := HWS.out; omega))
      have HSW := Lib.hid (show W.heap.size ≤ wr.heap.size from HBR.out.size)
      obtain ⟨a0, a1, a2, a3⟩ := HA2.out.cells
      go_wp2_with fail
      clear a0 a1 a2 a3
      obtain ⟨W2, hW2⟩ : ∃ x, wr = x := ⟨_, rfl⟩
      have HO2 := Lib.hid HO.out
      rw [hW2] at HBR HBo HO2 HSW ⊢
      go_loopw [49] (fun iv wr => ∃ j vu, j ≤ j0 ∧ iv = .int .i64 j ∧ wr.ownsRow W2.heap.size 40 2 vu j (cellsL ((b.ups.take j).map upCell)) ∧ wr.ownsRow W.heap.size 43 2 (.slice so k ko) k (cellsL (((b.objs.take k).map cutO).map objCell)) ∧ At4 25 wr Bo (.slice so k ko) (.int .i64 q) vu (.int .i64 l) ∧ Below Bo W wr ∧ W2.heap.size ≤ wr.heap.size) (fun i _ => j0 - (intOf i).toNat)
      case atStart => exact ⟨0, nilV, Nat.zero_le _, rfl, World.ownsRow_nil _ _ _ _, HO2.out, HBo.out, HBR.out, Nat.le_refl _⟩
      case round =>
        clear HO HBo HBR HA2 hlt hk hW2
        obtain ⟨k9, hk9⟩ : ∃ x, k = x := ⟨_, rfl⟩
        rw [hk9] at hrel ⊢
        obtain ⟨j, vu, hj, rfl, hown, hrow, hat, hbr, hsz⟩ := hrel
        obtain ⟨su, ku, rfl⟩ := own_shape hown
        have HO := Lib.hid hown
        have HR0 := Lib.hid hrow
        have HBo := Lib.hid hat
        have HBR := Lib.hid hbr
        have HSZ2 := Lib.hid hsz
        clear hown hrow hat hbr hsz
        by_cases hlt : j < j0
        · have hkl : j < b.ups.length := by rw [HQ.out.2.1]; omega
          have HBW := Lib.hid (show Below w.heap.size w wr from HB.out.trans (HBR.out.mono (by have := HWS.out; omega)))
          obtain ⟨lb, lo, rfl, e0, e1⟩ := (HPU.out.keep HBW.out).at j (by rw [List.length_map]; exact hkl)
          rw [up_getElem b.ups j hkl] at e0 e1
          have htk := List.take_succ_eq_append_getElem hkl
          obtain ⟨⟨x, y⟩, hx⟩ : ∃ x, b.ups[j] = x := ⟨_, rfl⟩
          rw [hx] at e0 e1 htk
          simp only at e0 e1
          have HTK := Lib.hid (show (b.ups.take (j + 1)).map upCell = (b.ups.take j).map upCell ++ [upCell (x, y)] by rw [htk, List.map_append]; rfl)
          obtain ⟨W1, hW1⟩ : ∃ W1, wr.alloc (.cells #[.int .i64 x, .string y] 40) = W1 := ⟨_, rfl⟩
          obtain ⟨B1, hB1⟩ : ∃ B, wr.heap.size = B := ⟨_, rfl⟩
          have hB1l : Bo < B1 := by have h1 := HBR.out.size; have := HWS.out; omega
          have HX := Lib.hid (show At2 40 W1 B1 (.int .i64 x) (.string y) by rw [← hW1, ← hB1]; exact At2.new _ _ _ _)
          have HBo1 := Lib.hid (show At4 25 W1 Bo (.slice so k9 ko) (.int .i64 q) (.slice su j ku) (.int .i64 l) by rw [← hW1]; exact HBo.out.keep (below_new _ _))
          have HO1 := Lib.hid (show W1.ownsRow W2.heap.size 40 2 (.slice su j ku) j (cellsL ((b.ups.take j).map upCell)) by rw [← hW1]; exact HO.out.alloc _)
          have HR1 := Lib.hid (show W1.ownsRow W.heap.size 43 2 (.slice so k9 ko) k9 (cellsL (((b.objs.take k9).map cutO).map objCell)) by rw [← hW1]; exact HR0.out.alloc _)
          have HB1 := Lib.hid (show Below Bo W W1 by rw [← hW1]; exact HBR.out.trans ((below_new _ _).mono (by omega)))
          have HLE := Lib.hid (show W2.heap.size ≤ W1.heap.size by rw [← hW1, World.size_alloc]; exact Nat.le_succ_of_le HSZ2.out)
          have HW1 := Lib.hid hW1
          clear hW1 hx htk
          go_upto_region 10 with fail
          rw [HW1.out]
          clear hB1
          obtain ⟨x0, x1⟩ := HX.out.cells
          obtain ⟨b0, b1, b2, b3⟩ := HBo1.out.cells
          have HS1 := Lib.hid (show W2.heap.size ≤ (W1.alloc (.cells #[.int .i64 x, .string y] 40)).heap.size by rw [World.size_alloc]; exact Nat.le_succ_of_le HLE.out)
          have HM1 := Lib.hid (show j + 1 ≤ maxLen by unfold maxLen; omega)
          have HM2 := Lib.hid (show (j + 1) * 24 ≤ 140737488355328 by omega)
          have HLT := Lib.hid (show Bo < W2.heap.size by have := HWS.out; have := HSW.out; omega)
          go_wp2_with (at_builtin; refine wpList_append_lies _ rfl _ _ 23 rfl W2.heap.size 40 i1 (.agg #[.int .i64 0, .string ⟨#[]⟩]) 2 24 Tryz.underlying23 hi1 hy0 hy1 hy2 rfl (by decide) _ j _ rfl (HO1.out.alloc _) ⟨W1.heap.size, 0, none⟩ 1 1 [.int .i64 x, .string y] rfl rfl (World.news_of_block (heap_alloc_new W1 _)) (few_ucell (x, y)) (by decide) HM1.out HM2.out HS1.out (W1.heap.size + 1) (by simp) ?_)
          intro g3 c3 w3 hown3 hgrow3 hat3 hlt3
          have hB13 : Below W2.heap.size W1 w3 := ((Below.refl W2.heap.size W1).alloc HLE.out _).grown hgrow3 HS1.out (fun k' hk' => (HO1.out.lt k' hk').1)
          have HZ3 := Lib.hid (HBo1.out.under hB13 HLT.out)
          have HB13 := Lib.hid hB13
          have HO3 := Lib.hid (show w3.ownsRow W2.heap.size 40 2 (.slice (some ⟨g3, 0, none⟩) (j + 1) c3) (j + 1) (cellsL ((b.ups.take j).map upCell) ++ [.int .i64 x, .string y]) by rw [List.map_take]; exact hown3)
          have HR3 := Lib.hid (own_grown (HR1.out.alloc (.cells #[.int .i64 x, .string y] 40)) (HO1.out.alloc (.cells #[.int .i64 x, .string y] 40)) (by decide) hgrow3)
          clear hB13 hown3 hgrow3 hat3 hlt3 b0 b1 b2 b3 x0 x1
          have b2 := HZ3.out.cells.2.2.1
          have f2 := HZ3.out.free.2.2.1
          go_wp2_with fail
          go_roundw
          case rel => exact ⟨j + 1, _, by omega, by go_num, few_next_u HO3.out HTK.out HLT.out, few_row HR3.out (by have := HWS.out; omega), HZ3.out.at2 _, few_below HB1.out HB13.out HLT.out, by rw [World.size_setCell]; exact Nat.le_trans HLE.out HB13.out.size⟩
          case measure => simp [intOf]; omega
        · obtain rfl : j = j0 := by omega
          have HR4 := Lib.hid (HR.out.under HBR.out (by have := HWS.out; omega))
          obtain ⟨a0, a1, a2, a3⟩ := HBo.out.cells
          obtain ⟨b0, b1, b2, b3⟩ := HR4.out.cells
          obtain ⟨f0, f1, f2, f3⟩ := HR4.out.free
          go_wp2_with fail
          exact bodyPost_ret (results_cell_row (p := 2) rfl _ _ (w.heap.size + 1) 25 _ (0, 0) _ rfl (HR4.out.set _ _ _ _) Tryz.underlying25 rfl infoBlb) rfl (few_end HR0.out HO.out HB.out HBR.out HWS.out.2 HWS.out.1 HSW.out HQ.out hk9 HK0.out HV0.out)
end Go.Proofs.YtodjhmphneoifaaGreatDoor
/-! What the laws over any blobs share: contracts in one shape, and what the calls' answers are. Conditions: none. -/
namespace Go.Proofs.YtodjhmphneoifaaGreatDoor
open Go.RowKit Go.WideShapes

theorem few_v (v : Value) (b : Blb) (w : World) (aD aS aZ : Addr) (h : BlbAt w v b) (_ : DEnv w aD aS aZ) :
    Calls Tryz.prog 6 #[v] w fun e w' => ∃ v', e = .returned v' ∧ BlbAt w' v' (fewB b) ∧ Below w.heap.size w w' := bfew_t v b w h
theorem rat_v (v : Value) (b : Blb) (d : ByteArray) (w : World) (aD aS aZ : Addr) (h : BlbAt w v b) (_ : DEnv w aD aS aZ) {x : Int} (hx : atL b.objs d = x) :
    Calls Tryz.prog 16 #[v, .string d] w fun e w' => e = .returned (.int .i64 x) ∧ Below w.heap.size w w' := by subst hx; exact refBAt_t v b d w h
theorem rup_v (v : Value) (b : Blb) (id : Int) (w : World) (aD aS aZ : Addr) (h : BlbAt w v b) (_ : DEnv w aD aS aZ) {x : Int} (hx : upL b.ups id = x) :
    Calls Tryz.prog 15 #[v, .int .i64 id] w fun e w' => e = .returned (.int .i64 x) ∧ Below w.heap.size w w' := by subst hx; exact refBUp_t v b id w h
theorem rright_v (v : Value) (b : Blb) (w : World) (aD aS aZ : Addr) (h : BlbAt w v b) (_ : DEnv w aD aS aZ) {r : Bool} (hr : rightBlb b = r) (hf : FewIs b) :
    Calls Tryz.prog 13 #[v] w fun e w' => e = .returned (.bool r) ∧ Below w.heap.size w w' := by subst hr; exact refBRight_t v b w h hf
theorem pright_v (v : Value) (b : Blb) (w : World) (aD aS aZ : Addr) (h : BlbAt w v b) (he : DEnv w aD aS aZ) {r : Bool} (hr : rightBlb b = r) :
    Calls Tryz.prog 12 #[v] w fun e w' => e = .returned (.bool r) ∧ Below w.heap.size w w' := by subst hr; exact BRight_t v b w aD aS aZ h he
theorem like_v (v : Value) (b : Blb) (v' : Value) (b' : Blb) (w : World) (aD aS aZ : Addr) (h : BlbAt w v b) (_ : DEnv w aD aS aZ) (h' : BlbAt w v' b') (e : b = b') :
    Calls Tryz.prog 11 #[v, v'] w fun e w' => e = .returned (.bool true) ∧ Below w.heap.size w w' := by
  refine (refBLike_t b b' v v' w h h').mono ?_
  rintro x w' ⟨r, rfl, hr, hb⟩
  rw [hr.2 e]
  exact ⟨rfl, hb⟩
theorem at_new (w : World) {q : Int} (hq : 0 ≤ q ∧ q ≤ 1048576) : BlbAt w (.agg #[nilV, .int .i64 q, nilV, .int .i64 0]) ⟨[], q, [], 0⟩ :=
  ⟨⟨nilV, nilV, rfl, Or.inl ⟨rfl, Or.inl rfl⟩, Or.inl ⟨rfl, Or.inl rfl⟩⟩, by simp, by simp, by show -9223372036854775808 ≤ q ∧ q ≤ 9223372036854775807; omega, by show (-9223372036854775808 : Int) ≤ 0 ∧ (0 : Int) ≤ 9223372036854775807; omega⟩
theorem new_bad {q : Int} (h : ¬ (0 ≤ q ∧ q ≤ 1048576)) : newB q = (nilBlb, 1) := if_neg h

theorem data_no {b : Blb} {d : ByteArray} (h : rightBlb b = false) : dataB b d = (⟨#[]⟩, 1) := by unfold dataB; rw [if_neg (by rw [h]; decide)]
theorem size_no {b : Blb} {d : ByteArray} (h : rightBlb b = false) : sizeB b d = (0, 1) := by unfold sizeB; rw [data_no h]; rfl
theorem read_no {b : Blb} {d : ByteArray} {f m : Int} (h : rightBlb b = false) : readB b d f m = (⟨#[]⟩, 1) := by unfold readB; rw [data_no h, if_pos (by decide)]
theorem place_no {b : Blb} {id : Int} (h : rightBlb b = false) : placeB b id = (0, 1) := by unfold placeB; rw [if_neg (by rw [h]; decide)]
theorem off_no {b : Blb} {id : Int} (h : rightBlb b = false) : offB b id = (0, 1) := by unfold offB; rw [place_no h, if_pos (by decide)]
theorem place_none {b : Blb} {id : Int} (h : rightBlb b = true) (hu : upL b.ups id = -1) : placeB b id = (0, 9) := by unfold placeB; rw [if_pos h, hu, if_pos (by decide)]
theorem off_none {b : Blb} {id : Int} (h : rightBlb b = true) (hu : upL b.ups id = -1) : offB b id = (0, 9) := by unfold offB; rw [place_none h hu, if_pos (by decide)]
theorem place_some {b : Blb} {id : Int} {j : Nat} (h : rightBlb b = true) (hu : upL b.ups id = (j : Int)) : placeB b id = ((j : Int), 0) := by unfold placeB; rw [if_pos h, hu, if_neg (by omega)]
theorem off_some {b : Blb} {id : Int} {j : Nat} (h : rightBlb b = true) (hu : upL b.ups id = (j : Int)) (hj : j < b.ups.length) : offB b id = (((b.ups[j].2.size : Nat) : Int), 0) := by
  unfold offB upD
  rw [place_some h hu, if_neg (fun h => h rfl)]
  show ((((b.ups.getD (j : Int).toNat (0, ⟨#[]⟩)).2.size : Nat) : Int), (0 : Int)) = _
  rw [Int.toNat_natCast, getD_of_lt hj]
theorem data_none {b : Blb} {d : ByteArray} (h : rightBlb b = true) (hu : atL b.objs d = -1) : dataB b d = (⟨#[]⟩, 9) := by unfold dataB; rw [if_pos h, hu, if_pos (by decide)]
theorem size_none {b : Blb} {d : ByteArray} (h : rightBlb b = true) (hu : atL b.objs d = -1) : sizeB b d = (0, 9) := by unfold sizeB; rw [data_none h hu]; rfl
theorem read_none {b : Blb} {d : ByteArray} {f m : Int} (h : rightBlb b = true) (hu : atL b.objs d = -1) : readB b d f m = (⟨#[]⟩, 9) := by unfold readB; rw [data_none h hu, if_pos (by decide)]
theorem data_some {b : Blb} {d : ByteArray} {j : Nat} (h : rightBlb b = true) (hu : atL b.objs d = (j : Int)) (hj : j < b.objs.length) : dataB b d = (b.objs[j].2, 0) := by
  unfold dataB
  rw [if_pos h, hu, if_neg (by omega), Int.toNat_natCast, getD_of_lt hj]
theorem size_some {b : Blb} {d : ByteArray} {j : Nat} (h : rightBlb b = true) (hu : atL b.objs d = (j : Int)) (hj : j < b.objs.length) : sizeB b d = (((b.objs[j].2.size : Nat) : Int), 0) := by unfold sizeB; rw [data_some h hu hj]
theorem read_range {b : Blb} {d : ByteArray} {f m : Int} {j : Nat} (h : rightBlb b = true) (hu : atL b.objs d = (j : Int)) (hj : j < b.objs.length) (hr : f < 0 ∨ (b.objs[j].2.size : Int) < f ∨ m < 0) : readB b d f m = (⟨#[]⟩, 11) := by
  unfold readB
  rw [data_some h hu hj, if_neg (fun h => h rfl), if_pos hr]
theorem read_part {b : Blb} {d : ByteArray} {f m j : Nat} (h : rightBlb b = true) (hu : atL b.objs d = (j : Int)) (hj : j < b.objs.length) (hr : f ≤ b.objs[j].2.size) :
    readB b d (f : Int) (m : Int) = ((b.objs[j].2.extract f b.objs[j].2.size).extract 0 (min m (b.objs[j].2.size - f)), 0) := by
  unfold readB
  rw [data_some h hu hj, if_neg (fun h => h rfl), if_neg (by show ¬ ((f : Int) < 0 ∨ (b.objs[j].2.size : Int) < f ∨ (m : Int) < 0); omega), Int.toNat_natCast, Int.toNat_natCast]
theorem find_two {α : Type} (p : α → Bool) (l : List α) : findL p l = -1 ∨ ∃ j, j < l.length ∧ findL p l = (j : Int) := by
  rcases findL_cases p l with ⟨h, -⟩ | ⟨j, hj, h, -⟩
  · exact Or.inl h
  · exact Or.inr ⟨j, hj, h⟩
end Go.Proofs.YtodjhmphneoifaaGreatDoor
