/-
  The closures' laws' few of objects, by a contract. Conditions: none.
-/
import Derived.Test.YtepcaglekgeamaaGreatDoorYClo1
import Derived.Test.YtepcaglekgeamaaGreatDoorYRegS
import Derived.Test.YtepcaglekgeamaaGreatDoorYMan3
import Derived.Lib.MinMax
import Derived.Deep.CutBlock
import Derived.Deep.CutRange
namespace Go.Proofs.YtepcaglekgeamaaGreatDoor
open Go.RowKit Go.WideShapes

def cutTo (n : Nat) (s : ByteArray) : ByteArray := s.extract 0 (min s.size n)

theorem cutTo_size (n : Nat) (s : ByteArray) : (cutTo n s).size ≤ n := by unfold cutTo; rw [ByteArray.size_extract]; omega

def cutO (o : Obj) : Obj := (cutTo 80 o.1, cutTo 1200 o.2)

def fewO (l : List Obj) : List Obj := (l.take 12).map cutO

theorem fewO_len (l : List Obj) : (fewO l).length ≤ 12 := by unfold fewO; rw [List.length_map, List.length_take]; omega

theorem fewO_few (l : List Obj) : ObjsFew (fewO l) := by
  refine ⟨Nat.le_trans (fewO_len l) (by decide), fun o ho => ?_⟩
  obtain ⟨y, -, rfl⟩ := List.mem_map.1 ho
  exact ⟨Nat.le_trans (cutTo_size 80 y.1) (by decide), Nat.le_trans (cutTo_size 1200 y.2) (by decide)⟩

theorem one_objs (l : List Obj) : ∀ u ∈ cellsL (l.map objCell), u.oneCell' = true := by
  intro u hu
  simp only [cellsL, List.mem_flatMap, List.mem_map] at hu
  obtain ⟨p, ⟨x, -, rfl⟩, hp⟩ := hu
  simp [objCell] at hp
  rcases hp with rfl | rfl <;> rfl

theorem cells_set2 : ∀ (l : List (Value × Value)) (j : Nat) (_ : j < l.length) (u x : Value), ((cellsL l).set (j * 2) u).set (j * 2 + 1) x = cellsL (l.set j (u, x))
  | p :: l, 0, _, u, x => by simp [cellsL_cons]
  | p :: l, j + 1, h, u, x => by
    rw [show (j + 1) * 2 = j * 2 + 1 + 1 by omega, cellsL_cons, List.set_cons_succ, List.set_cons_succ, List.set_cons_succ, List.set_cons_succ, List.set_cons_succ, cellsL_cons, cells_set2 l j (by simpa using h) u x]

structure OwnO (w : World) (B : Nat) (v : Value) (n : Nat) (l : List Obj) : Prop where
  len : l.length = n
  own : w.ownsRow B 40 2 v n (cellsL (l.map objCell))
  size : ∀ o ∈ l, o.1.size ≤ maxLen ∧ o.2.size ≤ maxLen

theorem OwnO.objs {w : World} {B n : Nat} {v : Value} {l : List Obj} (h : OwnO w B v n l) : ObjsAt w v l := ⟨PairsAt.of_own h.own (by rw [List.length_map]; exact h.len), h.size⟩

theorem OwnO.keep {w w' : World} {B n : Nat} {v : Value} {l : List Obj} (h : OwnO w B v n l) (hb : Below w.heap.size w w') : OwnO w' B v n l := ⟨h.len, own_keep h.own hb, h.size⟩

theorem OwnO.base {w : World} {B B' n : Nat} {v : Value} {l : List Obj} (h : OwnO w B v n l) (hB : B' ≤ B) : OwnO w B' v n l := ⟨h.len, own_base h.own hB, h.size⟩

theorem OwnO.lit {w : World} {B : Nat} (hB : B ≤ w.heap.size) : OwnO (w.alloc (.cells #[] 40)) B (.slice (some ⟨w.heap.size, 0, none⟩) 0 0) 0 [] :=
  ⟨rfl, World.ownsRow_lit w #[] 0 hB (Nat.zero_le _) rfl, fun o h => by cases h⟩

theorem OwnO.shape {w : World} {B n : Nat} {v : Value} {l : List Obj} (h : OwnO w B v n l) : ∃ a c, v = .slice a n c ∧ n ≤ c ∧ c ≤ maxLen := own_shape h.own

theorem wpList_objs (w : World) {ops : Array Oper} {rest : List Oper} {o : Oper} {a : Act} {Q : Exit → Act → World → Prop} (hgd : o.guard = none) (s x : Operand)
    (ho : o.op = .call { callee := .builtin .append, args := #[s, x], argTypes := #[22, 22] })
    (B : Nat) (v : Value) (n : Nat) (l : List Obj) (hs : a.eval s = v) (hown : OwnO w B v n l) (xv : Value) (m : Nat) (l2 : List Obj) (hx : a.eval x = xv) (hsrc : SrcOf 2 w xv m (cellsL (l2.map objCell))) (hm : l2.length = m)
    (hz : ∀ o ∈ l2, o.1.size ≤ maxLen ∧ o.2.size ≤ maxLen) (hn : n + m ≤ 1099511627776) (hB : B ≤ w.heap.size)
    (h : ∀ v' w', OwnO w' B v' (n + m) (l ++ l2) → w.grownBy w' v.ownBlock → Below B w w' → wpList Tryz.prog ops Q rest (a.put o.dst v') w') : wpList Tryz.prog ops Q (o :: rest) a w := by
  obtain ⟨i0, hi, hz0, hz1, hz2⟩ := info_parts objInfo
  refine wpList_append_src w hgd s x 22 ho B 40 i0 _ 2 32 Tryz.underlying22 hi hz0 hz1 hz2 rfl (by decide) v n _ hs hown.own xv m _ hx hsrc (one_objs l2) (by unfold maxLen; omega) (by omega) hB fun v' w' h1 h2 => ?_
  refine h v' w' ⟨by rw [List.length_append, hown.len, hm], ?_, fun o ho => ?_⟩ h2 (below_own hown.own h2 (Nat.le_refl _) hB)
  · rw [List.map_append, cellsL_append]; exact h1
  · rcases List.mem_append.1 ho with ho | ho
    · exact hown.size o ho
    · exact hz o ho

def FewEnds (l : List Obj) (w : World) (e : Ending) (w' : World) : Prop := ∃ v n, e = .returned v ∧ OwnO w' w.heap.size v n (fewO l) ∧ Below w.heap.size w w'

set_option maxRecDepth 100000 in
set_option maxHeartbeats 8000000 in
theorem few06_t (v : Value) (l : List Obj) (w : World) (hv : ObjsAt w v l) :
    Calls Tryz.prog 4 #[v] w (FewEnds l w) := by
  obtain ⟨a, cap, rfl, hc1, hc2⟩ := hv.shape
  obtain ⟨n, hn⟩ : ∃ n, l.length = n := ⟨_, rfl⟩
  rw [hn] at hv hc1 ⊢
  obtain ⟨kl, hkl⟩ : ∃ k, min n 12 = k := ⟨_, rfl⟩
  have hkn : kl ≤ n ∧ kl ≤ 12 := by omega
  have hlt : l.take kl = l.take 12 := by
    rcases Nat.le_total n 12 with e | e
    · rw [List.take_of_length_le (by omega), List.take_of_length_le (by omega)]
    · rw [show kl = 12 by omega]
  have hsrc : SrcOf 2 w (.slice a kl cap) kl (cellsL ((l.take 12).map objCell)) := by
    have h := (hv.is.cut kl (by rw [List.length_map]; omega)).src
    rw [List.length_take, List.length_map, hn, Nat.min_eq_left hkn.1, ← List.map_take, hlt] at h
    exact h
  obtain ⟨L, hL⟩ : ∃ L, l.take 12 = L := ⟨_, rfl⟩
  have HLL := Lib.hid (show L.length = kl by rw [← hL, List.length_take]; omega)
  have HLZ := Lib.hid (show ∀ o ∈ L, o.1.size ≤ maxLen ∧ o.2.size ≤ maxLen from fun o ho => hv.size o (by rw [← hL] at ho; exact List.mem_of_mem_take ho))
  have HFEW := Lib.hid (show fewO l = L.map cutO by rw [← hL]; rfl)
  rw [hL] at hsrc
  have q1 : min (n : Int) 12 = (kl : Int) := by omega
  have q4 : (kl : Int) ≤ (cap : Int) := by omega
  unfold maxLen at hc2
  have hsk := hsrc.keep (below_new w (.cells #[] 40))
  have HB0 := Lib.hid (below_new w (.cells #[] 40))
  have HSRC := Lib.hid hsk
  have hkl12 := hkn.2
  clear hv hn hkl hkn hlt hsrc hL hc1 hsk
  go_enter Tryz.func4, Tryz.ntmps4
  go_wp2_with (at_builtin; refine wpList_objs _ rfl _ _ rfl w.heap.size _ 0 [] rfl (OwnO.lit (Nat.le_refl _)) _ kl L rfl HSRC.out HLL.out HLZ.out (by omega) HB0.out.size ?_; intro v' w2 ho hg hb; rw [Nat.zero_add, List.nil_append] at ho; have HO := Lib.hid ho; have HB := Lib.hid (HB0.out.trans hb); obtain ⟨va, vc, rfl, -, hvc⟩ := ho.shape; unfold maxLen at hvc; clear ho hg hb)
  go_loopw [14] (fun iv wr => ∃ k : Nat, k ≤ kl ∧ iv = .int .i64 k ∧ wr.ownsRow w.heap.size 40 2 (.slice va kl vc) kl (cellsL ((turnL cutO L k).map objCell)) ∧ Below w.heap.size w wr) (fun i _ => kl - (intOf i).toNat)
  case atStart => exact ⟨0, Nat.zero_le _, rfl, by rw [turnL_zero]; exact HO.out.own, HB.out⟩
  case round =>
    obtain ⟨k, hk, rfl, ho, hb⟩ := hrel
    have HBR := Lib.hid hb
    have HR := Lib.hid ho
    by_cases hlt : k < kl
    · have h1 : k < L.length := by rw [HLL.out]; exact hlt
      obtain ⟨g, rfl, hgM, hgl⟩ := own_some ho (by omega)
      have hti : k < ((turnL cutO L k).map objCell).length := by rw [List.length_map, turnL_length]; exact h1
      have hcl := cellsL_at _ k hti
      have hst := cells_set2 _ k hti (.string (cutO L[k]).1) (.string (cutO L[k]).2)
      simp only [List.getElem_map, turnL_at cutO L k h1] at hcl
      have HNX := Lib.hid (show ((cellsL ((turnL cutO L k).map objCell)).set (k * 2) (.string (cutO L[k]).1)).set (k * 2 + 1) (.string (cutO L[k]).2) = cellsL ((turnL cutO L (k + 1)).map objCell) by
        rw [hst, ← turnL_succ cutO L k h1, List.map_set]; rfl)
      have hxz := HLZ.out _ (List.getElem_mem h1)
      obtain ⟨⟨x, y⟩, hx⟩ : ∃ x, L[k] = x := ⟨_, rfl⟩
      rw [hx] at hcl HNX hxz
      simp only [objCell] at hcl
      simp only [cutO] at HNX hxz
      obtain ⟨v0, f0⟩ := own_cell ho hcl.1
      obtain ⟨v1, f1⟩ := own_cell ho hcl.2
      obtain ⟨zx, hzx⟩ : ∃ k, min x.size 80 = k := ⟨_, rfl⟩
      obtain ⟨zy, hzy⟩ : ∃ k, min y.size 1200 = k := ⟨_, rfl⟩
      have HCX := Lib.hid (show x.extract 0 zx = cutTo 80 x by unfold cutTo; rw [hzx])
      have HCY := Lib.hid (show y.extract 0 zy = cutTo 1200 y by unfold cutTo; rw [hzy])
      have q7 : min (x.size : Int) 80 = (zx : Int) := by omega
      have q8 : zx ≤ x.size := by omega
      have q9 : min (y.size : Int) 1200 = (zy : Int) := by omega
      have q10 : zy ≤ y.size := by omega
      unfold maxLen at hxz
      obtain ⟨hxz1, hxz2⟩ := hxz
      obtain ⟨W3, hW3⟩ : ∃ W3, wr.alloc (.cells #[.string x, .string y] 40) = W3 := ⟨_, rfl⟩
      have hb3 : Below wr.heap.size wr W3 := by rw [← hW3]; exact below_new _ _
      have hT : At2 40 W3 wr.heap.size (.string x) (.string y) := by rw [← hW3]; exact At2.new _ _ _ _
      have HW3 := Lib.hid hW3
      have HB3 := Lib.hid hb3
      obtain ⟨t0, t1⟩ := hT.cells
      obtain ⟨u0, uf0⟩ := own_cell (own_keep ho hb3) hcl.1
      obtain ⟨u1, uf1⟩ := own_cell (own_keep ho hb3) hcl.2
      have HGM := Lib.hid hgM
      have HGL := Lib.hid hgl
      clear hW3 hb3 hT hx hcl hst hti ho hb hgM hgl hzx hzy
      go_upto_region 5 with fail
      rw [HW3.out]
      refine wp_region_S (S := fun w' => w'.cell? ⟨wr.heap.size, 0, none⟩ = some (.string x) ∧ w'.cell? ⟨wr.heap.size, 1, none⟩ = some (.string y)) 18 (by kernel_rfl) ?hSr (fun hHeld => ?hRr)
      case hSr => exact ⟨t0, t1⟩
      refine wpAnyS_take (i := 0) (oi := { dst := some 19, op := Op.move (Operand.tmp 0), type := 22, pos := "law.go:23", after := #[], guard := none }) (v := ?gvr0) [17, 18] rfl (by kernel_rfl) (by kernel_rfl) (by kernel_rfl) (by kernel_rfl) (fun _ _ _ h => h) (Or.inl ⟨by rfl, ?gyr0⟩) (by assumption) ?grr0
      case gyr0 => (intro w hSw; (try dsimp only at hSw); go_simp; try with_reducible rfl)
      try simp only [Act.put, List.setIfInBounds_toArray, List.set_cons_zero, List.set_cons_succ]
      refine wpAnyS_take (i := 1) (oi := { dst := some 20, op := Op.move (Operand.tmp 3), type := 3, pos := "law.go:23", after := #[], guard := none }) (v := ?gvr1) [17, 18] rfl (by kernel_rfl) (by kernel_rfl) (by kernel_rfl) (by kernel_rfl) (fun _ _ _ h => h) (Or.inl ⟨by rfl, ?gyr1⟩) (by assumption) ?grr1
      case gyr1 => (intro w hSw; (try dsimp only at hSw); go_simp; try with_reducible rfl)
      try simp only [Act.put, List.setIfInBounds_toArray, List.set_cons_zero, List.set_cons_succ]
      refine wpAnyS_take (i := 2) (oi := { dst := some 21, op := Op.fieldAddr 40 (Operand.tmp 4) 0, type := 0, pos := "law.go:23", after := #[], guard := none }) (v := ?gvr2) [3, 8, 16, 17, 18] rfl (by kernel_rfl) (by kernel_rfl) (by kernel_rfl) (by kernel_rfl) (fun _ _ _ h => h) (Or.inl ⟨by rfl, ?gyr2⟩) (by assumption) ?grr2
      case gyr2 => (intro w hSw; (try dsimp only at hSw); go_simp; try with_reducible rfl)
      try simp only [Act.put, List.setIfInBounds_toArray, List.set_cons_zero, List.set_cons_succ]
      refine wpAnyS_take (i := 3) (oi := { dst := some 22, op := Op.load 9 (Operand.tmp 21), type := 9, pos := "law.go:23", after := #[{ on := 2, ground := Ground.data }], guard := none }) (v := ?gvr3) [8, 16, 17, 18] rfl (by kernel_rfl) (by kernel_rfl) (by kernel_rfl) (by kernel_rfl) (fun _ _ _ h => h) (Or.inl ⟨by rfl, ?gyr3⟩) (by assumption) ?grr3
      case gyr3 => (intro w hSw; (try dsimp only at hSw); go_simp; try with_reducible rfl)
      try simp only [Act.put, List.setIfInBounds_toArray, List.set_cons_zero, List.set_cons_succ]
      refine wpAnyS_take (i := 4) (oi := { dst := some 23, op := Op.fieldAddr 40 (Operand.tmp 4) 0, type := 0, pos := "law.go:23", after := #[], guard := none }) (v := ?gvr4) [5, 6, 7, 8, 16, 17, 18] rfl (by kernel_rfl) (by kernel_rfl) (by kernel_rfl) (by kernel_rfl) (fun _ _ _ h => h) (Or.inl ⟨by rfl, ?gyr4⟩) (by assumption) ?grr4
      case gyr4 => (intro w hSw; (try dsimp only at hSw); go_simp; try with_reducible rfl)
      try simp only [Act.put, List.setIfInBounds_toArray, List.set_cons_zero, List.set_cons_succ]
      refine wpAnyS_take (i := 5) (oi := { dst := some 24, op := Op.load 9 (Operand.tmp 23), type := 9, pos := "law.go:23", after := #[{ on := 4, ground := Ground.data }], guard := none }) (v := ?gvr5) [6, 7, 8, 16, 17, 18] rfl (by kernel_rfl) (by kernel_rfl) (by kernel_rfl) (by kernel_rfl) (fun _ _ _ h => h) (Or.inl ⟨by rfl, ?gyr5⟩) (by assumption) ?grr5
      case gyr5 => (intro w hSw; (try dsimp only at hSw); go_simp; try with_reducible rfl)
      try simp only [Act.put, List.setIfInBounds_toArray, List.set_cons_zero, List.set_cons_succ]
      refine wpAnyS_take (i := 6) (oi := { dst := some 25, op := Op.call { callee := Callee.builtin Builtin.len, args := #[Operand.tmp 24], argTypes := #[9] }, type := 3, pos := "law.go:23", after := #[{ on := 5, ground := Ground.data }], guard := none }) (v := ?gvr6) [7, 8, 16, 17, 18] rfl (by kernel_rfl) (by kernel_rfl) (by kernel_rfl) (by kernel_rfl) (fun _ _ _ h => h) (Or.inl ⟨by rfl, ?gyr6⟩) (by assumption) ?grr6
      case gyr6 => (intro w hSw; (try dsimp only at hSw); go_simp; try with_reducible rfl)
      try simp only [Act.put, List.setIfInBounds_toArray, List.set_cons_zero, List.set_cons_succ]
      refine wpAnyS_take (i := 7) (oi := { dst := some 26, op := Op.call { callee := Callee.builtin Builtin.min, args := #[Operand.tmp 25, Operand.const (Value.int IntKind.i64 80)], argTypes := #[3, 3] }, type := 3, pos := "law.go:23", after := #[{ on := 6, ground := Ground.data }], guard := none }) (v := ?gvr7) [8, 16, 17, 18] rfl (by kernel_rfl) (by kernel_rfl) (by kernel_rfl) (by kernel_rfl) (fun _ _ _ h => h) (Or.inl ⟨by rfl, ?gyr7⟩) (by assumption) ?grr7
      case gyr7 => (intro w hSw; (try dsimp only at hSw); go_simp; try with_reducible rfl)
      try simp only [Act.put, List.setIfInBounds_toArray, List.set_cons_zero, List.set_cons_succ]
      refine wpAnyS_take (i := 8) (oi := { dst := some 27, op := Op.slice 9 (Operand.tmp 22) none (some (Operand.tmp 26)) none, type := 9, pos := "law.go:23", after := #[{ on := 3, ground := Ground.data }, { on := 7, ground := Ground.data }], guard := none }) (v := ?gvr8) [16, 17, 18] rfl (by kernel_rfl) (by kernel_rfl) (by kernel_rfl) (by kernel_rfl) (fun _ _ _ h => h) (Or.inl ⟨by rfl, ?gyr8⟩) (by assumption) ?grr8
      case gyr8 => (intro w hSw; (try dsimp only at hSw); go_simp; try with_reducible rfl)
      try simp only [Act.put, List.setIfInBounds_toArray, List.set_cons_zero, List.set_cons_succ]
      refine wpAnyS_take (i := 9) (oi := { dst := some 28, op := Op.fieldAddr 40 (Operand.tmp 4) 1, type := 0, pos := "law.go:23", after := #[], guard := none }) (v := ?gvr9) [10, 15, 16, 17, 18] rfl (by kernel_rfl) (by kernel_rfl) (by kernel_rfl) (by kernel_rfl) (fun _ _ _ h => h) (Or.inl ⟨by rfl, ?gyr9⟩) (by assumption) ?grr9
      case gyr9 => (intro w hSw; (try dsimp only at hSw); go_simp; try with_reducible rfl)
      try simp only [Act.put, List.setIfInBounds_toArray, List.set_cons_zero, List.set_cons_succ]
      refine wpAnyS_take (i := 10) (oi := { dst := some 29, op := Op.load 9 (Operand.tmp 28), type := 9, pos := "law.go:23", after := #[{ on := 9, ground := Ground.data }], guard := none }) (v := ?gvr10) [15, 16, 17, 18] rfl (by kernel_rfl) (by kernel_rfl) (by kernel_rfl) (by kernel_rfl) (fun _ _ _ h => h) (Or.inl ⟨by rfl, ?gyr10⟩) (by assumption) ?grr10
      case gyr10 => (intro w hSw; (try dsimp only at hSw); go_simp; try with_reducible rfl)
      try simp only [Act.put, List.setIfInBounds_toArray, List.set_cons_zero, List.set_cons_succ]
      refine wpAnyS_take (i := 11) (oi := { dst := some 30, op := Op.fieldAddr 40 (Operand.tmp 4) 1, type := 0, pos := "law.go:23", after := #[], guard := none }) (v := ?gvr11) [12, 13, 14, 15, 16, 17, 18] rfl (by kernel_rfl) (by kernel_rfl) (by kernel_rfl) (by kernel_rfl) (fun _ _ _ h => h) (Or.inl ⟨by rfl, ?gyr11⟩) (by assumption) ?grr11
      case gyr11 => (intro w hSw; (try dsimp only at hSw); go_simp; try with_reducible rfl)
      try simp only [Act.put, List.setIfInBounds_toArray, List.set_cons_zero, List.set_cons_succ]
      refine wpAnyS_take (i := 12) (oi := { dst := some 31, op := Op.load 9 (Operand.tmp 30), type := 9, pos := "law.go:23", after := #[{ on := 11, ground := Ground.data }], guard := none }) (v := ?gvr12) [13, 14, 15, 16, 17, 18] rfl (by kernel_rfl) (by kernel_rfl) (by kernel_rfl) (by kernel_rfl) (fun _ _ _ h => h) (Or.inl ⟨by rfl, ?gyr12⟩) (by assumption) ?grr12
      case gyr12 => (intro w hSw; (try dsimp only at hSw); go_simp; try with_reducible rfl)
      try simp only [Act.put, List.setIfInBounds_toArray, List.set_cons_zero, List.set_cons_succ]
      refine wpAnyS_take (i := 13) (oi := { dst := some 32, op := Op.call { callee := Callee.builtin Builtin.len, args := #[Operand.tmp 31], argTypes := #[9] }, type := 3, pos := "law.go:23", after := #[{ on := 12, ground := Ground.data }], guard := none }) (v := ?gvr13) [14, 15, 16, 17, 18] rfl (by kernel_rfl) (by kernel_rfl) (by kernel_rfl) (by kernel_rfl) (fun _ _ _ h => h) (Or.inl ⟨by rfl, ?gyr13⟩) (by assumption) ?grr13
      case gyr13 => (intro w hSw; (try dsimp only at hSw); go_simp; try with_reducible rfl)
      try simp only [Act.put, List.setIfInBounds_toArray, List.set_cons_zero, List.set_cons_succ]
      refine wpAnyS_take (i := 14) (oi := { dst := some 33, op := Op.call { callee := Callee.builtin Builtin.min, args := #[Operand.tmp 32, Operand.const (Value.int IntKind.i64 1200)], argTypes := #[3, 3] }, type := 3, pos := "law.go:23", after := #[{ on := 13, ground := Ground.data }], guard := none }) (v := ?gvr14) [15, 16, 17, 18] rfl (by kernel_rfl) (by kernel_rfl) (by kernel_rfl) (by kernel_rfl) (fun _ _ _ h => h) (Or.inl ⟨by rfl, ?gyr14⟩) (by assumption) ?grr14
      case gyr14 => (intro w hSw; (try dsimp only at hSw); go_simp; try with_reducible rfl)
      try simp only [Act.put, List.setIfInBounds_toArray, List.set_cons_zero, List.set_cons_succ]
      refine wpAnyS_take (i := 15) (oi := { dst := some 34, op := Op.slice 9 (Operand.tmp 29) none (some (Operand.tmp 33)) none, type := 9, pos := "law.go:23", after := #[{ on := 10, ground := Ground.data }, { on := 14, ground := Ground.data }], guard := none }) (v := ?gvr15) [16, 17, 18] rfl (by kernel_rfl) (by kernel_rfl) (by kernel_rfl) (by kernel_rfl) (fun _ _ _ h => h) (Or.inl ⟨by rfl, ?gyr15⟩) (by assumption) ?grr15
      case gyr15 => (intro w hSw; (try dsimp only at hSw); go_simp; try with_reducible rfl)
      try simp only [Act.put, List.setIfInBounds_toArray, List.set_cons_zero, List.set_cons_succ]
      refine wpAnyS_take (i := 16) (oi := { dst := some 35, op := Op.build 40 #[(0, Operand.tmp 27), (1, Operand.tmp 34)], type := 40, pos := "law.go:23", after := #[{ on := 8, ground := Ground.data }, { on := 15, ground := Ground.data }], guard := none }) (v := ?gvr16) [17, 18] rfl (by kernel_rfl) (by kernel_rfl) (by kernel_rfl) (by kernel_rfl) (fun _ _ _ h => h) (Or.inl ⟨by rfl, ?gyr16⟩) (by assumption) ?grr16
      case gyr16 => (intro w hSw; (try dsimp only at hSw); go_simp; try with_reducible rfl)
      try simp only [Act.put, List.setIfInBounds_toArray, List.set_cons_zero, List.set_cons_succ]
      refine wpAnyS_take (i := 17) (oi := { dst := some 36, op := Op.indexAddr 22 (Operand.tmp 19) (Operand.tmp 20), type := 0, pos := "law.go:23", after := #[{ on := 0, ground := Ground.data }, { on := 1, ground := Ground.data }, { on := 0, ground := Ground.phase }, { on := 1, ground := Ground.phase }, { on := 2, ground := Ground.phase }, { on := 3, ground := Ground.phase }, { on := 4, ground := Ground.phase }, { on := 5, ground := Ground.phase }, { on := 6, ground := Ground.phase }, { on := 7, ground := Ground.phase }, { on := 8, ground := Ground.phase }, { on := 9, ground := Ground.phase }, { on := 10, ground := Ground.phase }, { on := 11, ground := Ground.phase }, { on := 12, ground := Ground.phase }, { on := 13, ground := Ground.phase }, { on := 14, ground := Ground.phase }, { on := 15, ground := Ground.phase }, { on := 16, ground := Ground.phase }], guard := none }) (v := ?gvr17) [18] rfl (by kernel_rfl) (by kernel_rfl) (by kernel_rfl) (by kernel_rfl) (fun _ _ _ h => h) (Or.inl ⟨by rfl, ?gyr17⟩) (by assumption) ?grr17
      case gyr17 => (intro w hSw; (try dsimp only at hSw); go_simp; try with_reducible rfl)
      try simp only [Act.put, List.setIfInBounds_toArray, List.set_cons_zero, List.set_cons_succ]
      refine wpAnyS_ready (rs := [18]) (by kernel_rfl) (by simp) ?_
      refine AllReadyS.cons (o := { dst := none, op := Op.store 40 (Operand.tmp 36) (Operand.tmp 35), type := 0, pos := "law.go:23", after := #[{ on := 17, ground := Ground.data }, { on := 16, ground := Ground.data }, { on := 0, ground := Ground.phase }, { on := 1, ground := Ground.phase }, { on := 2, ground := Ground.phase }, { on := 3, ground := Ground.phase }, { on := 4, ground := Ground.phase }, { on := 5, ground := Ground.phase }, { on := 6, ground := Ground.phase }, { on := 7, ground := Ground.phase }, { on := 8, ground := Ground.phase }, { on := 9, ground := Ground.phase }, { on := 10, ground := Ground.phase }, { on := 11, ground := Ground.phase }, { on := 12, ground := Ground.phase }, { on := 13, ground := Ground.phase }, { on := 14, ground := Ground.phase }, { on := 15, ground := Ground.phase }, { on := 16, ground := Ground.phase }], guard := none }) rfl (fun K hK => ?cr18) AllReadyS.nil
      rw [if_pos (by kernel_rfl)]
      go_simp
      refine hK.out _ _ ?hSr18 (fun hHeldr18 => ?hRr18)
      case hSr18 => exact fun h => Bool.noConfusion (show true = false from h)
      clear hK K
      clear hHeldr18
      try simp only [Act.put, List.setIfInBounds_toArray, List.set_cons_zero, List.set_cons_succ]
      refine wpAnyS_done (by kernel_rfl) ?_ _
      obtain ⟨W4, hW4⟩ : ∃ W4, ((W3.setCell ⟨g, k * 2, none⟩ (.string (x.extract 0 zx))).setCell ⟨g, k * 2 + 1, none⟩ (.string (y.extract 0 zy))).drew = W4 := ⟨_, rfl⟩
      rw [hW4]
      have hne : ∀ j, j ≠ g → W4.heap[j]? = W3.heap[j]? := fun j hj => by rw [← hW4]; exact (Below.heap_setCell _ _ _ _ hj).trans (Below.heap_setCell _ _ _ _ hj)
      have hO1n : W4.ownsRow w.heap.size 40 2 (.slice (some ⟨g, 0, none⟩) kl vc) kl (cellsL ((turnL cutO L (k + 1)).map objCell)) := by
        rw [← HNX.out, ← hW4, HCX.out, HCY.out]
        exact own_set (own_set (own_keep HR.out HB3.out) _) _
      have hBn : Below w.heap.size w W4 := by
        rw [← hW4]
        exact (((Below.then HBR.out HB3.out).setCell (p := ⟨g, k * 2, none⟩) HGM.out _).setCell (p := ⟨g, k * 2 + 1, none⟩) HGM.out _).drew
      have HO1n := Lib.hid hO1n
      have HBn := Lib.hid hBn
      clear hW4 hne hO1n hBn
      go_wp2_with fail
      go_roundw
      case rel => exact ⟨k + 1, by omega, by go_num, HO1n.out, HBn.out⟩
      case measure => simp [intOf]; omega
    · have HE := Lib.hid (show FewEnds l w (.returned (.slice va kl vc)) wr from by
        rw [turnL_all cutO L k (by rw [HLL.out]; omega)] at ho
        refine ⟨_, kl, rfl, ⟨by rw [HFEW.out, List.length_map]; exact HLL.out, by rw [HFEW.out]; exact ho, fun o h => ?_⟩, hb⟩
        have := (fewO_few l).size o h
        exact ⟨Nat.le_trans this.1 (by decide), Nat.le_trans this.2 (by decide)⟩)
      clear ho hb
      go_wp2_with fail
      go_ret
      exact HE.out
end Go.Proofs.YtepcaglekgeamaaGreatDoor
