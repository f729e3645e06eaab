/-
  The manifests' laws' few of a manifest, by a contract. Conditions: none.
-/
import Derived.Test.YtfcglnajdfpmhaaGreatDoorZManR
import Derived.Test.YtfcglnajdfpmhaaGreatDoorZCloP
import Derived.Test.YtfcglnajdfpmhaaGreatDoorZRegS
import Derived.Test.YtfcglnajdfpmhaaGreatDoorZMan3
import Derived.Lib.MinMax
import Derived.Deep.CutBlock
import Derived.Deep.CutRange
/-! The manifests' laws' few of a manifest, by a contract. Conditions: none. -/
namespace Go.Proofs.YtfcglnajdfpmhaaGreatDoor
open Go.RowKit Go.WideShapes

theorem own_cap {w : World} {base : Nat} {e : TypeId} {size n c : Nat} {a : Option Addr} {xs : List Value} (h : w.ownsRow base e size (.slice a n c) n xs) : n ≤ c ∧ c ≤ maxLen := by
  obtain ⟨a', c', e, h1, h2⟩ := own_shape h
  simp only [Value.slice.injEq, true_and] at e
  obtain ⟨-, rfl⟩ := e
  exact ⟨h1, h2⟩
theorem layerNeStr : 42 ≠ 9 := by decide
theorem At4.put1 {w : World} {B : Nat} {a b c d : Value} (h : At4 w B a b c d) (u : Value) : At4 (w.setCell ⟨B, 1, none⟩ u) B a u c d := by unfold At4; rw [heap_setCell_same _ _ _ _ _ _ h]; rfl
theorem At4.put2 {w : World} {B : Nat} {a b c d : Value} (h : At4 w B a b c d) (u : Value) : At4 (w.setCell ⟨B, 2, none⟩ u) B a b u d := by unfold At4; rw [heap_setCell_same _ _ _ _ _ _ h]; rfl
theorem At4.put3 {w : World} {B : Nat} {a b c d : Value} (h : At4 w B a b c d) (u : Value) : At4 (w.setCell ⟨B, 3, none⟩ u) B a b c u := by unfold At4; rw [heap_setCell_same _ _ _ _ _ _ h]; rfl
theorem At4.block {w w' : World} {B : Nat} {a b c d : Value} (h : At4 w B a b c d) (hb : w'.heap[B]? = w.heap[B]?) : At4 w' B a b c d := hb.trans h
def cutLay (l : ByteArray × Int) : ByteArray × Int := (cut80 l.1, l.2)
theorem one_layers (l : List (ByteArray × Int)) : ∀ u ∈ cellsL (l.map layerCell), u.oneCell' = true := by
  intro u hu
  simp only [cellsL, List.mem_flatMap, List.mem_map] at hu
  obtain ⟨p, ⟨x, -, rfl⟩, hp⟩ := hu
  simp [layerCell] at hp
  rcases hp with rfl | rfl <;> rfl
/-- Both rows made: M holds the manifest, Z is free yet. -/
def FewMid (W1 : World) (M : Nat) (i : Bool) (c : ByteArray) (ls : List (ByteArray × Int)) (ks : List ByteArray) (kl kk : Nat) (wx : World) : Prop :=
  ∃ a1 c1 a2 c2, At4 wx M (.bool i) (.string c) (.slice a1 kl c1) (.slice a2 kk c2) ∧ At4 wx (M + 1) (.bool false) (.string ⟨#[]⟩) (.slice none 0 0) (.slice none 0 0) ∧
    wx.ownsRow (M + 2) 42 2 (.slice a1 kl c1) kl (cellsL (ls.map layerCell)) ∧ wx.ownsRow (M + 2) 9 1 (.slice a2 kk c2) kk (ks.map Value.string) ∧ Below M W1 wx ∧ M + 2 ≤ wx.heap.size
theorem few_mid {W1 wc : World} {M : Nat} {i : Bool} {c : ByteArray} {ls : List (ByteArray × Int)} {ks : List ByteArray} {kl kk : Nat} {x1 x2 : Value} {a1 a2 : Option Addr} {c1 c2 : Nat}
    (hA : At4 W1 M (.bool i) (.string c) x1 x2) (hZ : At4 W1 (M + 1) (.bool false) (.string ⟨#[]⟩) (.slice none 0 0) (.slice none 0 0)) (hs : W1.heap.size = M + 2) (hb : Below W1.heap.size W1 wc)
    (h1 : wc.ownsRow (M + 2) 42 2 (.slice a1 kl c1) kl (cellsL (ls.map layerCell))) (h2 : wc.ownsRow (M + 2) 9 1 (.slice a2 kk c2) kk (ks.map Value.string)) :
    FewMid W1 M i c ls ks kl kk ((wc.setCell ⟨M, 2, none⟩ (.slice a1 kl c1)).setCell ⟨M, 3, none⟩ (.slice a2 kk c2)) := by
  have hf : ∀ k, k ≠ M → ((wc.setCell ⟨M, 2, none⟩ (.slice a1 kl c1)).setCell ⟨M, 3, none⟩ (.slice a2 kk c2)).heap[k]? = wc.heap[k]? := fun k hk => (Below.heap_setCell _ _ _ _ hk).trans (Below.heap_setCell _ _ _ _ hk)
  have hsz : ((wc.setCell ⟨M, 2, none⟩ (.slice a1 kl c1)).setCell ⟨M, 3, none⟩ (.slice a2 kk c2)).heap.size = wc.heap.size := by rw [setCell_size, setCell_size]
  have hws := hb.size
  refine ⟨a1, c1, a2, c2, ((hA.keep hb).put2 _).put3 _, (hZ.keep hb).block (hf _ (by omega)), own_block h1 fun g hg => hf g (by have := (h1.lt g hg).1; omega), own_block h2 fun g hg => hf g (by have := (h2.lt g hg).1; omega), ?_, by rw [hsz]; omega⟩
  exact ((hb.mono (by omega)).setCell (p := ⟨M, 2, none⟩) (Nat.le_refl M) _).setCell (p := ⟨M, 3, none⟩) (Nat.le_refl M) _

set_option maxRecDepth 100000 in
set_option maxHeartbeats 8000000 in
theorem fewM_t (m : Man) (v : Value) (w : World) (hv : ManAt w v m) :
    Calls Tryz.prog 12 #[v] w fun e w' => ∃ v', e = .returned v' ∧ ManMade w (fewM m) v' w' := by
  obtain ⟨⟨lv, kv, rfl, hl, hk⟩, hcz, hlz, hkz⟩ := hv
  obtain ⟨la, lc, rfl, hl1, hl2⟩ := hl.cap
  obtain ⟨ka, kc, rfl, hk1, hk2⟩ := hk.cap
  rw [List.length_map] at hl hl1 ⊢
  obtain ⟨i, c, ls, ks⟩ := m
  simp only at hl hk hcz hlz hkz hl1 hk1 ⊢
  obtain ⟨nl, hnl⟩ : ∃ n, ls.length = n := ⟨_, rfl⟩
  obtain ⟨nk, hnk⟩ : ∃ n, ks.length = n := ⟨_, rfl⟩
  rw [hnl] at hl hl1 ⊢
  rw [hnk] at hk hk1 ⊢
  obtain ⟨kl, hkl⟩ : ∃ k, min nl 10 = k := ⟨_, rfl⟩
  obtain ⟨kk, hkk⟩ : ∃ k, min nk 10 = k := ⟨_, rfl⟩
  obtain ⟨z, hz⟩ : ∃ k, min c.size 80 = k := ⟨_, rfl⟩
  have hkn : kl ≤ nl ∧ kk ≤ nk ∧ kl ≤ 10 ∧ kk ≤ 10 := by omega
  have HSL := Lib.hid (show SrcOf 2 w (.slice la kl lc) kl (cellsL ((ls.take 10).map layerCell)) by
    have h := (hl.cut kl (by rw [List.length_map]; omega)).src
    rw [List.length_take, List.length_map, hnl, Nat.min_eq_left hkn.1, ← List.map_take] at h
    rwa [show ls.take 10 = ls.take kl by rcases Nat.le_total nl 10 with e | e
                                         · rw [List.take_of_length_le (by omega), List.take_of_length_le (by omega)]
                                         · rw [show kl = 10 by omega]])
  have HSK := Lib.hid (show SrcOf 1 w (.slice ka kk kc) kk ((ks.take 10).map Value.string) by
    have h := (hk.take kk (by omega)).src
    rw [List.length_take, hnk, Nat.min_eq_left hkn.2.1] at h
    rwa [show ks.take 10 = ks.take kk by rcases Nat.le_total nk 10 with e | e
                                         · rw [List.take_of_length_le (by omega), List.take_of_length_le (by omega)]
                                         · rw [show kk = 10 by omega]])
  have HCUT := Lib.hid (show c.extract 0 z = cut80 c by unfold cut80; rw [hz])
  have HLL := Lib.hid (show (ls.take 10).length = kl by rw [List.length_take]; omega)
  have HKL := Lib.hid (show (ks.take 10).length = kk by rw [List.length_take]; omega)
  have HLZ := Lib.hid (show ∀ l ∈ ls.take 10, l.1.size ≤ maxLen ∧ -9223372036854775808 ≤ l.2 ∧ l.2 ≤ 9223372036854775807 from fun l h => hlz l (List.mem_of_mem_take h))
  have HKZ := Lib.hid (show ∀ k ∈ ks.take 10, k.size ≤ maxLen from fun k h => hkz k (List.mem_of_mem_take h))
  have HFEW := Lib.hid (show fewM ⟨i, c, ls, ks⟩ = ⟨i, cut80 c, (ls.take 10).map cutLay, (ks.take 10).map cut80⟩ from rfl)
  have q1 : min (nl : Int) 10 = (kl : Int) := by omega
  have q2 : min (nk : Int) 10 = (kk : Int) := by omega
  have q3 : min (c.size : Int) 80 = (z : Int) := by omega
  have q4 : (kl : Int) ≤ (lc : Int) := by omega
  have q5 : (kk : Int) ≤ (kc : Int) := by omega
  have q6 : z ≤ c.size := by omega
  unfold maxLen at hl2 hk2 hcz
  obtain ⟨i0, hi, hz0, hz1, hz2⟩ := info_parts infoStr
  obtain ⟨i1, hi1, hy0, hy1, hy2⟩ := info_parts layerInfo
  obtain ⟨L10, hL10⟩ : ∃ x, ls.take 10 = x := ⟨_, rfl⟩
  obtain ⟨K10, hK10⟩ : ∃ x, ks.take 10 = x := ⟨_, rfl⟩
  rw [hL10] at HSL HLL HLZ HFEW
  rw [hK10] at HSK HKL HKZ HFEW
  obtain ⟨M, hM⟩ : ∃ M, w.heap.size = M := ⟨_, rfl⟩
  obtain ⟨W, hW⟩ : ∃ W, (w.alloc (.cells #[.bool i, .string c, .slice la nl lc, .slice ka nk kc] 25)).alloc (.cells #[.bool false, .string ⟨#[]⟩, .slice none 0 0, .slice none 0 0] 25) = W := ⟨_, rfl⟩
  have hWs : W.heap.size = M + 2 := by rw [← hW, World.size_alloc, World.size_alloc, hM]
  have hbW : Below M w W := by rw [← hM, ← hW]; exact Below.then (below_new _ _) (below_new _ _)
  have hA : At4 W M (.bool i) (.string c) (.slice la nl lc) (.slice ka nk kc) := by rw [← hM, ← hW]; exact (At4.new _ _ _ _ _).keep (below_new _ _)
  have hZ : At4 W (M + 1) (.bool false) (.string ⟨#[]⟩) (.slice none 0 0) (.slice none 0 0) := by
    rw [← hW, ← hM]
    have e := At4.new (w.alloc (.cells #[.bool i, .string c, .slice la nl lc, .slice ka nk kc] 25)) (.bool false) (.string ⟨#[]⟩) (.slice none 0 0) (.slice none 0 0)
    rwa [World.size_alloc] at e
  obtain ⟨W1, hW1⟩ : ∃ W1, W.setCell ⟨M, 1, none⟩ (.string (c.extract 0 z)) = W1 := ⟨_, rfl⟩
  have hW1s : W1.heap.size = M + 2 := by rw [← hW1, setCell_size, hWs]
  have hbM : Below M W W1 := by rw [← hW1]; exact (Below.refl _ _).setCell (p := ⟨M, 1, none⟩) (Nat.le_refl M) _
  have hA1 : At4 W1 M (.bool i) (.string (cut80 c)) (.slice la nl lc) (.slice ka nk kc) := by rw [← hW1, HCUT.out]; exact hA.put1 _
  have hZ1 : At4 W1 (M + 1) (.bool false) (.string ⟨#[]⟩) (.slice none 0 0) (.slice none 0 0) := hZ.block (by rw [← hW1]; exact Below.heap_setCell _ _ _ _ (by simp))
  have HW := Lib.hid hW
  have HW1 := Lib.hid hW1
  have HM := Lib.hid hM
  have HS1 := Lib.hid hW1s
  have HB1 := Lib.hid (hbW.trans hbM)
  have HA1 := Lib.hid hA1
  have HZ1 := Lib.hid hZ1
  have HSL1 := Lib.hid (HSL.out.keep (by rw [hM]; exact hbW.trans hbM))
  have HSK1 := Lib.hid (HSK.out.keep (by rw [hM]; exact hbW.trans hbM))
  obtain ⟨a0, a1, a2, a3⟩ := hA.cells
  have f1 := hA.frozen 1
  have hkl10 := hkn.2.2.1
  have hkk10 := hkn.2.2.2
  clear hW hW1 hWs hW1s hbW hbM hA hZ hA1 hZ1 hl hk hlz hkz hnl hnk hkl hkk hz hkn hL10 hK10 HSL HSK hl1 hk1 HCUT
  go_enter Tryz.func12, Tryz.ntmps12
  go_upto_region 1 with fail
  rw [HW.out]
  go_upto_region 2 with fail
  rw [HW1.out]
  obtain ⟨b0, b1, b2, b3⟩ := HA1.out.cells
  clear a0 a1 a2 a3 f1 hM
  go_cut [] from 15 to 34 (fun wx => FewMid W1 M i (cut80 c) L10 K10 kl kk wx)
  case first =>
    have hb0 : Below W1.heap.size W1 W1.drew := (Below.refl _ _).drew
    refine wp_region_S (S := fun w' => w'.cell? ⟨M, 2, none⟩ = some (.slice la nl lc) ∧ w'.cell? ⟨M, 3, none⟩ = some (.slice ka nk kc)) 19 (by kernel_rfl) ?hS (fun hHeld => ?hR)
    case hS => exact ⟨b2, b3⟩
    obtain ⟨wD, hwD⟩ : ∃ x, W1.drew = x := ⟨_, rfl⟩
    rw [hwD] at hb0 hHeld ⊢
    refine wpAnyS_take (i := 1) (oi := { dst := some 16, op := Op.fieldAddr 25 (Operand.tmp 1) 2, type := 0, pos := "law.go:21", after := #[], guard := none }) (v := ?gv1) [2, 7, 8, 17, 18, 19, 20, 21] rfl (by kernel_rfl) (by kernel_rfl) (by kernel_rfl) (by kernel_rfl) (fun _ _ _ h => h) (Or.inl ⟨by rfl, ?gy1⟩) (by assumption) ?gr1
    case gy1 => (intro w hSw; (try dsimp only at hSw); go_simp; try with_reducible rfl)
    try simp only [Act.put, List.setIfInBounds_toArray, List.set_cons_zero, List.set_cons_succ]
    refine wpAnyS_take (i := 2) (oi := { dst := some 17, op := Op.load 22 (Operand.tmp 16), type := 22, pos := "law.go:21", after := #[{ on := 1, ground := Ground.data }], guard := none }) (v := ?gv2) [7, 8, 17, 18, 19, 20, 21] rfl (by kernel_rfl) (by kernel_rfl) (by kernel_rfl) (by kernel_rfl) (fun _ _ _ h => h) (Or.inl ⟨by rfl, ?gy2⟩) (by assumption) ?gr2
    case gy2 => (intro w hSw; (try dsimp only at hSw); go_simp; try with_reducible rfl)
    try simp only [Act.put, List.setIfInBounds_toArray, List.set_cons_zero, List.set_cons_succ]
    refine wpAnyS_take (i := 3) (oi := { dst := some 18, op := Op.fieldAddr 25 (Operand.tmp 1) 2, type := 0, pos := "law.go:21", after := #[], guard := none }) (v := ?gv3) [4, 5, 6, 7, 8, 17, 18, 19, 20, 21] rfl (by kernel_rfl) (by kernel_rfl) (by kernel_rfl) (by kernel_rfl) (fun _ _ _ h => h) (Or.inl ⟨by rfl, ?gy3⟩) (by assumption) ?gr3
    case gy3 => (intro w hSw; (try dsimp only at hSw); go_simp; try with_reducible rfl)
    try simp only [Act.put, List.setIfInBounds_toArray, List.set_cons_zero, List.set_cons_succ]
    refine wpAnyS_take (i := 4) (oi := { dst := some 19, op := Op.load 22 (Operand.tmp 18), type := 22, pos := "law.go:21", after := #[{ on := 3, ground := Ground.data }], guard := none }) (v := ?gv4) [5, 6, 7, 8, 17, 18, 19, 20, 21] rfl (by kernel_rfl) (by kernel_rfl) (by kernel_rfl) (by kernel_rfl) (fun _ _ _ h => h) (Or.inl ⟨by rfl, ?gy4⟩) (by assumption) ?gr4
    case gy4 => (intro w hSw; (try dsimp only at hSw); go_simp; try with_reducible rfl)
    try simp only [Act.put, List.setIfInBounds_toArray, List.set_cons_zero, List.set_cons_succ]
    refine wpAnyS_take (i := 5) (oi := { dst := some 20, op := Op.call { callee := Callee.builtin Builtin.len, args := #[Operand.tmp 19], argTypes := #[22] }, type := 3, pos := "law.go:21", after := #[{ on := 4, ground := Ground.data }], guard := none }) (v := ?gv5) [6, 7, 8, 17, 18, 19, 20, 21] rfl (by kernel_rfl) (by kernel_rfl) (by kernel_rfl) (by kernel_rfl) (fun _ _ _ h => h) (Or.inl ⟨by rfl, ?gy5⟩) (by assumption) ?gr5
    case gy5 => (intro w hSw; (try dsimp only at hSw); go_simp; try with_reducible rfl)
    try simp only [Act.put, List.setIfInBounds_toArray, List.set_cons_zero, List.set_cons_succ]
    refine wpAnyS_take (i := 6) (oi := { dst := some 21, op := Op.call { callee := Callee.builtin Builtin.min, args := #[Operand.tmp 20, Operand.const (Value.int IntKind.i64 10)], argTypes := #[3, 3] }, type := 3, pos := "law.go:21", after := #[{ on := 5, ground := Ground.data }], guard := none }) (v := ?gv6) [7, 8, 17, 18, 19, 20, 21] rfl (by kernel_rfl) (by kernel_rfl) (by kernel_rfl) (by kernel_rfl) (fun _ _ _ h => h) (Or.inl ⟨by rfl, ?gy6⟩) (by assumption) ?gr6
    case gy6 => (intro w hSw; (try dsimp only at hSw); go_simp; try with_reducible rfl)
    try simp only [Act.put, List.setIfInBounds_toArray, List.set_cons_zero, List.set_cons_succ]
    refine wpAnyS_take (i := 7) (oi := { dst := some 22, op := Op.slice 22 (Operand.tmp 17) none (some (Operand.tmp 21)) none, type := 22, pos := "law.go:21", after := #[{ on := 2, ground := Ground.data }, { on := 6, ground := Ground.data }], guard := none }) (v := ?gv7) [8, 17, 18, 19, 20, 21] rfl (by kernel_rfl) (by kernel_rfl) (by kernel_rfl) (by kernel_rfl) (fun _ _ _ h => h) (Or.inl ⟨by rfl, ?gy7⟩) (by assumption) ?gr7
    case gy7 => (intro w hSw; (try dsimp only at hSw); go_simp; try with_reducible rfl)
    try simp only [Act.put, List.setIfInBounds_toArray, List.set_cons_zero, List.set_cons_succ]
    refine wpAnyS_take (i := 10) (oi := { dst := some 25, op := Op.fieldAddr 25 (Operand.tmp 1) 3, type := 0, pos := "law.go:21", after := #[], guard := none }) (v := ?gv10) [11, 16, 17, 18, 19, 20, 21] rfl (by kernel_rfl) (by kernel_rfl) (by kernel_rfl) (by kernel_rfl) (fun _ _ _ h => h) (Or.inl ⟨by rfl, ?gy10⟩) (by assumption) ?gr10
    case gy10 => (intro w hSw; (try dsimp only at hSw); go_simp; try with_reducible rfl)
    try simp only [Act.put, List.setIfInBounds_toArray, List.set_cons_zero, List.set_cons_succ]
    refine wpAnyS_take (i := 11) (oi := { dst := some 26, op := Op.load 23 (Operand.tmp 25), type := 23, pos := "law.go:21", after := #[{ on := 10, ground := Ground.data }], guard := none }) (v := ?gv11) [16, 17, 18, 19, 20, 21] rfl (by kernel_rfl) (by kernel_rfl) (by kernel_rfl) (by kernel_rfl) (fun _ _ _ h => h) (Or.inl ⟨by rfl, ?gy11⟩) (by assumption) ?gr11
    case gy11 => (intro w hSw; (try dsimp only at hSw); go_simp; try with_reducible rfl)
    try simp only [Act.put, List.setIfInBounds_toArray, List.set_cons_zero, List.set_cons_succ]
    refine wpAnyS_take (i := 12) (oi := { dst := some 27, op := Op.fieldAddr 25 (Operand.tmp 1) 3, type := 0, pos := "law.go:21", after := #[], guard := none }) (v := ?gv12) [13, 14, 15, 16, 17, 18, 19, 20, 21] rfl (by kernel_rfl) (by kernel_rfl) (by kernel_rfl) (by kernel_rfl) (fun _ _ _ h => h) (Or.inl ⟨by rfl, ?gy12⟩) (by assumption) ?gr12
    case gy12 => (intro w hSw; (try dsimp only at hSw); go_simp; try with_reducible rfl)
    try simp only [Act.put, List.setIfInBounds_toArray, List.set_cons_zero, List.set_cons_succ]
    refine wpAnyS_take (i := 13) (oi := { dst := some 28, op := Op.load 23 (Operand.tmp 27), type := 23, pos := "law.go:21", after := #[{ on := 12, ground := Ground.data }], guard := none }) (v := ?gv13) [14, 15, 16, 17, 18, 19, 20, 21] rfl (by kernel_rfl) (by kernel_rfl) (by kernel_rfl) (by kernel_rfl) (fun _ _ _ h => h) (Or.inl ⟨by rfl, ?gy13⟩) (by assumption) ?gr13
    case gy13 => (intro w hSw; (try dsimp only at hSw); go_simp; try with_reducible rfl)
    try simp only [Act.put, List.setIfInBounds_toArray, List.set_cons_zero, List.set_cons_succ]
    refine wpAnyS_take (i := 14) (oi := { dst := some 29, op := Op.call { callee := Callee.builtin Builtin.len, args := #[Operand.tmp 28], argTypes := #[23] }, type := 3, pos := "law.go:21", after := #[{ on := 13, ground := Ground.data }], guard := none }) (v := ?gv14) [15, 16, 17, 19, 20, 21] rfl (by kernel_rfl) (by kernel_rfl) (by kernel_rfl) (by kernel_rfl) (fun _ _ _ h => h) (Or.inl ⟨by rfl, ?gy14⟩) (by assumption) ?gr14
    case gy14 => (intro w hSw; (try dsimp only at hSw); go_simp; try with_reducible rfl)
    try simp only [Act.put, List.setIfInBounds_toArray, List.set_cons_zero, List.set_cons_succ]
    refine wpAnyS_take (i := 15) (oi := { dst := some 30, op := Op.call { callee := Callee.builtin Builtin.min, args := #[Operand.tmp 29, Operand.const (Value.int IntKind.i64 10)], argTypes := #[3, 3] }, type := 3, pos := "law.go:21", after := #[{ on := 14, ground := Ground.data }], guard := none }) (v := ?gv15) [16, 17, 19, 20, 21] rfl (by kernel_rfl) (by kernel_rfl) (by kernel_rfl) (by kernel_rfl) (fun _ _ _ h => h) (Or.inl ⟨by rfl, ?gy15⟩) (by assumption) ?gr15
    case gy15 => (intro w hSw; (try dsimp only at hSw); go_simp; try with_reducible rfl)
    try simp only [Act.put, List.setIfInBounds_toArray, List.set_cons_zero, List.set_cons_succ]
    refine wpAnyS_take (i := 16) (oi := { dst := some 31, op := Op.slice 23 (Operand.tmp 26) none (some (Operand.tmp 30)) none, type := 23, pos := "law.go:21", after := #[{ on := 11, ground := Ground.data }, { on := 15, ground := Ground.data }], guard := none }) (v := ?gv16) [17, 19, 20, 21] rfl (by kernel_rfl) (by kernel_rfl) (by kernel_rfl) (by kernel_rfl) (fun _ _ _ h => h) (Or.inl ⟨by rfl, ?gy16⟩) (by assumption) ?gr16
    case gy16 => (intro w hSw; (try dsimp only at hSw); go_simp; try with_reducible rfl)
    try simp only [Act.put, List.setIfInBounds_toArray, List.set_cons_zero, List.set_cons_succ]
    refine wpAnyS_ready (rs := [0, 9]) (by kernel_rfl) (by simp) ?_
    refine AllReadyS.cons (o := { dst := some 15, op := Op.buildSlice 22 0 #[], type := 22, pos := "law.go:21", after := #[], guard := none }) rfl (fun K hK => ?cp0) (AllReadyS.cons (o := { dst := some 24, op := Op.buildSlice 23 0 #[], type := 23, pos := "law.go:21", after := #[], guard := none }) rfl (fun K hK => ?cp9) AllReadyS.nil)
    case cp0 =>
      rw [if_pos (by kernel_rfl)]
      go_simp
      obtain ⟨wA1, hwA1⟩ : ∃ x, wD.alloc (.cells #[] 42) = x := ⟨_, rfl⟩
      try rw [hwA1]
      have hb1 : Below W1.heap.size W1 wA1 := by rw [← hwA1]; exact hb0.alloc (Nat.le_trans (Nat.le_of_eq rfl) hb0.size) _
      have o1 : wA1.ownsRow (M + 2) 42 2 (.slice (some ⟨wD.heap.size, 0, none⟩) 0 0) 0 [] := by rw [← hwA1]; exact World.ownsRow_lit wD #[] 0 (by have := hb0.size; have := HS1.out; omega) (Nat.zero_le _) rfl
      refine hK.out _ _ ?hSp0 (fun hHeldp0 => ?hRp0)
      case hSp0 => exact fun _ => ⟨(HA1.out.keep hb1).cells.2.2.1, (HA1.out.keep hb1).cells.2.2.2⟩
      clear hK K
      replace hHeldp0 := hHeldp0 (by kernel_rfl)
      try simp only [Act.put, List.setIfInBounds_toArray, List.set_cons_zero, List.set_cons_succ]
      refine wpAnyS_ready (rs := [8, 9]) (by kernel_rfl) (by simp) ?_
      refine AllReadyS.cons (o := { dst := some 23, op := Op.call { callee := Callee.builtin Builtin.append, args := #[Operand.tmp 15, Operand.tmp 22], argTypes := #[22, 22] }, type := 22, pos := "law.go:21", after := #[{ on := 0, ground := Ground.data }, { on := 7, ground := Ground.data }], guard := none }) rfl (fun K hK => ?ca8) (AllReadyS.cons (o := { dst := some 24, op := Op.buildSlice 23 0 #[], type := 23, pos := "law.go:21", after := #[], guard := none }) rfl (fun K hK => ?ca9) AllReadyS.nil)
      case ca8 =>
        refine step_append_src _ (by rfl) (.tmp 15) (.tmp 22) 22 (by rfl) (M + 2) 42 i1 (.agg #[.string ⟨#[]⟩, .int .i64 0]) 2 24 Tryz.underlying22 hi1 hy0 hy1 hy2 rfl (by decide) _ 0 [] (by rfl) o1 _ kl (cellsL (L10.map layerCell)) (by rfl) (HSL1.out.keep hb1) (one_layers _) (by unfold maxLen; omega) (by omega) (by have := hb1.size; have := HS1.out; omega) ?_
        intro vwA2 wA2 howA2 hgwA2
        have hb2 : Below W1.heap.size W1 wA2 := hb1.trans (below_own o1 hgwA2 (by have := HS1.out; omega) hb1.size)
        rw [Nat.zero_add, List.nil_append] at howA2
        obtain ⟨a1, c1, rfl, -, -⟩ := own_shape howA2
        skip
        refine hK.out _ _ ?hSa8 (fun hHelda8 => ?hRa8)
        case hSa8 => exact fun _ => ⟨(HA1.out.keep hb2).cells.2.2.1, (HA1.out.keep hb2).cells.2.2.2⟩
        clear hK K
        replace hHelda8 := hHelda8 (by kernel_rfl)
        try simp only [Act.put, List.setIfInBounds_toArray, List.set_cons_zero, List.set_cons_succ]
        refine wpAnyS_take (i := 18) (oi := { dst := some 33, op := Op.fieldAddr 25 (Operand.tmp 1) 2, type := 0, pos := "law.go:21", after := #[{ on := 0, ground := Ground.phase }, { on := 1, ground := Ground.phase }, { on := 2, ground := Ground.phase }, { on := 3, ground := Ground.phase }, { on := 4, ground := Ground.phase }, { on := 5, ground := Ground.phase }, { on := 6, ground := Ground.phase }, { on := 7, ground := Ground.phase }, { on := 8, ground := Ground.phase }, { on := 9, ground := Ground.textOnly Departure.lateStores }, { on := 10, ground := Ground.phase }, { on := 11, ground := Ground.phase }, { on := 12, ground := Ground.phase }, { on := 13, ground := Ground.phase }, { on := 14, ground := Ground.textOnly Departure.lateStoresUnsure }, { on := 15, ground := Ground.textOnly Departure.lateStoresUnsure }, { on := 16, ground := Ground.textOnly Departure.lateStoresUnsure }, { on := 17, ground := Ground.textOnly Departure.lateStoresUnsure }], guard := none }) (v := ?gvb18) [19, 20, 21] rfl (by kernel_rfl) (by kernel_rfl) (by kernel_rfl) (by kernel_rfl) (fun _ _ _ h => h) (Or.inl ⟨by rfl, ?gyb18⟩) (by assumption) ?grb18
        case gyb18 => (intro w hSw; (try dsimp only at hSw); go_simp; try with_reducible rfl)
        try simp only [Act.put, List.setIfInBounds_toArray, List.set_cons_zero, List.set_cons_succ]
        refine wpAnyS_ready (rs := [9]) (by kernel_rfl) (by simp) ?_
        refine AllReadyS.cons (o := { dst := some 24, op := Op.buildSlice 23 0 #[], type := 23, pos := "law.go:21", after := #[], guard := none }) rfl (fun K hK => ?cb9) AllReadyS.nil
        rw [if_pos (by kernel_rfl)]
        go_simp
        obtain ⟨wA3, hwA3⟩ : ∃ x, wA2.alloc (.cells #[] 9) = x := ⟨_, rfl⟩
        try rw [hwA3]
        have hb3 : Below W1.heap.size W1 wA3 := by rw [← hwA3]; exact hb2.alloc (Nat.le_trans (Nat.le_of_eq rfl) hb2.size) _
        have o2 : wA3.ownsRow (M + 2) 9 1 (.slice (some ⟨wA2.heap.size, 0, none⟩) 0 0) 0 [] := by rw [← hwA3]; exact World.ownsRow_lit wA2 #[] 0 (by have := hb2.size; have := HS1.out; omega) (Nat.zero_le _) rfl
        refine hK.out _ _ ?hSb9 (fun hHeldb9 => ?hRb9)
        case hSb9 => exact fun _ => ⟨(HA1.out.keep hb3).cells.2.2.1, (HA1.out.keep hb3).cells.2.2.2⟩
        clear hK K
        replace hHeldb9 := hHeldb9 (by kernel_rfl)
        try simp only [Act.put, List.setIfInBounds_toArray, List.set_cons_zero, List.set_cons_succ]
        replace howA2 := own_keep (w' := wA3) howA2 (by rw [← hwA3]; exact below_new _ _)
        refine wpAnyS_ready (rs := [17]) (by kernel_rfl) (by simp) ?_
        refine AllReadyS.cons (o := { dst := some 32, op := Op.call { callee := Callee.builtin Builtin.append, args := #[Operand.tmp 24, Operand.tmp 31], argTypes := #[23, 23] }, type := 23, pos := "law.go:21", after := #[{ on := 9, ground := Ground.data }, { on := 16, ground := Ground.data }, { on := 8, ground := Ground.chain }], guard := none }) rfl (fun K hK => ?cc17) AllReadyS.nil
        refine step_append_src _ (by rfl) (.tmp 24) (.tmp 31) 23 (by rfl) (M + 2) 9 i0 (.string ⟨#[]⟩) 1 16 Tryz.underlying23 hi hz0 hz1 hz2 rfl (by decide) _ 0 [] (by rfl) o2 _ kk (K10.map Value.string) (by rfl) (HSK1.out.keep hb3) (one_strs _) (by unfold maxLen; omega) (by omega) (by have := hb3.size; have := HS1.out; omega) ?_
        intro vwA4 wA4 howA4 hgwA4
        have hb4 : Below W1.heap.size W1 wA4 := hb3.trans (below_own o2 hgwA4 (by have := HS1.out; omega) hb3.size)
        replace howA2 := own_grown howA2 o2 (layerNeStr) hgwA4
        rw [Nat.zero_add, List.nil_append] at howA4
        obtain ⟨a2, c2, rfl, -, -⟩ := own_shape howA4
        skip
        refine hK.out _ _ ?hSc17 (fun hHeldc17 => ?hRc17)
        case hSc17 => exact fun _ => ⟨(HA1.out.keep hb4).cells.2.2.1, (HA1.out.keep hb4).cells.2.2.2⟩
        clear hK K
        replace hHeldc17 := hHeldc17 (by kernel_rfl)
        try simp only [Act.put, List.setIfInBounds_toArray, List.set_cons_zero, List.set_cons_succ]
        have hM1 := HA1.out.keep hb4
        have g21 := hM1.cells.2.2.1
        have g31 := hM1.frozen 2
        refine wpAnyS_ready (rs := [19]) (by kernel_rfl) (by simp) ?_
        refine AllReadyS.cons (o := { dst := none, op := Op.store 22 (Operand.tmp 33) (Operand.tmp 23), type := 0, pos := "law.go:21", after := #[{ on := 18, ground := Ground.data }, { on := 8, ground := Ground.data }, { on := 17, ground := Ground.chain }, { on := 0, ground := Ground.phase }, { on := 1, ground := Ground.phase }, { on := 2, ground := Ground.phase }, { on := 3, ground := Ground.phase }, { on := 4, ground := Ground.phase }, { on := 5, ground := Ground.phase }, { on := 6, ground := Ground.phase }, { on := 7, ground := Ground.phase }, { on := 8, ground := Ground.phase }, { on := 9, ground := Ground.textOnly Departure.lateStores }, { on := 10, ground := Ground.phase }, { on := 11, ground := Ground.phase }, { on := 12, ground := Ground.phase }, { on := 13, ground := Ground.phase }, { on := 14, ground := Ground.textOnly Departure.lateStoresUnsure }, { on := 15, ground := Ground.textOnly Departure.lateStoresUnsure }, { on := 16, ground := Ground.textOnly Departure.lateStoresUnsure }, { on := 17, ground := Ground.textOnly Departure.lateStoresUnsure }], guard := none }) rfl (fun K hK => ?c119) AllReadyS.nil
        rw [if_pos (by kernel_rfl)]
        go_simp
        obtain ⟨wS1, hwS1⟩ : ∃ x, wA4.setCell ⟨M, 2, none⟩ (.slice a1 kl c1) = x := ⟨_, rfl⟩
        rw [hwS1]
        refine hK.out _ _ ?hS119 (fun hHeld119 => ?hR119)
        case hS119 => exact fun h => Bool.noConfusion (show true = false from h)
        clear hK K
        clear hHeld119
        try simp only [Act.put, List.setIfInBounds_toArray, List.set_cons_zero, List.set_cons_succ]
        have hS1 : At4 wS1 M (.bool i) (.string (cut80 c)) (.slice a1 kl c1) (.slice ka nk kc) := by rw [← hwS1]; exact hM1.put2 _
        have g41 := hS1.cells.2.2.2
        have g51 := hS1.frozen 3
        refine wpAnyS_ready (rs := [20]) (by kernel_rfl) (by simp) ?_
        refine AllReadyS.cons (o := { dst := some 34, op := Op.fieldAddr 25 (Operand.tmp 1) 3, type := 0, pos := "law.go:21", after := #[{ on := 0, ground := Ground.phase }, { on := 1, ground := Ground.phase }, { on := 2, ground := Ground.phase }, { on := 3, ground := Ground.phase }, { on := 4, ground := Ground.phase }, { on := 5, ground := Ground.phase }, { on := 6, ground := Ground.phase }, { on := 7, ground := Ground.phase }, { on := 8, ground := Ground.phase }, { on := 9, ground := Ground.phase }, { on := 10, ground := Ground.phase }, { on := 11, ground := Ground.phase }, { on := 12, ground := Ground.phase }, { on := 13, ground := Ground.phase }, { on := 14, ground := Ground.phase }, { on := 15, ground := Ground.phase }, { on := 16, ground := Ground.phase }, { on := 17, ground := Ground.phase }, { on := 18, ground := Ground.phase }, { on := 19, ground := Ground.phase }], guard := none }) rfl (fun K hK => ?c120) AllReadyS.nil
        rw [if_pos (by kernel_rfl)]
        go_simp
        refine hK.out _ _ ?hS120 (fun hHeld120 => ?hR120)
        case hS120 => exact fun h => Bool.noConfusion (show true = false from h)
        clear hK K
        clear hHeld120
        try simp only [Act.put, List.setIfInBounds_toArray, List.set_cons_zero, List.set_cons_succ]
        refine wpAnyS_ready (rs := [21]) (by kernel_rfl) (by simp) ?_
        refine AllReadyS.cons (o := { dst := none, op := Op.store 23 (Operand.tmp 34) (Operand.tmp 32), type := 0, pos := "law.go:21", after := #[{ on := 20, ground := Ground.data }, { on := 17, ground := Ground.data }, { on := 19, ground := Ground.chain }, { on := 0, ground := Ground.phase }, { on := 1, ground := Ground.phase }, { on := 2, ground := Ground.phase }, { on := 3, ground := Ground.phase }, { on := 4, ground := Ground.phase }, { on := 5, ground := Ground.phase }, { on := 6, ground := Ground.phase }, { on := 7, ground := Ground.phase }, { on := 8, ground := Ground.phase }, { on := 9, ground := Ground.phase }, { on := 10, ground := Ground.phase }, { on := 11, ground := Ground.phase }, { on := 12, ground := Ground.phase }, { on := 13, ground := Ground.phase }, { on := 14, ground := Ground.phase }, { on := 15, ground := Ground.phase }, { on := 16, ground := Ground.phase }, { on := 17, ground := Ground.phase }, { on := 18, ground := Ground.phase }, { on := 19, ground := Ground.phase }], guard := none }) rfl (fun K hK => ?c121) AllReadyS.nil
        rw [if_pos (by kernel_rfl)]
        go_simp
        refine hK.out _ _ ?hS121 (fun hHeld121 => ?hR121)
        case hS121 => exact fun h => Bool.noConfusion (show true = false from h)
        clear hK K
        clear hHeld121
        try simp only [Act.put, List.setIfInBounds_toArray, List.set_cons_zero, List.set_cons_succ]
        refine wpAnyS_done (by kernel_rfl) ?_ _
        have hEND1 := few_mid HA1.out HZ1.out HS1.out hb4 howA2 howA4
        rw [hwS1] at hEND1
        clear g21 g31 g41 g51 hS1 hM1
        go_wp2_with fail
        go_meet
        case rel => exact hEND1
      case ca9 =>
        rw [if_pos (by kernel_rfl)]
        go_simp
        obtain ⟨wA5, hwA5⟩ : ∃ x, wA1.alloc (.cells #[] 9) = x := ⟨_, rfl⟩
        try rw [hwA5]
        have hb5 : Below W1.heap.size W1 wA5 := by rw [← hwA5]; exact hb1.alloc (Nat.le_trans (Nat.le_of_eq rfl) hb1.size) _
        have o2 : wA5.ownsRow (M + 2) 9 1 (.slice (some ⟨wA1.heap.size, 0, none⟩) 0 0) 0 [] := by rw [← hwA5]; exact World.ownsRow_lit wA1 #[] 0 (by have := hb1.size; have := HS1.out; omega) (Nat.zero_le _) rfl
        refine hK.out _ _ ?hSa9 (fun hHelda9 => ?hRa9)
        case hSa9 => exact fun _ => ⟨(HA1.out.keep hb5).cells.2.2.1, (HA1.out.keep hb5).cells.2.2.2⟩
        clear hK K
        replace hHelda9 := hHelda9 (by kernel_rfl)
        try simp only [Act.put, List.setIfInBounds_toArray, List.set_cons_zero, List.set_cons_succ]
        replace o1 := own_keep (w' := wA5) o1 (by rw [← hwA5]; exact below_new _ _)
        refine wpAnyS_ready (rs := [8]) (by kernel_rfl) (by simp) ?_
        refine AllReadyS.cons (o := { dst := some 23, op := Op.call { callee := Callee.builtin Builtin.append, args := #[Operand.tmp 15, Operand.tmp 22], argTypes := #[22, 22] }, type := 22, pos := "law.go:21", after := #[{ on := 0, ground := Ground.data }, { on := 7, ground := Ground.data }], guard := none }) rfl (fun K hK => ?cd8) AllReadyS.nil
        refine step_append_src _ (by rfl) (.tmp 15) (.tmp 22) 22 (by rfl) (M + 2) 42 i1 (.agg #[.string ⟨#[]⟩, .int .i64 0]) 2 24 Tryz.underlying22 hi1 hy0 hy1 hy2 rfl (by decide) _ 0 [] (by rfl) o1 _ kl (cellsL (L10.map layerCell)) (by rfl) (HSL1.out.keep hb5) (one_layers _) (by unfold maxLen; omega) (by omega) (by have := hb5.size; have := HS1.out; omega) ?_
        intro vwA6 wA6 howA6 hgwA6
        have hb6 : Below W1.heap.size W1 wA6 := hb5.trans (below_own o1 hgwA6 (by have := HS1.out; omega) hb5.size)
        replace o2 := own_grown o2 o1 (layerNeStr.symm) hgwA6
        rw [Nat.zero_add, List.nil_append] at howA6
        obtain ⟨a1, c1, rfl, -, -⟩ := own_shape howA6
        skip
        refine hK.out _ _ ?hSd8 (fun hHeldd8 => ?hRd8)
        case hSd8 => exact fun _ => ⟨(HA1.out.keep hb6).cells.2.2.1, (HA1.out.keep hb6).cells.2.2.2⟩
        clear hK K
        replace hHeldd8 := hHeldd8 (by kernel_rfl)
        try simp only [Act.put, List.setIfInBounds_toArray, List.set_cons_zero, List.set_cons_succ]
        refine wpAnyS_take (i := 18) (oi := { dst := some 33, op := Op.fieldAddr 25 (Operand.tmp 1) 2, type := 0, pos := "law.go:21", after := #[{ on := 0, ground := Ground.phase }, { on := 1, ground := Ground.phase }, { on := 2, ground := Ground.phase }, { on := 3, ground := Ground.phase }, { on := 4, ground := Ground.phase }, { on := 5, ground := Ground.phase }, { on := 6, ground := Ground.phase }, { on := 7, ground := Ground.phase }, { on := 8, ground := Ground.phase }, { on := 9, ground := Ground.textOnly Departure.lateStores }, { on := 10, ground := Ground.phase }, { on := 11, ground := Ground.phase }, { on := 12, ground := Ground.phase }, { on := 13, ground := Ground.phase }, { on := 14, ground := Ground.textOnly Departure.lateStoresUnsure }, { on := 15, ground := Ground.textOnly Departure.lateStoresUnsure }, { on := 16, ground := Ground.textOnly Departure.lateStoresUnsure }, { on := 17, ground := Ground.textOnly Departure.lateStoresUnsure }], guard := none }) (v := ?gve18) [19, 20, 21] rfl (by kernel_rfl) (by kernel_rfl) (by kernel_rfl) (by kernel_rfl) (fun _ _ _ h => h) (Or.inl ⟨by rfl, ?gye18⟩) (by assumption) ?gre18
        case gye18 => (intro w hSw; (try dsimp only at hSw); go_simp; try with_reducible rfl)
        try simp only [Act.put, List.setIfInBounds_toArray, List.set_cons_zero, List.set_cons_succ]
        refine wpAnyS_ready (rs := [17]) (by kernel_rfl) (by simp) ?_
        refine AllReadyS.cons (o := { dst := some 32, op := Op.call { callee := Callee.builtin Builtin.append, args := #[Operand.tmp 24, Operand.tmp 31], argTypes := #[23, 23] }, type := 23, pos := "law.go:21", after := #[{ on := 9, ground := Ground.data }, { on := 16, ground := Ground.data }, { on := 8, ground := Ground.chain }], guard := none }) rfl (fun K hK => ?ce17) AllReadyS.nil
        refine step_append_src _ (by rfl) (.tmp 24) (.tmp 31) 23 (by rfl) (M + 2) 9 i0 (.string ⟨#[]⟩) 1 16 Tryz.underlying23 hi hz0 hz1 hz2 rfl (by decide) _ 0 [] (by rfl) o2 _ kk (K10.map Value.string) (by rfl) (HSK1.out.keep hb6) (one_strs _) (by unfold maxLen; omega) (by omega) (by have := hb6.size; have := HS1.out; omega) ?_
        intro vwA7 wA7 howA7 hgwA7
        have hb7 : Below W1.heap.size W1 wA7 := hb6.trans (below_own o2 hgwA7 (by have := HS1.out; omega) hb6.size)
        replace howA6 := own_grown howA6 o2 (layerNeStr) hgwA7
        rw [Nat.zero_add, List.nil_append] at howA7
        obtain ⟨a2, c2, rfl, -, -⟩ := own_shape howA7
        skip
        refine hK.out _ _ ?hSe17 (fun hHelde17 => ?hRe17)
        case hSe17 => exact fun _ => ⟨(HA1.out.keep hb7).cells.2.2.1, (HA1.out.keep hb7).cells.2.2.2⟩
        clear hK K
        replace hHelde17 := hHelde17 (by kernel_rfl)
        try simp only [Act.put, List.setIfInBounds_toArray, List.set_cons_zero, List.set_cons_succ]
        have hM2 := HA1.out.keep hb7
        have g22 := hM2.cells.2.2.1
        have g32 := hM2.frozen 2
        refine wpAnyS_ready (rs := [19]) (by kernel_rfl) (by simp) ?_
        refine AllReadyS.cons (o := { dst := none, op := Op.store 22 (Operand.tmp 33) (Operand.tmp 23), type := 0, pos := "law.go:21", after := #[{ on := 18, ground := Ground.data }, { on := 8, ground := Ground.data }, { on := 17, ground := Ground.chain }, { on := 0, ground := Ground.phase }, { on := 1, ground := Ground.phase }, { on := 2, ground := Ground.phase }, { on := 3, ground := Ground.phase }, { on := 4, ground := Ground.phase }, { on := 5, ground := Ground.phase }, { on := 6, ground := Ground.phase }, { on := 7, ground := Ground.phase }, { on := 8, ground := Ground.phase }, { on := 9, ground := Ground.textOnly Departure.lateStores }, { on := 10, ground := Ground.phase }, { on := 11, ground := Ground.phase }, { on := 12, ground := Ground.phase }, { on := 13, ground := Ground.phase }, { on := 14, ground := Ground.textOnly Departure.lateStoresUnsure }, { on := 15, ground := Ground.textOnly Departure.lateStoresUnsure }, { on := 16, ground := Ground.textOnly Departure.lateStoresUnsure }, { on := 17, ground := Ground.textOnly Departure.lateStoresUnsure }], guard := none }) rfl (fun K hK => ?c219) AllReadyS.nil
        rw [if_pos (by kernel_rfl)]
        go_simp
        obtain ⟨wS2, hwS2⟩ : ∃ x, wA7.setCell ⟨M, 2, none⟩ (.slice a1 kl c1) = x := ⟨_, rfl⟩
        rw [hwS2]
        refine hK.out _ _ ?hS219 (fun hHeld219 => ?hR219)
        case hS219 => exact fun h => Bool.noConfusion (show true = false from h)
        clear hK K
        clear hHeld219
        try simp only [Act.put, List.setIfInBounds_toArray, List.set_cons_zero, List.set_cons_succ]
        have hS2 : At4 wS2 M (.bool i) (.string (cut80 c)) (.slice a1 kl c1) (.slice ka nk kc) := by rw [← hwS2]; exact hM2.put2 _
        have g42 := hS2.cells.2.2.2
        have g52 := hS2.frozen 3
        refine wpAnyS_ready (rs := [20]) (by kernel_rfl) (by simp) ?_
        refine AllReadyS.cons (o := { dst := some 34, op := Op.fieldAddr 25 (Operand.tmp 1) 3, type := 0, pos := "law.go:21", after := #[{ on := 0, ground := Ground.phase }, { on := 1, ground := Ground.phase }, { on := 2, ground := Ground.phase }, { on := 3, ground := Ground.phase }, { on := 4, ground := Ground.phase }, { on := 5, ground := Ground.phase }, { on := 6, ground := Ground.phase }, { on := 7, ground := Ground.phase }, { on := 8, ground := Ground.phase }, { on := 9, ground := Ground.phase }, { on := 10, ground := Ground.phase }, { on := 11, ground := Ground.phase }, { on := 12, ground := Ground.phase }, { on := 13, ground := Ground.phase }, { on := 14, ground := Ground.phase }, { on := 15, ground := Ground.phase }, { on := 16, ground := Ground.phase }, { on := 17, ground := Ground.phase }, { on := 18, ground := Ground.phase }, { on := 19, ground := Ground.phase }], guard := none }) rfl (fun K hK => ?c220) AllReadyS.nil
        rw [if_pos (by kernel_rfl)]
        go_simp
        refine hK.out _ _ ?hS220 (fun hHeld220 => ?hR220)
        case hS220 => exact fun h => Bool.noConfusion (show true = false from h)
        clear hK K
        clear hHeld220
        try simp only [Act.put, List.setIfInBounds_toArray, List.set_cons_zero, List.set_cons_succ]
        refine wpAnyS_ready (rs := [21]) (by kernel_rfl) (by simp) ?_
        refine AllReadyS.cons (o := { dst := none, op := Op.store 23 (Operand.tmp 34) (Operand.tmp 32), type := 0, pos := "law.go:21", after := #[{ on := 20, ground := Ground.data }, { on := 17, ground := Ground.data }, { on := 19, ground := Ground.chain }, { on := 0, ground := Ground.phase }, { on := 1, ground := Ground.phase }, { on := 2, ground := Ground.phase }, { on := 3, ground := Ground.phase }, { on := 4, ground := Ground.phase }, { on := 5, ground := Ground.phase }, { on := 6, ground := Ground.phase }, { on := 7, ground := Ground.phase }, { on := 8, ground := Ground.phase }, { on := 9, ground := Ground.phase }, { on := 10, ground := Ground.phase }, { on := 11, ground := Ground.phase }, { on := 12, ground := Ground.phase }, { on := 13, ground := Ground.phase }, { on := 14, ground := Ground.phase }, { on := 15, ground := Ground.phase }, { on := 16, ground := Ground.phase }, { on := 17, ground := Ground.phase }, { on := 18, ground := Ground.phase }, { on := 19, ground := Ground.phase }], guard := none }) rfl (fun K hK => ?c221) AllReadyS.nil
        rw [if_pos (by kernel_rfl)]
        go_simp
        refine hK.out _ _ ?hS221 (fun hHeld221 => ?hR221)
        case hS221 => exact fun h => Bool.noConfusion (show true = false from h)
        clear hK K
        clear hHeld221
        try simp only [Act.put, List.setIfInBounds_toArray, List.set_cons_zero, List.set_cons_succ]
        refine wpAnyS_done (by kernel_rfl) ?_ _
        have hEND2 := few_mid HA1.out HZ1.out HS1.out hb7 howA6 howA7
        rw [hwS2] at hEND2
        clear g22 g32 g42 g52 hS2 hM2
        go_wp2_with fail
        go_meet
        case rel => exact hEND2
    case cp9 =>
      rw [if_pos (by kernel_rfl)]
      go_simp
      obtain ⟨wA8, hwA8⟩ : ∃ x, wD.alloc (.cells #[] 9) = x := ⟨_, rfl⟩
      try rw [hwA8]
      have hb8 : Below W1.heap.size W1 wA8 := by rw [← hwA8]; exact hb0.alloc (Nat.le_trans (Nat.le_of_eq rfl) hb0.size) _
      have o2 : wA8.ownsRow (M + 2) 9 1 (.slice (some ⟨wD.heap.size, 0, none⟩) 0 0) 0 [] := by rw [← hwA8]; exact World.ownsRow_lit wD #[] 0 (by have := hb0.size; have := HS1.out; omega) (Nat.zero_le _) rfl
      refine hK.out _ _ ?hSp9 (fun hHeldp9 => ?hRp9)
      case hSp9 => exact fun _ => ⟨(HA1.out.keep hb8).cells.2.2.1, (HA1.out.keep hb8).cells.2.2.2⟩
      clear hK K
      replace hHeldp9 := hHeldp9 (by kernel_rfl)
      try simp only [Act.put, List.setIfInBounds_toArray, List.set_cons_zero, List.set_cons_succ]
      refine wpAnyS_ready (rs := [0]) (by kernel_rfl) (by simp) ?_
      refine AllReadyS.cons (o := { dst := some 15, op := Op.buildSlice 22 0 #[], type := 22, pos := "law.go:21", after := #[], guard := none }) rfl (fun K hK => ?cf0) AllReadyS.nil
      rw [if_pos (by kernel_rfl)]
      go_simp
      obtain ⟨wA9, hwA9⟩ : ∃ x, wA8.alloc (.cells #[] 42) = x := ⟨_, rfl⟩
      try rw [hwA9]
      have hb9 : Below W1.heap.size W1 wA9 := by rw [← hwA9]; exact hb8.alloc (Nat.le_trans (Nat.le_of_eq rfl) hb8.size) _
      have o1 : wA9.ownsRow (M + 2) 42 2 (.slice (some ⟨wA8.heap.size, 0, none⟩) 0 0) 0 [] := by rw [← hwA9]; exact World.ownsRow_lit wA8 #[] 0 (by have := hb8.size; have := HS1.out; omega) (Nat.zero_le _) rfl
      refine hK.out _ _ ?hSf0 (fun hHeldf0 => ?hRf0)
      case hSf0 => exact fun _ => ⟨(HA1.out.keep hb9).cells.2.2.1, (HA1.out.keep hb9).cells.2.2.2⟩
      clear hK K
      replace hHeldf0 := hHeldf0 (by kernel_rfl)
      try simp only [Act.put, List.setIfInBounds_toArray, List.set_cons_zero, List.set_cons_succ]
      replace o2 := own_keep (w' := wA9) o2 (by rw [← hwA9]; exact below_new _ _)
      refine wpAnyS_ready (rs := [8]) (by kernel_rfl) (by simp) ?_
      refine AllReadyS.cons (o := { dst := some 23, op := Op.call { callee := Callee.builtin Builtin.append, args := #[Operand.tmp 15, Operand.tmp 22], argTypes := #[22, 22] }, type := 22, pos := "law.go:21", after := #[{ on := 0, ground := Ground.data }, { on := 7, ground := Ground.data }], guard := none }) rfl (fun K hK => ?cg8) AllReadyS.nil
      refine step_append_src _ (by rfl) (.tmp 15) (.tmp 22) 22 (by rfl) (M + 2) 42 i1 (.agg #[.string ⟨#[]⟩, .int .i64 0]) 2 24 Tryz.underlying22 hi1 hy0 hy1 hy2 rfl (by decide) _ 0 [] (by rfl) o1 _ kl (cellsL (L10.map layerCell)) (by rfl) (HSL1.out.keep hb9) (one_layers _) (by unfold maxLen; omega) (by omega) (by have := hb9.size; have := HS1.out; omega) ?_
      intro vwA10 wA10 howA10 hgwA10
      have hb10 : Below W1.heap.size W1 wA10 := hb9.trans (below_own o1 hgwA10 (by have := HS1.out; omega) hb9.size)
      replace o2 := own_grown o2 o1 (layerNeStr.symm) hgwA10
      rw [Nat.zero_add, List.nil_append] at howA10
      obtain ⟨a1, c1, rfl, -, -⟩ := own_shape howA10
      skip
      refine hK.out _ _ ?hSg8 (fun hHeldg8 => ?hRg8)
      case hSg8 => exact fun _ => ⟨(HA1.out.keep hb10).cells.2.2.1, (HA1.out.keep hb10).cells.2.2.2⟩
      clear hK K
      replace hHeldg8 := hHeldg8 (by kernel_rfl)
      try simp only [Act.put, List.setIfInBounds_toArray, List.set_cons_zero, List.set_cons_succ]
      refine wpAnyS_take (i := 18) (oi := { dst := some 33, op := Op.fieldAddr 25 (Operand.tmp 1) 2, type := 0, pos := "law.go:21", after := #[{ on := 0, ground := Ground.phase }, { on := 1, ground := Ground.phase }, { on := 2, ground := Ground.phase }, { on := 3, ground := Ground.phase }, { on := 4, ground := Ground.phase }, { on := 5, ground := Ground.phase }, { on := 6, ground := Ground.phase }, { on := 7, ground := Ground.phase }, { on := 8, ground := Ground.phase }, { on := 9, ground := Ground.textOnly Departure.lateStores }, { on := 10, ground := Ground.phase }, { on := 11, ground := Ground.phase }, { on := 12, ground := Ground.phase }, { on := 13, ground := Ground.phase }, { on := 14, ground := Ground.textOnly Departure.lateStoresUnsure }, { on := 15, ground := Ground.textOnly Departure.lateStoresUnsure }, { on := 16, ground := Ground.textOnly Departure.lateStoresUnsure }, { on := 17, ground := Ground.textOnly Departure.lateStoresUnsure }], guard := none }) (v := ?gvh18) [19, 20, 21] rfl (by kernel_rfl) (by kernel_rfl) (by kernel_rfl) (by kernel_rfl) (fun _ _ _ h => h) (Or.inl ⟨by rfl, ?gyh18⟩) (by assumption) ?grh18
      case gyh18 => (intro w hSw; (try dsimp only at hSw); go_simp; try with_reducible rfl)
      try simp only [Act.put, List.setIfInBounds_toArray, List.set_cons_zero, List.set_cons_succ]
      refine wpAnyS_ready (rs := [17]) (by kernel_rfl) (by simp) ?_
      refine AllReadyS.cons (o := { dst := some 32, op := Op.call { callee := Callee.builtin Builtin.append, args := #[Operand.tmp 24, Operand.tmp 31], argTypes := #[23, 23] }, type := 23, pos := "law.go:21", after := #[{ on := 9, ground := Ground.data }, { on := 16, ground := Ground.data }, { on := 8, ground := Ground.chain }], guard := none }) rfl (fun K hK => ?ch17) AllReadyS.nil
      refine step_append_src _ (by rfl) (.tmp 24) (.tmp 31) 23 (by rfl) (M + 2) 9 i0 (.string ⟨#[]⟩) 1 16 Tryz.underlying23 hi hz0 hz1 hz2 rfl (by decide) _ 0 [] (by rfl) o2 _ kk (K10.map Value.string) (by rfl) (HSK1.out.keep hb10) (one_strs _) (by unfold maxLen; omega) (by omega) (by have := hb10.size; have := HS1.out; omega) ?_
      intro vwA11 wA11 howA11 hgwA11
      have hb11 : Below W1.heap.size W1 wA11 := hb10.trans (below_own o2 hgwA11 (by have := HS1.out; omega) hb10.size)
      replace howA10 := own_grown howA10 o2 (layerNeStr) hgwA11
      rw [Nat.zero_add, List.nil_append] at howA11
      obtain ⟨a2, c2, rfl, -, -⟩ := own_shape howA11
      skip
      refine hK.out _ _ ?hSh17 (fun hHeldh17 => ?hRh17)
      case hSh17 => exact fun _ => ⟨(HA1.out.keep hb11).cells.2.2.1, (HA1.out.keep hb11).cells.2.2.2⟩
      clear hK K
      replace hHeldh17 := hHeldh17 (by kernel_rfl)
      try simp only [Act.put, List.setIfInBounds_toArray, List.set_cons_zero, List.set_cons_succ]
      have hM3 := HA1.out.keep hb11
      have g23 := hM3.cells.2.2.1
      have g33 := hM3.frozen 2
      refine wpAnyS_ready (rs := [19]) (by kernel_rfl) (by simp) ?_
      refine AllReadyS.cons (o := { dst := none, op := Op.store 22 (Operand.tmp 33) (Operand.tmp 23), type := 0, pos := "law.go:21", after := #[{ on := 18, ground := Ground.data }, { on := 8, ground := Ground.data }, { on := 17, ground := Ground.chain }, { on := 0, ground := Ground.phase }, { on := 1, ground := Ground.phase }, { on := 2, ground := Ground.phase }, { on := 3, ground := Ground.phase }, { on := 4, ground := Ground.phase }, { on := 5, ground := Ground.phase }, { on := 6, ground := Ground.phase }, { on := 7, ground := Ground.phase }, { on := 8, ground := Ground.phase }, { on := 9, ground := Ground.textOnly Departure.lateStores }, { on := 10, ground := Ground.phase }, { on := 11, ground := Ground.phase }, { on := 12, ground := Ground.phase }, { on := 13, ground := Ground.phase }, { on := 14, ground := Ground.textOnly Departure.lateStoresUnsure }, { on := 15, ground := Ground.textOnly Departure.lateStoresUnsure }, { on := 16, ground := Ground.textOnly Departure.lateStoresUnsure }, { on := 17, ground := Ground.textOnly Departure.lateStoresUnsure }], guard := none }) rfl (fun K hK => ?c319) AllReadyS.nil
      rw [if_pos (by kernel_rfl)]
      go_simp
      obtain ⟨wS3, hwS3⟩ : ∃ x, wA11.setCell ⟨M, 2, none⟩ (.slice a1 kl c1) = x := ⟨_, rfl⟩
      rw [hwS3]
      refine hK.out _ _ ?hS319 (fun hHeld319 => ?hR319)
      case hS319 => exact fun h => Bool.noConfusion (show true = false from h)
      clear hK K
      clear hHeld319
      try simp only [Act.put, List.setIfInBounds_toArray, List.set_cons_zero, List.set_cons_succ]
      have hS3 : At4 wS3 M (.bool i) (.string (cut80 c)) (.slice a1 kl c1) (.slice ka nk kc) := by rw [← hwS3]; exact hM3.put2 _
      have g43 := hS3.cells.2.2.2
      have g53 := hS3.frozen 3
      refine wpAnyS_ready (rs := [20]) (by kernel_rfl) (by simp) ?_
      refine AllReadyS.cons (o := { dst := some 34, op := Op.fieldAddr 25 (Operand.tmp 1) 3, type := 0, pos := "law.go:21", after := #[{ on := 0, ground := Ground.phase }, { on := 1, ground := Ground.phase }, { on := 2, ground := Ground.phase }, { on := 3, ground := Ground.phase }, { on := 4, ground := Ground.phase }, { on := 5, ground := Ground.phase }, { on := 6, ground := Ground.phase }, { on := 7, ground := Ground.phase }, { on := 8, ground := Ground.phase }, { on := 9, ground := Ground.phase }, { on := 10, ground := Ground.phase }, { on := 11, ground := Ground.phase }, { on := 12, ground := Ground.phase }, { on := 13, ground := Ground.phase }, { on := 14, ground := Ground.phase }, { on := 15, ground := Ground.phase }, { on := 16, ground := Ground.phase }, { on := 17, ground := Ground.phase }, { on := 18, ground := Ground.phase }, { on := 19, ground := Ground.phase }], guard := none }) rfl (fun K hK => ?c320) AllReadyS.nil
      rw [if_pos (by kernel_rfl)]
      go_simp
      refine hK.out _ _ ?hS320 (fun hHeld320 => ?hR320)
      case hS320 => exact fun h => Bool.noConfusion (show true = false from h)
      clear hK K
      clear hHeld320
      try simp only [Act.put, List.setIfInBounds_toArray, List.set_cons_zero, List.set_cons_succ]
      refine wpAnyS_ready (rs := [21]) (by kernel_rfl) (by simp) ?_
      refine AllReadyS.cons (o := { dst := none, op := Op.store 23 (Operand.tmp 34) (Operand.tmp 32), type := 0, pos := "law.go:21", after := #[{ on := 20, ground := Ground.data }, { on := 17, ground := Ground.data }, { on := 19, ground := Ground.chain }, { on := 0, ground := Ground.phase }, { on := 1, ground := Ground.phase }, { on := 2, ground := Ground.phase }, { on := 3, ground := Ground.phase }, { on := 4, ground := Ground.phase }, { on := 5, ground := Ground.phase }, { on := 6, ground := Ground.phase }, { on := 7, ground := Ground.phase }, { on := 8, ground := Ground.phase }, { on := 9, ground := Ground.phase }, { on := 10, ground := Ground.phase }, { on := 11, ground := Ground.phase }, { on := 12, ground := Ground.phase }, { on := 13, ground := Ground.phase }, { on := 14, ground := Ground.phase }, { on := 15, ground := Ground.phase }, { on := 16, ground := Ground.phase }, { on := 17, ground := Ground.phase }, { on := 18, ground := Ground.phase }, { on := 19, ground := Ground.phase }], guard := none }) rfl (fun K hK => ?c321) AllReadyS.nil
      rw [if_pos (by kernel_rfl)]
      go_simp
      refine hK.out _ _ ?hS321 (fun hHeld321 => ?hR321)
      case hS321 => exact fun h => Bool.noConfusion (show true = false from h)
      clear hK K
      clear hHeld321
      try simp only [Act.put, List.setIfInBounds_toArray, List.set_cons_zero, List.set_cons_succ]
      refine wpAnyS_done (by kernel_rfl) ?_ _
      have hEND3 := few_mid HA1.out HZ1.out HS1.out hb11 howA10 howA11
      rw [hwS3] at hEND3
      clear g23 g33 g43 g53 hS3 hM3
      go_wp2_with fail
      go_meet
      case rel => exact hEND3
  case rest =>
    obtain ⟨a1, c1, a2, c2, hA, hZ, ho1, ho2, hb, hsz⟩ := hcut
    have HBC := Lib.hid (HB1.out.trans hb)
    have HZC := Lib.hid hZ
    have HO2 := Lib.hid ho2
    obtain ⟨m0, m1, m2, m3⟩ := hA.cells
    obtain ⟨hc1, hc1'⟩ := own_cap ho1
    unfold maxLen at hc1'
    clear b0 b1 b2 b3 hZ ho2 hb
    go_wp2_with fail
    go_loopw [38] (fun iv wr => ∃ k : Nat, k ≤ kl ∧ iv = .int .i64 k ∧ At4 wr M (.bool i) (.string (cut80 c)) (.slice a1 kl c1) (.slice a2 kk c2) ∧ wr.ownsRow (M + 2) 42 2 (.slice a1 kl c1) kl (cellsL ((turnL cutLay L10 k).map layerCell)) ∧ wr.ownsRow (M + 2) 9 1 (.slice a2 kk c2) kk (K10.map Value.string) ∧ At4 wr (M + 1) (.bool false) (.string ⟨#[]⟩) (.slice none 0 0) (.slice none 0 0) ∧ Below M wc wr) (fun i _ => kl - (intOf i).toNat)
    case atStart => exact ⟨0, Nat.zero_le _, rfl, hA, by rw [turnL_zero]; exact ho1, HO2.out, HZC.out, Below.refl _ _⟩
    case round =>
      obtain ⟨k, hk, rfl, hA, ho1, ho2, hZ, hb⟩ := hrel
      have HBR := Lib.hid hb
      have HAR := Lib.hid hA
      have HZR := Lib.hid hZ
      have HR2 := Lib.hid ho2
      have HR1 := Lib.hid ho1
      clear m0 m1 m2 m3
      by_cases hlt : k < kl
      · have h1 : k < L10.length := by rw [HLL.out]; exact hlt
        obtain ⟨g, rfl, hgM, hgl⟩ := own_some ho1 (by omega)
        have hti : k < ((turnL cutLay L10 k).map layerCell).length := by rw [List.length_map, turnL_length]; exact h1
        have hcl := cellsL_at _ k hti
        have hst := cellsL_set _ k hti (.string (cut80 L10[k].1))
        simp only [List.getElem_map, turnL_at cutLay L10 k h1] at hcl hst
        have HNX := Lib.hid (show (cellsL ((turnL cutLay L10 k).map layerCell)).set (k * 2) (.string (cut80 L10[k].1)) = cellsL ((turnL cutLay L10 (k + 1)).map layerCell) by
          rw [hst, ← turnL_succ cutLay L10 k h1, List.map_set]; rfl)
        have hxz := (HLZ.out _ (List.getElem_mem h1)).1
        obtain ⟨⟨x, y⟩, hx⟩ : ∃ x, L10[k] = x := ⟨_, rfl⟩
        rw [hx] at hcl HNX hxz
        simp only [layerCell] at hcl
        simp only at HNX hxz
        obtain ⟨v0, f0⟩ := own_cell ho1 hcl.1
        obtain ⟨v1, -⟩ := own_cell ho1 hcl.2
        obtain ⟨zx, hzx⟩ : ∃ k, min x.size 80 = k := ⟨_, rfl⟩
        have HCX := Lib.hid (show x.extract 0 zx = cut80 x by unfold cut80; rw [hzx])
        have q7 : min (x.size : Int) 80 = (zx : Int) := by omega
        have q8 : zx ≤ x.size := by omega
        unfold maxLen at hxz
        obtain ⟨W3, hW3⟩ : ∃ W3, wr.alloc (.cells #[.string x, .int .i64 y] 42) = W3 := ⟨_, rfl⟩
        have hb3 : Below wr.heap.size wr W3 := by rw [← hW3]; exact below_new _ _
        have hT : At2 42 W3 wr.heap.size (.string x) (.int .i64 y) := by rw [← hW3]; exact At2.new _ _ _ _
        have HW3 := Lib.hid hW3
        have HB3 := Lib.hid hb3
        obtain ⟨t0, t1⟩ := hT.cells
        obtain ⟨m0, m1, m2, m3⟩ := (hA.keep hb3).cells
        obtain ⟨u0, uf⟩ := own_cell (own_keep ho1 hb3) hcl.1
        have HGM := Lib.hid hgM
        have HGL := Lib.hid hgl
        clear hW3 hb3 hT hx hcl hst hti ho1 ho2 hA hZ hb hgM hgl hzx
        go_upto_region 6 with fail
        rw [HW3.out]
        refine wp_region_S (S := fun w' => w'.cell? ⟨M, 2, none⟩ = some (.slice (some ⟨g, 0, none⟩) kl c1) ∧ w'.cell? ⟨wr.heap.size, 0, none⟩ = some (.string x)) 12 (by kernel_rfl) ?hSr (fun hHeld => ?hRr)
        case hSr => exact ⟨m2, t0⟩
        refine wpAnyS_take (i := 0) (oi := { dst := some 43, op := Op.fieldAddr 25 (Operand.tmp 1) 2, type := 0, pos := "law.go:23", after := #[], guard := none }) (v := ?gvr0) [1, 10, 11, 12] rfl (by kernel_rfl) (by kernel_rfl) (by kernel_rfl) (by kernel_rfl) (fun _ _ _ h => h) (Or.inl ⟨by rfl, ?gyr0⟩) (by assumption) ?grr0
        case gyr0 => (intro w hSw; (try dsimp only at hSw); go_simp; try with_reducible rfl)
        try simp only [Act.put, List.setIfInBounds_toArray, List.set_cons_zero, List.set_cons_succ]
        refine wpAnyS_take (i := 1) (oi := { dst := some 44, op := Op.load 22 (Operand.tmp 43), type := 22, pos := "law.go:23", after := #[{ on := 0, ground := Ground.data }], guard := none }) (v := ?gvr1) [10, 11, 12] rfl (by kernel_rfl) (by kernel_rfl) (by kernel_rfl) (by kernel_rfl) (fun _ _ _ h => h) (Or.inl ⟨by rfl, ?gyr1⟩) (by assumption) ?grr1
        case gyr1 => (intro w hSw; (try dsimp only at hSw); go_simp; try with_reducible rfl)
        try simp only [Act.put, List.setIfInBounds_toArray, List.set_cons_zero, List.set_cons_succ]
        refine wpAnyS_take (i := 2) (oi := { dst := some 45, op := Op.move (Operand.tmp 3), type := 3, pos := "law.go:23", after := #[], guard := none }) (v := ?gvr2) [10, 11, 12] rfl (by kernel_rfl) (by kernel_rfl) (by kernel_rfl) (by kernel_rfl) (fun _ _ _ h => h) (Or.inl ⟨by rfl, ?gyr2⟩) (by assumption) ?grr2
        case gyr2 => (intro w hSw; (try dsimp only at hSw); go_simp; try with_reducible rfl)
        try simp only [Act.put, List.setIfInBounds_toArray, List.set_cons_zero, List.set_cons_succ]
        refine wpAnyS_take (i := 3) (oi := { dst := some 46, op := Op.fieldAddr 42 (Operand.tmp 4) 0, type := 0, pos := "law.go:23", after := #[], guard := none }) (v := ?gvr3) [4, 9, 10, 11, 12] rfl (by kernel_rfl) (by kernel_rfl) (by kernel_rfl) (by kernel_rfl) (fun _ _ _ h => h) (Or.inl ⟨by rfl, ?gyr3⟩) (by assumption) ?grr3
        case gyr3 => (intro w hSw; (try dsimp only at hSw); go_simp; try with_reducible rfl)
        try simp only [Act.put, List.setIfInBounds_toArray, List.set_cons_zero, List.set_cons_succ]
        refine wpAnyS_take (i := 4) (oi := { dst := some 47, op := Op.load 9 (Operand.tmp 46), type := 9, pos := "law.go:23", after := #[{ on := 3, ground := Ground.data }], guard := none }) (v := ?gvr4) [9, 10, 11, 12] rfl (by kernel_rfl) (by kernel_rfl) (by kernel_rfl) (by kernel_rfl) (fun _ _ _ h => h) (Or.inl ⟨by rfl, ?gyr4⟩) (by assumption) ?grr4
        case gyr4 => (intro w hSw; (try dsimp only at hSw); go_simp; try with_reducible rfl)
        try simp only [Act.put, List.setIfInBounds_toArray, List.set_cons_zero, List.set_cons_succ]
        refine wpAnyS_take (i := 5) (oi := { dst := some 48, op := Op.fieldAddr 42 (Operand.tmp 4) 0, type := 0, pos := "law.go:23", after := #[], guard := none }) (v := ?gvr5) [6, 7, 8, 9, 10, 11, 12] rfl (by kernel_rfl) (by kernel_rfl) (by kernel_rfl) (by kernel_rfl) (fun _ _ _ h => h) (Or.inl ⟨by rfl, ?gyr5⟩) (by assumption) ?grr5
        case gyr5 => (intro w hSw; (try dsimp only at hSw); go_simp; try with_reducible rfl)
        try simp only [Act.put, List.setIfInBounds_toArray, List.set_cons_zero, List.set_cons_succ]
        refine wpAnyS_take (i := 6) (oi := { dst := some 49, op := Op.load 9 (Operand.tmp 48), type := 9, pos := "law.go:23", after := #[{ on := 5, ground := Ground.data }], guard := none }) (v := ?gvr6) [7, 8, 9, 10, 11, 12] rfl (by kernel_rfl) (by kernel_rfl) (by kernel_rfl) (by kernel_rfl) (fun _ _ _ h => h) (Or.inl ⟨by rfl, ?gyr6⟩) (by assumption) ?grr6
        case gyr6 => (intro w hSw; (try dsimp only at hSw); go_simp; try with_reducible rfl)
        try simp only [Act.put, List.setIfInBounds_toArray, List.set_cons_zero, List.set_cons_succ]
        refine wpAnyS_take (i := 7) (oi := { dst := some 50, op := Op.call { callee := Callee.builtin Builtin.len, args := #[Operand.tmp 49], argTypes := #[9] }, type := 3, pos := "law.go:23", after := #[{ on := 6, ground := Ground.data }], guard := none }) (v := ?gvr7) [8, 9, 10, 11, 12] rfl (by kernel_rfl) (by kernel_rfl) (by kernel_rfl) (by kernel_rfl) (fun _ _ _ h => h) (Or.inl ⟨by rfl, ?gyr7⟩) (by assumption) ?grr7
        case gyr7 => (intro w hSw; (try dsimp only at hSw); go_simp; try with_reducible rfl)
        try simp only [Act.put, List.setIfInBounds_toArray, List.set_cons_zero, List.set_cons_succ]
        refine wpAnyS_take (i := 8) (oi := { dst := some 51, op := Op.call { callee := Callee.builtin Builtin.min, args := #[Operand.tmp 50, Operand.const (Value.int IntKind.i64 80)], argTypes := #[3, 3] }, type := 3, pos := "law.go:23", after := #[{ on := 7, ground := Ground.data }], guard := none }) (v := ?gvr8) [9, 10, 11, 12] rfl (by kernel_rfl) (by kernel_rfl) (by kernel_rfl) (by kernel_rfl) (fun _ _ _ h => h) (Or.inl ⟨by rfl, ?gyr8⟩) (by assumption) ?grr8
        case gyr8 => (intro w hSw; (try dsimp only at hSw); go_simp; try with_reducible rfl)
        try simp only [Act.put, List.setIfInBounds_toArray, List.set_cons_zero, List.set_cons_succ]
        refine wpAnyS_take (i := 9) (oi := { dst := some 52, op := Op.slice 9 (Operand.tmp 47) none (some (Operand.tmp 51)) none, type := 9, pos := "law.go:23", after := #[{ on := 4, ground := Ground.data }, { on := 8, ground := Ground.data }], guard := none }) (v := ?gvr9) [10, 11, 12] rfl (by kernel_rfl) (by kernel_rfl) (by kernel_rfl) (by kernel_rfl) (fun _ _ _ h => h) (Or.inl ⟨by rfl, ?gyr9⟩) (by assumption) ?grr9
        case gyr9 => (intro w hSw; (try dsimp only at hSw); go_simp; try with_reducible rfl)
        try simp only [Act.put, List.setIfInBounds_toArray, List.set_cons_zero, List.set_cons_succ]
        refine wpAnyS_take (i := 10) (oi := { dst := some 53, op := Op.indexAddr 22 (Operand.tmp 44) (Operand.tmp 45), type := 0, pos := "law.go:23", after := #[{ on := 1, ground := Ground.data }, { on := 2, ground := Ground.data }, { on := 0, ground := Ground.phase }, { on := 1, ground := Ground.phase }, { on := 2, ground := Ground.phase }, { on := 3, ground := Ground.phase }, { on := 4, ground := Ground.phase }, { on := 5, ground := Ground.phase }, { on := 6, ground := Ground.phase }, { on := 7, ground := Ground.phase }, { on := 8, ground := Ground.phase }, { on := 9, ground := Ground.phase }], guard := none }) (v := ?gvr10) [11, 12] rfl (by kernel_rfl) (by kernel_rfl) (by kernel_rfl) (by kernel_rfl) (fun _ _ _ h => h) (Or.inl ⟨by rfl, ?gyr10⟩) (by assumption) ?grr10
        case gyr10 => (intro w hSw; (try dsimp only at hSw); go_simp; try with_reducible rfl)
        try simp only [Act.put, List.setIfInBounds_toArray, List.set_cons_zero, List.set_cons_succ]
        refine wpAnyS_take (i := 11) (oi := { dst := some 54, op := Op.fieldAddr 42 (Operand.tmp 53) 0, type := 0, pos := "law.go:23", after := #[{ on := 10, ground := Ground.data }, { on := 0, ground := Ground.phase }, { on := 1, ground := Ground.phase }, { on := 2, ground := Ground.phase }, { on := 3, ground := Ground.phase }, { on := 4, ground := Ground.phase }, { on := 5, ground := Ground.phase }, { on := 6, ground := Ground.phase }, { on := 7, ground := Ground.phase }, { on := 8, ground := Ground.phase }, { on := 9, ground := Ground.phase }], guard := none }) (v := ?gvr11) [12] rfl (by kernel_rfl) (by kernel_rfl) (by kernel_rfl) (by kernel_rfl) (fun _ _ _ h => h) (Or.inl ⟨by rfl, ?gyr11⟩) (by assumption) ?grr11
        case gyr11 => (intro w hSw; (try dsimp only at hSw); go_simp; try with_reducible rfl)
        try simp only [Act.put, List.setIfInBounds_toArray, List.set_cons_zero, List.set_cons_succ]
        refine wpAnyS_ready (rs := [12]) (by kernel_rfl) (by simp) ?_
        refine AllReadyS.cons (o := { dst := none, op := Op.store 9 (Operand.tmp 54) (Operand.tmp 52), type := 0, pos := "law.go:23", after := #[{ on := 11, ground := Ground.data }, { on := 9, ground := Ground.data }, { on := 0, ground := Ground.phase }, { on := 1, ground := Ground.phase }, { on := 2, ground := Ground.phase }, { on := 3, ground := Ground.phase }, { on := 4, ground := Ground.phase }, { on := 5, ground := Ground.phase }, { on := 6, ground := Ground.phase }, { on := 7, ground := Ground.phase }, { on := 8, ground := Ground.phase }, { on := 9, ground := Ground.phase }], guard := none }) rfl (fun K hK => ?cr12) AllReadyS.nil
        rw [if_pos (by kernel_rfl)]
        go_simp
        refine hK.out _ _ ?hSr12 (fun hHeldr12 => ?hRr12)
        case hSr12 => exact fun h => Bool.noConfusion (show true = false from h)
        clear hK K
        clear hHeldr12
        try simp only [Act.put, List.setIfInBounds_toArray, List.set_cons_zero, List.set_cons_succ]
        refine wpAnyS_done (by kernel_rfl) ?_ _
        obtain ⟨W4, hW4⟩ : ∃ W4, (W3.setCell ⟨g, k * 2, none⟩ (.string (x.extract 0 zx))).drew = W4 := ⟨_, rfl⟩
        rw [hW4]
        have hne : ∀ j, j ≠ g → W4.heap[j]? = W3.heap[j]? := fun j hj => by rw [← hW4]; exact Below.heap_setCell _ _ _ _ hj
        have hAn := (HAR.out.keep HB3.out).block (hne M (by have := HGM.out; omega))
        have hZn := (HZR.out.keep HB3.out).block (hne (M + 1) (by have := HGM.out; omega))
        have hO1n : W4.ownsRow (M + 2) 42 2 (.slice (some ⟨g, 0, none⟩) kl c1) kl (cellsL ((turnL cutLay L10 (k + 1)).map layerCell)) := by
          rw [← HNX.out, ← hW4, HCX.out]
          exact own_set (own_keep HR1.out HB3.out) _
        have hO2n := own_block (own_keep HR2.out HB3.out) fun j hj => hne j fun e => own_apart (own_keep HR2.out HB3.out) (own_keep HR1.out HB3.out) layerNeStr.symm j hj (by rw [e]; rfl)
        have hBn : Below M wc W4 := by
          rw [← hW4]
          exact ((HBR.out.trans (HB3.out.mono (by have := HAR.out.lt; omega))).setCell (p := ⟨g, k * 2, none⟩) (by have := HGM.out; show M ≤ g; omega) _).drew
        have HAn := Lib.hid hAn
        have HZn := Lib.hid hZn
        have HO1n := Lib.hid hO1n
        have HO2n := Lib.hid hO2n
        have HBn := Lib.hid hBn
        clear hW4 hne hAn hZn hO1n hO2n hBn
        go_wp2_with fail
        go_roundw
        case rel => exact ⟨k + 1, by omega, by go_num, HAn.out, HO1n.out, HO2n.out, HZn.out, HBn.out⟩
        case measure => simp [intOf]; omega
      · have HO1 := Lib.hid (show wr.ownsRow (M + 2) 42 2 (.slice a1 kl c1) kl (cellsL ((L10.map cutLay).map layerCell)) by
          rw [turnL_all cutLay L10 k (by rw [HLL.out]; omega)] at ho1; exact ho1)
        obtain ⟨hc2, hc2'⟩ := own_cap ho2
        unfold maxLen at hc2'
        obtain ⟨wo, rfl⟩ : ∃ wo : World, wo = wr := ⟨_, rfl⟩
        obtain ⟨m0, m1, m2, m3⟩ := hA.cells
        have HBO := Lib.hid (Below.trans HBC.out hb)
        clear hA hZ ho1 ho2 hb HR1 HBR
        go_wp2_with fail
        go_loopw [59] (fun iv wr => ∃ k : Nat, k ≤ kk ∧ iv = .int .i64 k ∧ At4 wr M (.bool i) (.string (cut80 c)) (.slice a1 kl c1) (.slice a2 kk c2) ∧ wr.ownsRow (M + 2) 42 2 (.slice a1 kl c1) kl (cellsL ((L10.map cutLay).map layerCell)) ∧ wr.ownsRow (M + 2) 9 1 (.slice a2 kk c2) kk ((turnL cut80 K10 k).map Value.string) ∧ At4 wr (M + 1) (.bool false) (.string ⟨#[]⟩) (.slice none 0 0) (.slice none 0 0) ∧ Below M w wr) (fun i _ => kk - (intOf i).toNat)
        case atStart => exact ⟨0, Nat.zero_le _, rfl, HAR.out, HO1.out, by rw [turnL_zero]; exact HR2.out, HZR.out, HBO.out⟩
        case round =>
          obtain ⟨k, hk, rfl, hA, ho1, ho2, hZ, hb⟩ := hrel
          have HBR := Lib.hid hb
          have HAR := Lib.hid hA
          have HZR := Lib.hid hZ
          have HR2 := Lib.hid ho2
          have HR1 := Lib.hid ho1
          clear m0 m1 m2 m3
          by_cases hlt : k < kk
          · have h1 : k < K10.length := by rw [HKL.out]; exact hlt
            obtain ⟨g, rfl, hgM, hgl⟩ := own_some ho2 (by omega)
            have HNX := Lib.hid (show ((turnL cut80 K10 k).map Value.string).set k (.string (cut80 K10[k])) = (turnL cut80 K10 (k + 1)).map Value.string by
              rw [← turnL_succ cut80 K10 k h1, List.map_set])
            have hcl : ((turnL cut80 K10 k).map Value.string)[k]? = some (.string K10[k]) := by
              rw [List.getElem?_map, List.getElem?_eq_getElem (by rw [turnL_length]; exact h1), turnL_at cut80 K10 k h1]; rfl
            have hxz := HKZ.out _ (List.getElem_mem h1)
            obtain ⟨x, hx⟩ : ∃ x, K10[k] = x := ⟨_, rfl⟩
            rw [hx] at hcl HNX hxz
            obtain ⟨v0, f0⟩ := own_cell ho2 hcl
            obtain ⟨zx, hzx⟩ : ∃ k, min x.size 80 = k := ⟨_, rfl⟩
            have HCX := Lib.hid (show x.extract 0 zx = cut80 x by unfold cut80; rw [hzx])
            have q7 : min (x.size : Int) 80 = (zx : Int) := by omega
            have q8 : zx ≤ x.size := by omega
            unfold maxLen at hxz
            obtain ⟨m0, m1, m2, m3⟩ := hA.cells
            have HGM := Lib.hid hgM
            clear hx hcl ho1 ho2 hA hZ hb hgM hgl hzx
            go_upto_region 11 with fail
            refine wp_region_S (S := fun w' => w'.cell? ⟨M, 3, none⟩ = some (.slice (some ⟨g, 0, none⟩) kk c2)) 9 (by kernel_rfl) ?hSs (fun hHeld => ?hRs)
            case hSs => exact m3
            refine wpAnyS_take (i := 0) (oi := { dst := some 64, op := Op.fieldAddr 25 (Operand.tmp 1) 3, type := 0, pos := "law.go:26", after := #[], guard := none }) (v := ?gvs0) [1, 8, 9] rfl (by kernel_rfl) (by kernel_rfl) (by kernel_rfl) (by kernel_rfl) (fun _ _ _ h => h) (Or.inl ⟨by rfl, ?gys0⟩) (by assumption) ?grs0
            case gys0 => (intro w hSw; (try dsimp only at hSw); go_simp; try with_reducible rfl)
            try simp only [Act.put, List.setIfInBounds_toArray, List.set_cons_zero, List.set_cons_succ]
            refine wpAnyS_take (i := 1) (oi := { dst := some 65, op := Op.load 23 (Operand.tmp 64), type := 23, pos := "law.go:26", after := #[{ on := 0, ground := Ground.data }], guard := none }) (v := ?gvs1) [8, 9] rfl (by kernel_rfl) (by kernel_rfl) (by kernel_rfl) (by kernel_rfl) (fun _ _ _ h => h) (Or.inl ⟨by rfl, ?gys1⟩) (by assumption) ?grs1
            case gys1 => (intro w hSw; (try dsimp only at hSw); go_simp; try with_reducible rfl)
            try simp only [Act.put, List.setIfInBounds_toArray, List.set_cons_zero, List.set_cons_succ]
            refine wpAnyS_take (i := 2) (oi := { dst := some 66, op := Op.move (Operand.tmp 5), type := 3, pos := "law.go:26", after := #[], guard := none }) (v := ?gvs2) [8, 9] rfl (by kernel_rfl) (by kernel_rfl) (by kernel_rfl) (by kernel_rfl) (fun _ _ _ h => h) (Or.inl ⟨by rfl, ?gys2⟩) (by assumption) ?grs2
            case gys2 => (intro w hSw; (try dsimp only at hSw); go_simp; try with_reducible rfl)
            try simp only [Act.put, List.setIfInBounds_toArray, List.set_cons_zero, List.set_cons_succ]
            refine wpAnyS_take (i := 3) (oi := { dst := some 67, op := Op.move (Operand.tmp 6), type := 9, pos := "law.go:26", after := #[], guard := none }) (v := ?gvs3) [7, 8, 9] rfl (by kernel_rfl) (by kernel_rfl) (by kernel_rfl) (by kernel_rfl) (fun _ _ _ h => h) (Or.inl ⟨by rfl, ?gys3⟩) (by assumption) ?grs3
            case gys3 => (intro w hSw; (try dsimp only at hSw); go_simp; try with_reducible rfl)
            try simp only [Act.put, List.setIfInBounds_toArray, List.set_cons_zero, List.set_cons_succ]
            refine wpAnyS_take (i := 4) (oi := { dst := some 68, op := Op.move (Operand.tmp 6), type := 9, pos := "law.go:26", after := #[], guard := none }) (v := ?gvs4) [5, 6, 7, 8, 9] rfl (by kernel_rfl) (by kernel_rfl) (by kernel_rfl) (by kernel_rfl) (fun _ _ _ h => h) (Or.inl ⟨by rfl, ?gys4⟩) (by assumption) ?grs4
            case gys4 => (intro w hSw; (try dsimp only at hSw); go_simp; try with_reducible rfl)
            try simp only [Act.put, List.setIfInBounds_toArray, List.set_cons_zero, List.set_cons_succ]
            refine wpAnyS_take (i := 5) (oi := { dst := some 69, op := Op.call { callee := Callee.builtin Builtin.len, args := #[Operand.tmp 68], argTypes := #[9] }, type := 3, pos := "law.go:26", after := #[{ on := 4, ground := Ground.data }], guard := none }) (v := ?gvs5) [6, 7, 8, 9] rfl (by kernel_rfl) (by kernel_rfl) (by kernel_rfl) (by kernel_rfl) (fun _ _ _ h => h) (Or.inl ⟨by rfl, ?gys5⟩) (by assumption) ?grs5
            case gys5 => (intro w hSw; (try dsimp only at hSw); go_simp; try with_reducible rfl)
            try simp only [Act.put, List.setIfInBounds_toArray, List.set_cons_zero, List.set_cons_succ]
            refine wpAnyS_take (i := 6) (oi := { dst := some 70, op := Op.call { callee := Callee.builtin Builtin.min, args := #[Operand.tmp 69, Operand.const (Value.int IntKind.i64 80)], argTypes := #[3, 3] }, type := 3, pos := "law.go:26", after := #[{ on := 5, ground := Ground.data }], guard := none }) (v := ?gvs6) [7, 8, 9] rfl (by kernel_rfl) (by kernel_rfl) (by kernel_rfl) (by kernel_rfl) (fun _ _ _ h => h) (Or.inl ⟨by rfl, ?gys6⟩) (by assumption) ?grs6
            case gys6 => (intro w hSw; (try dsimp only at hSw); go_simp; try with_reducible rfl)
            try simp only [Act.put, List.setIfInBounds_toArray, List.set_cons_zero, List.set_cons_succ]
            refine wpAnyS_take (i := 7) (oi := { dst := some 71, op := Op.slice 9 (Operand.tmp 67) none (some (Operand.tmp 70)) none, type := 9, pos := "law.go:26", after := #[{ on := 3, ground := Ground.data }, { on := 6, ground := Ground.data }], guard := none }) (v := ?gvs7) [8, 9] rfl (by kernel_rfl) (by kernel_rfl) (by kernel_rfl) (by kernel_rfl) (fun _ _ _ h => h) (Or.inl ⟨by rfl, ?gys7⟩) (by assumption) ?grs7
            case gys7 => (intro w hSw; (try dsimp only at hSw); go_simp; try with_reducible rfl)
            try simp only [Act.put, List.setIfInBounds_toArray, List.set_cons_zero, List.set_cons_succ]
            refine wpAnyS_take (i := 8) (oi := { dst := some 72, op := Op.indexAddr 23 (Operand.tmp 65) (Operand.tmp 66), type := 0, pos := "law.go:26", after := #[{ on := 1, ground := Ground.data }, { on := 2, ground := Ground.data }, { on := 0, ground := Ground.phase }, { on := 1, ground := Ground.phase }, { on := 2, ground := Ground.phase }, { on := 3, ground := Ground.phase }, { on := 4, ground := Ground.phase }, { on := 5, ground := Ground.phase }, { on := 6, ground := Ground.phase }, { on := 7, ground := Ground.phase }], guard := none }) (v := ?gvs8) [9] rfl (by kernel_rfl) (by kernel_rfl) (by kernel_rfl) (by kernel_rfl) (fun _ _ _ h => h) (Or.inl ⟨by rfl, ?gys8⟩) (by assumption) ?grs8
            case gys8 => (intro w hSw; (try dsimp only at hSw); go_simp; try with_reducible rfl)
            try simp only [Act.put, List.setIfInBounds_toArray, List.set_cons_zero, List.set_cons_succ]
            refine wpAnyS_ready (rs := [9]) (by kernel_rfl) (by simp) ?_
            refine AllReadyS.cons (o := { dst := none, op := Op.store 9 (Operand.tmp 72) (Operand.tmp 71), type := 0, pos := "law.go:26", after := #[{ on := 8, ground := Ground.data }, { on := 7, ground := Ground.data }, { on := 0, ground := Ground.phase }, { on := 1, ground := Ground.phase }, { on := 2, ground := Ground.phase }, { on := 3, ground := Ground.phase }, { on := 4, ground := Ground.phase }, { on := 5, ground := Ground.phase }, { on := 6, ground := Ground.phase }, { on := 7, ground := Ground.phase }], guard := none }) rfl (fun K hK => ?cs9) AllReadyS.nil
            rw [if_pos (by kernel_rfl)]
            go_simp
            refine hK.out _ _ ?hSs9 (fun hHelds9 => ?hRs9)
            case hSs9 => exact fun h => Bool.noConfusion (show true = false from h)
            clear hK K
            clear hHelds9
            try simp only [Act.put, List.setIfInBounds_toArray, List.set_cons_zero, List.set_cons_succ]
            refine wpAnyS_done (by kernel_rfl) ?_ _
            obtain ⟨W4, hW4⟩ : ∃ W4, (wr.setCell ⟨g, k, none⟩ (.string (x.extract 0 zx))).drew = W4 := ⟨_, rfl⟩
            rw [hW4]
            have hne : ∀ j, j ≠ g → W4.heap[j]? = wr.heap[j]? := fun j hj => by rw [← hW4]; exact Below.heap_setCell _ _ _ _ hj
            have hAn := HAR.out.block (hne M (by have := HGM.out; omega))
            have hZn := HZR.out.block (hne (M + 1) (by have := HGM.out; omega))
            have hO2n : W4.ownsRow (M + 2) 9 1 (.slice (some ⟨g, 0, none⟩) kk c2) kk ((turnL cut80 K10 (k + 1)).map Value.string) := by
              rw [← HNX.out, ← hW4, HCX.out]
              exact own_set HR2.out _
            have hO1n := own_block HR1.out fun j hj => hne j fun e => own_apart HR1.out HR2.out layerNeStr j hj (by rw [e]; rfl)
            have hBn : Below M w W4 := by
              rw [← hW4]
              exact (HBR.out.setCell (p := ⟨g, k, none⟩) (by have := HGM.out; show M ≤ g; omega) _).drew
            have HAn := Lib.hid hAn
            have HZn := Lib.hid hZn
            have HO1n := Lib.hid hO1n
            have HO2n := Lib.hid hO2n
            have HBn := Lib.hid hBn
            clear hW4 hne hAn hZn hO1n hO2n hBn
            go_wp2_with fail
            go_roundw
            case rel => exact ⟨k + 1, by omega, by go_num, HAn.out, HO1n.out, HO2n.out, HZn.out, HBn.out⟩
            case measure => simp [intOf]; omega
          · rw [turnL_all cut80 K10 k (by rw [HKL.out]; omega)] at ho2
            obtain ⟨m0, m1, m2, m3⟩ := hA.cells
            obtain ⟨z0, z1, z2, z3⟩ := hZ.cells
            have g0 := hZ.frozen 0
            have g1 := hZ.frozen 1
            have g2 := hZ.frozen 2
            have g3 := hZ.frozen 3
            have hend : ∀ w', (∀ j, M + 2 ≤ j → j < wr.heap.size → w'.heap[j]? = wr.heap[j]?) → ManAt w' (.agg #[.bool i, .string (cut80 c), .slice a1 kl c1, .slice a2 kk c2]) (fewM ⟨i, c, ls, ks⟩) := fun w' hw' => by
              rw [HFEW.out]
              refine ⟨⟨_, _, rfl, PairsAt.of_own (own_block ho1 fun g hg => hw' g (ho1.lt g hg).1 (ho1.lt g hg).2) (by rw [List.length_map, List.length_map]; exact HLL.out), OwnS.strs (B := M + 2) (n := kk) ⟨by rw [List.length_map]; exact HKL.out, own_block ho2 fun g hg => hw' g (ho2.lt g hg).1 (ho2.lt g hg).2⟩⟩, Nat.le_trans (cut80_size c) (by decide), fun l hl => ?_, fun x hx => ?_⟩
              · obtain ⟨y, hy, rfl⟩ := List.mem_map.1 hl
                exact ⟨Nat.le_trans (cut80_size y.1) (by decide), (HLZ.out y hy).2⟩
              · obtain ⟨y, -, rfl⟩ := List.mem_map.1 hx
                exact Nat.le_trans (cut80_size y) (by decide)
            have HEND := Lib.hid hend
            clear ho1 ho2 hA hend
            go_wp2_with fail
            exact bodyPost_ret (results_cell_row (p := 2) rfl _ _ (M + 1) 25 _ (0, 0) _ rfl (set4_four hZ _ _ _ _) Tryz.underlying25 rfl manSize) rfl ⟨_, rfl, by
              rw [HM.out]
              exact ⟨hb.os, hb.tape, hb.output, Nat.le_trans hb.size (Nat.le_of_eq (set4_size _ _ _ _ _ _).symm), fun j hj => (set4_block _ _ _ _ _ _ j (by omega)).trans (hb.block j hj)⟩, fun w'' hf => HEND.out w'' fun j hj hl => (hf j (by rw [HM.out]; omega) (Nat.lt_of_lt_of_eq hl (set4_size _ _ _ _ _ _).symm)).trans (set4_block _ _ _ _ _ _ j (by omega))⟩
end Go.Proofs.YtfcglnajdfpmhaaGreatDoor
