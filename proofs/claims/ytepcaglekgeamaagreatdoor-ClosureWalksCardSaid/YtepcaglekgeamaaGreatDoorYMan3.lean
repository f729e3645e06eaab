/-
  What a value tells of a manifest: the program's member, wordOf, wholeOf, each, things, by contracts. Conditions: what comes in reads as a tree.
  What a value tells of a manifest: the program's each, things, read, by contracts. Conditions: what comes in reads as a tree; rows of at most 2^20.
  What a value tells of a manifest: the program's each, things, read, by contracts. Conditions: what comes in reads as a tree; rows of at most 2^20.
  The manifest that a value tells: the program's things, read, by contracts. Conditions: what comes in reads as a tree; rows of at most 2^20.
-/
import Derived.Test.YtepcaglekgeamaaGreatDoorYMan2
import Derived.Test.YtepcaglekgeamaaGreatDoorYGet
import Derived.Deep.OwnRows
namespace Go.Proofs.YtepcaglekgeamaaGreatDoor
open Go.RowKit

theorem field_num (kind n : Int) (s : ByteArray) (ia na : Option Addr) (li ic nn nc : Nat) (w : World) : (Instr.field 71 (.agg #[.int .i64 kind, .int .i64 n, .string s, .slice ia li ic, .slice na nn nc]) 1).run Tryz.prog w = .ok (.int .i64 n) w := by kernel_rfl

theorem field_word (kind n : Int) (s : ByteArray) (ia na : Option Addr) (li ic nn nc : Nat) (w : World) : (Instr.field 71 (.agg #[.int .i64 kind, .int .i64 n, .string s, .slice ia li ic, .slice na nn nc]) 2).run Tryz.prog w = .ok (.string s) w := by kernel_rfl

theorem field_items (kind n : Int) (s : ByteArray) (ia na : Option Addr) (li ic nn nc : Nat) (w : World) : (Instr.field 71 (.agg #[.int .i64 kind, .int .i64 n, .string s, .slice ia li ic, .slice na nn nc]) 3).run Tryz.prog w = .ok (.slice ia li ic) w := by kernel_rfl

set_option maxRecDepth 100000 in
theorem member_c (T : Val) (v : Value) (name : ByteArray) (kind : Int) (w : World) (hv : IsVal w v T) :
    Calls Tryz.prog 123 #[v, .string name, .int .i64 kind] w fun e w' => ∃ x, e = .returned x ∧ ValIn (fun b => b < w.heap.size) w' x (memberV T name kind) ∧ Below w.heap.size w w' := by
  obtain ⟨vk, vn, vs, via, vna, vli, vic, vnn, vnc, rfl⟩ := hv.shape
  obtain ⟨W0, hW0⟩ : ∃ W0, (w.alloc (.cells #[.int .i64 vk, .int .i64 vn, .string vs, .slice via vli vic, .slice vna vnn vnc] 71)).alloc (.cells #[.int .i64 0, .int .i64 0, .string ⟨#[]⟩, .slice none 0 0, .slice none 0 0] 71) = W0 := ⟨_, rfl⟩
  have hs1 : ∀ o, (w.alloc o).heap.size = w.heap.size + 1 := fun o => by simp
  have hb0 : Below w.heap.size w W0 := by rw [← hW0]; exact Below.then (below_new _ _) (below_new _ _)
  have hV : At5 W0 w.heap.size (.int .i64 vk) (.int .i64 vn) (.string vs) (.slice via vli vic) (.slice vna vnn vnc) := by rw [← hW0]; exact (At5.new _ _ _ _ _ _).keep (below_new _ _)
  have hZ : At5 W0 (w.heap.size + 1) (.int .i64 0) (.int .i64 0) (.string ⟨#[]⟩) (.slice none 0 0) (.slice none 0 0) := by
    rw [← hW0]
    have e := At5.new (w.alloc (.cells #[.int .i64 vk, .int .i64 vn, .string vs, .slice via vli vic, .slice vna vnn vnc] 71)) (.int .i64 0) (.int .i64 0) (.string ⟨#[]⟩) (.slice none 0 0) (.slice none 0 0)
    rwa [hs1] at e
  have G := Lib.hid (Get_in (fun b => b < w.heap.size) T _ name kind W0 (hv.within.keep fun b hS hl => ⟨hb0.block b hl, hS⟩))
  have HB0 := Lib.hid hb0
  have HZ := Lib.hid hZ
  have HW0 := Lib.hid hW0
  obtain ⟨a0, a1, a2, a3, a4⟩ := hV.cells
  clear hb0 hV hZ hW0 hs1 hv
  go_enter Tryz.func123, Tryz.ntmps123
  go_upto_region 1 with fail
  rw [HW0.out]
  go_wp2_with fail
  refine G.out.mono ?_
  intro e w1 hx
  -- what Get answers, in one form
  obtain ⟨xk, xn, xs, xia, xli, xic, xna, xnn, xnc, f, rfl, hxv⟩ : ∃ xk xn xs xia xli xic xna xnn xnc, ∃ f : Int, e = .returned (.tuple #[.agg #[.int .i64 xk, .int .i64 xn, .string xs, .slice xia xli xic, .slice xna xnn xnc], .int .i64 f]) ∧ ValIn (fun b => b < w.heap.size) w1 (.agg #[.int .i64 xk, .int .i64 xn, .string xs, .slice xia xli xic, .slice xna xnn xnc]) (memberV T name kind) := by
    have hi := hx.is
    unfold memberV
    cases hg : getV T name kind with
    | none =>
      rw [hg] at hi
      exact ⟨_, _, _, _, _, _, _, _, _, 8, hi, ValIn.plain _ _ 0 0 ⟨#[]⟩ (by decide) (by decide) (by decide)⟩
    | some X =>
      rw [hg] at hi
      obtain ⟨x, e1, hx⟩ := hi
      obtain ⟨xk, xn, xs, xia, xna, xli, xic, xnn, xnc, rfl⟩ := hx.isVal.shape
      exact ⟨_, _, _, _, _, _, _, _, _, 0, e1, hx⟩
  obtain ⟨W2, hW2⟩ : ∃ W2, w1.alloc (.cells #[.int .i64 xk, .int .i64 xn, .string xs, .slice xia xli xic, .slice xna xnn xnc] 71) = W2 := ⟨_, rfl⟩
  have hb2 : Below w1.heap.size w1 W2 := by rw [← hW2]; exact below_new _ _
  have hX : At5 W2 w1.heap.size (.int .i64 xk) (.int .i64 xn) (.string xs) (.slice xia xli xic) (.slice xna xnn xnc) := by rw [← hW2]; exact At5.new _ _ _ _ _ _
  have hbb := Below.then hx.below hb2
  have hZ2 := HZ.out.keep hbb
  have HZ2 := Lib.hid hZ2
  have HB2 := Lib.hid (Below.then HB0.out hbb)
  have HV := Lib.hid (hxv.keep (S' := fun b => b < w.heap.size) fun b hS hl => ⟨hb2.block b hl, hS⟩)
  have HW2 := Lib.hid hW2
  obtain ⟨x0, x1, x2, x3, x4⟩ := hX.cells
  obtain ⟨z0, z1, z2, z3, z4⟩ := hZ2.cells
  have f0 := hZ2.frozen 0
  have f1 := hZ2.frozen 1
  have f2 := hZ2.frozen 2
  have f3 := hZ2.frozen 3
  have f4 := hZ2.frozen 4
  clear hx hb2 hX hbb hZ2 hxv hW2 a0 a1 a2 a3 a4
  go_upto_region 2 with fail
  rw [HW2.out]
  go_wp2_with fail
  refine bodyPost_ret (results_cell_row (p := 6) rfl _ _ (w.heap.size + 1) 71 _ (0, 0) _ rfl (set5_five0 HZ2.out _ _ _ _ _) Tryz.underlying71 rfl valSize) rfl ?_
  exact ⟨_, rfl, HV.out.keep fun b hS _ => ⟨set5_block _ _ _ _ _ _ _ _ b (by omega), hS⟩, below_five HB2.out (Nat.le_succ _) _ _ _ _ _⟩

theorem ValIn.parts {S : Nat → Prop} {w : World} {x : Value} {T : Val} (h : ValIn S w x T) : ∃ (kind n : Int) (s : ByteArray) (ia na : Option Addr) (li ic nn nc : Nat), x = .agg #[.int .i64 kind, .int .i64 n, .string s, .slice ia li ic, .slice na nn nc] ∧ T.num = n ∧ T.word = s ∧ s.size ≤ maxLen ∧ -9223372036854775808 ≤ n ∧ n ≤ 9223372036854775807 := by
  cases h with
  | mk kind n s iv nv items names ev hk hn hs hN hNS hz hI hIS hsub =>
    obtain ⟨na, nc, rfl, -⟩ := hN.shape
    obtain ⟨ia, ic, rfl, -, -⟩ := hI.shape
    exact ⟨kind, n, s, ia, na, _, ic, _, nc, rfl, rfl, rfl, hs, hn⟩

set_option maxRecDepth 100000 in
theorem wordOf_c (T : Val) (v : Value) (name : ByteArray) (w : World) (hv : IsVal w v T) :
    Calls Tryz.prog 100 #[v, .string name] w fun e w' => e = .returned (.string (wordOfV T name)) ∧ Below w.heap.size w w' ∧ (wordOfV T name).size ≤ maxLen := by
  obtain ⟨vk, vn, vs, via, vna, vli, vic, vnn, vnc, rfl⟩ := hv.shape
  obtain ⟨W0, hW0⟩ : ∃ W0, w.alloc (.cells #[.int .i64 vk, .int .i64 vn, .string vs, .slice via vli vic, .slice vna vnn vnc] 71) = W0 := ⟨_, rfl⟩
  have hb0 : Below w.heap.size w W0 := by rw [← hW0]; exact below_new _ _
  have hV : At5 W0 w.heap.size (.int .i64 vk) (.int .i64 vn) (.string vs) (.slice via vli vic) (.slice vna vnn vnc) := by rw [← hW0]; exact At5.new _ _ _ _ _ _
  have M := Lib.hid (member_c T _ name 2 W0 (hv.keep hb0))
  have HB0 := Lib.hid hb0
  have HW0 := Lib.hid hW0
  obtain ⟨a0, a1, a2, a3, a4⟩ := hV.cells
  clear hb0 hV hW0 hv
  go_enter Tryz.func100, Tryz.ntmps100
  go_upto_region 1 with fail
  rw [HW0.out]
  go_wp2_with fail
  refine M.out.mono ?_
  rintro e w1 ⟨x, rfl, hx, hb⟩
  obtain ⟨kind, n, s, ia, na, li, ic, nn, nc, rfl, -, hs, hz, -, -⟩ := hx.parts
  have HZ := Lib.hid hz
  have HO := Lib.hid (show wordOfV T name = s from hs)
  have HB := Lib.hid (Below.then HB0.out hb)
  have hfd := fun w => field_word kind n s ia na li ic nn nc w
  clear hx hs hb hz
  go_wp2_with fail
  go_ret
  exact ⟨by rw [HO.out]; rfl, HB.out, by rw [HO.out]; exact HZ.out⟩

set_option maxRecDepth 100000 in
theorem wholeOf_c (T : Val) (v : Value) (name : ByteArray) (w : World) (hv : IsVal w v T) :
    Calls Tryz.prog 105 #[v, .string name] w fun e w' => e = .returned (.int .i64 (wholeOfV T name)) ∧ Below w.heap.size w w' ∧ -9223372036854775808 ≤ wholeOfV T name ∧ wholeOfV T name ≤ 9223372036854775807 := by
  obtain ⟨vk, vn, vs, via, vna, vli, vic, vnn, vnc, rfl⟩ := hv.shape
  obtain ⟨W0, hW0⟩ : ∃ W0, w.alloc (.cells #[.int .i64 vk, .int .i64 vn, .string vs, .slice via vli vic, .slice vna vnn vnc] 71) = W0 := ⟨_, rfl⟩
  have hb0 : Below w.heap.size w W0 := by rw [← hW0]; exact below_new _ _
  have hV : At5 W0 w.heap.size (.int .i64 vk) (.int .i64 vn) (.string vs) (.slice via vli vic) (.slice vna vnn vnc) := by rw [← hW0]; exact At5.new _ _ _ _ _ _
  have M := Lib.hid (member_c T _ name 1 W0 (hv.keep hb0))
  have HB0 := Lib.hid hb0
  have HW0 := Lib.hid hW0
  obtain ⟨a0, a1, a2, a3, a4⟩ := hV.cells
  clear hb0 hV hW0 hv
  go_enter Tryz.func105, Tryz.ntmps105
  go_upto_region 1 with fail
  rw [HW0.out]
  go_wp2_with fail
  refine M.out.mono ?_
  rintro e w1 ⟨x, rfl, hx, hb⟩
  obtain ⟨kind, n, s, ia, na, li, ic, nn, nc, rfl, hn, -, -, hz⟩ := hx.parts
  have HZ := Lib.hid hz
  have HO := Lib.hid (show wholeOfV T name = n from hn)
  have HB := Lib.hid (Below.then HB0.out hb)
  have hfd := fun w => field_num kind n s ia na li ic nn nc w
  clear hx hn hb hz
  go_wp2_with fail
  go_ret
  exact ⟨by rw [HO.out]; rfl, HB.out, by rw [HO.out]; exact HZ.out⟩

set_option maxRecDepth 100000 in
theorem kidOf_c (T : Val) (v : Value) (w : World) (hv : IsVal w v T) :
    Calls Tryz.prog 102 #[v] w fun e w' => e = .returned (.string T.word) ∧ Below w.heap.size w w' := by
  obtain ⟨kind, n, s, ia, na, li, ic, nn, nc, rfl, -, hs, -, -, -⟩ := hv.within.parts
  have HO := Lib.hid hs
  have HB := Lib.hid (below_new w (.cells #[.int .i64 kind, .int .i64 n, .string s, .slice ia li ic, .slice na nn nc] 71))
  clear hs hv
  go_enter Tryz.func102, Tryz.ntmps102
  go_wp2_with fail
  go_ret
  exact ⟨by rw [HO.out]; rfl, HB.out⟩
end Go.Proofs.YtepcaglekgeamaaGreatDoor
namespace Go.Proofs.YtepcaglekgeamaaGreatDoor
open Go.RowKit

def strF (ss : List ByteArray) (t : Nat) : Value := .string (ss.getD t ⟨#[]⟩)

theorem strF_push (ss : List ByteArray) (k : Nat) (hk : ss.length = k) (x : ByteArray) (t : Nat) : (if t = k then Value.string x else strF ss t) = strF (ss ++ [x]) t := by
  unfold strF
  rw [List.getD_eq_getElem?_getD, List.getD_eq_getElem?_getD]
  rcases Nat.lt_trichotomy t k with h | h | h
  · rw [if_neg (by omega), List.getElem?_append_left (by omega)]
  · rw [if_pos h, List.getElem?_append_right (by omega), show t - ss.length = 0 by omega]; rfl
  · rw [if_neg (by omega), List.getElem?_eq_none (by omega), List.getElem?_eq_none (by rw [List.length_append, List.length_singleton]; omega)]

theorem str_made {w : World} {B g n : Nat} (h : w.ownsRow B 9 1 (.slice (some ⟨g, 0, none⟩) n n) n (madeCells #[.string ⟨#[]⟩] (n * 1)).toList) : w.rowIs g 9 n (strF []) := by
  rcases h.2 with ⟨h0, _⟩ | ⟨g', cap, cur, hv, _, hg, _, _, hs, ht⟩
  · cases h0
  · cases hv
    rw [Nat.mul_one] at hs ht
    refine ⟨cur, hg, hs, fun i hi => ?_⟩
    have h1 : (madeCells #[.string ⟨#[]⟩] n).toList[i]? = some (.string ⟨#[]⟩) := by simp [madeCells, hi, Nat.mod_one]
    rw [← ht, List.getElem?_take, if_pos hi] at h1
    simpa [strF] using h1

theorem str_strs {w : World} {g n : Nat} {ss : List ByteArray} (h : w.rowIs g 9 n (strF ss)) (hn : ss.length = n) (hm : n ≤ maxLen) : StrsAt w (.slice (some ⟨g, 0, none⟩) n n) ss := by
  by_cases h0 : n = 0
  · exact Or.inl ⟨List.length_eq_zero_iff.1 (by omega), Or.inr ⟨_, _, by rw [h0], by decide⟩⟩
  · refine Or.inr ⟨g, 0, n, by rw [hn], by omega, by omega, hm, fun i hi => ?_⟩
    rw [Nat.zero_add, h.cell (by omega)]
    unfold strF
    rw [List.getD_eq_getElem?_getD, List.getElem?_eq_getElem hi]
    rfl

def pairF (ls : List (ByteArray × Int)) (t : Nat) : Value := match ls[t / 2]? with
  | some l => if t % 2 = 0 then .string l.1 else .int .i64 l.2
  | none => if t % 2 = 0 then .string ⟨#[]⟩ else .int .i64 0

theorem pairF_push (ls : List (ByteArray × Int)) (k : Nat) (hk : ls.length = k) (x : ByteArray) (n : Int) (t : Nat) :
    (if t = k * 2 + 1 then Value.int .i64 n else if t = k * 2 then .string x else pairF ls t) = pairF (ls ++ [(x, n)]) t := by
  rcases Nat.lt_trichotomy (t / 2) k with h | h | h
  · rw [if_neg (by omega), if_neg (by omega)]
    unfold pairF
    rw [List.getElem?_append_left (by omega)]
  · have e : pairF (ls ++ [(x, n)]) t = if t % 2 = 0 then .string x else .int .i64 n := by
      unfold pairF
      rw [List.getElem?_append_right (by omega), show t / 2 - ls.length = 0 by omega]
      rfl
    rw [e]
    by_cases h2 : t % 2 = 0
    · rw [if_neg (by omega), if_pos (by omega), if_pos h2]
    · rw [if_pos (by omega), if_neg h2]
  · rw [if_neg (by omega), if_neg (by omega)]
    unfold pairF
    rw [List.getElem?_eq_none (by omega), List.getElem?_eq_none (by rw [List.length_append, List.length_singleton]; omega)]

theorem pair_made {w : World} {B g n : Nat} (h : w.ownsRow B 76 2 (.slice (some ⟨g, 0, none⟩) n n) n (madeCells #[.string ⟨#[]⟩, .int .i64 0] (n * 2)).toList) : w.rowIs g 76 (n * 2) (pairF []) := by
  rcases h.2 with ⟨h0, _⟩ | ⟨g', cap, cur, hv, _, hg, _, _, hs, ht⟩
  · cases h0
  · cases hv
    refine ⟨cur, hg, hs, fun i hi => ?_⟩
    have h1 : (madeCells #[.string ⟨#[]⟩, .int .i64 0] (n * 2)).toList[i]? = some (pairF [] i) := by
      have h2 : i % 2 = 0 ∨ i % 2 = 1 := by omega
      rcases h2 with h2 | h2 <;> simp [madeCells, hi, h2, pairF]
    rw [← ht, List.getElem?_take, if_pos hi] at h1
    simpa using h1

theorem pair_set {w : World} {g n k : Nat} {ls : List (ByteArray × Int)} (h : w.rowIs g 76 (n * 2) (pairF ls)) (hk : ls.length = k) (x : ByteArray) (m : Int) :
    ((w.setCell ⟨g, k * 2, none⟩ (.string x)).setCell ⟨g, k * 2 + 1, none⟩ (.int .i64 m)).rowIs g 76 (n * 2) (pairF (ls ++ [(x, m)])) :=
  ((h.set (k * 2) (.string x)).set (k * 2 + 1) (.int .i64 m)).congr fun i _ => pairF_push ls k hk x m i

theorem pair_pairs {w : World} {g n : Nat} {ls : List (ByteArray × Int)} (h : w.rowIs g 76 (n * 2) (pairF ls)) (hn : ls.length = n) (hm : n ≤ maxLen) : PairsAt w (.slice (some ⟨g, 0, none⟩) n n) (ls.map layerCell) := by
  by_cases h0 : n = 0
  · exact Or.inl ⟨List.map_eq_nil_iff.2 (List.length_eq_zero_iff.1 (by omega)), Or.inr ⟨_, _, by rw [h0], by decide⟩⟩
  · refine Or.inr ⟨g, 0, n, by rw [List.length_map, hn], by rw [List.length_map]; omega, by rw [List.length_map]; omega, hm, fun i hi => ?_⟩
    rw [List.length_map] at hi
    have e : ∀ r, r < 2 → pairF ls (i * 2 + r) = if r = 0 then .string ls[i].1 else .int .i64 ls[i].2 := fun r hr => by
      unfold pairF
      rw [show (i * 2 + r) / 2 = i by omega, show (i * 2 + r) % 2 = r by omega, List.getElem?_eq_getElem hi]
    rw [layer_getElem ls i hi]
    constructor
    · rw [Nat.zero_add, show i * 2 = i * 2 + 0 from rfl, h.cell (by omega), e 0 (by decide)]; rfl
    · rw [Nat.zero_add, h.cell (by omega), e 1 (by decide)]; rfl

theorem strZero : ∃ i, Tryz.prog.info? 9 = some i ∧ i.zero = some (.string ⟨#[]⟩) ∧ i.size = 1 ∧ i.bytes = 16 := info_parts strInfo

theorem layerInfo : (Tryz.prog.info? 76).map (fun i => (i.zero, i.size, i.bytes)) = some (some (.agg #[.string ⟨#[]⟩, .int .i64 0]), 2, 24) := by kernel_rfl

theorem layerSize : (Tryz.prog.info? 76).map (·.size) = some 2 := by kernel_rfl

def set2 (w : World) (g : Nat) (c0 c1 : Value) : World := (w.setCell ⟨g, 0, none⟩ c0).setCell ⟨g, 1, none⟩ c1

theorem set2_block (w : World) (g : Nat) (c0 c1 : Value) (k : Nat) (h : k ≠ g) : (set2 w g c0 c1).heap[k]? = w.heap[k]? := by
  unfold set2
  rw [Below.heap_setCell _ _ _ _ h, Below.heap_setCell _ _ _ _ h]

theorem set2_two {w : World} {t : TypeId} {Z : Nat} {a b : Value} (h : At2 t w Z a b) (c0 c1 : Value) : At2 t (set2 w Z c0 c1) Z c0 c1 := by
  have st : ∀ {w : World} {cs : Array Value} {j : Nat} {u : Value}, w.heap[Z]? = some (.cells cs t (0, 0)) → (w.setCell ⟨Z, j, none⟩ u).heap[Z]? = some (.cells (cs.setIfInBounds j u) t (0, 0)) := by
    intro w cs j u h
    show (w.heap.modify Z _)[Z]? = _
    rw [Array.getElem?_modify, if_pos rfl, h]
    rfl
  exact st (st h)

theorem At2.frozen {t : TypeId} {w : World} {B : Nat} {a b : Value} (h : At2 t w B a b) (j : Nat) : w.frozen? ⟨B, j, none⟩ = false := by
  unfold At2 at h; simp [World.frozen?, h]

theorem below_two {w w2 : World} {B : Nat} (h : Below w.heap.size w w2) (hB : w.heap.size ≤ B) (c0 c1 : Value) : Below w.heap.size w (set2 w2 B c0 c1) :=
  ⟨h.os, h.tape, h.output, by unfold set2; rw [setCell_size, setCell_size]; exact h.size, fun k hk => (set2_block _ _ _ _ k (by omega)).trans (h.block k hk)⟩

set_option maxRecDepth 100000 in
set_option maxHeartbeats 4000000 in
theorem layerOf_c (T : Val) (v : Value) (w : World) (hv : IsVal w v T) :
    Calls Tryz.prog 104 #[v] w fun e w' => e = .returned (.agg #[.string (layerOfV T).1, .int .i64 (layerOfV T).2]) ∧ Below w.heap.size w w' ∧ (layerOfV T).1.size ≤ maxLen ∧ -9223372036854775808 ≤ (layerOfV T).2 ∧ (layerOfV T).2 ≤ 9223372036854775807 := by
  obtain ⟨vk, vn, vs, via, vna, vli, vic, vnn, vnc, rfl⟩ := hv.shape
  obtain ⟨W, hW⟩ : ∃ W, (w.alloc (.cells #[.int .i64 vk, .int .i64 vn, .string vs, .slice via vli vic, .slice vna vnn vnc] 71)).alloc (.cells #[.string ⟨#[]⟩, .int .i64 0] 76) = W := ⟨_, rfl⟩
  have hs1 : ∀ o, (w.alloc o).heap.size = w.heap.size + 1 := fun o => by simp
  have hb0 : Below w.heap.size w W := by rw [← hW]; exact Below.then (below_new _ _) (below_new _ _)
  have hV : At5 W w.heap.size (.int .i64 vk) (.int .i64 vn) (.string vs) (.slice via vli vic) (.slice vna vnn vnc) := by rw [← hW]; exact (At5.new _ _ _ _ _ _).keep (below_new _ _)
  have hZ : At2 76 W (w.heap.size + 1) (.string ⟨#[]⟩) (.int .i64 0) := by
    rw [← hW]
    have e := At2.new 76 (w.alloc (.cells #[.int .i64 vk, .int .i64 vn, .string vs, .slice via vli vic, .slice vna vnn vnc] 71)) (.string ⟨#[]⟩) (.int .i64 0)
    rwa [hs1] at e
  have HK := Lib.hid (show ∀ w4, Below W.heap.size W w4 → w4.cell? ⟨w.heap.size, 0, none⟩ = some (.int .i64 vk) ∧ w4.cell? ⟨w.heap.size, 1, none⟩ = some (.int .i64 vn) ∧ w4.cell? ⟨w.heap.size, 2, none⟩ = some (.string vs) ∧ w4.cell? ⟨w.heap.size, 3, none⟩ = some (.slice via vli vic) ∧ w4.cell? ⟨w.heap.size, 4, none⟩ = some (.slice vna vnn vnc) from fun w4 h => (hV.keep h).cells)
  have HZK := Lib.hid (show ∀ w4, Below W.heap.size W w4 → (w4.cell? ⟨w.heap.size + 1, 0, none⟩ = some (.string ⟨#[]⟩) ∧ w4.cell? ⟨w.heap.size + 1, 1, none⟩ = some (.int .i64 0)) ∧ w4.frozen? ⟨w.heap.size + 1, 0, none⟩ = false ∧ w4.frozen? ⟨w.heap.size + 1, 1, none⟩ = false from fun w4 h => ⟨(hZ.keep h).cells, (hZ.keep h).frozen 0, (hZ.keep h).frozen 1⟩)
  obtain ⟨x, hx⟩ : ∃ x, wordOfV T nDigest = x := ⟨_, rfl⟩
  obtain ⟨n, hn⟩ : ∃ n, wholeOfV T nSize = n := ⟨_, rfl⟩
  have CW := Lib.hid (show ∀ w3, Below W.heap.size W w3 → Calls Tryz.prog 100 #[.agg #[.int .i64 vk, .int .i64 vn, .string vs, .slice via vli vic, .slice vna vnn vnc], .string nDigest] w3 fun e w4 => e = .returned (.string x) ∧ Below W.heap.size W w4 ∧ x.size ≤ maxLen ∧ w4.cell? ⟨w.heap.size, 0, none⟩ = some (.int .i64 vk) ∧ w4.cell? ⟨w.heap.size, 1, none⟩ = some (.int .i64 vn) ∧ w4.cell? ⟨w.heap.size, 2, none⟩ = some (.string vs) ∧ w4.cell? ⟨w.heap.size, 3, none⟩ = some (.slice via vli vic) ∧ w4.cell? ⟨w.heap.size, 4, none⟩ = some (.slice vna vnn vnc) from
    fun w3 h => (wordOf_c T _ nDigest w3 (hv.keep (Below.then hb0 h))).mono fun e w4 h4 => ⟨by rw [h4.1, hx], Below.then h h4.2.1, by rw [← hx]; exact h4.2.2, HK.out w4 (Below.then h h4.2.1)⟩)
  have CH := Lib.hid (show ∀ w3, Below W.heap.size W w3 → Calls Tryz.prog 105 #[.agg #[.int .i64 vk, .int .i64 vn, .string vs, .slice via vli vic, .slice vna vnn vnc], .string nSize] w3 fun e w4 => e = .returned (.int .i64 n) ∧ Below W.heap.size W w4 ∧ (-9223372036854775808 ≤ n ∧ n ≤ 9223372036854775807) ∧ ((w4.cell? ⟨w.heap.size + 1, 0, none⟩ = some (.string ⟨#[]⟩) ∧ w4.cell? ⟨w.heap.size + 1, 1, none⟩ = some (.int .i64 0)) ∧ w4.frozen? ⟨w.heap.size + 1, 0, none⟩ = false ∧ w4.frozen? ⟨w.heap.size + 1, 1, none⟩ = false) from
    fun w3 h => (wholeOf_c T _ nSize w3 (hv.keep (Below.then hb0 h))).mono fun e w4 h4 => ⟨by rw [h4.1, hn], Below.then h h4.2.1, by rw [← hn]; exact h4.2.2, HZK.out w4 (Below.then h h4.2.1)⟩)
  have HO := Lib.hid (show layerOfV T = (x, n) by unfold layerOfV; rw [hx, hn])
  obtain ⟨p0, p1, p2, p3, p4⟩ := hV.cells
  have HW := Lib.hid hW
  have HB0 := Lib.hid hb0
  have HZ := Lib.hid hZ
  have hbr := Below.refl W.heap.size W
  clear hW hb0 hV hZ hs1 hv hx hn
  unfold nDigest nSize at *
  go_enter Tryz.func104, Tryz.ntmps104
  go_upto_region 1 with fail
  rw [HW.out]
  go_region_law
    (first
      | (go_simp; go_at_call 100; refine (CW.out _ (by first | exact hbr | exact hbr.drew)).mono ?_; rintro e wW ⟨rfl, hbr, hxz, ⟨p0, p1, p2, p3, p4⟩⟩)
      | (go_simp; go_at_call 105; refine (CH.out _ (by first | exact hbr | exact hbr.drew)).mono ?_; rintro e wH ⟨rfl, hbr, hnz, ⟨⟨z0, z1⟩, f0, f1⟩⟩))
  all_goals
    have HKZ := Lib.hid (HZ.out.keep hbr)
    have HBR := Lib.hid hbr
    have HXZ := Lib.hid hxz
    have HNZ := Lib.hid hnz
    clear hxz hnz
    go_wp2_with fail
    refine bodyPost_ret (results_cell_row (p := 2) rfl _ _ (w.heap.size + 1) 76 _ (0, 0) _ rfl (set2_two HKZ.out _ _) Tryz.underlying76 rfl layerSize) rfl ?_
    rw [HO.out]
    exact ⟨rfl, below_two (Below.then HB0.out HBR.out) (Nat.le_succ _) _ _, HXZ.out, HNZ.out⟩
end Go.Proofs.YtepcaglekgeamaaGreatDoor
namespace Go.Proofs.YtepcaglekgeamaaGreatDoor
open Go.RowKit

set_option maxRecDepth 100000 in
set_option maxHeartbeats 4000000 in
theorem eachKid_c (iv : Value) (items : List Val) (ev : Nat → Value) (w : World) (h : Fives w iv items.length ev) (hs : ∀ (i : Nat) (h : i < items.length), IsVal w (ev i) items[i]) (hn : items.length ≤ 1048576) :
    Calls Tryz.prog 124 #[iv, .func (.func 102) #[] #[]] w fun e w' => ∃ g, e = .returned (.slice (some ⟨g, 0, none⟩) items.length items.length) ∧ w.heap.size ≤ g ∧ StrsAt w' (.slice (some ⟨g, 0, none⟩) items.length items.length) (items.map Val.word) ∧ Below w.heap.size w w' := by
  obtain ⟨i0, hi, hz0, hz1, hz2⟩ := strZero
  obtain ⟨n, hnl⟩ : ∃ n, items.length = n := ⟨_, rfl⟩
  obtain ⟨a, cap, rfl, -, -⟩ := h.shape
  rw [hnl] at h hn ⊢
  have HNL := Lib.hid hnl
  have HML := Lib.hid (show (items.map Val.word).length = n by rw [List.length_map, hnl])
  clear hnl
  have HW := Lib.hid (fun T v w hv => kidOf_c T v w hv)
  have HMADE := Lib.hid (show ∀ w2 : World, w2.ownsRow w.heap.size 9 1 (.slice (some ⟨w.heap.size, 0, none⟩) n n) n (madeCells #[.string ⟨#[]⟩] n).toList → w.grownBy w2 none → w2.rowIs w.heap.size 9 n (strF []) ∧ Below w.heap.size w w2 from fun w2 hown hgrow =>
    ⟨str_made (by rw [Nat.mul_one]; exact hown), ⟨hgrow.os, hgrow.tape, hgrow.output, hgrow.size, fun k hk => hgrow.block k hk (by simp)⟩⟩)
  have HF := Lib.hid h
  have HS := Lib.hid hs
  clear h hs
  go_enter Tryz.func124, Tryz.ntmps124
  go_wp2_with (at_make; refine wpList_make_full w rfl _ _ 27 rfl w.heap.size 9 i0 _ 1 Tryz.underlying27 hi hz0 hz1 .i64 .i64 (n : Int) (n : Int) n rfl rfl rfl rfl ?c1 ?c2 ?c3 ?_)
  case c1 => rw [hz2]; omega
  case c2 => unfold maxLen; omega
  case c3 => exact Nat.le_refl _
  intro w2 hown hgrow
  have HM := Lib.hid (HMADE.out w2 hown hgrow)
  clear hown hgrow
  rcases HF.out with ⟨h0, -⟩ | ⟨pb, po, pc, he, hpos, -, -, hcs⟩
  · subst h0
    have HR := Lib.hid (show StrsAt w2 (.slice (some ⟨w.heap.size, 0, none⟩) 0 0) (items.map Val.word) from Or.inl ⟨List.length_eq_zero_iff.1 HML.out, Or.inr ⟨_, _, rfl, by decide⟩⟩)
    go_wp2_with fail
    refine wp_loop_rounds 1 ?_
    rw [rounds_succ]
    go_wp2_with fail
    go_ret
    exact ⟨_, rfl, Nat.le_refl _, HR.out, HM.out.2⟩
  · simp only [Value.slice.injEq] at he
    obtain ⟨rfl, -, rfl⟩ := he
    have HCS := Lib.hid hcs
    clear hcs
    obtain ⟨G, hG⟩ : ∃ G, w.heap.size = G := ⟨_, rfl⟩
    rw [hG] at HM ⊢
    have HG := Lib.hid hG
    clear hG
    go_wp2_with fail
    go_loopw [13] (fun iv wr => ∃ k : Nat, k ≤ n ∧ iv = .int .i64 k ∧ wr.rowIs G 9 n (strF ((items.take k).map Val.word)) ∧ Below G w wr) (fun i _ => n - (intOf i).toNat)
    case atStart => exact ⟨0, Nat.zero_le _, rfl, HM.out.1, HM.out.2⟩
    case round =>
      obtain ⟨k, hk, rfl, hrow, hb⟩ := hrel
      have HR := Lib.hid hrow
      have HB := Lib.hid hb
      clear hrow hb
      by_cases hlt : k < n
      · have hkl : k < items.length := by rw [HNL.out]; exact hlt
        obtain ⟨c0, c1, c2, c3, c4, hev, e0, e1, e2, e3, e4⟩ := HCS.out k hlt
        have hs1 := HS.out k hkl
        rw [hev] at hs1
        have hts := Lib.hid (List.take_succ_eq_append_getElem hkl)
        obtain ⟨X, hX⟩ : ∃ X, items[k]'hkl = X := ⟨_, rfl⟩
        rw [hX] at hs1 hts
        obtain ⟨xk, xn, xs, xia, xna, xli, xic, xnn, xnc, hsh⟩ := hs1.shape
        simp only [Value.agg.injEq, Array.mk.injEq, List.cons.injEq, and_true] at hsh
        obtain ⟨rfl, rfl, rfl, rfl, rfl⟩ := hsh
        have kc : ∀ {p : Addr} {v : Value}, w.cell? p = some v → wr.cell? p = some v := fun h => (HB.out.cell (by rw [← HG.out]; exact World.block_lt_of_cell? _ _ h)).trans h
        have v0 := kc e0
        have v1 := kc e1
        have v2 := kc e2
        have v3 := kc e3
        have v4 := kc e4
        obtain ⟨W1, hW1⟩ : ∃ W1, wr.alloc (.cells #[.int .i64 xk, .int .i64 xn, .string xs, .slice xia xli xic, .slice xna xnn xnc] 71) = W1 := ⟨_, rfl⟩
        have hb1 : Below wr.heap.size wr W1 := by rw [← hW1]; exact below_new _ _
        have hbw : Below w.heap.size w W1 := by have := HB.out.trans (hb1.mono (by rw [← HG.out]; exact HB.out.size)); rwa [← HG.out] at this
        have hA : At5 W1 wr.heap.size (.int .i64 xk) (.int .i64 xn) (.string xs) (.slice xia xli xic) (.slice xna xnn xnc) := by rw [← hW1]; exact At5.new _ _ _ _ _ _
        obtain ⟨a0, a1, a2, a3, a4⟩ := hA.cells
        have C := Lib.hid (HW.out X _ W1 (hs1.keep hbw))
        obtain ⟨x, hx⟩ : ∃ x, X.word = x := ⟨_, rfl⟩
        rw [hx] at C
        have HX := Lib.hid hx
        have HB1 := Lib.hid hb1
        have HW1 := Lib.hid hW1
        clear e0 e1 e2 e3 e4 kc hX hb1 hbw hA hW1 hs1 hev hx
        go_upto_region 5 with fail
        rw [HW1.out]
        go_wp2_with fail
        refine C.out.mono ?_
        rintro e w3 ⟨rfl, hb3⟩
        have hb3 : Below wr.heap.size wr w3 := Below.then HB1.out hb3
        have hrow3 := HR.out.of_block (hb3.block G HR.out.lt)
        have HB3 := Lib.hid (HB.out.trans (hb3.mono (by rw [← HG.out]; exact HB.out.size)))
        have y0 := hrow3.cell (i := k) hlt
        have f0 := hrow3.frozen k
        have HN := Lib.hid (show (w3.setCell ⟨G, k, none⟩ (.string x)).rowIs G 9 n (strF ((items.take (k + 1)).map Val.word)) by
          rw [hts.out, List.map_append]
          rw [show [X].map Val.word = [x] by rw [← HX.out]; rfl]
          exact (hrow3.set k (.string x)).congr fun t _ => strF_push _ k (by rw [List.length_map, List.length_take]; omega) x t)
        have HBN := Lib.hid (show Below G w (w3.setCell ⟨G, k, none⟩ (.string x)) from
          ⟨HB3.out.os, HB3.out.tape, HB3.out.output, by rw [setCell_size]; exact HB3.out.size, fun j hj => (Below.heap_setCell _ _ _ _ (by show j ≠ G; omega)).trans (HB3.out.block j hj)⟩)
        clear hb3 hrow3
        go_wp2_with fail
        go_roundw
        case rel => exact ⟨k + 1, by omega, by go_num, HN.out, HBN.out⟩
        case measure => simp [intOf]; omega
      · have HR2 := Lib.hid (show StrsAt wr (.slice (some ⟨G, 0, none⟩) n n) (items.map Val.word) by
          have := HR.out
          rw [List.take_of_length_le (by rw [HNL.out]; omega)] at this
          exact str_strs this HML.out (by unfold maxLen; omega))
        go_wp2_with fail
        go_ret
        exact ⟨_, rfl, by rw [HG.out]; exact Nat.le_refl _, HR2.out, by rw [HG.out]; exact HB.out⟩

set_option maxRecDepth 100000 in
set_option maxHeartbeats 4000000 in
theorem eachLayerOf_c (iv : Value) (items : List Val) (ev : Nat → Value) (w : World) (h : Fives w iv items.length ev) (hs : ∀ (i : Nat) (h : i < items.length), IsVal w (ev i) items[i]) (hn : items.length ≤ 1048576) :
    Calls Tryz.prog 125 #[iv, .func (.func 104) #[] #[]] w fun e w' => ∃ g, e = .returned (.slice (some ⟨g, 0, none⟩) items.length items.length) ∧ w.heap.size ≤ g ∧ PairsAt w' (.slice (some ⟨g, 0, none⟩) items.length items.length) ((items.map layerOfV).map layerCell) ∧ Below w.heap.size w w' ∧ ∀ l ∈ items.map layerOfV, l.1.size ≤ maxLen ∧ -9223372036854775808 ≤ l.2 ∧ l.2 ≤ 9223372036854775807 := by
  obtain ⟨i0, hi, hz0, hz1, hz2⟩ := info_parts layerInfo
  obtain ⟨n, hnl⟩ : ∃ n, items.length = n := ⟨_, rfl⟩
  obtain ⟨a, cap, rfl, -, -⟩ := h.shape
  rw [hnl] at h hn ⊢
  have HNL := Lib.hid hnl
  have HML := Lib.hid (show (items.map layerOfV).length = n by rw [List.length_map, hnl])
  clear hnl
  have HW := Lib.hid (fun T v w hv => layerOf_c T v w hv)
  have HMADE := Lib.hid (show ∀ w2 : World, w2.ownsRow w.heap.size 76 2 (.slice (some ⟨w.heap.size, 0, none⟩) n n) n (madeCells (Value.cells (.agg #[.string ⟨#[]⟩, .int .i64 0])) (n * 2)).toList → w.grownBy w2 none → w2.rowIs w.heap.size 76 (n * 2) (pairF []) ∧ Below w.heap.size w w2 from fun w2 hown hgrow =>
    ⟨pair_made hown, ⟨hgrow.os, hgrow.tape, hgrow.output, hgrow.size, fun k hk => hgrow.block k hk (by simp)⟩⟩)
  have HF := Lib.hid h
  have HS := Lib.hid hs
  clear h hs
  go_enter Tryz.func125, Tryz.ntmps125
  go_wp2_with (at_make; refine wpList_make_full w rfl _ _ 51 rfl w.heap.size 76 i0 _ 2 Tryz.underlying51 hi hz0 hz1 .i64 .i64 (n : Int) (n : Int) n rfl rfl rfl rfl ?c1 ?c2 ?c3 ?_)
  case c1 => rw [hz2]; omega
  case c2 => unfold maxLen; omega
  case c3 => exact Nat.le_refl _
  intro w2 hown hgrow
  have HM := Lib.hid (HMADE.out w2 hown hgrow)
  clear hown hgrow
  rcases HF.out with ⟨h0, -⟩ | ⟨pb, po, pc, he, hpos, -, -, hcs⟩
  · subst h0
    have hit : items = [] := List.length_eq_zero_iff.1 HNL.out
    have HR := Lib.hid (show PairsAt w2 (.slice (some ⟨w.heap.size, 0, none⟩) 0 0) ((items.map layerOfV).map layerCell) from Or.inl ⟨by rw [hit]; rfl, Or.inr ⟨_, _, rfl, by decide⟩⟩)
    have HE := Lib.hid (show ∀ l ∈ items.map layerOfV, l.1.size ≤ maxLen ∧ -9223372036854775808 ≤ l.2 ∧ l.2 ≤ 9223372036854775807 by rw [hit]; simp)
    clear hit
    go_wp2_with fail
    refine wp_loop_rounds 1 ?_
    rw [rounds_succ]
    go_wp2_with fail
    go_ret
    exact ⟨_, rfl, Nat.le_refl _, HR.out, HM.out.2, HE.out⟩
  · simp only [Value.slice.injEq] at he
    obtain ⟨rfl, -, rfl⟩ := he
    have HCS := Lib.hid hcs
    clear hcs
    obtain ⟨G, hG⟩ : ∃ G, w.heap.size = G := ⟨_, rfl⟩
    rw [hG] at HM ⊢
    have HG := Lib.hid hG
    clear hG
    go_wp2_with fail
    go_loopw [13] (fun iv wr => ∃ k : Nat, k ≤ n ∧ iv = .int .i64 k ∧ wr.rowIs G 76 (n * 2) (pairF ((items.take k).map layerOfV)) ∧ Below G w wr ∧ ∀ l ∈ (items.take k).map layerOfV, l.1.size ≤ maxLen ∧ -9223372036854775808 ≤ l.2 ∧ l.2 ≤ 9223372036854775807) (fun i _ => n - (intOf i).toNat)
    case atStart => exact ⟨0, Nat.zero_le _, rfl, HM.out.1, HM.out.2, by simp⟩
    case round =>
      obtain ⟨k, hk, rfl, hrow, hb, hzs⟩ := hrel
      have HR := Lib.hid hrow
      have HB := Lib.hid hb
      have HZS := Lib.hid hzs
      clear hrow hb hzs
      by_cases hlt : k < n
      · have hkl : k < items.length := by rw [HNL.out]; exact hlt
        obtain ⟨c0, c1, c2, c3, c4, hev, e0, e1, e2, e3, e4⟩ := HCS.out k hlt
        have hs1 := HS.out k hkl
        rw [hev] at hs1
        have hts := Lib.hid (List.take_succ_eq_append_getElem hkl)
        obtain ⟨X, hX⟩ : ∃ X, items[k]'hkl = X := ⟨_, rfl⟩
        rw [hX] at hs1 hts
        obtain ⟨xk, xn, xs, xia, xna, xli, xic, xnn, xnc, hsh⟩ := hs1.shape
        simp only [Value.agg.injEq, Array.mk.injEq, List.cons.injEq, and_true] at hsh
        obtain ⟨rfl, rfl, rfl, rfl, rfl⟩ := hsh
        have kc : ∀ {p : Addr} {v : Value}, w.cell? p = some v → wr.cell? p = some v := fun h => (HB.out.cell (by rw [← HG.out]; exact World.block_lt_of_cell? _ _ h)).trans h
        have v0 := kc e0
        have v1 := kc e1
        have v2 := kc e2
        have v3 := kc e3
        have v4 := kc e4
        obtain ⟨W1, hW1⟩ : ∃ W1, wr.alloc (.cells #[.int .i64 xk, .int .i64 xn, .string xs, .slice xia xli xic, .slice xna xnn xnc] 71) = W1 := ⟨_, rfl⟩
        have hb1 : Below wr.heap.size wr W1 := by rw [← hW1]; exact below_new _ _
        have hbw : Below w.heap.size w W1 := by have := HB.out.trans (hb1.mono (by rw [← HG.out]; exact HB.out.size)); rwa [← HG.out] at this
        have hA : At5 W1 wr.heap.size (.int .i64 xk) (.int .i64 xn) (.string xs) (.slice xia xli xic) (.slice xna xnn xnc) := by rw [← hW1]; exact At5.new _ _ _ _ _ _
        obtain ⟨a0, a1, a2, a3, a4⟩ := hA.cells
        have C := Lib.hid (HW.out X _ W1 (hs1.keep hbw))
        obtain ⟨⟨x, m⟩, hx⟩ : ∃ x, layerOfV X = x := ⟨_, rfl⟩
        rw [hx] at C
        have HX := Lib.hid hx
        have HB1 := Lib.hid hb1
        have HW1 := Lib.hid hW1
        clear e0 e1 e2 e3 e4 kc hX hb1 hbw hA hW1 hs1 hev hx
        go_upto_region 5 with fail
        rw [HW1.out]
        go_wp2_with fail
        refine C.out.mono ?_
        rintro e w3 ⟨rfl, hb3, hxz⟩
        have hb3 : Below wr.heap.size wr w3 := Below.then HB1.out hb3
        have hrow3 := HR.out.of_block (hb3.block G HR.out.lt)
        have HB3 := Lib.hid (HB.out.trans (hb3.mono (by rw [← HG.out]; exact HB.out.size)))
        have y0 := hrow3.cell (i := k * 2) (by omega)
        have y1 := hrow3.cell (i := k * 2 + 1) (by omega)
        have f0 := hrow3.frozen (k * 2)
        have f1 := hrow3.frozen (k * 2 + 1)
        have hmap : (items.take (k + 1)).map layerOfV = (items.take k).map layerOfV ++ [(x, m)] := by
          rw [hts.out, List.map_append, ← HX.out]; rfl
        have HN := Lib.hid (show ((w3.setCell ⟨G, k * 2, none⟩ (.string x)).setCell ⟨G, k * 2 + 1, none⟩ (.int .i64 m)).rowIs G 76 (n * 2) (pairF ((items.take (k + 1)).map layerOfV)) by
          rw [hmap]
          exact pair_set hrow3 (by rw [List.length_map, List.length_take]; omega) x m)
        have HBN := Lib.hid (show Below G w ((w3.setCell ⟨G, k * 2, none⟩ (.string x)).setCell ⟨G, k * 2 + 1, none⟩ (.int .i64 m)) from
          ⟨HB3.out.os, HB3.out.tape, HB3.out.output, by rw [setCell_size, setCell_size]; exact HB3.out.size, fun j hj => (Below.heap_setCell _ _ _ _ (by show j ≠ G; omega)).trans ((Below.heap_setCell _ _ _ _ (by show j ≠ G; omega)).trans (HB3.out.block j hj))⟩)
        have HZN := Lib.hid (show ∀ l ∈ (items.take (k + 1)).map layerOfV, l.1.size ≤ maxLen ∧ -9223372036854775808 ≤ l.2 ∧ l.2 ≤ 9223372036854775807 by
          rw [hmap]
          intro l hl
          rcases List.mem_append.1 hl with hl | hl
          · exact HZS.out l hl
          · rw [List.mem_singleton.1 hl]; exact hxz)
        clear hb3 hrow3 hmap hxz
        go_wp2_with fail
        go_roundw
        case rel => exact ⟨k + 1, by omega, by go_num, HN.out, HBN.out, HZN.out⟩
        case measure => simp [intOf]; omega
      · have htk : items.take k = items := List.take_of_length_le (by rw [HNL.out]; omega)
        have HR2 := Lib.hid (show PairsAt wr (.slice (some ⟨G, 0, none⟩) n n) ((items.map layerOfV).map layerCell) by
          have := HR.out
          rw [htk] at this
          exact pair_pairs this HML.out (by unfold maxLen; omega))
        have HZ2 := Lib.hid (show ∀ l ∈ items.map layerOfV, l.1.size ≤ maxLen ∧ -9223372036854775808 ≤ l.2 ∧ l.2 ≤ 9223372036854775807 by
          have := HZS.out
          rwa [htk] at this)
        clear htk
        go_wp2_with fail
        go_ret
        exact ⟨_, rfl, by rw [HG.out]; exact Nat.le_refl _, HR2.out, by rw [HG.out]; exact HB.out, HZ2.out⟩
end Go.Proofs.YtepcaglekgeamaaGreatDoor
namespace Go.Proofs.YtepcaglekgeamaaGreatDoor
open Go.RowKit

def set4 (w : World) (g : Nat) (c0 c1 c2 c3 : Value) : World := (((w.setCell ⟨g, 0, none⟩ c0).setCell ⟨g, 1, none⟩ c1).setCell ⟨g, 2, none⟩ c2).setCell ⟨g, 3, none⟩ c3

theorem set4_block (w : World) (g : Nat) (c0 c1 c2 c3 : Value) (k : Nat) (h : k ≠ g) : (set4 w g c0 c1 c2 c3).heap[k]? = w.heap[k]? := by
  unfold set4
  rw [Below.heap_setCell _ _ _ _ h, Below.heap_setCell _ _ _ _ h, Below.heap_setCell _ _ _ _ h, Below.heap_setCell _ _ _ _ h]

theorem set4_size (w : World) (g : Nat) (c0 c1 c2 c3 : Value) : (set4 w g c0 c1 c2 c3).heap.size = w.heap.size := by unfold set4; rw [setCell_size, setCell_size, setCell_size, setCell_size]

theorem set4_four {w : World} {Z : Nat} {a b c d : Value} (h : At4 w Z a b c d) (c0 c1 c2 c3 : Value) : At4 (set4 w Z c0 c1 c2 c3) Z c0 c1 c2 c3 := by
  have st : ∀ {w : World} {cs : Array Value} {j : Nat} {u : Value}, w.heap[Z]? = some (.cells cs 53 (0, 0)) → (w.setCell ⟨Z, j, none⟩ u).heap[Z]? = some (.cells (cs.setIfInBounds j u) 53 (0, 0)) := by
    intro w cs j u h
    show (w.heap.modify Z _)[Z]? = _
    rw [Array.getElem?_modify, if_pos rfl, h]
    rfl
  exact st (st (st (st h)))

theorem below_four {w w2 : World} {B : Nat} (h : Below w.heap.size w w2) (hB : w.heap.size ≤ B) (c0 c1 c2 c3 : Value) : Below w.heap.size w (set4 w2 B c0 c1 c2 c3) :=
  ⟨h.os, h.tape, h.output, by unfold set4; rw [setCell_size, setCell_size, setCell_size, setCell_size]; exact h.size, fun k hk => (set4_block _ _ _ _ _ _ k (by omega)).trans (h.block k hk)⟩

theorem manSize : (Tryz.prog.info? 53).map (·.size) = some 4 := by kernel_rfl

theorem StrsAt.far {w w' : World} {v : Value} {ss : List ByteArray} (h : StrsAt w v ss) (hb : ∀ b o k c, v = .slice (some ⟨b, o, none⟩) k c → 0 < ss.length → w'.heap[b]? = w.heap[b]?) : StrsAt w' v ss := by
  rcases h with h | ⟨b, o, cap, rfl, h2, h3, h4, h5⟩
  · exact Or.inl h
  · refine Or.inr ⟨b, o, cap, rfl, h2, h3, h4, fun i hi => ?_⟩
    have := h5 i hi
    unfold World.cell? at this ⊢
    rw [hb b o _ _ rfl h2]
    exact this

theorem PairsAt.far {w w' : World} {v : Value} {l : List (Value × Value)} (h : PairsAt w v l) (hb : ∀ b o k c, v = .slice (some ⟨b, o, none⟩) k c → 0 < l.length → w'.heap[b]? = w.heap[b]?) : PairsAt w' v l := by
  rcases h with h | ⟨b, o, cap, rfl, h2, h3, h4, h5⟩
  · exact Or.inl h
  · have e := hb b o _ _ rfl h2
    refine Or.inr ⟨b, o, cap, rfl, h2, h3, h4, fun i hi => ?_⟩
    have := h5 i hi
    unfold World.cell? at this ⊢
    rw [e]
    exact this

theorem PairsAt.lt {w : World} {l : List (Value × Value)} {b o k c : Nat} (h : PairsAt w (.slice (some ⟨b, o, none⟩) k c) l) (h0 : 0 < l.length) : b < w.heap.size := by
  rcases h with ⟨h1, -⟩ | ⟨b', o', cap, e, -, -, -, h5⟩
  · rw [h1] at h0; simp at h0
  · simp only [Value.slice.injEq, Option.some.injEq, Addr.mk.injEq] at e
    obtain ⟨⟨rfl, rfl, -⟩, -, -⟩ := e
    exact World.block_lt_of_cell? _ _ (h5 0 h0).1

set_option maxRecDepth 100000 in
set_option maxHeartbeats 2000000 in
theorem thingsKid_c (T : Val) (v : Value) (name : ByteArray) (w : World) (hv : IsVal w v T) (hn : (rowOfV T name).length ≤ 1048576) :
    Calls Tryz.prog 101 #[v, .string name, .func (.func 102) #[] #[]] w fun e w' => ∃ g l, e = .returned (.slice (some ⟨g, 0, none⟩) l l) ∧ w.heap.size ≤ g ∧ StrsAt w' (.slice (some ⟨g, 0, none⟩) l l) ((rowOfV T name).map Val.word) ∧ Below w.heap.size w w' := by
  obtain ⟨vk, vn, vs, via, vna, vli, vic, vnn, vnc, rfl⟩ := hv.shape
  obtain ⟨W0, hW0⟩ : ∃ W0, w.alloc (.cells #[.int .i64 vk, .int .i64 vn, .string vs, .slice via vli vic, .slice vna vnn vnc] 71) = W0 := ⟨_, rfl⟩
  have hb0 : Below w.heap.size w W0 := by rw [← hW0]; exact below_new _ _
  have hV : At5 W0 w.heap.size (.int .i64 vk) (.int .i64 vn) (.string vs) (.slice via vli vic) (.slice vna vnn vnc) := by rw [← hW0]; exact At5.new _ _ _ _ _ _
  have M := Lib.hid (member_c T _ name 3 W0 (hv.keep hb0))
  unfold rowOfV at hn ⊢
  obtain ⟨X, hX⟩ : ∃ X, memberV T name 3 = X := ⟨_, rfl⟩
  rw [hX] at M hn ⊢
  have HB0 := Lib.hid hb0
  have HW0 := Lib.hid hW0
  have HN := Lib.hid hn
  obtain ⟨a0, a1, a2, a3, a4⟩ := hV.cells
  clear hb0 hV hW0 hv hX hn
  go_enter Tryz.func101, Tryz.ntmps101
  go_upto_region 1 with fail
  rw [HW0.out]
  go_wp2_with fail
  refine M.out.mono ?_
  rintro e w1 ⟨x, rfl, hx, hb⟩
  have hx := hx.isVal
  cases hx with
  | mk kind n s iv nv items names ev hk hn hs hN hz hI hsub =>
  obtain ⟨na, nc, rfl, -⟩ := hN.shape
  have E := Lib.hid (eachKid_c iv items ev w1 hI hsub HN.out)
  obtain ⟨ia, ic, rfl, -, -⟩ := hI.shape
  have hfd := fun w => field_items kind n s ia na items.length ic names.length nc w
  have HB := Lib.hid (Below.then HB0.out hb)
  clear hb hk hn hs hN hz hI hsub
  go_wp2_with fail
  refine E.out.mono ?_
  rintro e w2 ⟨g, rfl, hg, hr, hb2⟩
  have HR := Lib.hid hr
  have HG := Lib.hid (Nat.le_trans HB.out.size hg)
  have HB2 := Lib.hid (Below.then HB.out hb2)
  clear hr hb2 hg
  go_wp2_with fail
  go_ret
  exact ⟨_, _, rfl, HG.out, HR.out, HB2.out⟩

set_option maxRecDepth 100000 in
set_option maxHeartbeats 2000000 in
theorem thingsLayer_c (T : Val) (v : Value) (name : ByteArray) (w : World) (hv : IsVal w v T) (hn : (rowOfV T name).length ≤ 1048576) :
    Calls Tryz.prog 103 #[v, .string name, .func (.func 104) #[] #[]] w fun e w' => ∃ g l, e = .returned (.slice (some ⟨g, 0, none⟩) l l) ∧ w.heap.size ≤ g ∧ PairsAt w' (.slice (some ⟨g, 0, none⟩) l l) (((rowOfV T name).map layerOfV).map layerCell) ∧ Below w.heap.size w w' ∧ ∀ l ∈ (rowOfV T name).map layerOfV, l.1.size ≤ maxLen ∧ -9223372036854775808 ≤ l.2 ∧ l.2 ≤ 9223372036854775807 := by
  obtain ⟨vk, vn, vs, via, vna, vli, vic, vnn, vnc, rfl⟩ := hv.shape
  obtain ⟨W0, hW0⟩ : ∃ W0, w.alloc (.cells #[.int .i64 vk, .int .i64 vn, .string vs, .slice via vli vic, .slice vna vnn vnc] 71) = W0 := ⟨_, rfl⟩
  have hb0 : Below w.heap.size w W0 := by rw [← hW0]; exact below_new _ _
  have hV : At5 W0 w.heap.size (.int .i64 vk) (.int .i64 vn) (.string vs) (.slice via vli vic) (.slice vna vnn vnc) := by rw [← hW0]; exact At5.new _ _ _ _ _ _
  have M := Lib.hid (member_c T _ name 3 W0 (hv.keep hb0))
  unfold rowOfV at hn ⊢
  obtain ⟨X, hX⟩ : ∃ X, memberV T name 3 = X := ⟨_, rfl⟩
  rw [hX] at M hn ⊢
  have HB0 := Lib.hid hb0
  have HW0 := Lib.hid hW0
  have HN := Lib.hid hn
  obtain ⟨a0, a1, a2, a3, a4⟩ := hV.cells
  clear hb0 hV hW0 hv hX hn
  go_enter Tryz.func103, Tryz.ntmps103
  go_upto_region 1 with fail
  rw [HW0.out]
  go_wp2_with fail
  refine M.out.mono ?_
  rintro e w1 ⟨x, rfl, hx, hb⟩
  have hx := hx.isVal
  cases hx with
  | mk kind n s iv nv items names ev hk hn hs hN hz hI hsub =>
  obtain ⟨na, nc, rfl, -⟩ := hN.shape
  have E := Lib.hid (eachLayerOf_c iv items ev w1 hI hsub HN.out)
  obtain ⟨ia, ic, rfl, -, -⟩ := hI.shape
  have hfd := fun w => field_items kind n s ia na items.length ic names.length nc w
  have HB := Lib.hid (Below.then HB0.out hb)
  clear hb hk hn hs hN hz hI hsub
  go_wp2_with fail
  refine E.out.mono ?_
  rintro e w2 ⟨g, rfl, hg, hr, hb2, hz2⟩
  have HR := Lib.hid hr
  have HG := Lib.hid (Nat.le_trans HB.out.size hg)
  have HB2 := Lib.hid (Below.then HB.out hb2)
  have HZ2 := Lib.hid hz2
  clear hr hb2 hz2 hg
  go_wp2_with fail
  go_ret
  exact ⟨_, _, rfl, HG.out, HR.out, HB2.out, HZ2.out⟩

structure ManMade (w : World) (m : Man) (r : Value) (w' : World) : Prop where
  below : Below w.heap.size w w'
  far : ∀ w'', (∀ b, w.heap.size ≤ b → b < w'.heap.size → w''.heap[b]? = w'.heap[b]?) → ManAt w'' r m

theorem ManMade.man {w w' : World} {m : Man} {r : Value} (h : ManMade w m r w') : ManAt w' r m := h.far w' fun _ _ _ => rfl

set_option maxRecDepth 100000 in
set_option maxHeartbeats 4000000 in
/-- The manifest that a value tells. -/
theorem read_c (T : Val) (v : Value) (w : World) (hv : IsVal w v T) (h1 : (rowOfV T nKids).length ≤ 1048576) (h2 : (rowOfV T nLayers).length ≤ 1048576) (hz : ∀ X ∈ rowOfV T nKids, X.word.size ≤ maxLen) :
    Calls Tryz.prog 77 #[v] w fun e w' => ∃ r, e = .returned r ∧ ManMade w (readM T) r w' := by
  obtain ⟨vk, vn, vs, via, vna, vli, vic, vnn, vnc, rfl⟩ := hv.shape
  obtain ⟨W, hW⟩ : ∃ W, (w.alloc (.cells #[.int .i64 vk, .int .i64 vn, .string vs, .slice via vli vic, .slice vna vnn vnc] 71)).alloc (.cells #[.bool false, .string ⟨#[]⟩, .slice none 0 0, .slice none 0 0] 53) = W := ⟨_, rfl⟩
  have hs1 : ∀ o, (w.alloc o).heap.size = w.heap.size + 1 := fun o => by simp
  have hb0 : Below w.heap.size w W := by rw [← hW]; exact Below.then (below_new _ _) (below_new _ _)
  have hV : At5 W w.heap.size (.int .i64 vk) (.int .i64 vn) (.string vs) (.slice via vli vic) (.slice vna vnn vnc) := by rw [← hW]; exact (At5.new _ _ _ _ _ _).keep (below_new _ _)
  have hZ : At4 W (w.heap.size + 1) (.bool false) (.string ⟨#[]⟩) (.slice none 0 0) (.slice none 0 0) := by
    rw [← hW]
    have e := At4.new (w.alloc (.cells #[.int .i64 vk, .int .i64 vn, .string vs, .slice via vli vic, .slice vna vnn vnc] 71)) (.bool false) (.string ⟨#[]⟩) (.slice none 0 0) (.slice none 0 0)
    rwa [hs1] at e
  have hsz : W.heap.size = w.heap.size + 2 := by rw [← hW]; simp
  have HKV := Lib.hid (show ∀ w3, Below W.heap.size W w3 → IsVal w3 (.agg #[.int .i64 vk, .int .i64 vn, .string vs, .slice via vli vic, .slice vna vnn vnc]) T from fun w3 h => hv.keep (Below.then hb0 h))
  have K := Lib.hid (wordOf_c T _ nKind W (hv.keep hb0))
  have HWK := Lib.hid (fun w3 (h : Below W.heap.size W w3) => wordOf_c T _ nConfig w3 (HKV.out w3 h))
  have HTK := Lib.hid (fun w3 (h : Below W.heap.size W w3) => thingsKid_c T _ nKids w3 (HKV.out w3 h) h1)
  have HTL := Lib.hid (fun w3 (h : Below W.heap.size W w3) => thingsLayer_c T _ nLayers w3 (HKV.out w3 h) h2)
  obtain ⟨a0, a1, a2, a3, a4⟩ := hV.cells
  have HV := Lib.hid hV
  have HZ := Lib.hid hZ
  have HB0 := Lib.hid hb0
  have HSZ := Lib.hid hsz
  have HW := Lib.hid hW
  have HKZ := Lib.hid hz
  obtain ⟨x, hx⟩ : ∃ x, wordOfV T nKind = x := ⟨_, rfl⟩
  rw [hx] at K
  have HR := Lib.hid (show readM T = if x = kIndex then ⟨true, ⟨#[]⟩, [], (rowOfV T nKids).map Val.word⟩ else ⟨false, wordOfV T nConfig, (rowOfV T nLayers).map layerOfV, []⟩ by unfold readM; rw [hx])
  clear hb0 hV hZ hsz hW hs1 hv h1 h2 hx hz
  go_enter Tryz.func77, Tryz.ntmps77
  go_upto_region 1 with fail
  rw [HW.out]
  go_wp2_with fail
  refine K.out.mono ?_
  rintro e w1 ⟨rfl, hb1, -⟩
  have HB1 := Lib.hid hb1
  obtain ⟨b0, b1, b2, b3, b4⟩ := (HV.out.keep hb1).cells
  clear hb1 a0 a1 a2 a3 a4
  by_cases hxi : x = kIndex
  · have q : (x.toList == [105, 110, 100, 101, 120]) = true := by rw [hxi, beq_iff_eq, Lib.toList_data]; rfl
    have HO := Lib.hid (show readM T = ⟨true, ⟨#[]⟩, [], (rowOfV T nKids).map Val.word⟩ by rw [HR.out, if_pos hxi])
    clear hxi HR
    go_wp2_with fail
    refine (HTK.out _ HB1.out).mono ?_
    rintro e w2 ⟨g, l, rfl, hg, hr, hb2⟩
    have hbb := Below.then HB1.out hb2
    have HB2 := Lib.hid hbb
    have hZ2 := HZ.out.keep hbb
    have HZ2 := Lib.hid hZ2
    obtain ⟨z0, z1, z2, z3⟩ := hZ2.cells
    have f0 := hZ2.frozen 0
    have f1 := hZ2.frozen 1
    have f2 := hZ2.frozen 2
    have f3 := hZ2.frozen 3
    have hw1 := HB1.out.size
    have hws := HSZ.out
    have HF := Lib.hid (show ∀ w'', (∀ b, w.heap.size ≤ b → b < (set4 w2 (w.heap.size + 1) (.bool true) (.string ⟨#[]⟩) (.slice none 0 0) (.slice (some ⟨g, 0, none⟩) l l)).heap.size → w''.heap[b]? = (set4 w2 (w.heap.size + 1) (.bool true) (.string ⟨#[]⟩) (.slice none 0 0) (.slice (some ⟨g, 0, none⟩) l l)).heap[b]?) → ManAt w'' (.agg #[.bool true, .string ⟨#[]⟩, .slice none 0 0, .slice (some ⟨g, 0, none⟩) l l]) (readM T) by
      intro w'' hfar
      rw [HO.out]
      refine ⟨⟨_, _, rfl, Or.inl ⟨rfl, Or.inl rfl⟩, hr.far fun b o k c e h0 => ?_⟩, (show (0 : Nat) ≤ maxLen by decide), by simp, fun k hk => ?_⟩
      · simp only [Value.slice.injEq, Option.some.injEq, Addr.mk.injEq] at e
        obtain ⟨⟨rfl, -⟩, -⟩ := e
        have hlt := hr.lt h0
        exact (hfar g (by omega) (by rw [set4_size]; exact hlt)).trans (set4_block _ _ _ _ _ _ g (by omega))
      · obtain ⟨X, hX, rfl⟩ := List.mem_map.1 hk
        exact HKZ.out X hX)
    clear hr hb2 hbb hZ2 hg hws
    go_wp2_with fail
    refine bodyPost_ret (results_cell_row (p := 2) rfl _ _ (w.heap.size + 1) 53 _ (0, 0) _ rfl (set4_four HZ2.out _ _ _ _) Tryz.underlying53 rfl manSize) rfl ?_
    exact ⟨_, rfl, below_four (Below.then HB0.out HB2.out) (Nat.le_succ _) _ _ _ _, HF.out⟩
  · have q : (x.toList == [105, 110, 100, 101, 120]) = false := by
      cases hq : (x.toList == [105, 110, 100, 101, 120]) with
      | false => rfl
      | true =>
        rw [beq_iff_eq, Lib.toList_data] at hq
        exact absurd (ByteArray.ext (Array.ext' hq)) hxi
    have HO := Lib.hid (show readM T = ⟨false, wordOfV T nConfig, (rowOfV T nLayers).map layerOfV, []⟩ by rw [HR.out, if_neg hxi])
    clear hxi HR
    go_wp2_with fail
    refine (HTL.out _ HB1.out).mono ?_
    rintro e w2 ⟨g, l, rfl, hg, hr, hb2, hz2⟩
    have hbb := Below.then HB1.out hb2
    have HB2 := Lib.hid hbb
    have HR2 := Lib.hid hr
    have HZL := Lib.hid hz2
    have HG := Lib.hid (show w.heap.size + 2 ≤ g by have := HSZ.out; have := HB1.out.size; omega)
    obtain ⟨c0, c1, c2, c3, c4⟩ := (HV.out.keep hbb).cells
    clear hr hb2 hbb hz2 hg b0 b1 b2 b3 b4
    go_wp2_with fail
    refine (HWK.out _ HB2.out).mono ?_
    rintro e w3 ⟨rfl, hb3, hcz⟩
    have hbb := Below.then HB2.out hb3
    have HB3 := Lib.hid hbb
    have hZ3 := HZ.out.keep hbb
    have HZ3 := Lib.hid hZ3
    obtain ⟨z0, z1, z2, z3⟩ := hZ3.cells
    have f0 := hZ3.frozen 0
    have f1 := hZ3.frozen 1
    have f2 := hZ3.frozen 2
    have f3 := hZ3.frozen 3
    have HF := Lib.hid (show ∀ w'', (∀ b, w.heap.size ≤ b → b < (set4 w3 (w.heap.size + 1) (.bool false) (.string (wordOfV T nConfig)) (.slice (some ⟨g, 0, none⟩) l l) (.slice none 0 0)).heap.size → w''.heap[b]? = (set4 w3 (w.heap.size + 1) (.bool false) (.string (wordOfV T nConfig)) (.slice (some ⟨g, 0, none⟩) l l) (.slice none 0 0)).heap[b]?) → ManAt w'' (.agg #[.bool false, .string (wordOfV T nConfig), .slice (some ⟨g, 0, none⟩) l l, .slice none 0 0]) (readM T) by
      intro w'' hfar
      rw [HO.out]
      refine ⟨⟨_, _, rfl, (HR2.out.keep hb3).far fun b o k c e h0 => ?_, Or.inl ⟨rfl, Or.inl rfl⟩⟩, hcz, HZL.out, by simp⟩
      simp only [Value.slice.injEq, Option.some.injEq, Addr.mk.injEq] at e
      obtain ⟨⟨rfl, -⟩, -⟩ := e
      have hg := HG.out
      have hlt := (HR2.out.keep hb3).lt h0
      exact (hfar g (by omega) (by rw [set4_size]; exact hlt)).trans (set4_block _ _ _ _ _ _ g (by omega)))
    clear hb3 hbb hZ3 hcz
    go_wp2_with fail
    refine bodyPost_ret (results_cell_row (p := 2) rfl _ _ (w.heap.size + 1) 53 _ (0, 0) _ rfl (set4_four HZ3.out _ _ _ _) Tryz.underlying53 rfl manSize) rfl ?_
    exact ⟨_, rfl, below_four (Below.then HB0.out HB3.out) (Nat.le_succ _) _ _ _ _, HF.out⟩
end Go.Proofs.YtepcaglekgeamaaGreatDoor
