/-
  The document's own Parse of manifests, by a contract. Conditions: the package-level variables as MEnv says; texts of at most 2^30 bytes.
-/
import Derived.Test.YtepcaglekgeamaaGreatDoorYRefM4
import Derived.Test.YtepcaglekgeamaaGreatDoorYMan5
import Derived.Test.YtepcaglekgeamaaGreatDoorYManR
import Derived.Test.YtepcaglekgeamaaGreatDoorYRefT3
import Derived.Test.YtepcaglekgeamaaGreatDoorYRefM1
import Derived.Test.YtepcaglekgeamaaGreatDoorYRefM2
import Derived.Test.YtepcaglekgeamaaGreatDoorYRegS
import Derived.Deep.CutBlock
import Derived.Deep.CutRange
import Derived.Deep.DeepCutAuto
namespace Go.Proofs.YtepcaglekgeamaaGreatDoor
open Go.RowKit

theorem refM_eq (T : Val) : refM T = ⟨decide ((refGet T nKind).word = kIndex), (refGet T nConfig).word, (refGet T nLayers).items.map refLayer, (refGet T nKids).items.map Val.word⟩ := rfl

theorem mayV_names {d : Nat} {T : Val} (h : mayV d T = true) : T.names.length ≤ T.items.length := by
  cases d with
  | zero => rw [mayV] at h; cases h
  | succ d =>
    obtain ⟨k, n, s, l, ns⟩ := T
    rw [mayV, Bool.and_eq_true, oneV_iff] at h
    show ns.length ≤ l.length
    rcases h.1.names with h4 | h0
    · rw [h.1.same h4]; exact Nat.le_refl _
    · rw [h0]; exact Nat.zero_le _

theorem mayV_num {d : Nat} {T : Val} (h : mayV d T = true) : 0 ≤ T.num ∧ T.num ≤ 1099511627776 := by
  cases d with
  | zero => rw [mayV] at h; cases h
  | succ d =>
    obtain ⟨k, n, s, l, ns⟩ := T
    rw [mayV, Bool.and_eq_true, oneV_iff] at h
    exact h.1.most

theorem refGet_may {d : Nat} {T : Val} (h : mayV d T = true) (name : ByteArray) : (refGet T name).items.length ≤ 16 ∧ (refGet T name).word.size ≤ 200 ∧ (0 ≤ (refGet T name).num ∧ (refGet T name).num ≤ 1099511627776) ∧ (∀ X ∈ (refGet T name).items, ∃ e, mayV e X = true) := by
  have hz : (Val.mk 0 0 ⟨#[]⟩ [] []).items.length ≤ 16 ∧ (Val.mk 0 0 ⟨#[]⟩ [] []).word.size ≤ 200 ∧ (0 ≤ (Val.mk 0 0 ⟨#[]⟩ [] []).num ∧ (Val.mk 0 0 ⟨#[]⟩ [] []).num ≤ 1099511627776) ∧ (∀ X ∈ (Val.mk 0 0 ⟨#[]⟩ [] []).items, ∃ e, mayV e X = true) := ⟨Nat.zero_le _, Nat.zero_le _, by decide, fun X hX => by cases hX⟩
  unfold refGet
  cases hf : firstIdx T.names name with
  | none => exact hz
  | some i =>
    simp only
    cases hx : T.items[i]? with
    | none => exact hz
    | some X =>
      obtain ⟨e, he⟩ := (mayV_items h).2.2 X (List.mem_of_getElem? hx)
      exact ⟨(mayV_items he).1, (mayV_items he).2.1, mayV_num he, (mayV_items he).2.2⟩

theorem ValIn.parts6 {S : Nat → Prop} {w : World} {x : Value} {T : Val} (h : ValIn S w x T) : ∃ (kind n : Int) (s : ByteArray) (ia na : Option Addr) (li ic nn nc : Nat), x = .agg #[.int .i64 kind, .int .i64 n, .string s, .slice ia li ic, .slice na nn nc] ∧ T.num = n ∧ T.word = s ∧ T.items.length = li := by
  cases h with
  | mk kind n s iv nv items names ev hk hn hs hN hNS hz hI hIS hsub =>
    obtain ⟨na, nc, rfl, -⟩ := hN.shape
    obtain ⟨ia, ic, rfl, -, -⟩ := hI.shape
    exact ⟨kind, n, s, ia, na, items.length, ic, names.length, nc, rfl, rfl, rfl, rfl⟩

theorem ValIn.items {S : Nat → Prop} {w : World} {T : Val} {kind n : Int} {s : ByteArray} {ia na : Option Addr} {li ic nn nc : Nat} (h : ValIn S w (.agg #[.int .i64 kind, .int .i64 n, .string s, .slice ia li ic, .slice na nn nc]) T) (i : Nat) (hi : i < T.items.length) :
    ∃ b o xk xn xs xia xli xic xna xnn xnc, ia = some ⟨b, o, none⟩ ∧ ValIn S w (.agg #[.int .i64 xk, .int .i64 xn, .string xs, .slice xia xli xic, .slice xna xnn xnc]) T.items[i] ∧
      (w.cell? ⟨b, o + i * 5, none⟩ = some (.int .i64 xk) ∧ w.cell? ⟨b, o + i * 5 + 1, none⟩ = some (.int .i64 xn) ∧ w.cell? ⟨b, o + i * 5 + 2, none⟩ = some (.string xs) ∧ w.cell? ⟨b, o + i * 5 + 3, none⟩ = some (.slice xia xli xic) ∧ w.cell? ⟨b, o + i * 5 + 4, none⟩ = some (.slice xna xnn xnc)) := by
  cases h with
  | mk kind n s iv nv items names ev hk hn hs hN hNS hz hI hIS hsub =>
    have hi : i < items.length := hi
    obtain ⟨a', c', e, -, -⟩ := hI.shape
    simp only [Value.slice.injEq] at e
    obtain ⟨-, rfl, -⟩ := e
    obtain ⟨b, o, c0, c1, c2, c3, c4, hia, hev, hc⟩ := hI.at i hi
    have h1 := hsub i hi
    rw [hev] at h1
    obtain ⟨xk, xn, xs, xia, xna, xli, xic, xnn, xnc, hsh⟩ := h1.isVal.shape
    simp only [Value.agg.injEq, Array.mk.injEq, List.cons.injEq, and_true] at hsh
    obtain ⟨rfl, rfl, rfl, rfl, rfl⟩ := hsh
    exact ⟨b, o, xk, xn, xs, xia, xli, xic, xna, xnn, xnc, hia, h1, hc⟩

theorem get_t (S : Nat → Prop) (T : Val) (v : Value) (name : ByteArray) (w : World) (hv : ValIn S w v T) (hlen : T.names.length ≤ T.items.length) :
    Calls Tryz.prog 37 #[v, .string name] w fun e w' => ∃ kind n s ia li ic na nn nc, e = .returned (.agg #[.int .i64 kind, .int .i64 n, .string s, .slice ia li ic, .slice na nn nc]) ∧ (refGet T name).num = n ∧ (refGet T name).word = s ∧ (refGet T name).items.length = li ∧ ValIn S w' (.agg #[.int .i64 kind, .int .i64 n, .string s, .slice ia li ic, .slice na nn nc]) (refGet T name) ∧ Below w.heap.size w w' := by
  refine (refGet_in S T v name w hv hlen).mono fun e w' ⟨x, h1, h2, h3⟩ => ?_
  obtain ⟨kind, n, s, ia, na, li, ic, nn, nc, rfl, k1, k2, k3⟩ := h2.parts6
  exact ⟨kind, n, s, ia, li, ic, na, nn, nc, h1, k1, k2, k3, h2, h3⟩

theorem At4.put2 {w : World} {B : Nat} {a b c d : Value} (h : At4 w B a b c d) (u : Value) : At4 (w.setCell ⟨B, 2, none⟩ u) B a b u d := by unfold At4; rw [heap_setCell_same _ _ _ _ _ _ h]; rfl

theorem At4.put3 {w : World} {B : Nat} {a b c d : Value} (h : At4 w B a b c d) (u : Value) : At4 (w.setCell ⟨B, 3, none⟩ u) B a b c u := by unfold At4; rw [heap_setCell_same _ _ _ _ _ _ h]; rfl

theorem own_type {w : World} {base : Nat} {e : TypeId} {size n : Nat} {v : Value} {xs : List Value} (h : w.ownsRow base e size v n xs) {B : Nat} {t : TypeId} {cs : Array Value} (hv : v.ownBlock = some B) (hB : w.heap[B]? = some (.cells cs t (0, 0))) (hne : e ≠ t) : False := by
  rcases h.2 with ⟨rfl, -⟩ | ⟨g1, c1, cur1, rfl, -, h1, -⟩
  · cases hv
  · cases hv
    rw [h1] at hB
    simp only [Option.some.injEq, Obj.cells.injEq] at hB
    exact hne hB.2.1

theorem layerNeStr : 76 ≠ 9 := by decide

structure MakeR (W : World) (M : Nat) (b : Bool) (c : ByteArray) (a1 : Option Addr) (k1 c1 : Nat) (a2 : Option Addr) (k2 c2 : Nat) (ls : List (ByteArray × Int)) (ks : List ByteArray) (w : World) : Prop where
  at4 : At4 w M (.bool b) (.string c) (.slice a1 k1 c1) (.slice a2 k2 c2)
  own1 : w.ownsRow (M + 1) 76 2 (.slice a1 k1 c1) k1 (cellsL (ls.map layerCell))
  own2 : OwnS w (M + 1) (.slice a2 k2 c2) k2 ks
  low : W.heap.size ≤ M
  below : Below W.heap.size W w

theorem MakeR.keep {W w w' : World} {M : Nat} {b : Bool} {c : ByteArray} {a1 : Option Addr} {k1 c1 : Nat} {a2 : Option Addr} {k2 c2 : Nat} {ls : List (ByteArray × Int)} {ks : List ByteArray} (h : MakeR W M b c a1 k1 c1 a2 k2 c2 ls ks w) (hb : Below w.heap.size w w') : MakeR W M b c a1 k1 c1 a2 k2 c2 ls ks w' :=
  ⟨h.at4.keep hb, own_keep h.own1 hb, h.own2.keep hb, h.low, Below.then h.below hb⟩

theorem MakeR.lay {W w w' : World} {M : Nat} {b : Bool} {c : ByteArray} {a1 : Option Addr} {k1 c1 : Nat} {a2 : Option Addr} {k2 c2 : Nat} {ls : List (ByteArray × Int)} {ks : List ByteArray} (h : MakeR W M b c a1 k1 c1 a2 k2 c2 ls ks w) {g cap : Nat} {x : ByteArray} {n : Int}
    (ho : w'.ownsRow (M + 1) 76 2 (.slice (some ⟨g, 0, none⟩) (k1 + 1) cap) (k1 + 1) (cellsL (ls.map layerCell) ++ [.string x, .int .i64 n])) (hg : w.grownBy w' (Value.slice a1 k1 c1).ownBlock) :
    MakeR W M b c (some ⟨g, 0, none⟩) (k1 + 1) cap a2 k2 c2 (ls ++ [(x, n)]) ks (w'.setCell ⟨M, 2, none⟩ (.slice (some ⟨g, 0, none⟩) (k1 + 1) cap)) := by
  have hM := h.at4.lt
  have hf : ∀ k, k ≠ M → (w'.setCell ⟨M, 2, none⟩ (.slice (some ⟨g, 0, none⟩) (k1 + 1) cap)).heap[k]? = w'.heap[k]? := fun k hk => Below.heap_setCell _ _ _ _ hk
  have hA : At4 w' M (.bool b) (.string c) (.slice a1 k1 c1) (.slice a2 k2 c2) := (hg.block M hM (fun e => by have := (h.own1.lt M e.symm).1; omega)).trans h.at4
  refine ⟨hA.put2 _, own_block ?_ fun j hj => hf j (by have := (ho.lt j hj).1; omega), ?_, h.low, ?_⟩
  · rw [List.map_append, cellsL_append]; exact ho
  · exact ⟨h.own2.len, own_block (own_grown h.own2.own h.own1 layerNeStr.symm hg) fun j hj => hf j (by have := (h.own2.own.lt j hj).1; omega)⟩
  · exact (h.below.trans (below_own h.own1 hg (by have := h.low; omega) (by have := h.low; omega))).setCell (p := ⟨M, 2, none⟩) h.low _

theorem MakeR.kid {W w w' : World} {M : Nat} {b : Bool} {c : ByteArray} {a1 : Option Addr} {k1 c1 : Nat} {a2 : Option Addr} {k2 c2 : Nat} {ls : List (ByteArray × Int)} {ks : List ByteArray} (h : MakeR W M b c a1 k1 c1 a2 k2 c2 ls ks w) {g cap : Nat} {x : ByteArray}
    (ho : OwnS w' (M + 1) (.slice (some ⟨g, 0, none⟩) (k2 + 1) cap) (k2 + 1) (ks ++ [x])) (hg : w.grownBy w' (Value.slice a2 k2 c2).ownBlock) :
    MakeR W M b c a1 k1 c1 (some ⟨g, 0, none⟩) (k2 + 1) cap ls (ks ++ [x]) (w'.setCell ⟨M, 3, none⟩ (.slice (some ⟨g, 0, none⟩) (k2 + 1) cap)) := by
  have hM := h.at4.lt
  have hf : ∀ k, k ≠ M → (w'.setCell ⟨M, 3, none⟩ (.slice (some ⟨g, 0, none⟩) (k2 + 1) cap)).heap[k]? = w'.heap[k]? := fun k hk => Below.heap_setCell _ _ _ _ hk
  have hA : At4 w' M (.bool b) (.string c) (.slice a1 k1 c1) (.slice a2 k2 c2) := (hg.block M hM (fun e => by have := (h.own2.own.lt M e.symm).1; omega)).trans h.at4
  refine ⟨hA.put3 _, own_block (own_grown h.own1 h.own2.own layerNeStr hg) fun j hj => hf j (by have := (h.own1.lt j hj).1; omega), ?_, h.low, ?_⟩
  · exact ⟨ho.len, own_block ho.own fun j hj => hf j (by have := (ho.own.lt j hj).1; omega)⟩
  · exact (h.below.trans (below_own h.own2.own hg (by have := h.low; omega) (by have := h.low; omega))).setCell (p := ⟨M, 3, none⟩) h.low _

theorem MakeR.man {W w : World} {M : Nat} {b : Bool} {c : ByteArray} {a1 : Option Addr} {k1 c1 : Nat} {a2 : Option Addr} {k2 c2 : Nat} {ls : List (ByteArray × Int)} {ks : List ByteArray} (h : MakeR W M b c a1 k1 c1 a2 k2 c2 ls ks w) (hl : ls.length = k1) (hc : c.size ≤ maxLen)
    (hlz : ∀ l ∈ ls, l.1.size ≤ maxLen ∧ -9223372036854775808 ≤ l.2 ∧ l.2 ≤ 9223372036854775807) (hkz : ∀ k ∈ ks, k.size ≤ maxLen) (w' : World) (hw : ∀ j, M + 1 ≤ j → j < w.heap.size → w'.heap[j]? = w.heap[j]?) :
    ManAt w' (.agg #[.bool b, .string c, .slice a1 k1 c1, .slice a2 k2 c2]) ⟨b, c, ls, ks⟩ :=
  ⟨⟨_, _, rfl, PairsAt.of_own (own_block h.own1 fun g hg => hw g (h.own1.lt g hg).1 (h.own1.lt g hg).2) (by rw [List.length_map]; exact hl),
    OwnS.strs (B := M + 1) (n := k2) ⟨h.own2.len, own_block h.own2.own fun g hg => hw g (h.own2.own.lt g hg).1 (h.own2.own.lt g hg).2⟩⟩, hc, hlz, hkz⟩

set_option maxRecDepth 100000 in
set_option maxHeartbeats 8000000 in
theorem refParseM_t (s : ByteArray) (w : World) (hs : s.size ≤ 1073741824) (he : MEnv w) :
    Calls Tryz.prog 20 #[.string s] w (ParseMEnds s w) := by
  obtain ⟨W, hW⟩ : ∃ W, w.alloc (.cells #[.bool false, .string ⟨#[]⟩, .slice none 0 0, .slice none 0 0] 53) = W := ⟨_, rfl⟩
  have hb0 : Below w.heap.size w W := by rw [← hW]; exact below_new _ _
  have hZ : At4 W w.heap.size (.bool false) (.string ⟨#[]⟩) (.slice none 0 0) (.slice none 0 0) := by rw [← hW]; exact At4.new _ _ _ _ _
  have P := Lib.hid (refParseT s W hs (he.below hb0).t)
  have HE := Lib.hid he
  have HZ := Lib.hid hZ
  have HB0 := Lib.hid hb0
  have HW := Lib.hid hW
  have HSZ := Lib.hid (show W.heap.size = w.heap.size + 1 by rw [← hW]; simp)
  obtain ⟨z0, z1, z2, z3⟩ := hZ.cells
  have f0 := hZ.frozen 0
  have f1 := hZ.frozen 1
  have f2 := hZ.frozen 2
  have f3 := hZ.frozen 3
  clear hb0 hZ hW he
  by_cases hl : 4096 < s.size
  · have HO := Lib.hid (show parseM s = (noMan, 2) by unfold parseM; rw [if_pos hl])
    go_enter Tryz.func20, Tryz.ntmps20
    go_upto_region 1 with fail
    rw [HW.out]
    go_wp2_with fail
    refine bodyPost_ret (results_two (p := 2) (u := 3) rfl _ _ w.heap.size 53 _ (0, 0) _ rfl (set4_four HZ.out _ _ _ _) Tryz.underlying53 rfl manSize) rfl ?_
    exact ParseMEnds.none HO.out (below_four HB0.out (Nat.le_refl _) _ _ _ _)
  have HPE := Lib.hid (show parseV s = none → parseM s = (noMan, 6) from fun h => by rw [← refParseM_eq]; unfold refParseM; rw [if_neg hl, h])
  have HPT := Lib.hid (show ∀ T, parseV s = some T → parseM s = if rightM (refM T) = true ∧ textM (refM T) = s.data.toList then (refM T, 0) else (noMan, 8) from fun T h => by rw [← refParseM_eq]; unfold refParseM; rw [if_neg hl, h])
  go_enter Tryz.func20, Tryz.ntmps20
  go_upto_region 1 with fail
  rw [HW.out]
  go_wp2_with fail
  refine P.out.mono ?_
  intro e w1 hx
  have HB1 := Lib.hid (Below.then HB0.out hx.below)
  have hi := hx.is
  have hb1 := hx.below
  clear hx z0 z1 z2 z3 f0 f1 f2 f3
  cases hp : parseV s with
  | none =>
    rw [hp] at hi
    have HO := Lib.hid (show parseM s = (noMan, 6) from HPE.out hp)
    unfold noVal at hi
    subst hi
    have hbb : Below w1.heap.size w1 (w1.alloc (.cells #[.int .i64 0, .int .i64 0, .string ⟨#[]⟩, .slice none 0 0, .slice none 0 0] 71)) := below_new _ _
    have hZ2 := HZ.out.keep (Below.then hb1 hbb)
    have HZ2 := Lib.hid hZ2
    have HB2 := Lib.hid (Below.then HB1.out hbb)
    obtain ⟨z0, z1, z2, z3⟩ := hZ2.cells
    have f0 := hZ2.frozen 0
    have f1 := hZ2.frozen 1
    have f2 := hZ2.frozen 2
    have f3 := hZ2.frozen 3
    clear hbb hZ2 hb1 hp
    go_wp2_with fail
    refine bodyPost_ret (results_two (p := 2) (u := 3) rfl _ _ w.heap.size 53 _ (0, 0) _ rfl (set4_four HZ2.out _ _ _ _) Tryz.underlying53 rfl manSize) rfl ?_
    exact ParseMEnds.none HO.out (below_four HB2.out (Nat.le_refl _) _ _ _ _)
  | some T =>
    rw [hp] at hi
    obtain ⟨v, rfl, hv⟩ := hi
    have hm6 := ((parseV_iff s T).1 hp).1
    obtain ⟨vk, vn, vs, via, vna, vli, vic, vnn, vnc, rfl⟩ := hv.shape
    obtain ⟨W2, hW2⟩ : ∃ W2, w1.alloc (.cells #[.int .i64 vk, .int .i64 vn, .string vs, .slice via vli vic, .slice vna vnn vnc] 71) = W2 := ⟨_, rfl⟩
    have hb2 : Below w1.heap.size w1 W2 := by rw [← hW2]; exact below_new _ _
    have hA2 : At5 W2 w1.heap.size (.int .i64 vk) (.int .i64 vn) (.string vs) (.slice via vli vic) (.slice vna vnn vnc) := by rw [← hW2]; exact At5.new _ _ _ _ _ _
    obtain ⟨A, hA⟩ : ∃ A, w1.heap.size = A := ⟨_, rfl⟩
    rw [hA] at hA2
    have HAA := Lib.hid hA
    have HA2 := Lib.hid hA2
    have HB2 := Lib.hid (Below.then HB1.out hb2)
    have HZ2 := Lib.hid (HZ.out.keep (Below.then hb1 hb2))
    have HWW := Lib.hid (show w.heap.size + 1 ≤ W2.heap.size by have := (Below.then hb1 hb2).size; have := HSZ.out; omega)
    have hv2 : ValIn (fun b => b < W2.heap.size) W2 (.agg #[.int .i64 vk, .int .i64 vn, .string vs, .slice via vli vic, .slice vna vnn vnc]) T := (hv.keep hb2).within
    have G := Lib.hid (fun nm w3 (h : Below W2.heap.size W2 w3) => get_t (fun b => b < W2.heap.size) T _ nm w3 (hv2.keep fun b hS hl => ⟨h.block b hl, hS⟩) (mayV_names hm6))
    have HMAY := Lib.hid (fun nm => refGet_may hm6 nm)
    have HPE2 := Lib.hid (show parseM s = if rightM (refM T) = true ∧ textM (refM T) = s.data.toList then (refM T, 0) else (noMan, 8) from HPT.out T hp)
    have HW2 := Lib.hid hW2
    have HSS := Lib.hid hs
    clear hW2 hb1 hb2 hA hA2 hv hv2 hp hm6 hs HPE HPT
    obtain ⟨a0, a1, a2, a3, a4⟩ := HA2.out.cells
    go_upto_region 6 with fail
    rw [HW2.out, HAA.out]
    go_cut [6] from 23 to 30 (fun x wx => ∃ M, x = .pointer (some ⟨M, 0, none⟩) ∧ MakeR W2 M (decide ((refGet T nKind).word = kIndex)) (refGet T nConfig).word none 0 0 none 0 0 [] [] wx)
    case first =>
      obtain ⟨bq, hbq⟩ : ∃ x, ((refGet T nKind).word.toList == [105, 110, 100, 101, 120]) = x := ⟨_, rfl⟩
      have HBQ := Lib.hid (show decide ((refGet T nKind).word = kIndex) = bq by
        rw [← hbq, Bool.eq_iff_iff, decide_eq_true_eq, beq_iff_eq, Lib.toList_data]
        constructor
        · intro e; rw [e]; rfl
        · intro e; exact ByteArray.ext (Array.toList_inj.1 e))
      have G1 := Lib.hid (G.out nKind)
      have G2 := Lib.hid (G.out nConfig)
      have hb0 : Below W2.heap.size W2 W2.drew := (Below.refl _ _).drew
      obtain ⟨wD, hwD⟩ : ∃ x, W2.drew = x := ⟨_, rfl⟩
      refine wp_region_S (S := fun w' => w'.cell? ⟨A, 0, none⟩ = some (.int .i64 vk) ∧ w'.cell? ⟨A, 1, none⟩ = some (.int .i64 vn) ∧ w'.cell? ⟨A, 2, none⟩ = some (.string vs) ∧ w'.cell? ⟨A, 3, none⟩ = some (.slice via vli vic) ∧ w'.cell? ⟨A, 4, none⟩ = some (.slice vna vnn vnc)) 9 (by kernel_rfl) ?hS (fun hHeld => ?hR)
      case hS => exact ⟨a0, a1, a2, a3, a4⟩
      rw [hwD] at hb0 hHeld ⊢
      refine wpAnyS_take (i := 0) (oi := { dst := some 23, op := Op.load 71 (Operand.tmp 4), type := 71, pos := "ref.go:87", after := #[], guard := none }) (v := ?gv0) [1, 2, 3, 5, 6, 7, 9] rfl (by kernel_rfl) (by kernel_rfl) (by kernel_rfl) (by kernel_rfl) (fun _ _ _ h => h) (Or.inl ⟨by rfl, ?gy0⟩) (by assumption) ?gr0
      case gy0 => (intro w hSw; (try dsimp only at hSw); go_simp; try with_reducible rfl)
      try simp only [Act.put, List.setIfInBounds_toArray, List.set_cons_zero, List.set_cons_succ]
      refine wpAnyS_take (i := 4) (oi := { dst := some 27, op := Op.load 71 (Operand.tmp 4), type := 71, pos := "ref.go:87", after := #[], guard := none }) (v := ?gv4) [5, 6, 7, 9] rfl (by kernel_rfl) (by kernel_rfl) (by kernel_rfl) (by kernel_rfl) (fun _ _ _ h => h) (Or.inl ⟨by rfl, ?gy4⟩) (by assumption) ?gr4
      case gy4 => (intro w hSw; (try dsimp only at hSw); go_simp; try with_reducible rfl)
      try simp only [Act.put, List.setIfInBounds_toArray, List.set_cons_zero, List.set_cons_succ]
      refine wpAnyS_ready (rs := [1, 8]) (by kernel_rfl) (by simp) ?_
      refine AllReadyS.cons (o := { dst := some 24, op := Op.call { callee := Callee.value (Operand.func 37), args := #[Operand.tmp 23, Operand.const (Value.string { data := #[107, 105, 110, 100] })], argTypes := #[71, 9] }, type := 71, pos := "ref.go:87", after := #[{ on := 0, ground := Ground.data }], guard := none }) rfl (fun K hK => ?cs1) (AllReadyS.cons (o := { dst := some 6, op := Op.alloc 53, type := 0, pos := "ref.go:87", after := #[], guard := none }) rfl (fun K hK => ?cs8) AllReadyS.nil)
      case cs8 =>
        rw [if_pos (by kernel_rfl)]
        go_simp
        obtain ⟨wAa, hwAa⟩ : ∃ x, wD.alloc (.cells #[.bool false, .string ⟨#[]⟩, .slice none 0 0, .slice none 0 0] 53) = x := ⟨_, rfl⟩
        try rw [hwAa]
        have hMa : At4 wAa wD.heap.size (.bool false) (.string ⟨#[]⟩) (.slice none 0 0) (.slice none 0 0) := by rw [← hwAa]; exact At4.new _ _ _ _ _
        have hea := Below.then hb0 (show Below wD.heap.size wD wAa by rw [← hwAa]; exact below_new _ _)
        have hla : W2.heap.size ≤ wD.heap.size := hb0.size
        refine hK.out _ _ ?hSa8 (fun hHelda8 => ?hRa8)
        case hSa8 => exact fun _ => (HA2.out.keep hea).cells
        clear hK K
        replace hHelda8 := hHelda8 (by kernel_rfl)
        try simp only [Act.put, List.setIfInBounds_toArray, List.set_cons_zero, List.set_cons_succ]
        refine wpAnyS_ready (rs := [1]) (by kernel_rfl) (by simp) ?_
        refine AllReadyS.cons (o := { dst := some 24, op := Op.call { callee := Callee.value (Operand.func 37), args := #[Operand.tmp 23, Operand.const (Value.string { data := #[107, 105, 110, 100] })], argTypes := #[71, 9] }, type := 71, pos := "ref.go:87", after := #[{ on := 0, ground := Ground.data }], guard := none }) rfl (fun K hK => ?ca1) AllReadyS.nil
        rw [if_pos (by kernel_rfl)]
        go_simp
        go_wp2_with (go_at_call 37; refine (G1.out wAa hea).mono ?_; rintro e wga ⟨k1, n1, s1, ia1, li1, ic1, na1, nn1, nc1, rfl, -, hs1, -, -, hbga⟩)
        have hca := Below.then hea hbga
        rw [hs1] at hbq
        have fw1 := field_word k1 n1 s1 ia1 na1 li1 ic1 nn1 nc1
        refine hK.out _ _ ?hSa1 (fun hHelda1 => ?hRa1)
        case hSa1 => exact fun _ => (HA2.out.keep hca).cells
        clear hK K
        replace hHelda1 := hHelda1 (by kernel_rfl)
        try simp only [Act.put, List.setIfInBounds_toArray, List.set_cons_zero, List.set_cons_succ]
        refine wpAnyS_free (i := 2) (oi := { dst := some 25, op := Op.field 71 (Operand.tmp 24) 2, type := 9, pos := "ref.go:87", after := #[{ on := 1, ground := Ground.data }], guard := none }) (v := ?gva2) rfl (by kernel_rfl) (by kernel_rfl) (by kernel_rfl) (by kernel_rfl) (fun _ _ _ h => h) (Or.inl ⟨by rfl, ?gya2⟩) (fun _ => by assumption) ?gra2
        case gya2 => (intro w _; go_simp; try with_reducible rfl)
        try simp only [Act.put, List.setIfInBounds_toArray, List.set_cons_zero, List.set_cons_succ]
        refine wpAnyS_free (i := 3) (oi := { dst := some 26, op := Op.binOp BinOp.eql 9 (Operand.tmp 25) (Operand.const (Value.string { data := #[105, 110, 100, 101, 120] })) 9, type := 4, pos := "ref.go:87", after := #[{ on := 2, ground := Ground.data }], guard := none }) (v := ?gva3) rfl (by kernel_rfl) (by kernel_rfl) (by kernel_rfl) (by kernel_rfl) (fun _ _ _ h => h) (Or.inl ⟨by rfl, ?gya3⟩) (fun _ => by assumption) ?gra3
        case gya3 => (intro w _; go_simp; try with_reducible rfl)
        try simp only [Act.put, List.setIfInBounds_toArray, List.set_cons_zero, List.set_cons_succ]
        refine wpAnyS_ready (rs := [5]) (by kernel_rfl) (by simp) ?_
        refine AllReadyS.cons (o := { dst := some 28, op := Op.call { callee := Callee.value (Operand.func 37), args := #[Operand.tmp 27, Operand.const (Value.string { data := #[99, 111, 110, 102, 105, 103] })], argTypes := #[71, 9] }, type := 71, pos := "ref.go:87", after := #[{ on := 4, ground := Ground.data }, { on := 1, ground := Ground.chain }], guard := none }) rfl (fun K hK => ?ca5) AllReadyS.nil
        rw [if_pos (by kernel_rfl)]
        go_simp
        go_wp2_with (go_at_call 37; refine (G2.out wga hca).mono ?_; rintro e wha ⟨k2, n2, s2, ia2, li2, ic2, na2, nn2, nc2, rfl, -, hs2, -, -, hbha⟩)
        have hda := Below.then hca hbha
        have fw2 := field_word k2 n2 s2 ia2 na2 li2 ic2 nn2 nc2
        refine hK.out _ _ ?hSa5 (fun hHelda5 => ?hRa5)
        case hSa5 => exact fun _ => (HA2.out.keep hda).cells
        clear hK K
        replace hHelda5 := hHelda5 (by kernel_rfl)
        try simp only [Act.put, List.setIfInBounds_toArray, List.set_cons_zero, List.set_cons_succ]
        refine wpAnyS_free (i := 6) (oi := { dst := some 29, op := Op.field 71 (Operand.tmp 28) 2, type := 9, pos := "ref.go:87", after := #[{ on := 5, ground := Ground.data }], guard := none }) (v := ?gva6) rfl (by kernel_rfl) (by kernel_rfl) (by kernel_rfl) (by kernel_rfl) (fun _ _ _ h => h) (Or.inl ⟨by rfl, ?gya6⟩) (fun _ => by assumption) ?gra6
        case gya6 => (intro w _; go_simp; try with_reducible rfl)
        try simp only [Act.put, List.setIfInBounds_toArray, List.set_cons_zero, List.set_cons_succ]
        refine wpAnyS_free (i := 7) (oi := { dst := some 30, op := Op.build 53 #[(0, Operand.tmp 26), (1, Operand.tmp 29)], type := 53, pos := "ref.go:87", after := #[{ on := 3, ground := Ground.data }, { on := 6, ground := Ground.data }], guard := none }) (v := ?gva7) rfl (by kernel_rfl) (by kernel_rfl) (by kernel_rfl) (by kernel_rfl) (fun _ _ _ h => h) (Or.inl ⟨by rfl, ?gya7⟩) (fun _ => by assumption) ?gra7
        case gya7 => (intro w _; go_simp; try with_reducible rfl)
        try simp only [Act.put, List.setIfInBounds_toArray, List.set_cons_zero, List.set_cons_succ]
        have hMz := (hMa.keep hbga).keep hbha
        refine wpAnyS_ready (rs := [9]) (by kernel_rfl) (by simp) ?_
        refine AllReadyS.cons (o := { dst := none, op := Op.store 53 (Operand.tmp 6) (Operand.tmp 30), type := 0, pos := "ref.go:87", after := #[{ on := 8, ground := Ground.data }, { on := 7, ground := Ground.data }, { on := 5, ground := Ground.chain }, { on := 0, ground := Ground.phase }, { on := 1, ground := Ground.phase }, { on := 2, ground := Ground.phase }, { on := 3, ground := Ground.phase }, { on := 4, ground := Ground.phase }, { on := 5, ground := Ground.phase }, { on := 6, ground := Ground.phase }, { on := 7, ground := Ground.phase }, { on := 8, ground := Ground.phase }], guard := none }) rfl (fun K hK => ?ca9) AllReadyS.nil
        obtain ⟨y0, y1, y2, y3⟩ := hMz.cells
        have u0 := hMz.frozen 0
        have u1 := hMz.frozen 1
        have u2 := hMz.frozen 2
        have u3 := hMz.frozen 3
        rw [if_pos (by kernel_rfl)]
        go_simp
        refine hK.out _ _ ?hSa9 (fun hHelda9 => ?hRa9)
        case hSa9 => exact fun h => Bool.noConfusion (show true = false from h)
        clear hK K
        clear hHelda9
        try simp only [Act.put, List.setIfInBounds_toArray, List.set_cons_zero, List.set_cons_succ]
        refine wpAnyS_done (by kernel_rfl) ?_ _
        clear y0 y1 y2 y3 u0 u1 u2 u3
        go_wp2_with fail
        go_meet
        exact ⟨wD.heap.size, rfl, by rw [HBQ.out, hs2]; exact ⟨set4_four hMz _ _ _ _, World.ownsRow_nil _ _ _ _, OwnS.nil _ _, hla, below_four hda hla _ _ _ _⟩⟩
      case cs1 =>
        rw [if_pos (by kernel_rfl)]
        go_simp
        go_wp2_with (go_at_call 37; refine (G1.out wD hb0).mono ?_; rintro e wgb ⟨k1, n1, s1, ia1, li1, ic1, na1, nn1, nc1, rfl, -, hs1, -, -, hbgb⟩)
        have hcb := Below.then hb0 hbgb
        rw [hs1] at hbq
        have fw1 := field_word k1 n1 s1 ia1 na1 li1 ic1 nn1 nc1
        refine hK.out _ _ ?hSb1 (fun hHeldb1 => ?hRb1)
        case hSb1 => exact fun _ => (HA2.out.keep hcb).cells
        clear hK K
        replace hHeldb1 := hHeldb1 (by kernel_rfl)
        try simp only [Act.put, List.setIfInBounds_toArray, List.set_cons_zero, List.set_cons_succ]
        refine wpAnyS_free (i := 2) (oi := { dst := some 25, op := Op.field 71 (Operand.tmp 24) 2, type := 9, pos := "ref.go:87", after := #[{ on := 1, ground := Ground.data }], guard := none }) (v := ?gvb2) rfl (by kernel_rfl) (by kernel_rfl) (by kernel_rfl) (by kernel_rfl) (fun _ _ _ h => h) (Or.inl ⟨by rfl, ?gyb2⟩) (fun _ => by assumption) ?grb2
        case gyb2 => (intro w _; go_simp; try with_reducible rfl)
        try simp only [Act.put, List.setIfInBounds_toArray, List.set_cons_zero, List.set_cons_succ]
        refine wpAnyS_free (i := 3) (oi := { dst := some 26, op := Op.binOp BinOp.eql 9 (Operand.tmp 25) (Operand.const (Value.string { data := #[105, 110, 100, 101, 120] })) 9, type := 4, pos := "ref.go:87", after := #[{ on := 2, ground := Ground.data }], guard := none }) (v := ?gvb3) rfl (by kernel_rfl) (by kernel_rfl) (by kernel_rfl) (by kernel_rfl) (fun _ _ _ h => h) (Or.inl ⟨by rfl, ?gyb3⟩) (fun _ => by assumption) ?grb3
        case gyb3 => (intro w _; go_simp; try with_reducible rfl)
        try simp only [Act.put, List.setIfInBounds_toArray, List.set_cons_zero, List.set_cons_succ]
        refine wpAnyS_ready (rs := [5, 8]) (by kernel_rfl) (by simp) ?_
        refine AllReadyS.cons (o := { dst := some 28, op := Op.call { callee := Callee.value (Operand.func 37), args := #[Operand.tmp 27, Operand.const (Value.string { data := #[99, 111, 110, 102, 105, 103] })], argTypes := #[71, 9] }, type := 71, pos := "ref.go:87", after := #[{ on := 4, ground := Ground.data }, { on := 1, ground := Ground.chain }], guard := none }) rfl (fun K hK => ?cb5) (AllReadyS.cons (o := { dst := some 6, op := Op.alloc 53, type := 0, pos := "ref.go:87", after := #[], guard := none }) rfl (fun K hK => ?cb8) AllReadyS.nil)
        case cb5 =>
          rw [if_pos (by kernel_rfl)]
          go_simp
          go_wp2_with (go_at_call 37; refine (G2.out wgb hcb).mono ?_; rintro e whb ⟨k2, n2, s2, ia2, li2, ic2, na2, nn2, nc2, rfl, -, hs2, -, -, hbhb⟩)
          have hdb := Below.then hcb hbhb
          have fw2 := field_word k2 n2 s2 ia2 na2 li2 ic2 nn2 nc2
          refine hK.out _ _ ?hSb5 (fun hHeldb5 => ?hRb5)
          case hSb5 => exact fun _ => (HA2.out.keep hdb).cells
          clear hK K
          replace hHeldb5 := hHeldb5 (by kernel_rfl)
          try simp only [Act.put, List.setIfInBounds_toArray, List.set_cons_zero, List.set_cons_succ]
          refine wpAnyS_free (i := 6) (oi := { dst := some 29, op := Op.field 71 (Operand.tmp 28) 2, type := 9, pos := "ref.go:87", after := #[{ on := 5, ground := Ground.data }], guard := none }) (v := ?gvb6) rfl (by kernel_rfl) (by kernel_rfl) (by kernel_rfl) (by kernel_rfl) (fun _ _ _ h => h) (Or.inl ⟨by rfl, ?gyb6⟩) (fun _ => by assumption) ?grb6
          case gyb6 => (intro w _; go_simp; try with_reducible rfl)
          try simp only [Act.put, List.setIfInBounds_toArray, List.set_cons_zero, List.set_cons_succ]
          refine wpAnyS_free (i := 7) (oi := { dst := some 30, op := Op.build 53 #[(0, Operand.tmp 26), (1, Operand.tmp 29)], type := 53, pos := "ref.go:87", after := #[{ on := 3, ground := Ground.data }, { on := 6, ground := Ground.data }], guard := none }) (v := ?gvb7) rfl (by kernel_rfl) (by kernel_rfl) (by kernel_rfl) (by kernel_rfl) (fun _ _ _ h => h) (Or.inl ⟨by rfl, ?gyb7⟩) (fun _ => by assumption) ?grb7
          case gyb7 => (intro w _; go_simp; try with_reducible rfl)
          try simp only [Act.put, List.setIfInBounds_toArray, List.set_cons_zero, List.set_cons_succ]
          refine wpAnyS_ready (rs := [8]) (by kernel_rfl) (by simp) ?_
          refine AllReadyS.cons (o := { dst := some 6, op := Op.alloc 53, type := 0, pos := "ref.go:87", after := #[], guard := none }) rfl (fun K hK => ?cd8) AllReadyS.nil
          rw [if_pos (by kernel_rfl)]
          go_simp
          obtain ⟨wAd, hwAd⟩ : ∃ x, whb.alloc (.cells #[.bool false, .string ⟨#[]⟩, .slice none 0 0, .slice none 0 0] 53) = x := ⟨_, rfl⟩
          try rw [hwAd]
          have hMd : At4 wAd whb.heap.size (.bool false) (.string ⟨#[]⟩) (.slice none 0 0) (.slice none 0 0) := by rw [← hwAd]; exact At4.new _ _ _ _ _
          have hed := Below.then hdb (show Below whb.heap.size whb wAd by rw [← hwAd]; exact below_new _ _)
          have hld : W2.heap.size ≤ whb.heap.size := hdb.size
          refine hK.out _ _ ?hSd8 (fun hHeldd8 => ?hRd8)
          case hSd8 => exact fun _ => (HA2.out.keep hed).cells
          clear hK K
          replace hHeldd8 := hHeldd8 (by kernel_rfl)
          try simp only [Act.put, List.setIfInBounds_toArray, List.set_cons_zero, List.set_cons_succ]
          refine wpAnyS_ready (rs := [9]) (by kernel_rfl) (by simp) ?_
          refine AllReadyS.cons (o := { dst := none, op := Op.store 53 (Operand.tmp 6) (Operand.tmp 30), type := 0, pos := "ref.go:87", after := #[{ on := 8, ground := Ground.data }, { on := 7, ground := Ground.data }, { on := 5, ground := Ground.chain }, { on := 0, ground := Ground.phase }, { on := 1, ground := Ground.phase }, { on := 2, ground := Ground.phase }, { on := 3, ground := Ground.phase }, { on := 4, ground := Ground.phase }, { on := 5, ground := Ground.phase }, { on := 6, ground := Ground.phase }, { on := 7, ground := Ground.phase }, { on := 8, ground := Ground.phase }], guard := none }) rfl (fun K hK => ?cd9) AllReadyS.nil
          obtain ⟨y0, y1, y2, y3⟩ := hMd.cells
          have u0 := hMd.frozen 0
          have u1 := hMd.frozen 1
          have u2 := hMd.frozen 2
          have u3 := hMd.frozen 3
          rw [if_pos (by kernel_rfl)]
          go_simp
          refine hK.out _ _ ?hSd9 (fun hHeldd9 => ?hRd9)
          case hSd9 => exact fun h => Bool.noConfusion (show true = false from h)
          clear hK K
          clear hHeldd9
          try simp only [Act.put, List.setIfInBounds_toArray, List.set_cons_zero, List.set_cons_succ]
          refine wpAnyS_done (by kernel_rfl) ?_ _
          clear y0 y1 y2 y3 u0 u1 u2 u3
          go_wp2_with fail
          go_meet
          exact ⟨whb.heap.size, rfl, by rw [HBQ.out, hs2]; exact ⟨set4_four hMd _ _ _ _, World.ownsRow_nil _ _ _ _, OwnS.nil _ _, hld, below_four hed hld _ _ _ _⟩⟩
        case cb8 =>
          rw [if_pos (by kernel_rfl)]
          go_simp
          obtain ⟨wAb, hwAb⟩ : ∃ x, wgb.alloc (.cells #[.bool false, .string ⟨#[]⟩, .slice none 0 0, .slice none 0 0] 53) = x := ⟨_, rfl⟩
          try rw [hwAb]
          have hMb : At4 wAb wgb.heap.size (.bool false) (.string ⟨#[]⟩) (.slice none 0 0) (.slice none 0 0) := by rw [← hwAb]; exact At4.new _ _ _ _ _
          have heb := Below.then hcb (show Below wgb.heap.size wgb wAb by rw [← hwAb]; exact below_new _ _)
          have hlb : W2.heap.size ≤ wgb.heap.size := hcb.size
          refine hK.out _ _ ?hSb8 (fun hHeldb8 => ?hRb8)
          case hSb8 => exact fun _ => (HA2.out.keep heb).cells
          clear hK K
          replace hHeldb8 := hHeldb8 (by kernel_rfl)
          try simp only [Act.put, List.setIfInBounds_toArray, List.set_cons_zero, List.set_cons_succ]
          refine wpAnyS_ready (rs := [5]) (by kernel_rfl) (by simp) ?_
          refine AllReadyS.cons (o := { dst := some 28, op := Op.call { callee := Callee.value (Operand.func 37), args := #[Operand.tmp 27, Operand.const (Value.string { data := #[99, 111, 110, 102, 105, 103] })], argTypes := #[71, 9] }, type := 71, pos := "ref.go:87", after := #[{ on := 4, ground := Ground.data }, { on := 1, ground := Ground.chain }], guard := none }) rfl (fun K hK => ?cf5) AllReadyS.nil
          rw [if_pos (by kernel_rfl)]
          go_simp
          go_wp2_with (go_at_call 37; refine (G2.out wAb heb).mono ?_; rintro e whf ⟨k2, n2, s2, ia2, li2, ic2, na2, nn2, nc2, rfl, -, hs2, -, -, hbhf⟩)
          have hdf := Below.then heb hbhf
          have fw2 := field_word k2 n2 s2 ia2 na2 li2 ic2 nn2 nc2
          refine hK.out _ _ ?hSf5 (fun hHeldf5 => ?hRf5)
          case hSf5 => exact fun _ => (HA2.out.keep hdf).cells
          clear hK K
          replace hHeldf5 := hHeldf5 (by kernel_rfl)
          try simp only [Act.put, List.setIfInBounds_toArray, List.set_cons_zero, List.set_cons_succ]
          refine wpAnyS_free (i := 6) (oi := { dst := some 29, op := Op.field 71 (Operand.tmp 28) 2, type := 9, pos := "ref.go:87", after := #[{ on := 5, ground := Ground.data }], guard := none }) (v := ?gvf6) rfl (by kernel_rfl) (by kernel_rfl) (by kernel_rfl) (by kernel_rfl) (fun _ _ _ h => h) (Or.inl ⟨by rfl, ?gyf6⟩) (fun _ => by assumption) ?grf6
          case gyf6 => (intro w _; go_simp; try with_reducible rfl)
          try simp only [Act.put, List.setIfInBounds_toArray, List.set_cons_zero, List.set_cons_succ]
          refine wpAnyS_free (i := 7) (oi := { dst := some 30, op := Op.build 53 #[(0, Operand.tmp 26), (1, Operand.tmp 29)], type := 53, pos := "ref.go:87", after := #[{ on := 3, ground := Ground.data }, { on := 6, ground := Ground.data }], guard := none }) (v := ?gvf7) rfl (by kernel_rfl) (by kernel_rfl) (by kernel_rfl) (by kernel_rfl) (fun _ _ _ h => h) (Or.inl ⟨by rfl, ?gyf7⟩) (fun _ => by assumption) ?grf7
          case gyf7 => (intro w _; go_simp; try with_reducible rfl)
          try simp only [Act.put, List.setIfInBounds_toArray, List.set_cons_zero, List.set_cons_succ]
          have hMz := hMb.keep hbhf
          refine wpAnyS_ready (rs := [9]) (by kernel_rfl) (by simp) ?_
          refine AllReadyS.cons (o := { dst := none, op := Op.store 53 (Operand.tmp 6) (Operand.tmp 30), type := 0, pos := "ref.go:87", after := #[{ on := 8, ground := Ground.data }, { on := 7, ground := Ground.data }, { on := 5, ground := Ground.chain }, { on := 0, ground := Ground.phase }, { on := 1, ground := Ground.phase }, { on := 2, ground := Ground.phase }, { on := 3, ground := Ground.phase }, { on := 4, ground := Ground.phase }, { on := 5, ground := Ground.phase }, { on := 6, ground := Ground.phase }, { on := 7, ground := Ground.phase }, { on := 8, ground := Ground.phase }], guard := none }) rfl (fun K hK => ?cb99) AllReadyS.nil
          obtain ⟨y0, y1, y2, y3⟩ := hMz.cells
          have u0 := hMz.frozen 0
          have u1 := hMz.frozen 1
          have u2 := hMz.frozen 2
          have u3 := hMz.frozen 3
          rw [if_pos (by kernel_rfl)]
          go_simp
          refine hK.out _ _ ?hSb99 (fun hHeldb99 => ?hRb99)
          case hSb99 => exact fun h => Bool.noConfusion (show true = false from h)
          clear hK K
          clear hHeldb99
          try simp only [Act.put, List.setIfInBounds_toArray, List.set_cons_zero, List.set_cons_succ]
          refine wpAnyS_done (by kernel_rfl) ?_ _
          clear y0 y1 y2 y3 u0 u1 u2 u3
          go_wp2_with fail
          go_meet
          exact ⟨wgb.heap.size, rfl, by rw [HBQ.out, hs2]; exact ⟨set4_four hMz _ _ _ _, World.ownsRow_nil _ _ _ _, OwnS.nil _ _, hlb, below_four hdf hlb _ _ _ _⟩⟩
    case rest =>
      obtain ⟨M, rfl, hmk⟩ := hcut
      obtain ⟨bI, hbI⟩ : ∃ x, decide ((refGet T nKind).word = kIndex) = x := ⟨_, rfl⟩
      obtain ⟨cC, hcC⟩ : ∃ x, (refGet T nConfig).word = x := ⟨_, rfl⟩
      rw [hbI, hcC] at hmk
      have HBI := Lib.hid hbI
      have HCC := Lib.hid hcC
      have hcz : cC.size ≤ 200 := by rw [← hcC]; exact (HMAY.out nConfig).2.1
      have HK := Lib.hid hmk
      have G7 := Lib.hid (G.out nLayers wc hmk.below)
      obtain ⟨hil, -, -, hmay⟩ := HMAY.out nLayers
      obtain ⟨XL, hXL⟩ : ∃ x, refGet T nLayers = x := ⟨_, rfl⟩
      rw [hXL] at hil hmay G7
      have HXL := Lib.hid hXL
      have HML := Lib.hid hmay
      obtain ⟨a0, a1, a2, a3, a4⟩ := (HA2.out.keep hmk.below).cells
      clear hXL hmay hmk hbI hcC
      go_wp2_with fail
      refine G7.out.mono ?_
      rintro e w7 ⟨k7, n7, s7, ia, li, ic, na7, nn7, nc7, rfl, -, -, hli, hv7, hb7⟩
      have HK7 := Lib.hid (HK.out.keep hb7)
      have HV7 := Lib.hid (fun w' (h : Below W2.heap.size W2 w') => hv7.keep (S' := fun b => b < W2.heap.size) (w' := w') fun b hS _ => ⟨(h.block b hS).trans (HK7.out.below.block b hS).symm, hS⟩)
      have HLI := Lib.hid hli
      have hlz : li ≤ 16 := by rw [← hli]; exact hil
      have fw := field_items k7 n7 s7 ia na7 li ic nn7 nc7
      clear hv7 hli hb7 hil a0 a1 a2 a3 a4
      go_wp2_with fail
      go_loopw [35] (fun iv wr => ∃ (k : Nat) (a1 : Option Addr) (c1 : Nat), k ≤ li ∧ iv = .int .i64 k ∧ MakeR W2 M bI cC a1 k c1 none 0 0 ((XL.items.take k).map refLayer) [] wr) (fun i _ => li - (intOf i).toNat)
      case atStart => exact ⟨0, none, 0, Nat.zero_le _, rfl, HK7.out⟩
      case round =>
        obtain ⟨k, a1, c1, hk, rfl, hmk⟩ := hrel
        have HKR := Lib.hid hmk
        by_cases hlt : k < li
        · have h1 : k < XL.items.length := by rw [HLI.out]; exact hlt
          have HNX := Lib.hid (show (XL.items.take (k + 1)).map refLayer = (XL.items.take k).map refLayer ++ [refLayer XL.items[k]] by rw [List.take_succ_eq_append_getElem h1, List.map_append]; rfl)
          obtain ⟨ib, io, xk, xn, xs, xia, xli, xic, xna, xnn, xnc, rfl, hvx, g0, g1, g2, g3, g4⟩ := (HV7.out wr hmk.below).items k h1
          obtain ⟨ed, hed⟩ := HML.out _ (List.getElem_mem h1)
          obtain ⟨X, hX⟩ : ∃ X, XL.items[k] = X := ⟨_, rfl⟩
          rw [hX] at hvx hed HNX
          obtain ⟨W3, hW3⟩ : ∃ W3, wr.alloc (.cells #[.int .i64 xk, .int .i64 xn, .string xs, .slice xia xli xic, .slice xna xnn xnc] 71) = W3 := ⟨_, rfl⟩
          have hb3 : Below wr.heap.size wr W3 := by rw [← hW3]; exact below_new _ _
          have HA3 := Lib.hid (show At5 W3 wr.heap.size (.int .i64 xk) (.int .i64 xn) (.string xs) (.slice xia xli xic) (.slice xna xnn xnc) by rw [← hW3]; exact At5.new _ _ _ _ _ _)
          have hK3 := hmk.keep hb3
          have HK3 := Lib.hid hK3
          have GX := Lib.hid (fun nm w3 (h : Below W3.heap.size W3 w3) => get_t (fun b => b < W2.heap.size) X _ nm w3 (hvx.keep fun b hS hl => ⟨((Below.then hb3 h).block b hl), hS⟩) (mayV_names hed))
          have GD := Lib.hid (GX.out nDigest)
          have GS := Lib.hid (GX.out nSize)
          have HW3 := Lib.hid hW3
          obtain ⟨v0, v1, v2, v3, v4⟩ := HA3.out.cells
          obtain ⟨-, -, m2, -⟩ := hK3.at4.cells
          clear hmk hvx hed hX hb3 hK3 hW3 h1 GX
          rcases Nat.eq_zero_or_pos k with hk00 | hk0
          rotate_left
          · skip
            go_upto_region 10 with fail
            rw [HW3.out]
            have hb0 : Below W3.heap.size W3 W3.drew := (Below.refl _ _).drew
            refine wp_region_S (S := fun w' => w'.cell? ⟨M, 2, none⟩ = some (.slice a1 k c1) ∧ w'.cell? ⟨wr.heap.size, 0, none⟩ = some (.int .i64 xk) ∧ w'.cell? ⟨wr.heap.size, 1, none⟩ = some (.int .i64 xn) ∧ w'.cell? ⟨wr.heap.size, 2, none⟩ = some (.string xs) ∧ w'.cell? ⟨wr.heap.size, 3, none⟩ = some (.slice xia xli xic) ∧ w'.cell? ⟨wr.heap.size, 4, none⟩ = some (.slice xna xnn xnc)) 12 (by kernel_rfl) ?hSkk (fun hHeld => ?hRkk)
            case hSkk => exact ⟨m2, v0, v1, v2, v3, v4⟩
            refine wpAnyS_take (i := 0) (oi := { dst := some 39, op := Op.fieldAddr 53 (Operand.tmp 6) 2, type := 0, pos := "ref.go:89", after := #[], guard := none }) (v := ?gvkk0) [1, 10, 11, 12] rfl (by kernel_rfl) (by kernel_rfl) (by kernel_rfl) (by kernel_rfl) (fun _ _ _ h => h) (Or.inl ⟨by rfl, ?gykk0⟩) (by assumption) ?grkk0
            case gykk0 => (intro w hSw; (try dsimp only at hSw); go_simp; try with_reducible rfl)
            try simp only [Act.put, List.setIfInBounds_toArray, List.set_cons_zero, List.set_cons_succ]
            refine wpAnyS_take (i := 1) (oi := { dst := some 40, op := Op.load 51 (Operand.tmp 39), type := 51, pos := "ref.go:89", after := #[{ on := 0, ground := Ground.data }], guard := none }) (v := ?gvkk1) [10, 11, 12] rfl (by kernel_rfl) (by kernel_rfl) (by kernel_rfl) (by kernel_rfl) (fun _ _ _ h => h) (Or.inl ⟨by rfl, ?gykk1⟩) (by assumption) ?grkk1
            case gykk1 => (intro w hSw; (try dsimp only at hSw); go_simp; try with_reducible rfl)
            try simp only [Act.put, List.setIfInBounds_toArray, List.set_cons_zero, List.set_cons_succ]
            refine wpAnyS_take (i := 2) (oi := { dst := some 41, op := Op.load 71 (Operand.tmp 8), type := 71, pos := "ref.go:89", after := #[], guard := none }) (v := ?gvkk2) [3, 4, 6, 7, 8, 9, 10, 11, 12] rfl (by kernel_rfl) (by kernel_rfl) (by kernel_rfl) (by kernel_rfl) (fun _ _ _ h => h) (Or.inl ⟨by rfl, ?gykk2⟩) (by assumption) ?grkk2
            case gykk2 => (intro w hSw; (try dsimp only at hSw); go_simp; try with_reducible rfl)
            try simp only [Act.put, List.setIfInBounds_toArray, List.set_cons_zero, List.set_cons_succ]
            refine wpAnyS_take (i := 5) (oi := { dst := some 44, op := Op.load 71 (Operand.tmp 8), type := 71, pos := "ref.go:89", after := #[], guard := none }) (v := ?gvkk5) [6, 7, 8, 9, 10, 11, 12] rfl (by kernel_rfl) (by kernel_rfl) (by kernel_rfl) (by kernel_rfl) (fun _ _ _ h => h) (Or.inl ⟨by rfl, ?gykk5⟩) (by assumption) ?grkk5
            case gykk5 => (intro w hSw; (try dsimp only at hSw); go_simp; try with_reducible rfl)
            try simp only [Act.put, List.setIfInBounds_toArray, List.set_cons_zero, List.set_cons_succ]
            refine wpAnyS_ready (rs := [3]) (by kernel_rfl) (by simp) ?_
            refine AllReadyS.cons (o := { dst := some 42, op := Op.call { callee := Callee.value (Operand.func 37), args := #[Operand.tmp 41, Operand.const (Value.string { data := #[100, 105, 103, 101, 115, 116] })], argTypes := #[71, 9] }, type := 71, pos := "ref.go:89", after := #[{ on := 2, ground := Ground.data }], guard := none }) rfl (fun K hK => ?ckk3) AllReadyS.nil
            rw [if_pos (by kernel_rfl)]
            go_simp
            go_wp2_with (go_at_call 37; refine (GD.out W3.drew hb0).mono ?_; rintro e wg1 ⟨kD, nD, sD, iaD, liD, icD, naD, nnD, ncD, rfl, -, hsD, -, -, hbg⟩)
            have hbg1 := Below.then hb0 hbg
            have fwD := field_word kD nD sD iaD naD liD icD nnD ncD
            refine hK.out _ _ ?hSkk3 (fun hHeldkk3 => ?hRkk3)
            case hSkk3 => exact fun _ => ⟨(HK3.out.keep hbg1).at4.cells.2.2.1, (HA3.out.keep hbg1).cells⟩
            clear hK K
            replace hHeldkk3 := hHeldkk3 (by kernel_rfl)
            try simp only [Act.put, List.setIfInBounds_toArray, List.set_cons_zero, List.set_cons_succ]
            refine wpAnyS_free (i := 4) (oi := { dst := some 43, op := Op.field 71 (Operand.tmp 42) 2, type := 9, pos := "ref.go:89", after := #[{ on := 3, ground := Ground.data }], guard := none }) (v := ?gvkk4) rfl (by kernel_rfl) (by kernel_rfl) (by kernel_rfl) (by kernel_rfl) (fun _ _ _ h => h) (Or.inl ⟨by rfl, ?gykk4⟩) (fun _ => by assumption) ?grkk4
            case gykk4 => (intro w _; go_simp; try with_reducible rfl)
            try simp only [Act.put, List.setIfInBounds_toArray, List.set_cons_zero, List.set_cons_succ]
            refine wpAnyS_ready (rs := [6]) (by kernel_rfl) (by simp) ?_
            refine AllReadyS.cons (o := { dst := some 45, op := Op.call { callee := Callee.value (Operand.func 37), args := #[Operand.tmp 44, Operand.const (Value.string { data := #[115, 105, 122, 101] })], argTypes := #[71, 9] }, type := 71, pos := "ref.go:89", after := #[{ on := 5, ground := Ground.data }, { on := 3, ground := Ground.chain }], guard := none }) rfl (fun K hK => ?ckk6) AllReadyS.nil
            rw [if_pos (by kernel_rfl)]
            go_simp
            go_wp2_with (go_at_call 37; refine (GS.out wg1 hbg1).mono ?_; rintro e wg2 ⟨kZ, nZ, sZ, iaZ, liZ, icZ, naZ, nnZ, ncZ, rfl, hnZ, -, -, -, hbh⟩)
            have hbg2 := Below.then hbg1 hbh
            have fwZ := field_num kZ nZ sZ iaZ naZ liZ icZ nnZ ncZ
            refine hK.out _ _ ?hSkk6 (fun hHeldkk6 => ?hRkk6)
            case hSkk6 => exact fun _ => ⟨(HK3.out.keep hbg2).at4.cells.2.2.1, (HA3.out.keep hbg2).cells⟩
            clear hK K
            replace hHeldkk6 := hHeldkk6 (by kernel_rfl)
            try simp only [Act.put, List.setIfInBounds_toArray, List.set_cons_zero, List.set_cons_succ]
            refine wpAnyS_free (i := 7) (oi := { dst := some 46, op := Op.field 71 (Operand.tmp 45) 1, type := 3, pos := "ref.go:89", after := #[{ on := 6, ground := Ground.data }], guard := none }) (v := ?gvkk7) rfl (by kernel_rfl) (by kernel_rfl) (by kernel_rfl) (by kernel_rfl) (fun _ _ _ h => h) (Or.inl ⟨by rfl, ?gykk7⟩) (fun _ => by assumption) ?grkk7
            case gykk7 => (intro w _; go_simp; try with_reducible rfl)
            try simp only [Act.put, List.setIfInBounds_toArray, List.set_cons_zero, List.set_cons_succ]
            refine wpAnyS_free (i := 8) (oi := { dst := some 47, op := Op.build 76 #[(0, Operand.tmp 43), (1, Operand.tmp 46)], type := 76, pos := "ref.go:89", after := #[{ on := 4, ground := Ground.data }, { on := 7, ground := Ground.data }], guard := none }) (v := ?gvkk8) rfl (by kernel_rfl) (by kernel_rfl) (by kernel_rfl) (by kernel_rfl) (fun _ _ _ h => h) (Or.inl ⟨by rfl, ?gykk8⟩) (fun _ => by assumption) ?grkk8
            case gykk8 => (intro w _; go_simp; try with_reducible rfl)
            try simp only [Act.put, List.setIfInBounds_toArray, List.set_cons_zero, List.set_cons_succ]
            refine wpAnyS_ready (rs := [9]) (by kernel_rfl) (by simp) ?_
            refine AllReadyS.cons (o := { dst := some 48, op := Op.buildSlice 51 1 #[(0, Operand.tmp 47)], type := 51, pos := "ref.go:89", after := #[{ on := 8, ground := Ground.data }], guard := none }) rfl (fun K hK => ?ckk9) AllReadyS.nil
            rw [if_pos (by kernel_rfl)]
            go_simp
            obtain ⟨wS, hwS⟩ : ∃ x, wg2.alloc (.cells #[.string sD, .int .i64 nZ] 76) = x := ⟨_, rfl⟩
            try rw [hwS]
            have hbS1 := Below.then hbg2 (show Below wg2.heap.size wg2 wS by rw [← hwS]; exact below_new _ _)
            have hcS : wS.heap[wg2.heap.size]? = some (.cells #[.string sD, .int .i64 nZ] 76 (0, 0)) := by rw [← hwS]; exact heap_alloc_new wg2 _
            refine hK.out _ _ ?hSkk9 (fun hHeldkk9 => ?hRkk9)
            case hSkk9 => exact fun _ => ⟨(HK3.out.keep hbS1).at4.cells.2.2.1, (HA3.out.keep hbS1).cells⟩
            clear hK K
            replace hHeldkk9 := hHeldkk9 (by kernel_rfl)
            try simp only [Act.put, List.setIfInBounds_toArray, List.set_cons_zero, List.set_cons_succ]
            obtain ⟨i1, hi1, hy0, hy1, hy2⟩ := info_parts layerInfo
            refine wpAnyS_ready (rs := [10]) (by kernel_rfl) (by simp) ?_
            refine AllReadyS.cons (o := { dst := some 49, op := Op.call { callee := Callee.builtin Builtin.append, args := #[Operand.tmp 40, Operand.tmp 48], argTypes := #[51, 51] }, type := 51, pos := "ref.go:89", after := #[{ on := 1, ground := Ground.data }, { on := 9, ground := Ground.data }, { on := 6, ground := Ground.chain }], guard := none }) rfl (fun K hK => ?ckk10) AllReadyS.nil
            refine step_append_lies _ (by rfl) (.tmp 40) (.tmp 48) 51 (by rfl) (M + 1) 76 i1 (.agg #[.string ⟨#[]⟩, .int .i64 0]) 2 24 Tryz.underlying51 hi1 hy0 hy1 hy2 rfl (by decide) _ k _ (by rfl) (HK3.out.keep hbS1).own1 ⟨wg2.heap.size, 0, none⟩ 1 1 [.string sD, .int .i64 nZ] (by rfl) (by rfl) (World.news_of_block hcS) (fun u hu => by simp at hu; rcases hu with rfl | rfl <;> rfl) (by decide) (by unfold maxLen; omega) (by omega) (HK3.out.keep hbS1).at4.lt wS.heap.size rfl ?_
            intro gap cap wap hoap hgap hatap hltap
            have hAp := (hgap.block M (HK3.out.keep hbS1).at4.lt (fun e => by have := ((HK3.out.keep hbS1).own1.lt M e.symm).1; omega)).trans (HK3.out.keep hbS1).at4
            refine hK.out _ _ ?hSkk10 (fun hHeldkk10 => ?hRkk10)
            case hSkk10 => exact fun _ => ⟨(At4.cells hAp).2.2.1, (show At5 wap wr.heap.size _ _ _ _ _ from (hgap.block wr.heap.size (HA3.out.keep hbS1).lt (fun e => by have := own_type (HK3.out.keep hbS1).own1 e.symm (HA3.out.keep hbS1) (by decide); exact this)).trans (HA3.out.keep hbS1)).cells⟩
            clear hK K
            replace hHeldkk10 := hHeldkk10 (by kernel_rfl)
            try simp only [Act.put, List.setIfInBounds_toArray, List.set_cons_zero, List.set_cons_succ]
            refine wpAnyS_free (i := 11) (oi := { dst := some 50, op := Op.fieldAddr 53 (Operand.tmp 6) 2, type := 0, pos := "ref.go:89", after := #[{ on := 0, ground := Ground.phase }, { on := 1, ground := Ground.phase }, { on := 2, ground := Ground.phase }, { on := 3, ground := Ground.phase }, { on := 4, ground := Ground.phase }, { on := 5, ground := Ground.phase }, { on := 6, ground := Ground.phase }, { on := 7, ground := Ground.phase }, { on := 8, ground := Ground.phase }, { on := 9, ground := Ground.phase }, { on := 10, ground := Ground.phase }], guard := none }) (v := ?gvkk11) rfl (by kernel_rfl) (by kernel_rfl) (by kernel_rfl) (by kernel_rfl) (fun _ _ _ h => h) (Or.inl ⟨by rfl, ?gykk11⟩) (fun _ => by assumption) ?grkk11
            case gykk11 => (intro w _; go_simp; try with_reducible rfl)
            try simp only [Act.put, List.setIfInBounds_toArray, List.set_cons_zero, List.set_cons_succ]
            obtain ⟨p0, p1, p2, p3⟩ := At4.cells hAp
            have pf := At4.frozen hAp 2
            refine wpAnyS_ready (rs := [12]) (by kernel_rfl) (by simp) ?_
            refine AllReadyS.cons (o := { dst := none, op := Op.store 51 (Operand.tmp 50) (Operand.tmp 49), type := 0, pos := "ref.go:89", after := #[{ on := 11, ground := Ground.data }, { on := 10, ground := Ground.data }, { on := 10, ground := Ground.chain }, { on := 0, ground := Ground.phase }, { on := 1, ground := Ground.phase }, { on := 2, ground := Ground.phase }, { on := 3, ground := Ground.phase }, { on := 4, ground := Ground.phase }, { on := 5, ground := Ground.phase }, { on := 6, ground := Ground.phase }, { on := 7, ground := Ground.phase }, { on := 8, ground := Ground.phase }, { on := 9, ground := Ground.phase }, { on := 10, ground := Ground.phase }], guard := none }) rfl (fun K hK => ?ckk12) AllReadyS.nil
            rw [if_pos (by kernel_rfl)]
            go_simp
            refine hK.out _ _ ?hSkk12 (fun hHeldkk12 => ?hRkk12)
            case hSkk12 => exact fun h => Bool.noConfusion (show true = false from h)
            clear hK K
            clear hHeldkk12
            try simp only [Act.put, List.setIfInBounds_toArray, List.set_cons_zero, List.set_cons_succ]
            refine wpAnyS_done (by kernel_rfl) ?_ _
            clear p0 p1 p2 p3 pf hAp hcS hwS hbg hbh hbg1 hbg2 hHeld hHeldkk3 hHeldkk6 hHeldkk9 hHeldkk10
            obtain ⟨w9, hw9⟩ : ∃ x, wap.setCell ⟨M, 2, none⟩ (.slice (some ⟨gap, 0, none⟩) (k + 1) cap) = x := ⟨_, rfl⟩
            have hlay := ((HK3.out.keep hbS1)).lay (x := sD) (n := nZ) hoap hgap
            rw [hw9] at hlay ⊢
            have HLAY := Lib.hid (show MakeR W2 M bI cC (some ⟨gap, 0, none⟩) (k + 1) cap none 0 0 ((XL.items.take (k + 1)).map refLayer) [] w9 by
              rw [HNX.out]
              have e : refLayer X = (sD, nZ) := by unfold refLayer; rw [hsD, hnZ]
              rw [e]; exact hlay)
            clear hw9 hlay hoap hgap hsD hnZ hbS1 hltap hatap
            go_wp2_with fail
            go_roundw
            case rel => exact ⟨k + 1, _, _, by omega, by go_num, HLAY.out⟩
            case measure => simp [intOf]; omega
          · subst hk00
            have g0' : wr.cell? ⟨ib, io, none⟩ = some (.int .i64 xk) := by simpa using g0
            have g1' : wr.cell? ⟨ib, io + 1, none⟩ = some (.int .i64 xn) := by simpa using g1
            have g2' : wr.cell? ⟨ib, io + 2, none⟩ = some (.string xs) := by simpa using g2
            have g3' : wr.cell? ⟨ib, io + 3, none⟩ = some (.slice xia xli xic) := by simpa using g3
            have g4' : wr.cell? ⟨ib, io + 4, none⟩ = some (.slice xna xnn xnc) := by simpa using g4
            go_upto_region 10 with fail
            rw [HW3.out]
            have hb0 : Below W3.heap.size W3 W3.drew := (Below.refl _ _).drew
            refine wp_region_S (S := fun w' => w'.cell? ⟨M, 2, none⟩ = some (.slice a1 0 c1) ∧ w'.cell? ⟨wr.heap.size, 0, none⟩ = some (.int .i64 xk) ∧ w'.cell? ⟨wr.heap.size, 1, none⟩ = some (.int .i64 xn) ∧ w'.cell? ⟨wr.heap.size, 2, none⟩ = some (.string xs) ∧ w'.cell? ⟨wr.heap.size, 3, none⟩ = some (.slice xia xli xic) ∧ w'.cell? ⟨wr.heap.size, 4, none⟩ = some (.slice xna xnn xnc)) 12 (by kernel_rfl) ?hSzz (fun hHeld => ?hRzz)
            case hSzz => exact ⟨m2, v0, v1, v2, v3, v4⟩
            refine wpAnyS_take (i := 0) (oi := { dst := some 39, op := Op.fieldAddr 53 (Operand.tmp 6) 2, type := 0, pos := "ref.go:89", after := #[], guard := none }) (v := ?gvzz0) [1, 10, 11, 12] rfl (by kernel_rfl) (by kernel_rfl) (by kernel_rfl) (by kernel_rfl) (fun _ _ _ h => h) (Or.inl ⟨by rfl, ?gyzz0⟩) (by assumption) ?grzz0
            case gyzz0 => (intro w hSw; (try dsimp only at hSw); go_simp; try with_reducible rfl)
            try simp only [Act.put, List.setIfInBounds_toArray, List.set_cons_zero, List.set_cons_succ]
            refine wpAnyS_take (i := 1) (oi := { dst := some 40, op := Op.load 51 (Operand.tmp 39), type := 51, pos := "ref.go:89", after := #[{ on := 0, ground := Ground.data }], guard := none }) (v := ?gvzz1) [10, 11, 12] rfl (by kernel_rfl) (by kernel_rfl) (by kernel_rfl) (by kernel_rfl) (fun _ _ _ h => h) (Or.inl ⟨by rfl, ?gyzz1⟩) (by assumption) ?grzz1
            case gyzz1 => (intro w hSw; (try dsimp only at hSw); go_simp; try with_reducible rfl)
            try simp only [Act.put, List.setIfInBounds_toArray, List.set_cons_zero, List.set_cons_succ]
            refine wpAnyS_take (i := 2) (oi := { dst := some 41, op := Op.load 71 (Operand.tmp 8), type := 71, pos := "ref.go:89", after := #[], guard := none }) (v := ?gvzz2) [3, 4, 6, 7, 8, 9, 10, 11, 12] rfl (by kernel_rfl) (by kernel_rfl) (by kernel_rfl) (by kernel_rfl) (fun _ _ _ h => h) (Or.inl ⟨by rfl, ?gyzz2⟩) (by assumption) ?grzz2
            case gyzz2 => (intro w hSw; (try dsimp only at hSw); go_simp; try with_reducible rfl)
            try simp only [Act.put, List.setIfInBounds_toArray, List.set_cons_zero, List.set_cons_succ]
            refine wpAnyS_take (i := 5) (oi := { dst := some 44, op := Op.load 71 (Operand.tmp 8), type := 71, pos := "ref.go:89", after := #[], guard := none }) (v := ?gvzz5) [6, 7, 8, 9, 10, 11, 12] rfl (by kernel_rfl) (by kernel_rfl) (by kernel_rfl) (by kernel_rfl) (fun _ _ _ h => h) (Or.inl ⟨by rfl, ?gyzz5⟩) (by assumption) ?grzz5
            case gyzz5 => (intro w hSw; (try dsimp only at hSw); go_simp; try with_reducible rfl)
            try simp only [Act.put, List.setIfInBounds_toArray, List.set_cons_zero, List.set_cons_succ]
            refine wpAnyS_ready (rs := [3]) (by kernel_rfl) (by simp) ?_
            refine AllReadyS.cons (o := { dst := some 42, op := Op.call { callee := Callee.value (Operand.func 37), args := #[Operand.tmp 41, Operand.const (Value.string { data := #[100, 105, 103, 101, 115, 116] })], argTypes := #[71, 9] }, type := 71, pos := "ref.go:89", after := #[{ on := 2, ground := Ground.data }], guard := none }) rfl (fun K hK => ?czz3) AllReadyS.nil
            rw [if_pos (by kernel_rfl)]
            go_simp
            go_wp2_with (go_at_call 37; refine (GD.out W3.drew hb0).mono ?_; rintro e wg1 ⟨kD, nD, sD, iaD, liD, icD, naD, nnD, ncD, rfl, -, hsD, -, -, hbg⟩)
            have hbg1 := Below.then hb0 hbg
            have fwD := field_word kD nD sD iaD naD liD icD nnD ncD
            refine hK.out _ _ ?hSzz3 (fun hHeldzz3 => ?hRzz3)
            case hSzz3 => exact fun _ => ⟨(HK3.out.keep hbg1).at4.cells.2.2.1, (HA3.out.keep hbg1).cells⟩
            clear hK K
            replace hHeldzz3 := hHeldzz3 (by kernel_rfl)
            try simp only [Act.put, List.setIfInBounds_toArray, List.set_cons_zero, List.set_cons_succ]
            refine wpAnyS_free (i := 4) (oi := { dst := some 43, op := Op.field 71 (Operand.tmp 42) 2, type := 9, pos := "ref.go:89", after := #[{ on := 3, ground := Ground.data }], guard := none }) (v := ?gvzz4) rfl (by kernel_rfl) (by kernel_rfl) (by kernel_rfl) (by kernel_rfl) (fun _ _ _ h => h) (Or.inl ⟨by rfl, ?gyzz4⟩) (fun _ => by assumption) ?grzz4
            case gyzz4 => (intro w _; go_simp; try with_reducible rfl)
            try simp only [Act.put, List.setIfInBounds_toArray, List.set_cons_zero, List.set_cons_succ]
            refine wpAnyS_ready (rs := [6]) (by kernel_rfl) (by simp) ?_
            refine AllReadyS.cons (o := { dst := some 45, op := Op.call { callee := Callee.value (Operand.func 37), args := #[Operand.tmp 44, Operand.const (Value.string { data := #[115, 105, 122, 101] })], argTypes := #[71, 9] }, type := 71, pos := "ref.go:89", after := #[{ on := 5, ground := Ground.data }, { on := 3, ground := Ground.chain }], guard := none }) rfl (fun K hK => ?czz6) AllReadyS.nil
            rw [if_pos (by kernel_rfl)]
            go_simp
            go_wp2_with (go_at_call 37; refine (GS.out wg1 hbg1).mono ?_; rintro e wg2 ⟨kZ, nZ, sZ, iaZ, liZ, icZ, naZ, nnZ, ncZ, rfl, hnZ, -, -, -, hbh⟩)
            have hbg2 := Below.then hbg1 hbh
            have fwZ := field_num kZ nZ sZ iaZ naZ liZ icZ nnZ ncZ
            refine hK.out _ _ ?hSzz6 (fun hHeldzz6 => ?hRzz6)
            case hSzz6 => exact fun _ => ⟨(HK3.out.keep hbg2).at4.cells.2.2.1, (HA3.out.keep hbg2).cells⟩
            clear hK K
            replace hHeldzz6 := hHeldzz6 (by kernel_rfl)
            try simp only [Act.put, List.setIfInBounds_toArray, List.set_cons_zero, List.set_cons_succ]
            refine wpAnyS_free (i := 7) (oi := { dst := some 46, op := Op.field 71 (Operand.tmp 45) 1, type := 3, pos := "ref.go:89", after := #[{ on := 6, ground := Ground.data }], guard := none }) (v := ?gvzz7) rfl (by kernel_rfl) (by kernel_rfl) (by kernel_rfl) (by kernel_rfl) (fun _ _ _ h => h) (Or.inl ⟨by rfl, ?gyzz7⟩) (fun _ => by assumption) ?grzz7
            case gyzz7 => (intro w _; go_simp; try with_reducible rfl)
            try simp only [Act.put, List.setIfInBounds_toArray, List.set_cons_zero, List.set_cons_succ]
            refine wpAnyS_free (i := 8) (oi := { dst := some 47, op := Op.build 76 #[(0, Operand.tmp 43), (1, Operand.tmp 46)], type := 76, pos := "ref.go:89", after := #[{ on := 4, ground := Ground.data }, { on := 7, ground := Ground.data }], guard := none }) (v := ?gvzz8) rfl (by kernel_rfl) (by kernel_rfl) (by kernel_rfl) (by kernel_rfl) (fun _ _ _ h => h) (Or.inl ⟨by rfl, ?gyzz8⟩) (fun _ => by assumption) ?grzz8
            case gyzz8 => (intro w _; go_simp; try with_reducible rfl)
            try simp only [Act.put, List.setIfInBounds_toArray, List.set_cons_zero, List.set_cons_succ]
            refine wpAnyS_ready (rs := [9]) (by kernel_rfl) (by simp) ?_
            refine AllReadyS.cons (o := { dst := some 48, op := Op.buildSlice 51 1 #[(0, Operand.tmp 47)], type := 51, pos := "ref.go:89", after := #[{ on := 8, ground := Ground.data }], guard := none }) rfl (fun K hK => ?czz9) AllReadyS.nil
            rw [if_pos (by kernel_rfl)]
            go_simp
            obtain ⟨wS, hwS⟩ : ∃ x, wg2.alloc (.cells #[.string sD, .int .i64 nZ] 76) = x := ⟨_, rfl⟩
            try rw [hwS]
            have hbS1 := Below.then hbg2 (show Below wg2.heap.size wg2 wS by rw [← hwS]; exact below_new _ _)
            have hcS : wS.heap[wg2.heap.size]? = some (.cells #[.string sD, .int .i64 nZ] 76 (0, 0)) := by rw [← hwS]; exact heap_alloc_new wg2 _
            refine hK.out _ _ ?hSzz9 (fun hHeldzz9 => ?hRzz9)
            case hSzz9 => exact fun _ => ⟨(HK3.out.keep hbS1).at4.cells.2.2.1, (HA3.out.keep hbS1).cells⟩
            clear hK K
            replace hHeldzz9 := hHeldzz9 (by kernel_rfl)
            try simp only [Act.put, List.setIfInBounds_toArray, List.set_cons_zero, List.set_cons_succ]
            obtain ⟨i1, hi1, hy0, hy1, hy2⟩ := info_parts layerInfo
            refine wpAnyS_ready (rs := [10]) (by kernel_rfl) (by simp) ?_
            refine AllReadyS.cons (o := { dst := some 49, op := Op.call { callee := Callee.builtin Builtin.append, args := #[Operand.tmp 40, Operand.tmp 48], argTypes := #[51, 51] }, type := 51, pos := "ref.go:89", after := #[{ on := 1, ground := Ground.data }, { on := 9, ground := Ground.data }, { on := 6, ground := Ground.chain }], guard := none }) rfl (fun K hK => ?czz10) AllReadyS.nil
            refine step_append_lies _ (by rfl) (.tmp 40) (.tmp 48) 51 (by rfl) (M + 1) 76 i1 (.agg #[.string ⟨#[]⟩, .int .i64 0]) 2 24 Tryz.underlying51 hi1 hy0 hy1 hy2 rfl (by decide) _ 0 _ (by rfl) (HK3.out.keep hbS1).own1 ⟨wg2.heap.size, 0, none⟩ 1 1 [.string sD, .int .i64 nZ] (by rfl) (by rfl) (World.news_of_block hcS) (fun u hu => by simp at hu; rcases hu with rfl | rfl <;> rfl) (by decide) (by unfold maxLen; omega) (by omega) (HK3.out.keep hbS1).at4.lt wS.heap.size rfl ?_
            intro gap cap wap hoap hgap hatap hltap
            have hAp := (hgap.block M (HK3.out.keep hbS1).at4.lt (fun e => by have := ((HK3.out.keep hbS1).own1.lt M e.symm).1; omega)).trans (HK3.out.keep hbS1).at4
            refine hK.out _ _ ?hSzz10 (fun hHeldzz10 => ?hRzz10)
            case hSzz10 => exact fun _ => ⟨(At4.cells hAp).2.2.1, (show At5 wap wr.heap.size _ _ _ _ _ from (hgap.block wr.heap.size (HA3.out.keep hbS1).lt (fun e => by have := own_type (HK3.out.keep hbS1).own1 e.symm (HA3.out.keep hbS1) (by decide); exact this)).trans (HA3.out.keep hbS1)).cells⟩
            clear hK K
            replace hHeldzz10 := hHeldzz10 (by kernel_rfl)
            try simp only [Act.put, List.setIfInBounds_toArray, List.set_cons_zero, List.set_cons_succ]
            refine wpAnyS_free (i := 11) (oi := { dst := some 50, op := Op.fieldAddr 53 (Operand.tmp 6) 2, type := 0, pos := "ref.go:89", after := #[{ on := 0, ground := Ground.phase }, { on := 1, ground := Ground.phase }, { on := 2, ground := Ground.phase }, { on := 3, ground := Ground.phase }, { on := 4, ground := Ground.phase }, { on := 5, ground := Ground.phase }, { on := 6, ground := Ground.phase }, { on := 7, ground := Ground.phase }, { on := 8, ground := Ground.phase }, { on := 9, ground := Ground.phase }, { on := 10, ground := Ground.phase }], guard := none }) (v := ?gvzz11) rfl (by kernel_rfl) (by kernel_rfl) (by kernel_rfl) (by kernel_rfl) (fun _ _ _ h => h) (Or.inl ⟨by rfl, ?gyzz11⟩) (fun _ => by assumption) ?grzz11
            case gyzz11 => (intro w _; go_simp; try with_reducible rfl)
            try simp only [Act.put, List.setIfInBounds_toArray, List.set_cons_zero, List.set_cons_succ]
            obtain ⟨p0, p1, p2, p3⟩ := At4.cells hAp
            have pf := At4.frozen hAp 2
            refine wpAnyS_ready (rs := [12]) (by kernel_rfl) (by simp) ?_
            refine AllReadyS.cons (o := { dst := none, op := Op.store 51 (Operand.tmp 50) (Operand.tmp 49), type := 0, pos := "ref.go:89", after := #[{ on := 11, ground := Ground.data }, { on := 10, ground := Ground.data }, { on := 10, ground := Ground.chain }, { on := 0, ground := Ground.phase }, { on := 1, ground := Ground.phase }, { on := 2, ground := Ground.phase }, { on := 3, ground := Ground.phase }, { on := 4, ground := Ground.phase }, { on := 5, ground := Ground.phase }, { on := 6, ground := Ground.phase }, { on := 7, ground := Ground.phase }, { on := 8, ground := Ground.phase }, { on := 9, ground := Ground.phase }, { on := 10, ground := Ground.phase }], guard := none }) rfl (fun K hK => ?czz12) AllReadyS.nil
            rw [if_pos (by kernel_rfl)]
            go_simp
            refine hK.out _ _ ?hSzz12 (fun hHeldzz12 => ?hRzz12)
            case hSzz12 => exact fun h => Bool.noConfusion (show true = false from h)
            clear hK K
            clear hHeldzz12
            try simp only [Act.put, List.setIfInBounds_toArray, List.set_cons_zero, List.set_cons_succ]
            refine wpAnyS_done (by kernel_rfl) ?_ _
            clear p0 p1 p2 p3 pf hAp hcS hwS hbg hbh hbg1 hbg2 hHeld hHeldzz3 hHeldzz6 hHeldzz9 hHeldzz10
            obtain ⟨w9, hw9⟩ : ∃ x, wap.setCell ⟨M, 2, none⟩ (.slice (some ⟨gap, 0, none⟩) (0 + 1) cap) = x := ⟨_, rfl⟩
            have hlay := ((HK3.out.keep hbS1)).lay (x := sD) (n := nZ) hoap hgap
            rw [hw9] at hlay
            have HW9 := Lib.hid hw9
            have HLAY := Lib.hid (show MakeR W2 M bI cC (some ⟨gap, 0, none⟩) (0 + 1) cap none 0 0 ((XL.items.take (0 + 1)).map refLayer) [] w9 by
              rw [HNX.out]
              have e : refLayer X = (sD, nZ) := by unfold refLayer; rw [hsD, hnZ]
              rw [e]; exact hlay)
            rw [show wap.setCell ⟨M, 2, none⟩ (.slice (some ⟨gap, 0, none⟩) 1 cap) = w9 from HW9.out]
            clear hw9 hlay hoap hgap hsD hnZ hbS1 hltap hatap
            go_wp2_with fail
            go_roundw
            case rel => exact ⟨1, _, _, by omega, by go_num, HLAY.out⟩
            case measure => simp [intOf]; omega
        · have HKL := Lib.hid (show MakeR W2 M bI cC a1 k c1 none 0 0 (XL.items.map refLayer) [] wr by
            rw [List.take_of_length_le (by rw [HLI.out]; omega)] at hmk
            exact hmk)
          have HLL := Lib.hid (show (XL.items.map refLayer).length = k by rw [List.length_map, HLI.out]; omega)
          obtain ⟨wo, rfl⟩ : ∃ wo : World, wo = wr := ⟨_, rfl⟩
          have G8 := Lib.hid (G.out nKids wo hmk.below)
          obtain ⟨hil, -, -, hmay⟩ := HMAY.out nKids
          obtain ⟨XK, hXK⟩ : ∃ x, refGet T nKids = x := ⟨_, rfl⟩
          rw [hXK] at hil hmay G8
          have HXK := Lib.hid hXK
          have HMK := Lib.hid hmay
          obtain ⟨a0, a1', a2, a3, a4⟩ := (HA2.out.keep hmk.below).cells
          clear hXK hmay hmk fw
          go_wp2_with fail
          refine G8.out.mono ?_
          rintro e w8 ⟨k8, n8, s8, ja, lj, jc, na8, nn8, nc8, rfl, -, -, hlj, hv8, hb8⟩
          have HK8 := Lib.hid (HKL.out.keep hb8)
          have HV8 := Lib.hid (fun w' (h : Below W2.heap.size W2 w') => hv8.keep (S' := fun b => b < W2.heap.size) (w' := w') fun b hS _ => ⟨(h.block b hS).trans (HK8.out.below.block b hS).symm, hS⟩)
          have HLJ := Lib.hid hlj
          have hljz : lj ≤ 16 := by rw [← hlj]; exact hil
          have fw := field_items k8 n8 s8 ja na8 lj jc nn8 nc8
          clear hv8 hlj hb8 hil a0 a1' a2 a3 a4
          go_wp2_with fail
          go_loopw [56] (fun iv wr => ∃ (j : Nat) (a2 : Option Addr) (c2 : Nat), j ≤ lj ∧ iv = .int .i64 j ∧ MakeR W2 M bI cC a1 k c1 a2 j c2 (XL.items.map refLayer) ((XK.items.take j).map Val.word) wr) (fun i _ => lj - (intOf i).toNat)
          case atStart => exact ⟨0, none, 0, Nat.zero_le _, rfl, HK8.out⟩
          case round =>
            obtain ⟨j, a2, c2, hj, rfl, hmk⟩ := hrel
            have HKR := Lib.hid hmk
            by_cases hlt : j < lj
            · have h1 : j < XK.items.length := by rw [HLJ.out]; exact hlt
              have HNX := Lib.hid (show (XK.items.take (j + 1)).map Val.word = (XK.items.take j).map Val.word ++ [XK.items[j].word] by rw [List.take_succ_eq_append_getElem h1, List.map_append]; rfl)
              obtain ⟨ib, io, xk, xn, xs, xia, xli, xic, xna, xnn, xnc, rfl, hvx, g0, g1, g2, g3, g4⟩ := (HV8.out wr hmk.below).items j h1
              obtain ⟨X, hX⟩ : ∃ X, XK.items[j] = X := ⟨_, rfl⟩
              rw [hX] at hvx HNX
              have hxw : X.word = xs := by
                obtain ⟨_, _, _, _, _, _, _, _, _, e, -, e2, -⟩ := hvx.parts6
                simp only [Value.agg.injEq, Array.mk.injEq, List.cons.injEq, Value.string.injEq, and_true] at e
                rw [e2, ← e.2.2.1]
              rw [hxw] at HNX
              obtain ⟨W3, hW3⟩ : ∃ W3, wr.alloc (.cells #[.int .i64 xk, .int .i64 xn, .string xs, .slice xia xli xic, .slice xna xnn xnc] 71) = W3 := ⟨_, rfl⟩
              have hb3 : Below wr.heap.size wr W3 := by rw [← hW3]; exact below_new _ _
              have HA3 := Lib.hid (show At5 W3 wr.heap.size (.int .i64 xk) (.int .i64 xn) (.string xs) (.slice xia xli xic) (.slice xna xnn xnc) by rw [← hW3]; exact At5.new _ _ _ _ _ _)
              have hK3 := hmk.keep hb3
              obtain ⟨W4, hW4⟩ : ∃ W4, W3.alloc (.cells #[.string xs] 9) = W4 := ⟨_, rfl⟩
              have hb4 : Below W3.heap.size W3 W4 := by rw [← hW4]; exact below_new _ _
              have hK4 := hK3.keep hb4
              have HK4 := Lib.hid hK4
              have HC4 := Lib.hid (show W4.heap[W3.heap.size]? = some (.cells #[.string xs] 9 (0, 0)) by rw [← hW4]; exact heap_alloc_new W3 _)
              have hM4 : M + 1 ≤ W4.heap.size := hK4.at4.lt
              have HW3 := Lib.hid hW3
              have HW4 := Lib.hid hW4
              obtain ⟨v0, v1, v2, v3, v4⟩ := HA3.out.cells
              obtain ⟨-, -, -, m3⟩ := hK3.at4.cells
              clear hmk hvx hX hxw hb3 hb4 hK3 hK4 hW3 hW4 h1
              rcases Nat.eq_zero_or_pos j with rfl | hj0
              · skip
                have g0' : wr.cell? ⟨ib, io, none⟩ = some (.int .i64 xk) := by simpa using g0
                have g1' : wr.cell? ⟨ib, io + 1, none⟩ = some (.int .i64 xn) := by simpa using g1
                have g2' : wr.cell? ⟨ib, io + 2, none⟩ = some (.string xs) := by simpa using g2
                have g3' : wr.cell? ⟨ib, io + 3, none⟩ = some (.slice xia xli xic) := by simpa using g3
                have g4' : wr.cell? ⟨ib, io + 4, none⟩ = some (.slice xna xnn xnc) := by simpa using g4
                go_upto_region 15 with fail
                rw [HW3.out]
                go_wp2_with (at_builtin; try rw [HW4.out]; refine wpList_push _ rfl _ _ rfl (M + 1) _ 0 _ rfl HK4.out.own2 xs W3.heap.size rfl HC4.out (by omega) hM4 _ rfl ?_; intro gap cap wap hoap hgap _ _; have hAp := (hgap.block M HK4.out.at4.lt (fun e => by have := (HK4.out.own2.own.lt M e.symm).1; omega)).trans HK4.out.at4; obtain ⟨p0, p1, p2, p3⟩ := At4.cells hAp; have pf := At4.frozen hAp 3)
                have hkid := HK4.out.kid hoap hgap
                obtain ⟨w9, hw9⟩ : ∃ x, wap.setCell ⟨M, 3, none⟩ (.slice (some ⟨gap, 0, none⟩) (0 + 1) cap) = x := ⟨_, rfl⟩
                rw [hw9] at hkid
                have HW9 := Lib.hid hw9
                have HKID := Lib.hid (show MakeR W2 M bI cC a1 k c1 (some ⟨gap, 0, none⟩) (0 + 1) cap (XL.items.map refLayer) ((XK.items.take (0 + 1)).map Val.word) w9 by rw [HNX.out]; exact hkid)
                clear hkid hw9 hoap hgap hAp
                go_upto_region 16 with fail
                rw [show wap.setCell ⟨M, 3, none⟩ (.slice (some ⟨gap, 0, none⟩) 1 cap) = w9 from HW9.out]
                clear p0 p1 p2 p3 pf
                go_wp2_with fail
                go_roundw
                case rel => exact ⟨1, _, _, by omega, by go_num, HKID.out⟩
                case measure => simp [intOf]; omega
              · skip
                go_upto_region 15 with fail
                rw [HW3.out]
                go_wp2_with (at_builtin; try rw [HW4.out]; refine wpList_push _ rfl _ _ rfl (M + 1) _ j _ rfl HK4.out.own2 xs W3.heap.size rfl HC4.out (by omega) hM4 _ rfl ?_; intro gap cap wap hoap hgap _ _; have hAp := (hgap.block M HK4.out.at4.lt (fun e => by have := (HK4.out.own2.own.lt M e.symm).1; omega)).trans HK4.out.at4; obtain ⟨p0, p1, p2, p3⟩ := At4.cells hAp; have pf := At4.frozen hAp 3)
                have hkid := HK4.out.kid hoap hgap
                obtain ⟨w9, hw9⟩ : ∃ x, wap.setCell ⟨M, 3, none⟩ (.slice (some ⟨gap, 0, none⟩) (j + 1) cap) = x := ⟨_, rfl⟩
                rw [hw9] at hkid
                have HW9 := Lib.hid hw9
                have HKID := Lib.hid (show MakeR W2 M bI cC a1 k c1 (some ⟨gap, 0, none⟩) (j + 1) cap (XL.items.map refLayer) ((XK.items.take (j + 1)).map Val.word) w9 by rw [HNX.out]; exact hkid)
                clear hkid hw9 hoap hgap hAp
                go_upto_region 16 with fail
                rw [show wap.setCell ⟨M, 3, none⟩ (.slice (some ⟨gap, 0, none⟩) (j + 1) cap) = w9 from HW9.out]
                clear p0 p1 p2 p3 pf
                go_wp2_with fail
                go_roundw
                case rel => exact ⟨(j + 1), _, _, by omega, by go_num, HKID.out⟩
                case measure => simp [intOf]; omega
            · have HKF := Lib.hid (show MakeR W2 M bI cC a1 k c1 a2 j c2 (XL.items.map refLayer) (XK.items.map Val.word) wr by
                rw [List.take_of_length_le (by rw [HLJ.out]; omega)] at hmk
                exact hmk)
              obtain ⟨wf, rfl⟩ : ∃ wf : World, wf = wr := ⟨_, rfl⟩
              have HM := Lib.hid (show refM T = ⟨bI, cC, XL.items.map refLayer, XK.items.map Val.word⟩ by rw [refM_eq, HBI.out, HCC.out, HXL.out, HXK.out])
              have HMAN := Lib.hid (HKF.out.man HLL.out (Nat.le_trans hcz (by decide)) (fun l hl => by
                obtain ⟨X, hX, rfl⟩ := List.mem_map.1 hl
                obtain ⟨e, he⟩ := HML.out X hX
                exact ⟨Nat.le_trans (refGet_may he nDigest).2.1 (by decide), by have := (refGet_may he nSize).2.2.1.1; show -9223372036854775808 ≤ (refGet X nSize).num; omega, by have := (refGet_may he nSize).2.2.1.2; show (refGet X nSize).num ≤ 9223372036854775807; omega⟩) (fun x hx => by
                obtain ⟨X, hX, rfl⟩ := List.mem_map.1 hx
                obtain ⟨e, he⟩ := HMK.out X hX
                exact Nat.le_trans (mayV_items he).2.1 (by decide)))
              rw [← HM.out] at HMAN
              obtain ⟨m', hm'⟩ : ∃ x, refM T = x := ⟨_, rfl⟩
              rw [hm'] at HMAN HPE2
              have hman := HMAN.out wf fun _ _ _ => rfl
              have R9 := Lib.hid (refRight_t m' _ wf hman)
              obtain ⟨r, hr⟩ : ∃ r, rightM m' = r := ⟨_, rfl⟩
              rw [hr] at R9
              have HR := Lib.hid hr
              obtain ⟨p0, p1, p2, p3⟩ := hmk.at4.cells
              have HWB := Lib.hid (show ∀ w', Below wf.heap.size wf w' → Below w.heap.size w w' from fun w' h => Below.then (Below.then HB2.out hmk.below) h)
              have HZF := Lib.hid (HZ2.out.keep hmk.below)
              clear hmk hm' hman hr fw
              go_wp2_with fail
              refine R9.out.mono ?_
              rintro e w9 ⟨rfl, hb9⟩
              have HB9 := Lib.hid hb9
              have HZ9 := Lib.hid (HZF.out.keep hb9)
              have HK9 := Lib.hid (HKF.out.keep hb9)
              clear p0 p1 p2 p3
              cases r with
              | false =>
                have HO := Lib.hid (show parseM s = (noMan, 8) by rw [HPE2.out, if_neg]; rintro ⟨h, -⟩; rw [HR.out] at h; cases h)
                obtain ⟨z0, z1, z2, z3⟩ := HZ9.out.cells
                have f0 := HZ9.out.frozen 0
                have f1 := HZ9.out.frozen 1
                have f2 := HZ9.out.frozen 2
                have f3 := HZ9.out.frozen 3
                clear hb9
                go_wp2_with fail
                refine bodyPost_ret (results_two (p := 2) (u := 3) rfl _ _ w.heap.size 53 _ (0, 0) _ rfl (set4_four HZ9.out _ _ _ _) Tryz.underlying53 rfl manSize) rfl ?_
                exact ParseMEnds.none HO.out (below_four (HWB.out _ HB9.out) (Nat.le_refl _) _ _ _ _)
              | true =>
                have hman9 := HMAN.out w9 fun b _ hl => hb9.block b hl
                have T9 := Lib.hid (refText_t m' _ w9 ((HE.out.below (HWB.out _ hb9)).t).toTLow hman9 HR.out)
                obtain ⟨p0, p1, p2, p3⟩ := HK9.out.at4.cells
                obtain ⟨t, ht⟩ : ∃ t : ByteArray, (⟨(textM m').toArray⟩ : ByteArray) = t := ⟨_, rfl⟩
                rw [ht] at T9
                have HT := Lib.hid (show (textM m' = s.data.toList) ↔ t = s by
                  rw [← ht]
                  constructor
                  · intro e; rw [e]
                  · intro e; rw [← e])
                clear hb9 ht hman9
                by_cases hts : t = s
                · subst hts
                  have q : (t.toList == t.toList) = true := by simp
                  have HO := Lib.hid (show parseM t = (m', 0) by rw [HPE2.out, if_pos ⟨HR.out, HT.out.2 rfl⟩])
                  go_wp2_with fail
                  refine T9.out.mono ?_
                  rintro e w10 ⟨rfl, hb10⟩
                  have HZ10 := Lib.hid (HZ9.out.keep hb10)
                  have HB10 := Lib.hid (Below.then HB9.out hb10)
                  obtain ⟨z0, z1, z2, z3⟩ := HZ10.out.cells
                  have f0 := HZ10.out.frozen 0
                  have f1 := HZ10.out.frozen 1
                  have f2 := HZ10.out.frozen 2
                  have f3 := HZ10.out.frozen 3
                  obtain ⟨y0, y1, y2, y3⟩ := (HK9.out.keep hb10).at4.cells
                  clear p0 p1 p2 p3 hb10
                  go_wp2_with fail
                  refine bodyPost_ret (results_two (p := 2) (u := 3) rfl _ _ w.heap.size 53 _ (0, 0) _ rfl (set4_four HZ10.out _ _ _ _) Tryz.underlying53 rfl manSize) rfl ?_
                  refine ⟨_, by rw [HO.out]; rfl, below_four (HWB.out _ HB10.out) (Nat.le_refl _) _ _ _ _, fun w'' hfar => ?_⟩
                  rw [HO.out]
                  refine HMAN.out w'' fun b h1 h2 => ?_
                  have hl1 := HKF.out.low
                  have hl2 := HWW.out
                  have hl3 := HB10.out.size
                  have e4 := set4_block w10 w.heap.size (.bool bI) (.string cC) (.slice a1 k c1) (.slice a2 j c2) b (by omega)
                  have e5 := set4_size w10 w.heap.size (.bool bI) (.string cC) (.slice a1 k c1) (.slice a2 j c2)
                  exact (hfar b (by omega) (Nat.lt_of_lt_of_eq (by omega) e5.symm)).trans (e4.trans (HB10.out.block b h2))
                · have q : (t.toList == s.toList) = false := by rw [beqB]; exact decide_eq_false hts
                  have HO := Lib.hid (show parseM s = (noMan, 8) by rw [HPE2.out, if_neg]; rintro ⟨-, h⟩; exact hts (HT.out.1 h))
                  clear hts
                  go_wp2_with fail
                  refine T9.out.mono ?_
                  rintro e w10 ⟨rfl, hb10⟩
                  have HZ10 := Lib.hid (HZ9.out.keep hb10)
                  have HB10 := Lib.hid (Below.then HB9.out hb10)
                  obtain ⟨z0, z1, z2, z3⟩ := HZ10.out.cells
                  have f0 := HZ10.out.frozen 0
                  have f1 := HZ10.out.frozen 1
                  have f2 := HZ10.out.frozen 2
                  have f3 := HZ10.out.frozen 3
                  clear p0 p1 p2 p3 hb10
                  go_wp2_with fail
                  refine bodyPost_ret (results_two (p := 2) (u := 3) rfl _ _ w.heap.size 53 _ (0, 0) _ rfl (set4_four HZ10.out _ _ _ _) Tryz.underlying53 rfl manSize) rfl ?_
                  exact ParseMEnds.none HO.out (below_four (HWB.out _ HB10.out) (Nat.le_refl _) _ _ _ _)
end Go.Proofs.YtepcaglekgeamaaGreatDoor
