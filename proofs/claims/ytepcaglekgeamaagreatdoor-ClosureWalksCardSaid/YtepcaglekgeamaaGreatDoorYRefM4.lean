/-
  The document's own 'get' of a member, by a contract. Conditions: what comes in reads as a tree with an item for each name.
-/
import Derived.Test.YtepcaglekgeamaaGreatDoorYMan4
namespace Go.Proofs.YtepcaglekgeamaaGreatDoor
open Go.RowKit

theorem firstIdx_is (l : List ByteArray) (x : ByteArray) (k : Nat) (h : k < l.length) (e : l[k] = x) (hl : ∀ (j : Nat) (hj : j < l.length), j < k → l[j] ≠ x) : firstIdx l x = some k := by
  cases hf : firstIdx l x with
  | none => exact absurd e (firstIdx_none l x hf k h)
  | some i =>
    obtain ⟨hi, h1, h2⟩ := firstIdx_some l x i hf
    rcases Nat.lt_trichotomy i k with h3 | h3 | h3
    · exact absurd h1 (hl i hi h3)
    · rw [h3]
    · exact absurd e (h2 k h3)

theorem firstIdx_not (l : List ByteArray) (x : ByteArray) (hl : ∀ (j : Nat) (hj : j < l.length), l[j] ≠ x) : firstIdx l x = none := by
  cases hf : firstIdx l x with
  | none => rfl
  | some i =>
    obtain ⟨hi, h1, -⟩ := firstIdx_some l x i hf
    exact absurd h1 (hl i hi)

theorem refGet_some {T : Val} {name : ByteArray} {k : Nat} (hf : firstIdx T.names name = some k) (hk : k < T.items.length) : refGet T name = T.items[k] := by
  unfold refGet
  rw [hf]
  simp only
  rw [List.getElem?_eq_getElem hk]
  rfl

theorem refGet_none {T : Val} {name : ByteArray} (hf : firstIdx T.names name = none) : refGet T name = .mk 0 0 ⟨#[]⟩ [] [] := by
  unfold refGet
  rw [hf]

set_option maxRecDepth 100000 in
set_option maxHeartbeats 4000000 in
theorem refGet_in (S : Nat → Prop) (T : Val) (v : Value) (name : ByteArray) (w : World) (hv : ValIn S w v T) (hlen : T.names.length ≤ T.items.length) :
    Calls Tryz.prog 37 #[v, .string name] w fun e w' => ∃ x, e = .returned x ∧ ValIn S w' x (refGet T name) ∧ Below w.heap.size w w' := by
  cases hv with
  | mk k n s iv nv items names ev hk hn hs hN hNS hz hI hIS hsub =>
  have hNl := hN.len
  obtain ⟨na, nc, rfl, -⟩ := hN.shape
  obtain ⟨ia, ic, rfl, -, hil⟩ := hI.shape
  have hlen : names.length ≤ items.length := hlen
  obtain ⟨nn, hnn⟩ : ∃ x, names.length = x := ⟨_, rfl⟩
  obtain ⟨li, hli⟩ : ∃ x, items.length = x := ⟨_, rfl⟩
  rw [hnn] at hN hNl ⊢
  rw [hli] at hI hil ⊢
  rw [hnn, hli] at hlen
  unfold maxLen at hNl hil
  obtain ⟨W, hW⟩ : ∃ W, (w.alloc (.cells #[.int .i64 k, .int .i64 n, .string s, .slice ia li ic, .slice na nn nc] 71)).alloc (.cells #[.int .i64 0, .int .i64 0, .string ⟨#[]⟩, .slice none 0 0, .slice none 0 0] 71) = W := ⟨_, rfl⟩
  have hs1 : ∀ o, (w.alloc o).heap.size = w.heap.size + 1 := fun o => by simp
  have hb0 : Below w.heap.size w W := by rw [← hW]; exact Below.then (below_new _ _) (below_new _ _)
  have hA : At5 W w.heap.size (.int .i64 k) (.int .i64 n) (.string s) (.slice ia li ic) (.slice na nn nc) := by rw [← hW]; exact (At5.new _ _ _ _ _ _).keep (below_new _ _)
  have hZ : At5 W (w.heap.size + 1) (.int .i64 0) (.int .i64 0) (.string ⟨#[]⟩) (.slice none 0 0) (.slice none 0 0) := by
    rw [← hW]
    have e := At5.new (w.alloc (.cells #[.int .i64 k, .int .i64 n, .string s, .slice ia li ic, .slice na nn nc] 71)) (.int .i64 0) (.int .i64 0) (.string ⟨#[]⟩) (.slice none 0 0) (.slice none 0 0)
    rwa [hs1] at e
  have HZ := Lib.hid hZ
  have HB0 := Lib.hid hb0
  have HW := Lib.hid hW
  have HNN := Lib.hid hnn
  have HLI := Lib.hid hli
  have HGN := Lib.hid (fun h => refGet_none (T := .mk k n s items names) (name := name) h)
  have HGS := Lib.hid (fun (j : Nat) h (hj : j < items.length) => refGet_some (T := .mk k n s items names) (name := name) (k := j) h hj)
  obtain ⟨a0, a1, a2, a3, a4⟩ := hA.cells
  obtain ⟨z0, z1, z2, z3, z4⟩ := hZ.cells
  have f0 := hZ.frozen 0
  have f1 := hZ.frozen 1
  have f2 := hZ.frozen 2
  have f3 := hZ.frozen 3
  have f4 := hZ.frozen 4
  have HIS := Lib.hid hsub
  have HII := Lib.hid hI
  have HNT := Lib.hid hN
  clear hA hZ hb0 hW hs1 hk hn hs hN hNS hz hI hIS hsub hnn hli
  rcases HNT.out with ⟨h0, -⟩ | ⟨nb, no, nc', he, hn2, -, -, hn5⟩
  · have hnn0 : nn = 0 := by rw [← HNN.out, h0]; rfl
    have HO := Lib.hid (HGN.out (by show firstIdx names name = none; rw [h0]; rfl))
    subst hnn0
    clear h0
    go_enter Tryz.func37, Tryz.ntmps37
    go_upto_region 1 with fail
    rw [HW.out]
    go_wp2_with fail
    refine wp_loop_rounds 1 ?_
    rw [rounds_succ]
    go_wp2_with fail
    refine bodyPost_ret (results_cell_row (p := 4) rfl _ _ (w.heap.size + 1) 71 _ (0, 0) _ rfl (set5_five0 HZ.out _ _ _ _ _) Tryz.underlying71 rfl valSize) rfl ?_
    exact ⟨_, rfl, by rw [HO.out]; exact ValIn.plain _ _ 0 0 ⟨#[]⟩ (by decide) (by decide) (by decide), below_five HB0.out (Nat.le_succ _) _ _ _ _ _⟩
  · rw [HNN.out] at he
    simp only [Value.slice.injEq] at he
    obtain ⟨rfl, -, rfl⟩ := he
    have HN5 := Lib.hid hn5
    clear hn5
    go_enter Tryz.func37, Tryz.ntmps37
    go_upto_region 1 with fail
    rw [HW.out]
    go_wp2_with fail
    go_loop [10] (fun i => ∃ j : Nat, j ≤ nn ∧ i = .int .i64 j ∧ ∀ (m : Nat) (hm : m < names.length), m < j → names[m] ≠ name) (fun i => nn - (intOf i).toNat)
    case atStart => exact ⟨0, Nat.zero_le _, rfl, fun m _ h => absurd h (Nat.not_lt_zero _)⟩
    case round =>
      obtain ⟨j, hj, rfl, hall⟩ := hrel
      have HALL := Lib.hid hall
      clear hall
      by_cases hlt : j < nn
      rotate_left
      · have HO := Lib.hid (HGN.out (firstIdx_not names name fun m hm => HALL.out m hm (by rw [HNN.out] at hm; omega)))
        go_wp2_with fail
        refine bodyPost_ret (results_cell_row (p := 4) rfl _ _ (w.heap.size + 1) 71 _ (0, 0) _ rfl (set5_five0 HZ.out _ _ _ _ _) Tryz.underlying71 rfl valSize) rfl ?_
        exact ⟨_, rfl, by rw [HO.out]; exact ValIn.plain _ _ 0 0 ⟨#[]⟩ (by decide) (by decide) (by decide), below_five HB0.out (Nat.le_succ _) _ _ _ _ _⟩
      · have hjn : j < names.length := by rw [HNN.out]; exact hlt
        have hji : j < items.length := by rw [HLI.out]; omega
        have hjl : j < li := by omega
        have e0 := HN5.out j hjn
        have HEQ := Lib.hid (show names[j] = name → firstIdx names name = some j from fun h => firstIdx_is names name j hjn h fun m hm h => HALL.out m hm h)
        have HNX := Lib.hid (show names[j] ≠ name → ∀ (m : Nat) (hm : m < names.length), m < j + 1 → names[m] ≠ name from fun h m hm hmj => by
          rcases Nat.lt_or_ge m j with h1 | h1
          · exact HALL.out m hm h1
          · obtain rfl : m = j := by omega
            exact h)
        obtain ⟨nm, hnm⟩ : ∃ nm, names[j] = nm := ⟨_, rfl⟩
        rw [hnm] at e0 HEQ HNX
        have v0 : W.cell? ⟨nb, no + j, none⟩ = some (.string nm) := (HB0.out.cell (World.block_lt_of_cell? _ _ e0)).trans e0
        clear e0 hnm
        by_cases hq : nm = name
        rotate_left
        · have q : (nm.toList == name.toList) = false := by rw [beqB]; exact decide_eq_false hq
          have HN2 := Lib.hid (HNX.out hq)
          clear hq
          go_wp2_with fail
          go_round
          case rel => exact ⟨j + 1, by omega, by go_num, HN2.out⟩
          case measure => simp [intOf]; omega
        · subst hq
          have q : (nm.toList == nm.toList) = true := by simp
          have HGV := Lib.hid (HGS.out j (HEQ.out rfl) hji)
          rcases HII.out with ⟨h0, -⟩ | ⟨pb, po, pc, he, -, -, -, hcs⟩
          · omega
          simp only [Value.slice.injEq] at he
          obtain ⟨rfl, -, rfl⟩ := he
          obtain ⟨c0, c1, c2, c3, c4, hev, g0, g1, g2, g3, g4⟩ := hcs j hjl
          have hs1 := HIS.out j hji
          rw [hev] at hs1
          obtain ⟨xk, xn, xs, xia, xna, xli, xic, xnn, xnc, hsh⟩ := hs1.isVal.shape
          simp only [Value.agg.injEq, Array.mk.injEq, List.cons.injEq, and_true] at hsh
          obtain ⟨rfl, rfl, rfl, rfl, rfl⟩ := hsh
          have kc : ∀ {p : Addr} {v : Value}, w.cell? p = some v → W.cell? p = some v := fun h => HB0.out.cell (World.block_lt_of_cell? _ _ h) |>.trans h
          have v0 := kc g0
          have v1 := kc g1
          have v2 := kc g2
          have v3 := kc g3
          have v4 := kc g4
          have HX := Lib.hid (hs1.keep (S' := S) (w' := set5 W (w.heap.size + 1) 0 (.int .i64 xk) (.int .i64 xn) (.string xs) (.slice xia xli xic) (.slice xna xnn xnc)) fun b hS hl => ⟨(set5_block _ _ _ _ _ _ _ _ b (by omega)).trans (HB0.out.block b hl), hS⟩)
          clear g0 g1 g2 g3 g4 hs1 hev kc hcs
          go_wp2_with fail
          refine bodyPost_ret (results_cell_row (p := 4) rfl _ _ (w.heap.size + 1) 71 _ (0, 0) _ rfl (set5_five0 HZ.out _ _ _ _ _) Tryz.underlying71 rfl valSize) rfl ?_
          exact ⟨_, rfl, by rw [HGV.out]; exact HX.out, below_five HB0.out (Nat.le_succ _) _ _ _ _ _⟩
end Go.Proofs.YtepcaglekgeamaaGreatDoor
