/-
  The program's Like, with slices.Equal and slices.EqualFunc of it, by contracts. Conditions: what comes in reads as trees.
-/
import Derived.Test.YtepcaglekgeamaaGreatDoorYTxt2
import Derived.Deep.DeepCutAuto
import Derived.BigQuiet
namespace Go.Proofs.YtepcaglekgeamaaGreatDoor
open Go.RowKit

set_option maxRecDepth 100000 in
theorem equal_strs (x y : Value) (xs ys : List ByteArray) (w : World) (hx : StrsAt w x xs) (hy : StrsAt w y ys) :
    Calls Tryz.prog 106 #[x, y] w fun e w' => e = .returned (.bool (decide (xs = ys))) ∧ Below w.heap.size w w' := by
  obtain ⟨na, nc, rfl, hnc⟩ := hx.shape
  obtain ⟨na', nc', rfl, hnc'⟩ := hy.shape
  have hl := hx.len
  have hl' := hy.len
  obtain ⟨nn, hnn⟩ : ∃ z, xs.length = z := ⟨_, rfl⟩
  obtain ⟨nn', hnn'⟩ : ∃ z, ys.length = z := ⟨_, rfl⟩
  rw [hnn] at hx hl ⊢
  rw [hnn'] at hy hl' ⊢
  unfold maxLen at hl hl'
  clear hnc hnc'
  by_cases hne : nn = nn'
  rotate_left
  · rw [decide_eq_false (show ¬ xs = ys from fun e => hne (by rw [← hnn, ← hnn', e]))]
    have q : ((nn : Int) != (nn' : Int)) = true := bne_iff_ne.2 (by omega)
    clear hx hy
    go_enter Tryz.func106, Tryz.ntmps106
    go_wp2_with fail
    go_ret
    exact ⟨rfl, Below.refl _ _⟩
  subst hne
  rcases hx with ⟨h0, -⟩ | ⟨pb, po, pc, he, hpos, -, -, hcs⟩
  · have h00 : nn = 0 := by rw [← hnn, h0]; rfl
    subst h00
    rw [decide_eq_true (show xs = ys by rw [h0, List.length_eq_zero_iff.1 hnn'])]
    clear hy
    go_enter Tryz.func106, Tryz.ntmps106
    go_wp2_with fail
    refine wp_loop_rounds 1 ?_
    rw [rounds_succ]
    go_wp2_with fail
    go_ret
    exact ⟨rfl, Below.refl _ _⟩
  · rcases hy with ⟨h0, -⟩ | ⟨pb', po', pc', he', -, -, -, hcs'⟩
    · rw [h0] at hnn'
      exact absurd hpos (by rw [hnn, ← hnn']; simp)
    · simp only [Value.slice.injEq] at he he'
      obtain ⟨rfl, -, rfl⟩ := he
      obtain ⟨rfl, -, rfl⟩ := he'
      have HC := Lib.hid hcs
      have HC' := Lib.hid hcs'
      have HX := Lib.hid hnn
      have HY := Lib.hid hnn'
      clear hcs hcs' hnn hnn' hpos
      go_enter Tryz.func106, Tryz.ntmps106
      go_wp2_with fail
      go_loopw [13] (fun iv wr => ∃ j : Nat, j ≤ nn ∧ iv = .int .i64 j ∧ xs.take j = ys.take j ∧ Below w.heap.size w wr) (fun i _ => nn - (intOf i).toNat)
      case atStart => exact ⟨0, Nat.zero_le _, rfl, rfl, Below.refl _ _⟩
      case round =>
        obtain ⟨j, hj, rfl, htk, hb⟩ := hrel
        have HT := Lib.hid htk
        have HR := Lib.hid hb
        clear htk hb
        by_cases hlt : j < nn
        · have hj1 : j < xs.length := by have := HX.out; omega
          have hj2 : j < ys.length := by have := HY.out; omega
          have kc : ∀ {p : Addr} {v : Value}, w.cell? p = some v → wr.cell? p = some v := fun h => HR.out.cell (World.block_lt_of_cell? _ _ h) |>.trans h
          have hc1 := kc (HC.out j hj1)
          have hc2 := kc (HC'.out j hj2)
          have ht1 : xs.take (j + 1) = xs.take j ++ [xs[j]'hj1] := List.take_succ_eq_append_getElem hj1
          have ht2 : ys.take (j + 1) = ys.take j ++ [ys[j]'hj2] := List.take_succ_eq_append_getElem hj2
          obtain ⟨x, hx⟩ : ∃ x, xs[j]'hj1 = x := ⟨_, rfl⟩
          obtain ⟨y, hy⟩ : ∃ y, ys[j]'hj2 = y := ⟨_, rfl⟩
          rw [hx] at hc1 ht1
          rw [hy] at hc2 ht2
          clear kc
          by_cases hxy : x = y
          · have hcm : (x.toList == y.toList) = true := by rw [beqB, decide_eq_true hxy]
            have hcn : (x.toList != y.toList) = false := by rw [bne, hcm]; rfl
            have HN1 := Lib.hid (show xs.take (j + 1) = ys.take (j + 1) by rw [ht1, ht2, HT.out, hxy])
            clear ht1 ht2 hx hy hxy
            go_wp2_with fail
            go_quiet (fail)
            go_wp2_with fail
            go_roundw
            case rel => exact ⟨j + 1, by omega, by go_num, HN1.out, below_drewN HR.out _⟩
            case measure => simp [intOf]; omega
          · have hcm : (x.toList == y.toList) = false := by rw [beqB, decide_eq_false hxy]
            have hcn : (x.toList != y.toList) = true := by rw [bne, hcm]; rfl
            have HO := Lib.hid (show decide (xs = ys) = false from decide_eq_false fun e => hxy (by subst e; rw [← hx, ← hy]))
            clear ht1 ht2 hx hy hxy
            go_wp2_with fail
            go_quiet (fail)
            go_wp2_with fail
            go_ret
            exact ⟨by rw [HO.out]; rfl, below_drewN HR.out _⟩
        · have HO := Lib.hid (show decide (xs = ys) = true from decide_eq_true (by
            have h1 := HT.out
            rw [List.take_of_length_le (by have := HX.out; omega), List.take_of_length_le (by have := HY.out; omega)] at h1
            exact h1))
          go_wp2_with fail
          go_ret
          exact ⟨by rw [HO.out]; rfl, HR.out⟩

set_option maxRecDepth 100000 in
set_option maxHeartbeats 4000000 in
theorem equalFunc_any (ia ia' : Option Addr) (li li' ic ic' : Nat) (items items' : List Val) (ev ev' : Nat → Value) (w : World) (hI : Fives w (.slice ia li ic) li ev) (hI' : Fives w (.slice ia' li' ic') li' ev') (hli : items.length = li) (hli' : items'.length = li')
    (hil : li ≤ maxLen) (hil' : li' ≤ maxLen) (hs : ∀ (i : Nat) (h : i < items.length), IsVal w (ev i) items[i]) (hs' : ∀ (i : Nat) (h : i < items'.length), IsVal w (ev' i) items'[i])
    (CL : ∀ (i : Nat) (h : i < items.length) (U : Val) (a b : Value) (w : World), IsVal w a items[i] → IsVal w b U → Calls Tryz.prog 78 #[a, b] w fun e w' => e = .returned (.bool (likeV items[i] U)) ∧ Below w.heap.size w w') :
    Calls Tryz.prog 107 #[.slice ia li ic, .slice ia' li' ic', .func (.func 78) #[] #[]] w fun e w' => e = .returned (.bool (likeL items items')) ∧ Below w.heap.size w w' := by
  unfold maxLen at hil hil'
  by_cases hne : li = li'
  rotate_left
  · have HO := Lib.hid (show likeL items items' = false by
      cases h : likeL items items' with
      | true => exact absurd ((hli.symm.trans (likeL_length _ _ h)).trans hli') hne
      | false => rfl)
    have q : ((li : Int) != (li' : Int)) = true := bne_iff_ne.2 (by omega)
    clear hI hI' hs hs' CL
    go_enter Tryz.func107, Tryz.ntmps107
    go_wp2_with fail
    go_ret
    exact ⟨by rw [HO.out]; rfl, Below.refl _ _⟩
  subst hne
  rcases hI with ⟨h0, -⟩ | ⟨pb, po, pc, he, hpos, -, -, hcs⟩
  · subst h0
    have HO := Lib.hid (show likeL items items' = true by rw [List.length_eq_zero_iff.1 hli, List.length_eq_zero_iff.1 hli', likeL])
    clear hI' hs hs' CL hli hli'
    go_enter Tryz.func107, Tryz.ntmps107
    go_wp2_with fail
    refine wp_loop_rounds 1 ?_
    rw [rounds_succ]
    go_wp2_with fail
    go_ret
    exact ⟨by rw [HO.out]; rfl, Below.refl _ _⟩
  · rcases hI' with ⟨h0, -⟩ | ⟨pb', po', pc', he', -, -, -, hcs'⟩
    · omega
    · simp only [Value.slice.injEq] at he he'
      obtain ⟨rfl, -, rfl⟩ := he
      obtain ⟨rfl, -, rfl⟩ := he'
      have HC := Lib.hid hcs
      have HC' := Lib.hid hcs'
      have HX := Lib.hid hli
      have HY := Lib.hid hli'
      have HS := Lib.hid hs
      have HS' := Lib.hid hs'
      have HCL := Lib.hid CL
      clear hcs hcs' hli hli' hpos hs hs' CL
      go_enter Tryz.func107, Tryz.ntmps107
      go_wp2_with fail
      go_loopw [17] (fun iv wr => ∃ j : Nat, j ≤ li ∧ iv = .int .i64 j ∧ likeL items items' = likeL (items.drop j) (items'.drop j) ∧ Below w.heap.size w wr) (fun i _ => li - (intOf i).toNat)
      case atStart => exact ⟨0, Nat.zero_le _, rfl, rfl, Below.refl _ _⟩
      case round =>
        obtain ⟨j, hj, rfl, htk, hb⟩ := hrel
        have HT := Lib.hid htk
        have HR := Lib.hid hb
        clear htk hb
        by_cases hlt : j < li
        · have hj1 : j < items.length := by have := HX.out; omega
          have hj2 : j < items'.length := by have := HY.out; omega
          have kc : ∀ {p : Addr} {v : Value}, w.cell? p = some v → wr.cell? p = some v := fun h => HR.out.cell (World.block_lt_of_cell? _ _ h) |>.trans h
          obtain ⟨c0, c1, c2, c3, c4, hev, e0, e1, e2, e3, e4⟩ := HC.out j hlt
          obtain ⟨d0, d1, d2, d3, d4, hev', g0, g1, g2, g3, g4⟩ := HC'.out j hlt
          have hs1 := HS.out j hj1
          have hs2 := HS'.out j hj2
          rw [hev] at hs1
          rw [hev'] at hs2
          obtain ⟨xk, xn, xs, xia, xna, xli, xic, xnn, xnc, hsh⟩ := hs1.shape
          simp only [Value.agg.injEq, Array.mk.injEq, List.cons.injEq, and_true] at hsh
          obtain ⟨rfl, rfl, rfl, rfl, rfl⟩ := hsh
          obtain ⟨yk, yn, ys, yia, yna, yli, yic, ynn, ync, hsh⟩ := hs2.shape
          simp only [Value.agg.injEq, Array.mk.injEq, List.cons.injEq, and_true] at hsh
          obtain ⟨rfl, rfl, rfl, rfl, rfl⟩ := hsh
          have v0 := kc e0
          have v1 := kc e1
          have v2 := kc e2
          have v3 := kc e3
          have v4 := kc e4
          have ka : ∀ (o : Obj) {p : Addr} {v : Value}, w.cell? p = some v → (wr.alloc o).cell? p = some v := fun o {p v} h => ((below_new wr o).cell (World.block_lt_of_cell? _ _ (kc h))).trans (kc h)
          have y0 := fun o => ka o g0
          have y1 := fun o => ka o g1
          have y2 := fun o => ka o g2
          have y3 := fun o => ka o g3
          have y4 := fun o => ka o g4
          obtain ⟨W2, hW2⟩ : ∃ W2, (wr.alloc (.cells #[.int .i64 xk, .int .i64 xn, .string xs, .slice xia xli xic, .slice xna xnn xnc] 71)).alloc (.cells #[.int .i64 yk, .int .i64 yn, .string ys, .slice yia yli yic, .slice yna ynn ync] 71) = W2 := ⟨_, rfl⟩
          have hb2 : Below w.heap.size w W2 := by rw [← hW2]; exact Below.then HR.out (Below.then (below_new _ _) (below_new _ _))
          have C := Lib.hid (HCL.out j hj1 (items'[j]'hj2) _ _ W2 (hs1.keep hb2) (hs2.keep hb2))
          have HD := Lib.hid (likeL_drop j items items' hj1 hj2)
          have HW2 := Lib.hid hW2
          have HB2 := Lib.hid hb2
          obtain ⟨q, hq⟩ : ∃ q, likeV (items[j]'hj1) (items'[j]'hj2) = q := ⟨_, rfl⟩
          rw [hq] at C HD
          clear e0 e1 e2 e3 e4 g0 g1 g2 g3 g4 hev hev' hs1 hs2 kc ka hW2 hb2 hq
          have road : True := trivial
          rcases Nat.eq_zero_or_pos j with rfl | hj0
          · have u0 : wr.cell? ⟨pb, po, none⟩ = some (.int .i64 xk) := by simpa using v0
            have u1 : wr.cell? ⟨pb, po + 1, none⟩ = some (.int .i64 xn) := by simpa using v1
            have u2 : wr.cell? ⟨pb, po + 2, none⟩ = some (.string xs) := by simpa using v2
            have u3 : wr.cell? ⟨pb, po + 3, none⟩ = some (.slice xia xli xic) := by simpa using v3
            have u4 : wr.cell? ⟨pb, po + 4, none⟩ = some (.slice xna xnn xnc) := by simpa using v4
            have z0 : ∀ o, (wr.alloc o).cell? ⟨pb', po', none⟩ = some (.int .i64 yk) := fun o => by simpa using y0 o
            have z1 : ∀ o, (wr.alloc o).cell? ⟨pb', po' + 1, none⟩ = some (.int .i64 yn) := fun o => by simpa using y1 o
            have z2 : ∀ o, (wr.alloc o).cell? ⟨pb', po' + 2, none⟩ = some (.string ys) := fun o => by simpa using y2 o
            have z3 : ∀ o, (wr.alloc o).cell? ⟨pb', po' + 3, none⟩ = some (.slice yia yli yic) := fun o => by simpa using y3 o
            have z4 : ∀ o, (wr.alloc o).cell? ⟨pb', po' + 4, none⟩ = some (.slice yna ynn ync) := fun o => by simpa using y4 o
            go_wp2_with fail
            rw [HW2.out]
            refine C.out.mono ?_
            rintro e w3 ⟨rfl, hb3⟩
            have HB3 := Lib.hid (Below.then HB2.out hb3)
            clear hb3
            cases q with
            | true =>
              have HN1 := Lib.hid (show likeL items items' = likeL (items.drop 1) (items'.drop 1) by rw [HT.out, HD.out]; rfl)
              go_wp2_with fail
              go_roundw
              case rel => exact ⟨1, by omega, by go_num, HN1.out, HB3.out⟩
              case measure => simp [intOf]; omega
            | false =>
              have HO := Lib.hid (show likeL items items' = false by rw [HT.out, HD.out]; rfl)
              go_wp2_with fail
              go_ret
              exact ⟨by rw [HO.out]; rfl, HB3.out⟩
          · go_wp2_with fail
            rw [HW2.out]
            refine C.out.mono ?_
            rintro e w3 ⟨rfl, hb3⟩
            have HB3 := Lib.hid (Below.then HB2.out hb3)
            clear hb3
            cases q with
            | true =>
              have HN1 := Lib.hid (show likeL items items' = likeL (items.drop (j + 1)) (items'.drop (j + 1)) by rw [HT.out, HD.out]; rfl)
              go_wp2_with fail
              go_roundw
              case rel => exact ⟨j + 1, by omega, by go_num, HN1.out, HB3.out⟩
              case measure => simp [intOf]; omega
            | false =>
              have HO := Lib.hid (show likeL items items' = false by rw [HT.out, HD.out]; rfl)
              go_wp2_with fail
              go_ret
              exact ⟨by rw [HO.out]; rfl, HB3.out⟩
        · have HO := Lib.hid (show likeL items items' = true by
            rw [HT.out, List.drop_eq_nil_of_le (by have := HX.out; omega), List.drop_eq_nil_of_le (by have := HY.out; omega), likeL])
          go_wp2_with fail
          go_ret
          exact ⟨by rw [HO.out]; rfl, HR.out⟩

set_option maxRecDepth 100000 in
set_option maxHeartbeats 4000000 in
theorem likeP_go : ∀ (m : Nat) (T U : Val), SizeOf.sizeOf T ≤ m → ∀ (a b : Value) (w : World), IsVal w a T → IsVal w b U →
    Calls Tryz.prog 78 #[a, b] w fun e w' => e = .returned (.bool (likeV T U)) ∧ Below w.heap.size w w' := by
  intro m
  induction m with
  | zero =>
    intro T U h
    cases T
    simp at h
  | succ m ih =>
    intro T U hT a b w ha hb
    cases ha with
    | mk k n s iv nv items names ev hk hn hs hN hz hI hsub =>
    cases hb with
    | mk k' n' s' iv' nv' items' names' ev' hk' hn' hs' hN' hz' hI' hsub' =>
    have hsz : ∀ (i : Nat) (h : i < items.length), SizeOf.sizeOf items[i] ≤ m := fun i h => by
      have h1 := List.sizeOf_lt_of_mem (List.getElem_mem h)
      simp at hT
      omega
    obtain ⟨na, nc, rfl, hnc⟩ := hN.shape
    obtain ⟨na', nc', rfl, hnc'⟩ := hN'.shape
    obtain ⟨ia, ic, rfl, hic, hil⟩ := hI.shape
    obtain ⟨ia', ic', rfl, hic', hil'⟩ := hI'.shape
    obtain ⟨W2, hW2⟩ : ∃ W2, (w.alloc (.cells #[.int .i64 k, .int .i64 n, .string s, .slice ia items.length ic, .slice na names.length nc] 71)).alloc (.cells #[.int .i64 k', .int .i64 n', .string s', .slice ia' items'.length ic', .slice na' names'.length nc'] 71) = W2 := ⟨_, rfl⟩
    have hb2 : Below w.heap.size w W2 := by rw [← hW2]; exact Below.then (below_new _ _) (below_new _ _)
    have hA : At5 W2 w.heap.size (.int .i64 k) (.int .i64 n) (.string s) (.slice ia items.length ic) (.slice na names.length nc) := by rw [← hW2]; exact (At5.new _ _ _ _ _ _).keep (below_new _ _)
    have hB : At5 W2 (w.heap.size + 1) (.int .i64 k') (.int .i64 n') (.string s') (.slice ia' items'.length ic') (.slice na' names'.length nc') := by
      rw [← hW2]
      have e := At5.new (w.alloc (.cells #[.int .i64 k, .int .i64 n, .string s, .slice ia items.length ic, .slice na names.length nc] 71)) (.int .i64 k') (.int .i64 n') (.string s') (.slice ia' items'.length ic') (.slice na' names'.length nc')
      rwa [show (w.alloc (.cells #[.int .i64 k, .int .i64 n, .string s, .slice ia items.length ic, .slice na names.length nc] 71)).heap.size = w.heap.size + 1 by simp] at e
    have EQ := Lib.hid (equal_strs _ _ names names' W2 (hN.keep hb2) (hN'.keep hb2))
    have EF := Lib.hid (fun w3 (h : Below W2.heap.size W2 w3) => equalFunc_any ia ia' _ _ ic ic' items items' ev ev' w3 ((hI.keep hb2).keep h) ((hI'.keep hb2).keep h) rfl rfl hil hil' (fun i hi => ((hsub i hi).keep hb2).keep h) (fun i hi => ((hsub' i hi).keep hb2).keep h) (fun i hi U a b w ha hb => ih items[i] U (hsz i hi) a b w ha hb))
    have HLK := Lib.hid (show likeV (.mk k n s items names) (.mk k' n' s' items' names') = (k == k' && n == n' && decide (s = s') && decide (names = names') && likeL items items') by rw [likeV])
    have q3 : (s.toList == s'.toList) = decide (s = s') := beqB s s'
    obtain ⟨b1, hb1⟩ : ∃ b, (k == k') = b := ⟨_, rfl⟩
    obtain ⟨b2, hbb2⟩ : ∃ b, (n == n') = b := ⟨_, rfl⟩
    obtain ⟨b3, hb3⟩ : ∃ b, decide (s = s') = b := ⟨_, rfl⟩
    obtain ⟨b4, hb4⟩ : ∃ b, decide (names = names') = b := ⟨_, rfl⟩
    obtain ⟨b5, hb5⟩ : ∃ b, likeL items items' = b := ⟨_, rfl⟩
    rw [hb3] at q3
    rw [hb4] at EQ
    rw [hb5] at EF
    rw [hb1, hbb2, hb3, hb4, hb5] at HLK
    have HA := Lib.hid hA
    have HB := Lib.hid hB
    have HW2 := Lib.hid hW2
    have HB2 := Lib.hid hb2
    obtain ⟨a0, a1, a2, a3, a4⟩ := hA.cells
    obtain ⟨c0, c1, c2, c3, c4⟩ := hB.cells
    clear ih hT hsub hsub' hN hN' hI hI' hz hz' hk hn hs hk' hn' hs' hnc hnc' hic hic' hil hil' hsz hA hB hW2 hb2 hb3 hb4 hb5
    rw [HLK.out]
    go_enter Tryz.func78, Tryz.ntmps78
    cases b1 with
    | false =>
      go_upto_region 1 with fail
      rw [HW2.out]
      go_wp2_with fail
      go_ret
      exact ⟨rfl, HB2.out⟩
    | true =>
      cases b2 with
      | false =>
        go_upto_region 1 with fail
        rw [HW2.out]
        go_wp2_with fail
        go_ret
        exact ⟨rfl, HB2.out⟩
      | true =>
        cases b3 with
        | false =>
          go_upto_region 1 with fail
          rw [HW2.out]
          go_wp2_with fail
          go_ret
          exact ⟨rfl, HB2.out⟩
        | true =>
          cases b4 with
          | false =>
            go_upto_region 1 with fail
            rw [HW2.out]
            go_wp2_with fail
            refine EQ.out.mono ?_
            rintro e w3 ⟨rfl, h3⟩
            have HB3 := Lib.hid (Below.then HB2.out h3)
            clear h3
            go_wp2_with fail
            go_ret
            exact ⟨rfl, HB3.out⟩
          | true =>
            go_upto_region 1 with fail
            rw [HW2.out]
            go_wp2_with fail
            refine EQ.out.mono ?_
            rintro e w3 ⟨rfl, h3⟩
            have HB3 := Lib.hid (Below.then HB2.out h3)
            have E3 := Lib.hid (EF.out w3 h3)
            obtain ⟨x0, x1, x2, x3, x4⟩ := (HA.out.keep h3).cells
            obtain ⟨y0, y1, y2, y3, y4⟩ := (HB.out.keep h3).cells
            clear h3
            go_wp2_with fail
            refine E3.out.mono ?_
            rintro e w4 ⟨rfl, h4⟩
            have HB4 := Lib.hid (Below.then HB3.out h4)
            clear h4
            go_wp2_with fail
            go_ret
            exact ⟨rfl, HB4.out⟩

theorem likeP_any (T U : Val) (a b : Value) (w : World) (ha : IsVal w a T) (hb : IsVal w b U) :
    Calls Tryz.prog 78 #[a, b] w fun e w' => e = .returned (.bool (likeV T U)) ∧ Below w.heap.size w w' := likeP_go (SizeOf.sizeOf T) T U (Nat.le_refl _) a b w ha hb
end Go.Proofs.YtepcaglekgeamaaGreatDoor
