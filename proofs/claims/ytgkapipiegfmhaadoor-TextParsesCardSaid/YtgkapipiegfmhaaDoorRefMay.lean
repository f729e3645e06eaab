/-
  The document's own May and Right, by contracts. Conditions: what comes in reads as a tree.
-/
import Derived.Test.YtgkapipiegfmhaaDoorRefOne
namespace Go.Proofs.YtgkapipiegfmhaaDoor
open Go.RowKit

theorem all_drop (f : Val → Bool) (l : List Val) (j : Nat) (h : j < l.length) : (l.drop j).all f = (f l[j] && (l.drop (j + 1)).all f) := by
  rw [List.drop_eq_getElem_cons h, List.all_cons]

theorem IsVal.shape {w : World} {v : Value} {T : Val} (h : IsVal w v T) : ∃ (k n : Int) (s : ByteArray) (ia na : Option Addr) (li ic nn nc : Nat), v = .agg #[.int .i64 k, .int .i64 n, .string s, .slice ia li ic, .slice na nn nc] := by
  cases h with
  | mk kd n s iv nv items names ev hk1 hn hs hN hz hI hsub =>
  obtain ⟨na, nc, rfl, hnc⟩ := hN.shape
  obtain ⟨ia, ic, rfl, hic, hil⟩ := hI.shape
  exact ⟨_, _, _, _, _, _, _, _, _, rfl⟩

set_option maxRecDepth 100000 in
set_option maxHeartbeats 4000000 in
theorem may_go : ∀ (d : Nat), d ≤ 100 → ∀ (k : Int), k = d → ∀ (T : Val) (v : Value) (w : World), IsVal w v T →
    Calls Tryd.prog 20 #[v, .int .i64 k] w fun e w' => e = .returned (.bool (mayV d T)) ∧ Below w.heap.size w w' := by
  intro d
  induction d with
  | zero =>
    intro _ k hk T v w hv
    cases hv with
    | mk kd n s iv nv items names ev hk1 hn hs hN hz hI hsub =>
    obtain ⟨na, nc, rfl, hnc⟩ := hN.shape
    obtain ⟨ia, ic, rfl, hic, hil⟩ := hI.shape
    obtain ⟨nn, hnn⟩ : ∃ x, names.length = x := ⟨_, rfl⟩
    obtain ⟨li, hli⟩ : ∃ x, items.length = x := ⟨_, rfl⟩
    rw [hnn, hli]
    obtain rfl : k = 0 := by simpa using hk
    have HB0 := Lib.hid (below_new w (.cells #[.int .i64 kd, .int .i64 n, .string s, .slice ia li ic, .slice na nn nc] 25))
    clear hk1 hn hs hN hz hI hsub hnc hic hil hk
    go_enter Tryd.func20, Tryd.ntmps20
    go_wp2_with fail
    go_ret
    exact ⟨rfl, HB0.out⟩
  | succ d ih =>
    intro hd k hk T v w hv
    have hone := fun w' hb => one_any T v w' (hv.keep (w' := w') hb)
    cases hv with
    | mk kd n s iv nv items names ev hk1 hn hs hN hz hI hsub =>
    obtain ⟨na, nc, rfl, hnc⟩ := hN.shape
    obtain ⟨ia, ic, rfl, hic, hil⟩ := hI.shape
    obtain ⟨nn, hnn⟩ : ∃ x, names.length = x := ⟨_, rfl⟩
    obtain ⟨li, hli⟩ : ∃ x, items.length = x := ⟨_, rfl⟩
    rw [hnn, hli] at hone ⊢
    rw [hli] at hI hil
    have hM : mayV (d + 1) (.mk kd n s items names) = (oneV (.mk kd n s items names) && items.all (mayV d)) := by rw [mayV]; rfl
    have hk0 : (k == 0) = false := beq_eq_false_iff_ne.2 (by omega)
    have hkl : 0 < k := by omega
    have hku : k ≤ 101 := by omega
    have IH := Lib.hid (fun T v w h => ih (by omega) (k - 1) (by omega) T v w h)
    have HB0 := Lib.hid (below_new w (.cells #[.int .i64 kd, .int .i64 n, .string s, .slice ia li ic, .slice na nn nc] 25))
    have hA := At5.new w (.int .i64 kd) (.int .i64 n) (.string s) (.slice ia li ic) (.slice na nn nc)
    have h1 := hone _ HB0.out
    obtain ⟨r, hr⟩ : ∃ r, oneV (.mk kd n s items names) = r := ⟨_, rfl⟩
    rw [hr] at h1 hM
    have C1 := Lib.hid h1
    have HM := Lib.hid hM
    have HI := Lib.hid hI
    have HS := Lib.hid hsub
    have HA := Lib.hid hA
    unfold maxLen at hil
    clear hk1 hn hs hN hz hI hsub hnc hic ih hk hone h1 hr hM hA hd
    go_enter Tryd.func20, Tryd.ntmps20
    go_wp2_with fail
    refine C1.out.mono ?_
    rintro e w1 ⟨rfl, hb1⟩
    have HB1 := Lib.hid (Below.then HB0.out hb1)
    have HA1 := Lib.hid (HA.out.keep hb1)
    clear hb1
    cases r with
    | false =>
      go_wp2_with fail
      go_ret
      exact ⟨by rw [HM.out]; rfl, HB1.out⟩
    | true =>
      obtain ⟨a0, a1, a2, a3, a4⟩ := HA1.out.cells
      rcases HI.out with ⟨h0, -⟩ | ⟨pb, po, cap, he, -, -, -, hcs⟩
      · have hit : items = [] := List.length_eq_zero_iff.1 (hli.trans h0)
        subst h0
        have HO := Lib.hid (show mayV (d + 1) (.mk kd n s items names) = true by rw [HM.out, hit]; rfl)
        clear hit hli
        go_wp2_with fail
        refine wp_loop_rounds 1 ?_
        rw [rounds_succ]
        go_wp2_with fail
        go_ret
        exact ⟨by rw [HO.out]; rfl, HB1.out⟩
      · simp only [Value.slice.injEq] at he
        obtain ⟨rfl, -, rfl⟩ := he
        have HCS := Lib.hid hcs
        clear hcs
        go_wp2_with fail
        go_loopw [17] (fun iv wr => ∃ j : Nat, j ≤ li ∧ iv = .int .i64 j ∧ (items.drop j).all (mayV d) = items.all (mayV d) ∧ Below w.heap.size w wr) (fun i _ => li - (intOf i).toNat)
        case atStart => exact ⟨0, Nat.zero_le _, rfl, rfl, HB1.out⟩
        case round =>
          obtain ⟨j, hj, rfl, hr, hb⟩ := hrel
          have HRJ := Lib.hid hr
          have HRW := Lib.hid hb
          clear hr hb
          by_cases hlt : j < li
          · obtain ⟨c0, c1, c2, c3, c4, hev, e0, e1, e2, e3, e4⟩ := HCS.out j hlt
            have kc : ∀ {p : Addr} {v : Value}, w.cell? p = some v → wr.cell? p = some v := fun h => HRW.out.cell (World.block_lt_of_cell? _ _ h) |>.trans h
            have v0 := kc e0
            have v1 := kc e1
            have v2 := kc e2
            have v3 := kc e3
            have v4 := kc e4
            have hs1 := HS.out j (by omega)
            rw [hev] at hs1
            obtain ⟨xk, xn, xs, xia, xna, xli, xic, xnn, xnc, hsh⟩ := hs1.shape
            simp only [Value.agg.injEq, Array.mk.injEq, List.cons.injEq, and_true] at hsh
            obtain ⟨rfl, rfl, rfl, rfl, rfl⟩ := hsh
            have HB2 := Lib.hid (Below.then HRW.out (below_new wr (.cells #[.int .i64 xk, .int .i64 xn, .string xs, .slice xia xli xic, .slice xna xnn xnc] 25)))
            have C := Lib.hid (IH.out (items[j]'(by omega)) _ (wr.alloc (.cells #[.int .i64 xk, .int .i64 xn, .string xs, .slice xia xli xic, .slice xna xnn xnc] 25)) (hs1.keep HB2.out))
            have hd := all_drop (mayV d) items j (by omega)
            rw [HRJ.out] at hd
            obtain ⟨r, hr⟩ : ∃ r, mayV d (items[j]'(by omega)) = r := ⟨_, rfl⟩
            rw [hr] at C hd
            have HD := Lib.hid hd
            clear kc e0 e1 e2 e3 e4 hev hs1 hd hr
            go_wp2_with fail
            refine C.out.mono ?_
            rintro e w2 ⟨rfl, hbc⟩
            have HR3 := Lib.hid (Below.then HB2.out hbc)
            clear hbc
            cases r with
            | true =>
              have HN1 := Lib.hid (show (items.drop (j + 1)).all (mayV d) = items.all (mayV d) by rw [HD.out]; rfl)
              go_wp2_with fail
              go_roundw
              case rel => exact ⟨j + 1, by omega, by go_num, HN1.out, HR3.out⟩
              case measure => simp [intOf]; omega
            | false =>
              have HO := Lib.hid (show mayV (d + 1) (.mk kd n s items names) = false by rw [HM.out, HD.out]; rfl)
              go_wp2_with fail
              go_ret
              exact ⟨by rw [HO.out]; rfl, HR3.out⟩
          · have HO := Lib.hid (show mayV (d + 1) (.mk kd n s items names) = true by
              rw [HM.out, ← HRJ.out, List.drop_eq_nil_of_le (by omega)]; rfl)
            go_wp2_with fail
            go_ret
            exact ⟨by rw [HO.out]; rfl, HRW.out⟩
theorem may_any (d : Nat) (hd : d ≤ 100) (T : Val) (v : Value) (w : World) (hv : IsVal w v T) :
    Calls Tryd.prog 20 #[v, .int .i64 d] w fun e w' => e = .returned (.bool (mayV d T)) ∧ Below w.heap.size w w' := may_go d hd _ rfl T v w hv

theorem right_any (T : Val) (v : Value) (w : World) (hv : IsVal w v T) :
    Calls Tryd.prog 13 #[v] w fun e w' => e = .returned (.bool (mayV 6 T)) ∧ Below w.heap.size w w' := by
  obtain ⟨xk, xn, xs, xia, xna, xli, xic, xnn, xnc, rfl⟩ := hv.shape
  have HB0 := Lib.hid (below_new w (.cells #[.int .i64 xk, .int .i64 xn, .string xs, .slice xia xli xic, .slice xna xnn xnc] 25))
  have H1 := Lib.hid (may_go 6 (by decide) 6 rfl T _ _ (hv.keep HB0.out))
  clear hv
  go_enter Tryd.func13, Tryd.ntmps13
  go_wp2_with fail
  refine H1.out.mono ?_
  rintro e w1 ⟨rfl, hb⟩
  have HB := Lib.hid (Below.then HB0.out hb)
  clear hb
  go_wp2_with fail
  go_ret
  exact ⟨rfl, HB.out⟩
end Go.Proofs.YtgkapipiegfmhaaDoor
