/-
  The laws' own 'many': some number, whatever the value. Conditions: what comes in reads as a tree.
-/
import Derived.Test.YtlhnefeeihghgaaDoorRefMay
import Derived.KernelRfl
namespace Go.Proofs.YtlhnefeeihghgaaDoor
open Go.RowKit

theorem wrap_in (x : Int) : -9223372036854775808 ≤ IntKind.i64.wrap x ∧ IntKind.i64.wrap x ≤ 9223372036854775807 := by rw [IntKind.wrap_i64]; omega

set_option maxRecDepth 100000 in
set_option maxHeartbeats 4000000 in
theorem many_go : ∀ (m : Nat) (T : Val), SizeOf.sizeOf T ≤ m → ∀ (v : Value) (most : Int) (w : World), IsVal w v T → -9223372036854775808 ≤ most → most ≤ 9223372036854775807 →
    Calls Tryd.prog 17 #[v, .int .i64 most] w fun e w' => ∃ n : Int, -9223372036854775808 ≤ n ∧ n ≤ 9223372036854775807 ∧ e = .returned (.int .i64 n) ∧ Below w.heap.size w w' := by
  intro m
  induction m with
  | zero =>
    intro T h
    cases T with
    | mk k n s l ns => simp at h
  | succ m ih =>
    intro T hT v most w hv hm0 hm1
    cases hv with
    | mk k n s iv nv items names ev hk hn hs hN hz hI hsub =>
    have hsz : ∀ (i : Nat) (h : i < items.length), SizeOf.sizeOf items[i] ≤ m := fun i h => by
      have h1 := List.sizeOf_lt_of_mem (List.getElem_mem h)
      simp only [Val.mk.sizeOf_spec] at hT
      omega
    obtain ⟨na, nc, rfl, hnc⟩ := hN.shape
    obtain ⟨ia, ic, rfl, hic, hil⟩ := hI.shape
    obtain ⟨nn, hnn⟩ : ∃ x, names.length = x := ⟨_, rfl⟩
    obtain ⟨li, hli⟩ : ∃ x, items.length = x := ⟨_, rfl⟩
    rw [hnn, hli]
    rw [hli] at hI hil
    have HB0 := Lib.hid (below_new w (.cells #[.int .i64 k, .int .i64 n, .string s, .slice ia li ic, .slice na nn nc] 25))
    have HS := Lib.hid hsub
    have IH := Lib.hid ih
    have HZ := Lib.hid hsz
    have HLI := Lib.hid hli
    clear ih hsz hsub hT hN hz hk hn hs hli hnn hic hnc
    unfold maxLen at hil
    rcases hI with ⟨h0, -⟩ | ⟨pb, po, cap, he, -, -, -, hcs⟩
    · subst h0
      go_enter Tryd.func17, Tryd.ntmps17
      go_wp2_with fail
      refine wp_loop_rounds 1 ?_
      rw [rounds_succ]
      go_wp2_with fail
      go_ret
      exact ⟨1, by decide, by decide, rfl, HB0.out⟩
    · simp only [Value.slice.injEq] at he
      obtain ⟨rfl, -, rfl⟩ := he
      have HCS := Lib.hid hcs
      clear hcs
      go_enter Tryd.func17, Tryd.ntmps17
      go_wp2_with fail
      go_loopw [5, 11] (fun nv iv wr => ∃ (j : Nat) (q : Int), j ≤ li ∧ iv = .int .i64 j ∧ nv = .int .i64 q ∧ -9223372036854775808 ≤ q ∧ q ≤ 9223372036854775807 ∧ Below w.heap.size w wr) (fun _ i _ => li - (intOf i).toNat)
      case atStart => exact ⟨0, 1, Nat.zero_le _, rfl, rfl, by decide, by decide, HB0.out⟩
      case round =>
        obtain ⟨j, q, hj, rfl, rfl, hq0, hq1, hb⟩ := hrel
        have HRW := Lib.hid hb
        clear hb
        by_cases hlt : j < li
        · obtain ⟨c0, c1, c2, c3, c4, hev, e0, e1, e2, e3, e4⟩ := HCS.out j hlt
          have kc : ∀ {p : Addr} {v : Value}, w.cell? p = some v → wr.cell? p = some v := fun h => HRW.out.cell (World.block_lt_of_cell? _ _ h) |>.trans h
          have v0 := kc e0
          have v1 := kc e1
          have v2 := kc e2
          have v3 := kc e3
          have v4 := kc e4
          have hjl : j < items.length := by have := HLI.out; omega
          have hs1 := HS.out j hjl
          rw [hev] at hs1
          obtain ⟨xk, xn, xs, xia, xna, xli, xic, xnn, xnc, hsh⟩ := hs1.shape
          simp only [Value.agg.injEq, Array.mk.injEq, List.cons.injEq, and_true] at hsh
          obtain ⟨rfl, rfl, rfl, rfl, rfl⟩ := hsh
          obtain ⟨y, hy⟩ : ∃ y, IntKind.i64.wrap (most - q) = y := ⟨_, rfl⟩
          have hyb := wrap_in (most - q)
          rw [hy] at hyb
          have HB2 := Lib.hid (Below.then HRW.out (below_new wr (.cells #[.int .i64 xk, .int .i64 xn, .string xs, .slice xia xli xic, .slice xna xnn xnc] 25)))
          have C := Lib.hid (IH.out (items[j]'hjl) (HZ.out j hjl) _ y (wr.alloc (.cells #[.int .i64 xk, .int .i64 xn, .string xs, .slice xia xli xic, .slice xna xnn xnc] 25)) (hs1.keep HB2.out) hyb.1 hyb.2)
          clear e0 e1 e2 e3 e4 hev hs1 kc hyb
          by_cases hq : most < q
          · rcases Nat.eq_zero_or_pos j with rfl | hj0
            · have u0 : wr.cell? ⟨pb, po, none⟩ = some (.int .i64 xk) := by simpa using v0
              have u1 : wr.cell? ⟨pb, po + 1, none⟩ = some (.int .i64 xn) := by simpa using v1
              have u2 : wr.cell? ⟨pb, po + 2, none⟩ = some (.string xs) := by simpa using v2
              have u3 : wr.cell? ⟨pb, po + 3, none⟩ = some (.slice xia xli xic) := by simpa using v3
              have u4 : wr.cell? ⟨pb, po + 4, none⟩ = some (.slice xna xnn xnc) := by simpa using v4
              go_wp2_with fail
              go_ret
              exact ⟨q, hq0, hq1, rfl, HB2.out⟩
            · go_wp2_with fail
              go_ret
              exact ⟨q, hq0, hq1, rfl, HB2.out⟩
          · rcases Nat.eq_zero_or_pos j with rfl | hj0
            · have u0 : wr.cell? ⟨pb, po, none⟩ = some (.int .i64 xk) := by simpa using v0
              have u1 : wr.cell? ⟨pb, po + 1, none⟩ = some (.int .i64 xn) := by simpa using v1
              have u2 : wr.cell? ⟨pb, po + 2, none⟩ = some (.string xs) := by simpa using v2
              have u3 : wr.cell? ⟨pb, po + 3, none⟩ = some (.slice xia xli xic) := by simpa using v3
              have u4 : wr.cell? ⟨pb, po + 4, none⟩ = some (.slice xna xnn xnc) := by simpa using v4
              go_wp2_with fail
              refine C.out.mono ?_
              rintro e w2 ⟨r, hr0, hr1, rfl, hbc⟩
              obtain ⟨z, hz⟩ : ∃ z, IntKind.i64.wrap (q + r) = z := ⟨_, rfl⟩
              have hzb := wrap_in (q + r)
              rw [hz] at hzb
              have HR3 := Lib.hid (Below.then HB2.out hbc)
              clear hbc
              go_wp2_with fail
              go_roundw
              case rel => exact ⟨1, z, by omega, by go_num, rfl, hzb.1, hzb.2, HR3.out⟩
              case measure => simp [intOf]; omega
            · go_wp2_with fail
              refine C.out.mono ?_
              rintro e w2 ⟨r, hr0, hr1, rfl, hbc⟩
              obtain ⟨z, hz⟩ : ∃ z, IntKind.i64.wrap (q + r) = z := ⟨_, rfl⟩
              have hzb := wrap_in (q + r)
              rw [hz] at hzb
              have HR3 := Lib.hid (Below.then HB2.out hbc)
              clear hbc
              go_wp2_with fail
              go_roundw
              case rel => exact ⟨j + 1, z, by omega, by go_num, rfl, hzb.1, hzb.2, HR3.out⟩
              case measure => simp [intOf]; omega
        · go_wp2_with fail
          go_ret
          exact ⟨q, hq0, hq1, rfl, HRW.out⟩
theorem many_any (T : Val) (v : Value) (most : Int) (w : World) (hv : IsVal w v T) (h0 : -9223372036854775808 ≤ most) (h1 : most ≤ 9223372036854775807) :
    Calls Tryd.prog 17 #[v, .int .i64 most] w fun e w' => ∃ n : Int, -9223372036854775808 ≤ n ∧ n ≤ 9223372036854775807 ∧ e = .returned (.int .i64 n) ∧ Below w.heap.size w w' :=
  many_go (SizeOf.sizeOf T) T (Nat.le_refl _) v most w hv h0 h1
end Go.Proofs.YtlhnefeeihghgaaDoor
