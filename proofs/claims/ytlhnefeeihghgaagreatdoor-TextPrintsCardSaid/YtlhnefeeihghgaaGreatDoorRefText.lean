/-
  The document's own Text, by a contract. Conditions: what comes in reads as a tree that may be; strconv.Itoa by its contract.
-/
import Derived.Test.YtlhnefeeihghgaaGreatDoorRefMay
import Derived.Test.YtlhnefeeihghgaaGreatDoorReadPlain2
namespace Go.Proofs.YtlhnefeeihghgaaGreatDoor
open Go.RowKit

/-- strconv.Itoa serves in every world behind this one. -/
def ItoaOk (w : World) : Prop := ∀ (n : Int) (w' : World), 0 ≤ n → n ≤ 1099511627776 → Below w.heap.size w w' →
  Calls Tryz.prog 39 #[.int .i64 n] w' fun e w2 => e = .returned (.string ⟨(Lib.itoa n).toArray⟩) ∧ Below w'.heap.size w' w2
theorem ItoaOk.keep {w w' : World} (h : ItoaOk w) (hb : Below w.heap.size w w') : ItoaOk w' := fun n w2 h0 h1 hb2 => h n w2 h0 h1 (Below.then hb hb2)
theorem cat_list (a b : ByteArray) : (a ++ b).data.toList = a.data.toList ++ b.data.toList := by rw [ByteArray.data_append, Array.toList_append]
theorem bytes_ext (a : ByteArray) (l : List UInt8) (h : a.data.toList = l) : a = ⟨l.toArray⟩ := by rw [← h]

/-- What the loop has written, and what is still to come. -/
structure Wrote (four : Bool) (items : List Val) (names : List ByteArray) (j : Nat) (o : ByteArray) : Prop where
  eq : o.data.toList ++ bodyL four (decide (j = 0)) (items.drop j) (names.drop j) = bodyL four true items names
theorem Wrote.start (four : Bool) (items : List Val) (names : List ByteArray) : Wrote four items names 0 ⟨#[]⟩ := ⟨rfl⟩
theorem Wrote.step {four : Bool} {items : List Val} {names : List ByteArray} {j : Nat} {o : ByteArray} (H : Wrote four items names j o) (h : j < items.length) (o' : ByteArray)
    (ho : o'.data.toList = o.data.toList ++ (if decide (j = 0) then [] else [44]) ++ (if four then 34 :: (names[j]?.getD ⟨#[]⟩).data.toList ++ [34, 58] else []) ++ textL items[j]) : Wrote four items names (j + 1) o' := by
  obtain ⟨H⟩ := H
  rw [bodyL_drop four _ items names j h] at H
  refine ⟨?_⟩
  rw [ho, ← H, show decide (j + 1 = 0) = false from decide_eq_false (by omega)]
  simp only [List.append_assoc]
theorem Wrote.size {four : Bool} {items : List Val} {names : List ByteArray} {j : Nat} {o : ByteArray} (H : Wrote four items names j o) : o.size ≤ (bodyL four true items names).length := by
  rw [← H.eq, List.length_append, Lib.size_eq]; omega
theorem Wrote.done {four : Bool} {items : List Val} {names : List ByteArray} {j : Nat} {o : ByteArray} (H : Wrote four items names j o) (h : items.length ≤ j) : o.data.toList = bodyL four true items names := by
  rw [← H.eq, List.drop_eq_nil_of_le h, bodyL, List.append_nil]

set_option maxRecDepth 100000 in
set_option maxHeartbeats 4000000 in
theorem text_go : ∀ (d : Nat), d ≤ 6 → ∀ (T : Val) (v : Value) (w : World), mayV d T = true → ItoaOk w → IsVal w v T →
    Calls Tryz.prog 17 #[v] w fun e w' => e = .returned (.string ⟨(textL T).toArray⟩) ∧ Below w.heap.size w w' := by
  intro d
  induction d with
  | zero => intro _ T v w h; rw [mayV] at h; cases h
  | succ d ih =>
    intro hd T v w hm hito hv
    have hle := textL_le (d + 1) T hm
    have hpw : 4000 * 17 ^ (d + 1) ≤ 4000 * 17 ^ 6 := Nat.mul_le_mul_left _ (Nat.pow_le_pow_right (by decide) hd)
    cases hv with
    | mk k n s iv nv items names ev hk hn hs hN hz hI hsub =>
    rw [mayV, Bool.and_eq_true, oneV_iff] at hm
    obtain ⟨h1, h2⟩ := hm
    have hm2 : ∀ x ∈ items, mayV d x = true := List.all_eq_true.1 h2
    clear h2
    obtain ⟨na, nc, rfl, hnc⟩ := hN.shape
    obtain ⟨ia, ic, rfl, hic, hil⟩ := hI.shape
    obtain ⟨nn, hnn⟩ : ∃ x, names.length = x := ⟨_, rfl⟩
    obtain ⟨li, hli⟩ : ∃ x, items.length = x := ⟨_, rfl⟩
    rw [hnn, hli]
    rw [hli] at hI hil
    rw [hnn] at hN
    have hws := wordB_size s h1.isWord
    have HB0 := Lib.hid (below_new w (.cells #[.int .i64 k, .int .i64 n, .string s, .slice ia li ic, .slice na nn nc] 25))
    have HA := Lib.hid (At5.new w (.int .i64 k) (.int .i64 n) (.string s) (.slice ia li ic) (.slice na nn nc))
    have hkk : k = 1 ∨ k = 2 ∨ k = 3 ∨ k = 4 := by have := h1.kind; omega
    rcases hkk with rfl | rfl | rfl | rfl
    · have HO := Lib.hid (show textL (.mk 1 n s items names) = Lib.itoa n by rw [textL_eq, if_pos rfl])
      have C := Lib.hid (hito n _ h1.most.1 h1.most.2 HB0.out)
      clear hle hpw h1 hm2 hN hI hsub hz hk hn hs ih hito hws
      go_enter Tryz.func17, Tryz.ntmps17
      go_wp2_with fail
      refine C.out.mono ?_
      rintro e w1 ⟨rfl, hb⟩
      have HB1 := Lib.hid (Below.then HB0.out hb)
      clear hb
      go_wp2_with fail
      go_ret
      exact ⟨by rw [HO.out]; rfl, HB1.out⟩
    · have HO := Lib.hid (show (⟨(textL (.mk 2 n s items names)).toArray⟩ : ByteArray) = ⟨#[34]⟩ ++ s ++ ⟨#[34]⟩ by
        rw [textL_eq, if_neg (by decide), if_pos rfl]
        exact (bytes_ext _ _ (by rw [cat_list, cat_list]; rfl)).symm)
      clear hle hpw h1 hm2 hN hI hsub hz hk hn hs ih hito
      go_enter Tryz.func17, Tryz.ntmps17
      go_wp2_with fail
      go_ret
      exact ⟨by rw [HO.out]; rfl, HB0.out⟩
    · have HO := Lib.hid (fun (o : ByteArray) (h : o.data.toList = bodyL false true items names) => show (⟨(textL (.mk 3 n s items names)).toArray⟩ : ByteArray) = ⟨#[91]⟩ ++ o ++ ⟨#[93]⟩ by
        rw [textL_eq, if_neg (by decide), if_neg (by decide), if_neg (by decide)]
        exact (bytes_ext _ _ (by rw [cat_list, cat_list, h]; rfl)).symm)
      have hbl : (bodyL false true items names).length ≤ 96550276000 := by
        rw [textL_eq, if_neg (by decide), if_neg (by decide), if_neg (by decide)] at hle
        simp only [List.cons_append, List.length_cons, List.length_append, List.length_nil] at hle
        omega
      have HITO := Lib.hid hito
      have IH := Lib.hid (ih (by omega))
      have HM2 := Lib.hid hm2
      have HS := Lib.hid hsub
      have HTL := Lib.hid (fun x hx => textL_le d x (hm2 x hx))
      have hp2 : 4000 * 17 ^ d ≤ 4000 * 17 ^ 6 := Nat.mul_le_mul_left _ (Nat.pow_le_pow_right (by decide) (by omega))
      clear hle hpw hito ih hm2 hsub hk hn hs hws hz h1
      unfold maxLen at hil
      rcases hI with ⟨h0, -⟩ | ⟨pb, po, cap, he, -, -, -, hcs⟩
      · have hit : items = [] := List.length_eq_zero_iff.1 (hli.trans h0)
        subst h0
        have HO2 := Lib.hid (HO.out ⟨#[]⟩ (by rw [hit, bodyL]))
        clear hit hli HO hbl hp2
        go_enter Tryz.func17, Tryz.ntmps17
        go_wp2_with fail
        refine wp_loop_rounds 1 ?_
        rw [rounds_succ]
        go_wp2_with fail
        go_ret
        exact ⟨by rw [HO2.out]; rfl, HB0.out⟩
      · simp only [Value.slice.injEq] at he
        obtain ⟨rfl, -, rfl⟩ := he
        have HCS := Lib.hid hcs
        clear hcs
        go_enter Tryz.func17, Tryz.ntmps17
        go_wp2_with fail
        go_loopw [3, 22] (fun ov iv wr => ∃ (j : Nat) (o : ByteArray), j ≤ li ∧ iv = .int .i64 j ∧ ov = .string o ∧ Wrote false items names j o ∧ Below (w.alloc (.cells #[.int .i64 3, .int .i64 n, .string s, .slice (some ⟨pb, po, none⟩) li ic, .slice na nn nc] 25)).heap.size (w.alloc (.cells #[.int .i64 3, .int .i64 n, .string s, .slice (some ⟨pb, po, none⟩) li ic, .slice na nn nc] 25)) wr) (fun _ i _ => li - (intOf i).toNat)
        case atStart => exact ⟨0, ⟨#[]⟩, Nat.zero_le _, rfl, rfl, Wrote.start _ _ _, Below.refl _ _⟩
        case round =>
          obtain ⟨j, o, hj, rfl, rfl, hW, hb⟩ := hrel
          have HW := Lib.hid hW
          have HRW := Lib.hid (Below.then HB0.out hb)
          have HRV := Lib.hid hb
          obtain ⟨a0, a1, a2, a3, a4⟩ := (HA.out.keep hb).cells
          have hoz : o.size ≤ 96550276000 := Nat.le_trans hW.size hbl
          clear hW hb
          by_cases hlt : j < li
          · obtain ⟨c0, c1, c2, c3, c4, hev, e0, e1, e2, e3, e4⟩ := HCS.out j hlt
            have kc : ∀ {p : Addr} {v : Value}, w.cell? p = some v → wr.cell? p = some v := fun h => HRW.out.cell (World.block_lt_of_cell? _ _ h) |>.trans h
            have v0 := kc e0
            have v1 := kc e1
            have v2 := kc e2
            have v3 := kc e3
            have v4 := kc e4
            have hs1 := HS.out j (by omega)
            rw [hev] at hs1
            obtain ⟨xk, xn, xs, xia, xna, xli, xic, xnn, xnc, hsh⟩ := hs1.shape
            simp only [Value.agg.injEq, Array.mk.injEq, List.cons.injEq, and_true] at hsh
            obtain ⟨rfl, rfl, rfl, rfl, rfl⟩ := hsh
            have hbn := below_new wr (.cells #[.int .i64 xk, .int .i64 xn, .string xs, .slice xia xli xic, .slice xna xnn xnc] 25)
            have hbn2 := hbn
            have HB2 := Lib.hid (Below.then HRW.out hbn)
            have HBV := Lib.hid (Below.then HRV.out hbn)
            have hmem : items[j]'(by omega) ∈ items := List.getElem_mem _
            have C := Lib.hid (IH.out (items[j]'(by omega)) _ (wr.alloc (.cells #[.int .i64 xk, .int .i64 xn, .string xs, .slice xia xli xic, .slice xna xnn xnc] 25)) (HM2.out _ hmem) (HITO.out.keep HB2.out) (hs1.keep HB2.out))
            have hYz := HTL.out _ hmem
            have hjl : j < items.length := by omega
            have HST := Lib.hid (HW.out.step hjl)
            obtain ⟨Y, hY⟩ : ∃ Y : ByteArray, (⟨(textL (items[j]'(by omega))).toArray⟩ : ByteArray) = Y := ⟨_, rfl⟩
            have HYL := Lib.hid (show Y.data.toList = textL (items[j]'(by omega)) by rw [← hY])
            have hYs : Y.size ≤ 96550276000 := by rw [Lib.size_eq, HYL.out]; omega
            rw [hY] at C
            clear e0 e1 e2 e3 e4 hev hs1 hmem hYz hY hbn
            clear kc
            obtain ⟨b0, b1, b2, b3, b4⟩ := (HA.out.keep HBV.out).cells
            by_cases hj0 : j = 0
            · subst hj0
              have HN1 := Lib.hid (HST.out (o ++ Y) (by rw [cat_list, HYL.out]; simp))
              have u0 : wr.cell? ⟨pb, po, none⟩ = some (.int .i64 xk) := by simpa using v0
              have u1 : wr.cell? ⟨pb, po + 1, none⟩ = some (.int .i64 xn) := by simpa using v1
              have u2 : wr.cell? ⟨pb, po + 2, none⟩ = some (.string xs) := by simpa using v2
              have u3 : wr.cell? ⟨pb, po + 3, none⟩ = some (.slice xia xli xic) := by simpa using v3
              have u4 : wr.cell? ⟨pb, po + 4, none⟩ = some (.slice xna xnn xnc) := by simpa using v4
              go_wp2_with fail
              refine C.out.mono ?_
              rintro e w2 ⟨rfl, hbc⟩
              have HR3 := Lib.hid (Below.then HBV.out hbc)
              clear hbc
              go_wp2_with fail
              go_roundw
              case rel => exact ⟨1, _, by omega, by go_num, rfl, HN1.out, HR3.out⟩
              case measure => simp [intOf]; omega
            · have hj1 : 0 < j := by omega
              have HN1 := Lib.hid (HST.out (o ++ ⟨#[44]⟩ ++ Y) (by rw [cat_list, cat_list, HYL.out]; simp [hj0]))
              go_wp2_with fail
              refine C.out.mono ?_
              rintro e w2 ⟨rfl, hbc⟩
              have HR3 := Lib.hid (Below.then HBV.out hbc)
              clear hbc
              go_wp2_with fail
              go_roundw
              case rel => exact ⟨j + 1, _, by omega, by go_num, rfl, HN1.out, HR3.out⟩
              case measure => simp [intOf]; omega
          · have HO2 := Lib.hid (HO.out o (HW.out.done (by omega)))
            go_wp2_with fail
            go_ret
            exact ⟨by rw [HO2.out]; rfl, HRW.out⟩
    · have HO := Lib.hid (fun (o : ByteArray) (h : o.data.toList = bodyL true true items names) => show (⟨(textL (.mk 4 n s items names)).toArray⟩ : ByteArray) = ⟨#[123]⟩ ++ o ++ ⟨#[125]⟩ by
        rw [textL_eq, if_neg (by decide), if_neg (by decide), if_pos rfl]
        exact (bytes_ext _ _ (by rw [cat_list, cat_list, h]; rfl)).symm)
      have hbl : (bodyL true true items names).length ≤ 96550276000 := by
        rw [textL_eq, if_neg (by decide), if_neg (by decide), if_pos rfl] at hle
        simp only [List.cons_append, List.length_cons, List.length_append, List.length_nil] at hle
        omega
      have HITO := Lib.hid hito
      have IH := Lib.hid (ih (by omega))
      have HM2 := Lib.hid hm2
      have HS := Lib.hid hsub
      have HTL := Lib.hid (fun x hx => textL_le d x (hm2 x hx))
      have hp2 : 4000 * 17 ^ d ≤ 4000 * 17 ^ 6 := Nat.mul_le_mul_left _ (Nat.pow_le_pow_right (by decide) (by omega))
      have HZ := Lib.hid (fun x hx => wordB_size x (risesL_words _ _ h1.rises x hx))
      have hsame : li = nn := by rw [← hnn, ← hli]; exact (h1.same rfl).symm
      subst hsame
      clear hle hpw hito ih hm2 hsub hk hn hs hws hz h1
      unfold maxLen at hil
      rcases hI with ⟨h0, -⟩ | ⟨pb, po, cap, he, hlpos, -, -, hcs⟩
      · have hit : items = [] := List.length_eq_zero_iff.1 (hli.trans h0)
        subst h0
        have HO2 := Lib.hid (HO.out ⟨#[]⟩ (by rw [hit, bodyL]))
        clear hit hli HO hbl hp2
        go_enter Tryz.func17, Tryz.ntmps17
        go_wp2_with fail
        refine wp_loop_rounds 1 ?_
        rw [rounds_succ]
        go_wp2_with fail
        go_ret
        exact ⟨by rw [HO2.out]; rfl, HB0.out⟩
      · rcases hN with ⟨hnil, -⟩ | ⟨qb, qo, qcap, hv, -, -, -, hns⟩
        · exfalso
          simp only [Value.slice.injEq] at he
          have e1 : names.length = 0 := by rw [hnil]; rfl
          have e2 : 0 < li := by assumption
          omega
        simp only [Value.slice.injEq] at hv
        obtain ⟨rfl, -, rfl⟩ := hv
        have HNS := Lib.hid hns
        clear hns
        simp only [Value.slice.injEq] at he
        obtain ⟨rfl, -, rfl⟩ := he
        have HCS := Lib.hid hcs
        clear hcs
        go_enter Tryz.func17, Tryz.ntmps17
        go_wp2_with fail
        go_loopw [3, 22] (fun ov iv wr => ∃ (j : Nat) (o : ByteArray), j ≤ li ∧ iv = .int .i64 j ∧ ov = .string o ∧ Wrote true items names j o ∧ Below (w.alloc (.cells #[.int .i64 4, .int .i64 n, .string s, .slice (some ⟨pb, po, none⟩) li ic, .slice (some ⟨qb, qo, none⟩) li nc] 25)).heap.size (w.alloc (.cells #[.int .i64 4, .int .i64 n, .string s, .slice (some ⟨pb, po, none⟩) li ic, .slice (some ⟨qb, qo, none⟩) li nc] 25)) wr) (fun _ i _ => li - (intOf i).toNat)
        case atStart => exact ⟨0, ⟨#[]⟩, Nat.zero_le _, rfl, rfl, Wrote.start _ _ _, Below.refl _ _⟩
        case round =>
          obtain ⟨j, o, hj, rfl, rfl, hW, hb⟩ := hrel
          have HW := Lib.hid hW
          have HRW := Lib.hid (Below.then HB0.out hb)
          have HRV := Lib.hid hb
          obtain ⟨a0, a1, a2, a3, a4⟩ := (HA.out.keep hb).cells
          have hoz : o.size ≤ 96550276000 := Nat.le_trans hW.size hbl
          clear hW hb
          by_cases hlt : j < li
          · obtain ⟨c0, c1, c2, c3, c4, hev, e0, e1, e2, e3, e4⟩ := HCS.out j hlt
            have kc : ∀ {p : Addr} {v : Value}, w.cell? p = some v → wr.cell? p = some v := fun h => HRW.out.cell (World.block_lt_of_cell? _ _ h) |>.trans h
            have v0 := kc e0
            have v1 := kc e1
            have v2 := kc e2
            have v3 := kc e3
            have v4 := kc e4
            have hs1 := HS.out j (by omega)
            rw [hev] at hs1
            obtain ⟨xk, xn, xs, xia, xna, xli, xic, xnn, xnc, hsh⟩ := hs1.shape
            simp only [Value.agg.injEq, Array.mk.injEq, List.cons.injEq, and_true] at hsh
            obtain ⟨rfl, rfl, rfl, rfl, rfl⟩ := hsh
            have hbn := below_new wr (.cells #[.int .i64 xk, .int .i64 xn, .string xs, .slice xia xli xic, .slice xna xnn xnc] 25)
            have hbn2 := hbn
            have HB2 := Lib.hid (Below.then HRW.out hbn)
            have HBV := Lib.hid (Below.then HRV.out hbn)
            have hmem : items[j]'(by omega) ∈ items := List.getElem_mem _
            have C := Lib.hid (IH.out (items[j]'(by omega)) _ (wr.alloc (.cells #[.int .i64 xk, .int .i64 xn, .string xs, .slice xia xli xic, .slice xna xnn xnc] 25)) (HM2.out _ hmem) (HITO.out.keep HB2.out) (hs1.keep HB2.out))
            have hYz := HTL.out _ hmem
            have hjl : j < items.length := by omega
            have HST := Lib.hid (HW.out.step hjl)
            obtain ⟨Y, hY⟩ : ∃ Y : ByteArray, (⟨(textL (items[j]'(by omega))).toArray⟩ : ByteArray) = Y := ⟨_, rfl⟩
            have HYL := Lib.hid (show Y.data.toList = textL (items[j]'(by omega)) by rw [← hY])
            have hYs : Y.size ≤ 96550276000 := by rw [Lib.size_eq, HYL.out]; omega
            rw [hY] at C
            clear e0 e1 e2 e3 e4 hev hs1 hmem hYz hY hbn
            have hcw := kc (HNS.out j (by omega))
            have hcn := (hbn2.cell (World.block_lt_of_cell? _ _ hcw)).trans hcw
            obtain ⟨q, hq⟩ : ∃ q, names[j]'(by omega) = q := ⟨_, rfl⟩
            have hqz : q.size ≤ 200 := by rw [← hq]; exact HZ.out _ (List.getElem_mem _)
            have HQ := Lib.hid (show names[j]?.getD ⟨#[]⟩ = q by rw [List.getElem?_eq_getElem (by omega), hq]; rfl)
            rw [hq] at hcn hcw
            clear hq hbn2
            clear kc
            obtain ⟨b0, b1, b2, b3, b4⟩ := (HA.out.keep HBV.out).cells
            by_cases hj0 : j = 0
            · subst hj0
              have HN1 := Lib.hid (HST.out (o ++ ⟨#[34]⟩ ++ q ++ ⟨#[34, 58]⟩ ++ Y) (by rw [HQ.out]; rw [cat_list, cat_list, cat_list, cat_list, HYL.out]; simp))
              have hcn0 : (wr.alloc _).cell? ⟨qb, qo, none⟩ = some (.string q) := hcn
              have u0 : wr.cell? ⟨pb, po, none⟩ = some (.int .i64 xk) := by simpa using v0
              have u1 : wr.cell? ⟨pb, po + 1, none⟩ = some (.int .i64 xn) := by simpa using v1
              have u2 : wr.cell? ⟨pb, po + 2, none⟩ = some (.string xs) := by simpa using v2
              have u3 : wr.cell? ⟨pb, po + 3, none⟩ = some (.slice xia xli xic) := by simpa using v3
              have u4 : wr.cell? ⟨pb, po + 4, none⟩ = some (.slice xna xnn xnc) := by simpa using v4
              go_wp2_with fail
              refine C.out.mono ?_
              rintro e w2 ⟨rfl, hbc⟩
              have HR3 := Lib.hid (Below.then HBV.out hbc)
              clear hbc
              go_wp2_with fail
              go_roundw
              case rel => exact ⟨1, _, by omega, by go_num, rfl, HN1.out, HR3.out⟩
              case measure => simp [intOf]; omega
            · have hj1 : 0 < j := by omega
              have HN1 := Lib.hid (HST.out (o ++ ⟨#[44]⟩ ++ ⟨#[34]⟩ ++ q ++ ⟨#[34, 58]⟩ ++ Y) (by rw [HQ.out]; rw [cat_list, cat_list, cat_list, cat_list, cat_list, HYL.out]; simp [hj0]))
              go_wp2_with fail
              refine C.out.mono ?_
              rintro e w2 ⟨rfl, hbc⟩
              have HR3 := Lib.hid (Below.then HBV.out hbc)
              clear hbc
              go_wp2_with fail
              go_roundw
              case rel => exact ⟨j + 1, _, by omega, by go_num, rfl, HN1.out, HR3.out⟩
              case measure => simp [intOf]; omega
          · have HO2 := Lib.hid (HO.out o (HW.out.done (by omega)))
            go_wp2_with fail
            go_ret
            exact ⟨by rw [HO2.out]; rfl, HRW.out⟩
end Go.Proofs.YtlhnefeeihghgaaGreatDoor
