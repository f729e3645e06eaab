/-
  The program's writer: the items of a row and of an object, by contracts. Conditions: the writer's value by its contract.
-/
import Derived.Test.YtlhnefeeihghgaaDoorWr
import Derived.Test.YtlhnefeeihghgaaDoorReadPlain2
import Derived.Test.YtlhnefeeihghgaaDoorRefMay
namespace Go.Proofs.YtlhnefeeihghgaaDoor
open Go.RowKit

theorem WrSt.andThen {B b : Nat} {w0 w w' : World} {l t : List UInt8} {e : Ending} (h : WrSt B b w0 l w) (p : PutEnds B b t w e w') : PutEnds B b t w0 e w' := ⟨h.below.trans p.below, h.kept.trans p.kept, p.is⟩
theorem WrSt.andThen' {B b : Nat} {w0 w w' : World} {l t : List UInt8} (h : WrSt B b w0 l w) (p : WrSt B b w t w') : WrSt B b w0 t w' := ⟨h.below.trans p.below, h.kept.trans p.kept, p.wr, p.low⟩
theorem TEnv.low {B : Nat} {w w' : World} (h : TEnv w) (hb : Below B w w') (hB : 8 ≤ B) : TEnv w' := h.keep hb.size fun k hk => hb.block k (Nat.lt_of_lt_of_le hk hB)

theorem len_le (l a b : List UInt8) (h : a.length ≤ b.length) : (l ++ a).length ≤ (l ++ b).length := by rw [List.length_append, List.length_append]; omega
/-- What the loop has written, and what is still to come. -/
structure Writ (four : Bool) (items : List Val) (names : List ByteArray) (j : Nat) (o : List UInt8) : Prop where
  eq : o ++ bodyL four (decide (j = 0)) (items.drop j) (names.drop j) = bodyL four true items names
theorem Writ.start (four : Bool) (items : List Val) (names : List ByteArray) : Writ four items names 0 [] := ⟨rfl⟩
theorem Writ.step {four : Bool} {items : List Val} {names : List ByteArray} {j : Nat} {o : List UInt8} (H : Writ four items names j o) (h : j < items.length) (o' : List UInt8)
    (ho : o' = o ++ (if decide (j = 0) then [] else [44]) ++ (if four then 34 :: (names[j]?.getD ⟨#[]⟩).data.toList ++ [34, 58] else []) ++ textL items[j]) : Writ four items names (j + 1) o' := by
  obtain ⟨H⟩ := H
  rw [bodyL_drop four _ items names j h] at H
  refine ⟨?_⟩
  rw [ho, ← H, show decide (j + 1 = 0) = false from decide_eq_false (by omega)]
  simp only [List.append_assoc]
theorem Writ.le {four : Bool} {items : List Val} {names : List ByteArray} {j : Nat} {o : List UInt8} (H : Writ four items names j o) : o.length ≤ (bodyL four true items names).length := by
  rw [← H.eq, List.length_append]; omega
theorem Writ.done {four : Bool} {items : List Val} {names : List ByteArray} {j : Nat} {o : List UInt8} (H : Writ four items names j o) (h : items.length ≤ j) : o = bodyL four true items names := by
  rw [← H.eq, List.drop_eq_nil_of_le h, bodyL, List.append_nil]
/-- The writer's value, by its contract, for one tree. -/
def WritesOf (B b : Nat) (T : Val) : Prop := ∀ (v : Value) (w : World) (l : List UInt8), ValIn (fun k => k < B) w v T → WrAt B b l w → l.length ≤ 4096 → TEnv w → B ≤ w.heap.size →
  Calls Tryd.prog 25 #[.pointer (some ⟨b, 0, none⟩), v] w fun e w' => PutEnds B b (l ++ textL T) w e w'

set_option maxRecDepth 100000 in
set_option maxHeartbeats 8000000 in
theorem items3_t (B b : Nat) (n : Int) (s : ByteArray) (ia na : Option Addr) (li ic nn nc : Nat) (items : List Val) (names : List ByteArray) (ev : Nat → Value) (l : List UInt8) (w : World) (hw : WrAt B b l w) (hl : l.length ≤ 4096) (hB : B ≤ w.heap.size)
    (_hN : StrsAt w (.slice na nn nc) names) (_hNS : InS (fun k => k < B) (.slice na nn nc) names.length) (hI : Fives w (.slice ia li ic) li ev) (hIS : InS (fun k => k < B) (.slice ia li ic) li) (hsub : ∀ (i : Nat) (h : i < items.length), ValIn (fun k => k < B) w (ev i) items[i])
    (hli : items.length = li) (hnn : names.length = nn) (hz : ∀ x ∈ names, x.size ≤ 200) (CV : ∀ T ∈ items, WritesOf B b T) (he : TEnv w) (hNG : 8 ≤ B) (hil : li ≤ maxLen) :
    Calls Tryd.prog 36 #[.pointer (some ⟨b, 0, none⟩), .agg #[.int .i64 3, .int .i64 n, .string s, .slice ia li ic, .slice na nn nc]] w fun e w' => PutEnds B b (l ++ bodyL false true items names) w e w' := by
  unfold maxLen at hil
  have CP := Lib.hid (fun l w hw hl s hs hB => put_t B b l s w hw hl hs hB)
  have CW := Lib.hid (fun l w hw hl s hs hB => word_w B b l s w hw hl hs hB)
  have HCV := Lib.hid CV
  have HL := Lib.hid hl
  have HE := Lib.hid he
  have HS := Lib.hid hsub
  have HZ := Lib.hid hz
  have HLI := Lib.hid hli
  have HNN := Lib.hid hnn
  have HNG := Lib.hid hNG
  have hS0 := WrSt.start hw hB
  have hbl := hw.lt
  have HBL := Lib.hid hbl
  rcases hI with ⟨h0, -⟩ | ⟨pb, po, cap, he', hlpos, -, -, hcs⟩
  · have hit : items = [] := List.length_eq_zero_iff.1 (hli.trans h0)
    subst h0
    have HO := Lib.hid (show PutEnds B b (l ++ bodyL false true items names) w (.returned (.tuple #[])) (w.alloc (.cells #[.int .i64 3, .int .i64 n, .string s, .slice ia 0 ic, .slice na nn nc] 25)) from by
      rw [hit, bodyL, List.append_nil]
      exact (hS0.alloc _).ends hl)
    clear hit hw hl hB _hN _hNS hIS hsub hli hnn hz CV he hNG hil hS0 hbl
    go_enter Tryd.func36, Tryd.ntmps36
    go_wp2_with fail
    refine wp_loop_rounds 1 ?_
    rw [rounds_succ]
    go_wp2_with fail
    go_end0
    exact HO.out
  · simp only [Value.slice.injEq] at he'
    obtain ⟨rfl, -, rfl⟩ := he'
    have hpb : pb < B := by
      obtain ⟨b', o', k', c', e', hS⟩ := hIS hlpos
      simp only [Value.slice.injEq, Option.some.injEq, Addr.mk.injEq] at e'
      rw [e'.1.1]; exact hS
    have HCS := Lib.hid hcs
    have HPB := Lib.hid hpb
    have HST0 := Lib.hid (hS0.alloc (.cells #[.int .i64 3, .int .i64 n, .string s, .slice (some ⟨pb, po, none⟩) li ic, .slice na nn nc] 25))
    have HV0 := Lib.hid (At5.new w (.int .i64 3) (.int .i64 n) (.string s) (.slice (some ⟨pb, po, none⟩) li ic) (.slice na nn nc))
    clear hcs hpb hw hl hB _hN _hNS hIS hsub hli hnn hz CV he hNG hS0 hbl
    go_enter Tryd.func36, Tryd.ntmps36
    go_wp2_with fail
    go_loopw [9] (fun iv wr => ∃ (j : Nat) (o : List UInt8), j ≤ li ∧ iv = .int .i64 j ∧ Writ false items names j o ∧ WrSt B b w (l ++ o) wr ∧ (l ++ o).length ≤ 4096 ∧ At5 wr w.heap.size (.int .i64 3) (.int .i64 n) (.string s) (.slice (some ⟨pb, po, none⟩) li ic) (.slice na nn nc) ∧ w.heap.size < wr.heap.size) (fun i _ => li - (intOf i).toNat)
    case atStart => exact ⟨0, [], Nat.zero_le _, rfl, Writ.start _ _ _, by rw [List.append_nil]; exact HST0.out, by rw [List.append_nil]; exact HL.out, HV0.out, by simp⟩
    case round =>
      obtain ⟨j, o, hj, rfl, hW, hst, hlo, hv5, hsz⟩ := hrel
      have HW := Lib.hid hW
      have HST := Lib.hid hst
      have HLO := Lib.hid hlo
      have HV5 := Lib.hid hv5
      have HSZ := Lib.hid hsz
      obtain ⟨a0, a1, a2, a3, a4⟩ := hv5.cells
      clear hW hlo
      by_cases hlt : j < li
      · obtain ⟨c0, c1, c2, c3, c4, hev, e0, e1, e2, e3, e4⟩ := HCS.out j hlt
        have kc : ∀ {i : Nat} {v : Value}, w.cell? ⟨pb, i, none⟩ = some v → wr.cell? ⟨pb, i, none⟩ = some v := fun {i _} h => (hst.below.cell (p := ⟨pb, i, none⟩) HPB.out).trans h
        have v0 := kc e0
        have v1 := kc e1
        have v2 := kc e2
        have v3 := kc e3
        have v4 := kc e4
        have hjl : j < items.length := by have := HLI.out; omega
        have hs1 := HS.out j hjl
        rw [hev] at hs1
        obtain ⟨xk, xn, xs, xia, xna, xli, xic, xnn, xnc, hsh⟩ := hs1.isVal.shape
        simp only [Value.agg.injEq, Array.mk.injEq, List.cons.injEq, and_true] at hsh
        obtain ⟨rfl, rfl, rfl, rfl, rfl⟩ := hsh
        obtain ⟨R, hR⟩ : ∃ R, wr.alloc (.cells #[.int .i64 xk, .int .i64 xn, .string xs, .slice xia xli xic, .slice xna xnn xnc] 25) = R := ⟨_, rfl⟩
        have hbR : Below wr.heap.size wr R := by rw [← hR]; exact below_new _ _
        have hxR : At5 R wr.heap.size (.int .i64 xk) (.int .i64 xn) (.string xs) (.slice xia xli xic) (.slice xna xnn xnc) := by rw [← hR]; exact At5.new _ _ _ _ _ _
        have hstR := hst.next hbR
        have S0 := Lib.hid (WrSt.start hstR.wr hstR.low)
        have HSR := Lib.hid hstR
        have HVR := Lib.hid (fun w' (h : Lib.OthersKept 5 (some b) R w') => show At5 w' w.heap.size (.int .i64 3) (.int .i64 n) (.string s) (.slice (some ⟨pb, po, none⟩) li ic) (.slice na nn nc) ∧ At5 w' wr.heap.size (.int .i64 xk) (.int .i64 xn) (.string xs) (.slice xia xli xic) (.slice xna xnn xnc) from
          ⟨(hv5.keep hbR).others h (by have := HBL.out; omega), hxR.others h (by have := hst.wr.lt; omega)⟩)
        have HX := Lib.hid (fun w' (h : Below B R w') => show ValIn (fun k => k < B) w' (.agg #[.int .i64 xk, .int .i64 xn, .string xs, .slice xia xli xic, .slice xna xnn xnc]) (items[j]'hjl) from
          hs1.keep fun k hS hlk => ⟨((hstR.below.trans h).block k hS), hS⟩)
        have HER := Lib.hid (fun w' (h : Below B R w') => show TEnv w' from HE.out.low (hstR.below.trans h) HNG.out)
        have HR := Lib.hid hR
        obtain ⟨b0, b1, b2, b3, b4⟩ := (hv5.keep (below_new wr (.cells #[.int .i64 xk, .int .i64 xn, .string xs, .slice xia xli xic, .slice xna xnn xnc] 25))).cells
        have H0 := HLO
        have CI := Lib.hid (HCV.out (items[j]'hjl) (List.getElem_mem hjl))
        have HSTEP := Lib.hid (HW.out.step hjl)
        clear e0 e1 e2 e3 e4 hev hs1 kc hst hv5 hsz hbR hxR hstR hR
        by_cases hj0 : j = 0
        · subst hj0
          have u0 : wr.cell? ⟨pb, po, none⟩ = some (.int .i64 xk) := by simpa using v0
          have u1 : wr.cell? ⟨pb, po + 1, none⟩ = some (.int .i64 xn) := by simpa using v1
          have u2 : wr.cell? ⟨pb, po + 2, none⟩ = some (.string xs) := by simpa using v2
          have u3 : wr.cell? ⟨pb, po + 3, none⟩ = some (.slice xia xli xic) := by simpa using v3
          have u4 : wr.cell? ⟨pb, po + 4, none⟩ = some (.slice xna xnn xnc) := by simpa using v4
          have HN1 := Lib.hid (HSTEP.out (o ++ textL (items[0]'hjl)) (by simp))
          have HEQ := Lib.hid (show l ++ o ++ textL (items[0]'hjl) = l ++ (o ++ textL (items[0]'hjl)) by simp)
          have HLEN := Lib.hid (show (l ++ o ++ textL (items[0]'hjl)).length ≤ (l ++ bodyL false true items names).length by rw [HEQ.out]; exact len_le _ _ _ HN1.out.le)
          go_wp2_with fail
          rw [HR.out]
          refine (CI.out _ _ _ (HX.out _ S0.out.below) S0.out.wr H0.out (HER.out _ S0.out.below) S0.out.low).mono ?_
          intro e w1 p
          by_cases h1 : (l ++ o ++ textL (items[0]'hjl)).length ≤ 4096
          · obtain ⟨rfl, s1⟩ := S0.out.call p h1
            clear p
            clear b0 b1 b2 b3 b4
            have HEND := Lib.hid s1
            have HENDL := Lib.hid h1
            have HVE := Lib.hid (HVR.out _ s1.kept).1
            have HVS := Lib.hid (show w.heap.size < w1.heap.size from Nat.lt_of_lt_of_le HSZ.out (Nat.le_trans (by rw [← HR.out]; simp) s1.below.size))
            clear s1 h1
            go_wp2_with fail
            go_roundw
            case rel => exact ⟨1, _, by omega, by go_num, HN1.out, by rw [← HEQ.out]; exact HSR.out.andThen' HEND.out, by rw [← HEQ.out]; exact HENDL.out, HVE.out, HVS.out⟩
            case measure => simp [intOf]; omega
          · obtain ⟨h0, s3⟩ := S0.out.stops (t := l ++ bodyL false true items names) p h1 (by have := HLEN.out; simp only [List.length_append] at this ⊢; omega)
            obtain rfl : e = .panicked [{ v := .iface 26 (.int .i64 2), recovered := false }] := h0
            have P3 := Lib.hid (HSR.out.andThen s3)
            clear p s3 h1
            go_wp2_with fail
            exact ⟨rfl, P3.out⟩
        · have hj1 : 0 < j := by omega
          have HN1 := Lib.hid (HSTEP.out (o ++ [44] ++ textL (items[j]'hjl)) (by simp [hj0]))
          have HEQ := Lib.hid (show l ++ o ++ ([44] : List UInt8) ++ textL (items[j]'hjl) = l ++ (o ++ [44] ++ textL (items[j]'hjl)) by simp)
          have HLEN := Lib.hid (show (l ++ o ++ ([44] : List UInt8) ++ textL (items[j]'hjl)).length ≤ (l ++ bodyL false true items names).length by rw [HEQ.out]; exact len_le _ _ _ HN1.out.le)
          go_wp2_with fail
          rw [HR.out]
          refine (CP.out _ _ S0.out.wr H0.out ⟨#[44]⟩ (by decide) S0.out.low).mono ?_
          intro e w1 p
          have p : PutEnds B b (l ++ o ++ ([44] : List UInt8)) R e w1 := p
          by_cases h1 : (l ++ o ++ ([44] : List UInt8)).length ≤ 4096
          · obtain ⟨rfl, s1⟩ := S0.out.call p h1
            clear p
            clear b0 b1 b2 b3 b4
            have S1 := Lib.hid s1
            have H1 := Lib.hid h1
            obtain ⟨hvv, hxx⟩ := HVR.out _ s1.kept
            obtain ⟨d0, d1, d2, d3, d4⟩ := hvv.cells
            obtain ⟨x0, x1, x2, x3, x4⟩ := hxx.cells
            clear s1 h1 hvv hxx
            go_wp2_with fail
            refine (CI.out _ _ _ (HX.out _ S1.out.below) S1.out.wr H1.out (HER.out _ S1.out.below) S1.out.low).mono ?_
            intro e w2 p
            by_cases h2 : (l ++ o ++ ([44] : List UInt8) ++ textL (items[j]'hjl)).length ≤ 4096
            · obtain ⟨rfl, s2⟩ := S1.out.call p h2
              clear p
              clear d0 d1 d2 d3 d4 x0 x1 x2 x3 x4
              have HEND := Lib.hid s2
              have HENDL := Lib.hid h2
              have HVE := Lib.hid (HVR.out _ s2.kept).1
              have HVS := Lib.hid (show w.heap.size < w2.heap.size from Nat.lt_of_lt_of_le HSZ.out (Nat.le_trans (by rw [← HR.out]; simp) s2.below.size))
              clear s2 h2
              go_wp2_with fail
              go_roundw
              case rel => exact ⟨j + 1, _, by omega, by go_num, HN1.out, by rw [← HEQ.out]; exact HSR.out.andThen' HEND.out, by rw [← HEQ.out]; exact HENDL.out, HVE.out, HVS.out⟩
              case measure => simp [intOf]; omega
            · obtain ⟨h0, s3⟩ := S1.out.stops (t := l ++ bodyL false true items names) p h2 (by have := HLEN.out; simp only [List.length_append, List.length_cons, List.length_nil] at this ⊢; omega)
              obtain rfl : e = .panicked [{ v := .iface 26 (.int .i64 2), recovered := false }] := h0
              have P3 := Lib.hid (HSR.out.andThen s3)
              clear p s3 h2
              go_wp2_with fail
              exact ⟨rfl, P3.out⟩
          · obtain ⟨h0, s3⟩ := S0.out.stops (t := l ++ bodyL false true items names) p h1 (by have := HLEN.out; simp only [List.length_append, List.length_cons, List.length_nil] at this ⊢; omega)
            obtain rfl : e = .panicked [{ v := .iface 26 (.int .i64 2), recovered := false }] := h0
            have P3 := Lib.hid (HSR.out.andThen s3)
            clear p s3 h1
            go_wp2_with fail
            exact ⟨rfl, P3.out⟩
      · have hO := HW.out.done (by have := HLI.out; omega)
        have HO := Lib.hid (show PutEnds B b (l ++ bodyL false true items names) w (.returned (.tuple #[])) wr by rw [← hO]; exact HST.out.ends HLO.out)
        clear hst hv5 hsz hO
        go_wp2_with fail
        go_end0
        exact HO.out

set_option maxRecDepth 100000 in
set_option maxHeartbeats 8000000 in
theorem items4_t (B b : Nat) (n : Int) (s : ByteArray) (ia na : Option Addr) (li ic nn nc : Nat) (items : List Val) (names : List ByteArray) (ev : Nat → Value) (l : List UInt8) (w : World) (hw : WrAt B b l w) (hl : l.length ≤ 4096) (hB : B ≤ w.heap.size)
    (hN : StrsAt w (.slice na nn nc) names) (hNS : InS (fun k => k < B) (.slice na nn nc) names.length) (hI : Fives w (.slice ia li ic) li ev) (hIS : InS (fun k => k < B) (.slice ia li ic) li) (hsub : ∀ (i : Nat) (h : i < items.length), ValIn (fun k => k < B) w (ev i) items[i])
    (hli : items.length = li) (hnn : names.length = nn) (hz : ∀ x ∈ names, x.size ≤ 200) (hsame : li = nn) (CV : ∀ T ∈ items, WritesOf B b T) (he : TEnv w) (hNG : 8 ≤ B) (hil : li ≤ maxLen) :
    Calls Tryd.prog 36 #[.pointer (some ⟨b, 0, none⟩), .agg #[.int .i64 4, .int .i64 n, .string s, .slice ia li ic, .slice na nn nc]] w fun e w' => PutEnds B b (l ++ bodyL true true items names) w e w' := by
  subst hsame
  unfold maxLen at hil
  have CP := Lib.hid (fun l w hw hl s hs hB => put_t B b l s w hw hl hs hB)
  have CW := Lib.hid (fun l w hw hl s hs hB => word_w B b l s w hw hl hs hB)
  have HCV := Lib.hid CV
  have HL := Lib.hid hl
  have HE := Lib.hid he
  have HS := Lib.hid hsub
  have HZ := Lib.hid hz
  have HLI := Lib.hid hli
  have HNN := Lib.hid hnn
  have HNG := Lib.hid hNG
  have hS0 := WrSt.start hw hB
  have hbl := hw.lt
  have HBL := Lib.hid hbl
  rcases hI with ⟨h0, -⟩ | ⟨pb, po, cap, he', hlpos, -, -, hcs⟩
  · have hit : items = [] := List.length_eq_zero_iff.1 (hli.trans h0)
    subst h0
    have HO := Lib.hid (show PutEnds B b (l ++ bodyL true true items names) w (.returned (.tuple #[])) (w.alloc (.cells #[.int .i64 4, .int .i64 n, .string s, .slice ia 0 ic, .slice na 0 nc] 25)) from by
      rw [hit, bodyL, List.append_nil]
      exact (hS0.alloc _).ends hl)
    clear hit hw hl hB hN hNS hIS hsub hli hnn hz CV he hNG hil hS0 hbl
    go_enter Tryd.func36, Tryd.ntmps36
    go_wp2_with fail
    refine wp_loop_rounds 1 ?_
    rw [rounds_succ]
    go_wp2_with fail
    go_end0
    exact HO.out
  · simp only [Value.slice.injEq] at he'
    obtain ⟨rfl, -, rfl⟩ := he'
    have hpb : pb < B := by
      obtain ⟨b', o', k', c', e', hS⟩ := hIS hlpos
      simp only [Value.slice.injEq, Option.some.injEq, Addr.mk.injEq] at e'
      rw [e'.1.1]; exact hS
    have hqp : 0 < names.length := by omega
    have hqb := hNS hqp
    rcases hN with ⟨hnil, -⟩ | ⟨qb, qo, qcap, hv, -, -, -, hns⟩
    · rw [hnil] at hqp; exact absurd hqp (by simp)
    simp only [Value.slice.injEq] at hv
    obtain ⟨rfl, -, rfl⟩ := hv
    have hqB : qb < B := by
      obtain ⟨b', o', k', c', e', hS⟩ := hqb
      simp only [Value.slice.injEq, Option.some.injEq, Addr.mk.injEq] at e'
      rw [e'.1.1]; exact hS
    have HNS := Lib.hid hns
    have HQB := Lib.hid hqB
    clear hns hqB hqb hqp
    have HCS := Lib.hid hcs
    have HPB := Lib.hid hpb
    have HST0 := Lib.hid (hS0.alloc (.cells #[.int .i64 4, .int .i64 n, .string s, .slice (some ⟨pb, po, none⟩) li ic, .slice (some ⟨qb, qo, none⟩) li nc] 25))
    have HV0 := Lib.hid (At5.new w (.int .i64 4) (.int .i64 n) (.string s) (.slice (some ⟨pb, po, none⟩) li ic) (.slice (some ⟨qb, qo, none⟩) li nc))
    clear hcs hpb hw hl hB hNS hIS hsub hli hnn hz CV he hNG hS0 hbl
    go_enter Tryd.func36, Tryd.ntmps36
    go_wp2_with fail
    go_loopw [9] (fun iv wr => ∃ (j : Nat) (o : List UInt8), j ≤ li ∧ iv = .int .i64 j ∧ Writ true items names j o ∧ WrSt B b w (l ++ o) wr ∧ (l ++ o).length ≤ 4096 ∧ At5 wr w.heap.size (.int .i64 4) (.int .i64 n) (.string s) (.slice (some ⟨pb, po, none⟩) li ic) (.slice (some ⟨qb, qo, none⟩) li nc) ∧ w.heap.size < wr.heap.size) (fun i _ => li - (intOf i).toNat)
    case atStart => exact ⟨0, [], Nat.zero_le _, rfl, Writ.start _ _ _, by rw [List.append_nil]; exact HST0.out, by rw [List.append_nil]; exact HL.out, HV0.out, by simp⟩
    case round =>
      obtain ⟨j, o, hj, rfl, hW, hst, hlo, hv5, hsz⟩ := hrel
      have HW := Lib.hid hW
      have HST := Lib.hid hst
      have HLO := Lib.hid hlo
      have HV5 := Lib.hid hv5
      have HSZ := Lib.hid hsz
      obtain ⟨a0, a1, a2, a3, a4⟩ := hv5.cells
      clear hW hlo
      by_cases hlt : j < li
      · obtain ⟨c0, c1, c2, c3, c4, hev, e0, e1, e2, e3, e4⟩ := HCS.out j hlt
        have kc : ∀ {i : Nat} {v : Value}, w.cell? ⟨pb, i, none⟩ = some v → wr.cell? ⟨pb, i, none⟩ = some v := fun {i _} h => (hst.below.cell (p := ⟨pb, i, none⟩) HPB.out).trans h
        have v0 := kc e0
        have v1 := kc e1
        have v2 := kc e2
        have v3 := kc e3
        have v4 := kc e4
        have hjl : j < items.length := by have := HLI.out; omega
        have hs1 := HS.out j hjl
        rw [hev] at hs1
        obtain ⟨xk, xn, xs, xia, xna, xli, xic, xnn, xnc, hsh⟩ := hs1.isVal.shape
        simp only [Value.agg.injEq, Array.mk.injEq, List.cons.injEq, and_true] at hsh
        obtain ⟨rfl, rfl, rfl, rfl, rfl⟩ := hsh
        obtain ⟨R, hR⟩ : ∃ R, wr.alloc (.cells #[.int .i64 xk, .int .i64 xn, .string xs, .slice xia xli xic, .slice xna xnn xnc] 25) = R := ⟨_, rfl⟩
        have hbR : Below wr.heap.size wr R := by rw [← hR]; exact below_new _ _
        have hxR : At5 R wr.heap.size (.int .i64 xk) (.int .i64 xn) (.string xs) (.slice xia xli xic) (.slice xna xnn xnc) := by rw [← hR]; exact At5.new _ _ _ _ _ _
        have hstR := hst.next hbR
        have S0 := Lib.hid (WrSt.start hstR.wr hstR.low)
        have HSR := Lib.hid hstR
        have HVR := Lib.hid (fun w' (h : Lib.OthersKept 5 (some b) R w') => show At5 w' w.heap.size (.int .i64 4) (.int .i64 n) (.string s) (.slice (some ⟨pb, po, none⟩) li ic) (.slice (some ⟨qb, qo, none⟩) li nc) ∧ At5 w' wr.heap.size (.int .i64 xk) (.int .i64 xn) (.string xs) (.slice xia xli xic) (.slice xna xnn xnc) from
          ⟨(hv5.keep hbR).others h (by have := HBL.out; omega), hxR.others h (by have := hst.wr.lt; omega)⟩)
        have HX := Lib.hid (fun w' (h : Below B R w') => show ValIn (fun k => k < B) w' (.agg #[.int .i64 xk, .int .i64 xn, .string xs, .slice xia xli xic, .slice xna xnn xnc]) (items[j]'hjl) from
          hs1.keep fun k hS hlk => ⟨((hstR.below.trans h).block k hS), hS⟩)
        have HER := Lib.hid (fun w' (h : Below B R w') => show TEnv w' from HE.out.low (hstR.below.trans h) HNG.out)
        have HR := Lib.hid hR
        obtain ⟨b0, b1, b2, b3, b4⟩ := (hv5.keep (below_new wr (.cells #[.int .i64 xk, .int .i64 xn, .string xs, .slice xia xli xic, .slice xna xnn xnc] 25))).cells
        have H0 := HLO
        have CI := Lib.hid (HCV.out (items[j]'hjl) (List.getElem_mem hjl))
        have HSTEP := Lib.hid (HW.out.step hjl)
        have hcw := (hst.below.cell (p := ⟨qb, qo + j, none⟩) HQB.out).trans (HNS.out j (by have := HNN.out; omega))
        have hcR := fun o => ((below_new wr o).cell (World.block_lt_of_cell? _ _ hcw)).trans hcw
        have hcq := fun w' (h : Below B R w') => (h.cell (p := ⟨qb, qo + j, none⟩) HQB.out).trans ((hbR.cell (World.block_lt_of_cell? _ _ hcw)).trans hcw)
        obtain ⟨q, hq⟩ : ∃ q, names[j]'(by have := HNN.out; omega) = q := ⟨_, rfl⟩
        have HQZ := Lib.hid (show q.size ≤ 4096 by rw [← hq]; exact Nat.le_trans (HZ.out _ (List.getElem_mem _)) (by decide))
        have HQ := Lib.hid (show names[j]?.getD ⟨#[]⟩ = q by rw [List.getElem?_eq_getElem (by have := HNN.out; omega), hq]; rfl)
        rw [hq] at hcw hcR hcq
        have HCQ := Lib.hid hcq
        clear hq hcq hcw
        clear e0 e1 e2 e3 e4 hev hs1 kc hst hv5 hsz hbR hxR hstR hR
        by_cases hj0 : j = 0
        · subst hj0
          have u0 : wr.cell? ⟨pb, po, none⟩ = some (.int .i64 xk) := by simpa using v0
          have u1 : wr.cell? ⟨pb, po + 1, none⟩ = some (.int .i64 xn) := by simpa using v1
          have u2 : wr.cell? ⟨pb, po + 2, none⟩ = some (.string xs) := by simpa using v2
          have u3 : wr.cell? ⟨pb, po + 3, none⟩ = some (.slice xia xli xic) := by simpa using v3
          have u4 : wr.cell? ⟨pb, po + 4, none⟩ = some (.slice xna xnn xnc) := by simpa using v4
          have hcR0 : ∀ o, (wr.alloc o).cell? ⟨qb, qo, none⟩ = some (.string q) := fun o => by simpa using hcR o
          have HN1 := Lib.hid (HSTEP.out (o ++ ((34 :: q.data.toList : List UInt8) ++ ([34, 58] : List UInt8)) ++ textL (items[0]'hjl)) (by rw [HQ.out]; simp))
          have HEQ := Lib.hid (show l ++ o ++ (34 :: q.data.toList : List UInt8) ++ ([34] : List UInt8) ++ ([58] : List UInt8) ++ textL (items[0]'hjl) = l ++ (o ++ ((34 :: q.data.toList : List UInt8) ++ ([34, 58] : List UInt8)) ++ textL (items[0]'hjl)) by simp)
          have HLEN := Lib.hid (show (l ++ o ++ (34 :: q.data.toList : List UInt8) ++ ([34] : List UInt8) ++ ([58] : List UInt8) ++ textL (items[0]'hjl)).length ≤ (l ++ bodyL true true items names).length by rw [HEQ.out]; exact len_le _ _ _ HN1.out.le)
          go_wp2_with fail
          rw [HR.out]
          refine (CW.out _ _ S0.out.wr H0.out q HQZ.out S0.out.low).mono ?_
          intro e w1 p
          by_cases h1 : (l ++ o ++ (34 :: q.data.toList : List UInt8) ++ ([34] : List UInt8)).length ≤ 4096
          · obtain ⟨rfl, s1⟩ := S0.out.call p h1
            clear p
            clear b0 b1 b2 b3 b4
            have S1 := Lib.hid s1
            have H1 := Lib.hid h1
            obtain ⟨hvv, hxx⟩ := HVR.out _ s1.kept
            obtain ⟨d0, d1, d2, d3, d4⟩ := hvv.cells
            obtain ⟨x0, x1, x2, x3, x4⟩ := hxx.cells
            clear s1 h1 hvv hxx
            go_wp2_with fail
            refine (CP.out _ _ S1.out.wr H1.out ⟨#[58]⟩ (by decide) S1.out.low).mono ?_
            intro e w2 p
            have p : PutEnds B b (l ++ o ++ (34 :: q.data.toList : List UInt8) ++ ([34] : List UInt8) ++ ([58] : List UInt8)) w1 e w2 := p
            by_cases h2 : (l ++ o ++ (34 :: q.data.toList : List UInt8) ++ ([34] : List UInt8) ++ ([58] : List UInt8)).length ≤ 4096
            · obtain ⟨rfl, s2⟩ := S1.out.call p h2
              clear p
              clear d0 d1 d2 d3 d4 x0 x1 x2 x3 x4
              have S2 := Lib.hid s2
              have H2 := Lib.hid h2
              obtain ⟨hvv, hxx⟩ := HVR.out _ s2.kept
              obtain ⟨d0, d1, d2, d3, d4⟩ := hvv.cells
              obtain ⟨x0, x1, x2, x3, x4⟩ := hxx.cells
              clear s2 h2 hvv hxx
              go_wp2_with fail
              refine (CI.out _ _ _ (HX.out _ S2.out.below) S2.out.wr H2.out (HER.out _ S2.out.below) S2.out.low).mono ?_
              intro e w3 p
              by_cases h3 : (l ++ o ++ (34 :: q.data.toList : List UInt8) ++ ([34] : List UInt8) ++ ([58] : List UInt8) ++ textL (items[0]'hjl)).length ≤ 4096
              · obtain ⟨rfl, s3⟩ := S2.out.call p h3
                clear p
                clear d0 d1 d2 d3 d4 x0 x1 x2 x3 x4
                have HEND := Lib.hid s3
                have HENDL := Lib.hid h3
                have HVE := Lib.hid (HVR.out _ s3.kept).1
                have HVS := Lib.hid (show w.heap.size < w3.heap.size from Nat.lt_of_lt_of_le HSZ.out (Nat.le_trans (by rw [← HR.out]; simp) s3.below.size))
                clear s3 h3
                go_wp2_with fail
                go_roundw
                case rel => exact ⟨1, _, by omega, by go_num, HN1.out, by rw [← HEQ.out]; exact HSR.out.andThen' HEND.out, by rw [← HEQ.out]; exact HENDL.out, HVE.out, HVS.out⟩
                case measure => simp [intOf]; omega
              · obtain ⟨h0, s3⟩ := S2.out.stops (t := l ++ bodyL true true items names) p h3 (by have := HLEN.out; simp only [List.length_append, List.length_cons, List.length_nil] at this ⊢; omega)
                obtain rfl : e = .panicked [{ v := .iface 26 (.int .i64 2), recovered := false }] := h0
                have P3 := Lib.hid (HSR.out.andThen s3)
                clear p s3 h3
                go_wp2_with fail
                exact ⟨rfl, P3.out⟩
            · obtain ⟨h0, s3⟩ := S1.out.stops (t := l ++ bodyL true true items names) p h2 (by have := HLEN.out; simp only [List.length_append, List.length_cons, List.length_nil] at this ⊢; omega)
              obtain rfl : e = .panicked [{ v := .iface 26 (.int .i64 2), recovered := false }] := h0
              have P3 := Lib.hid (HSR.out.andThen s3)
              clear p s3 h2
              go_wp2_with fail
              exact ⟨rfl, P3.out⟩
          · obtain ⟨h0, s3⟩ := S0.out.stops (t := l ++ bodyL true true items names) p h1 (by have := HLEN.out; simp only [List.length_append, List.length_cons, List.length_nil] at this ⊢; omega)
            obtain rfl : e = .panicked [{ v := .iface 26 (.int .i64 2), recovered := false }] := h0
            have P3 := Lib.hid (HSR.out.andThen s3)
            clear p s3 h1
            go_wp2_with fail
            exact ⟨rfl, P3.out⟩
        · have hj1 : 0 < j := by omega
          have HN1 := Lib.hid (HSTEP.out (o ++ [44] ++ ((34 :: q.data.toList : List UInt8) ++ ([34, 58] : List UInt8)) ++ textL (items[j]'hjl)) (by rw [HQ.out]; simp [hj0]))
          have HEQ := Lib.hid (show l ++ o ++ ([44] : List UInt8) ++ (34 :: q.data.toList : List UInt8) ++ ([34] : List UInt8) ++ ([58] : List UInt8) ++ textL (items[j]'hjl) = l ++ (o ++ [44] ++ ((34 :: q.data.toList : List UInt8) ++ ([34, 58] : List UInt8)) ++ textL (items[j]'hjl)) by simp)
          have HLEN := Lib.hid (show (l ++ o ++ ([44] : List UInt8) ++ (34 :: q.data.toList : List UInt8) ++ ([34] : List UInt8) ++ ([58] : List UInt8) ++ textL (items[j]'hjl)).length ≤ (l ++ bodyL true true items names).length by rw [HEQ.out]; exact len_le _ _ _ HN1.out.le)
          go_wp2_with fail
          rw [HR.out]
          refine (CP.out _ _ S0.out.wr H0.out ⟨#[44]⟩ (by decide) S0.out.low).mono ?_
          intro e w1 p
          have p : PutEnds B b (l ++ o ++ ([44] : List UInt8)) R e w1 := p
          by_cases h1 : (l ++ o ++ ([44] : List UInt8)).length ≤ 4096
          · obtain ⟨rfl, s1⟩ := S0.out.call p h1
            clear p
            clear b0 b1 b2 b3 b4
            have S1 := Lib.hid s1
            have H1 := Lib.hid h1
            obtain ⟨hvv, hxx⟩ := HVR.out _ s1.kept
            obtain ⟨d0, d1, d2, d3, d4⟩ := hvv.cells
            obtain ⟨x0, x1, x2, x3, x4⟩ := hxx.cells
            have hcw := HCQ.out _ s1.below
            clear s1 h1 hvv hxx
            go_wp2_with fail
            refine (CW.out _ _ S1.out.wr H1.out q HQZ.out S1.out.low).mono ?_
            intro e w2 p
            by_cases h2 : (l ++ o ++ ([44] : List UInt8) ++ (34 :: q.data.toList : List UInt8) ++ ([34] : List UInt8)).length ≤ 4096
            · obtain ⟨rfl, s2⟩ := S1.out.call p h2
              clear p
              clear d0 d1 d2 d3 d4 x0 x1 x2 x3 x4
              have S2 := Lib.hid s2
              have H2 := Lib.hid h2
              obtain ⟨hvv, hxx⟩ := HVR.out _ s2.kept
              obtain ⟨d0, d1, d2, d3, d4⟩ := hvv.cells
              obtain ⟨x0, x1, x2, x3, x4⟩ := hxx.cells
              clear s2 h2 hvv hxx
              go_wp2_with fail
              refine (CP.out _ _ S2.out.wr H2.out ⟨#[58]⟩ (by decide) S2.out.low).mono ?_
              intro e w3 p
              have p : PutEnds B b (l ++ o ++ ([44] : List UInt8) ++ (34 :: q.data.toList : List UInt8) ++ ([34] : List UInt8) ++ ([58] : List UInt8)) w2 e w3 := p
              by_cases h3 : (l ++ o ++ ([44] : List UInt8) ++ (34 :: q.data.toList : List UInt8) ++ ([34] : List UInt8) ++ ([58] : List UInt8)).length ≤ 4096
              · obtain ⟨rfl, s3⟩ := S2.out.call p h3
                clear p
                clear d0 d1 d2 d3 d4 x0 x1 x2 x3 x4
                have S3 := Lib.hid s3
                have H3 := Lib.hid h3
                obtain ⟨hvv, hxx⟩ := HVR.out _ s3.kept
                obtain ⟨d0, d1, d2, d3, d4⟩ := hvv.cells
                obtain ⟨x0, x1, x2, x3, x4⟩ := hxx.cells
                clear s3 h3 hvv hxx
                go_wp2_with fail
                refine (CI.out _ _ _ (HX.out _ S3.out.below) S3.out.wr H3.out (HER.out _ S3.out.below) S3.out.low).mono ?_
                intro e w4 p
                by_cases h4 : (l ++ o ++ ([44] : List UInt8) ++ (34 :: q.data.toList : List UInt8) ++ ([34] : List UInt8) ++ ([58] : List UInt8) ++ textL (items[j]'hjl)).length ≤ 4096
                · obtain ⟨rfl, s4⟩ := S3.out.call p h4
                  clear p
                  clear d0 d1 d2 d3 d4 x0 x1 x2 x3 x4
                  have HEND := Lib.hid s4
                  have HENDL := Lib.hid h4
                  have HVE := Lib.hid (HVR.out _ s4.kept).1
                  have HVS := Lib.hid (show w.heap.size < w4.heap.size from Nat.lt_of_lt_of_le HSZ.out (Nat.le_trans (by rw [← HR.out]; simp) s4.below.size))
                  clear s4 h4
                  go_wp2_with fail
                  go_roundw
                  case rel => exact ⟨j + 1, _, by omega, by go_num, HN1.out, by rw [← HEQ.out]; exact HSR.out.andThen' HEND.out, by rw [← HEQ.out]; exact HENDL.out, HVE.out, HVS.out⟩
                  case measure => simp [intOf]; omega
                · obtain ⟨h0, s3⟩ := S3.out.stops (t := l ++ bodyL true true items names) p h4 (by have := HLEN.out; simp only [List.length_append, List.length_cons, List.length_nil] at this ⊢; omega)
                  obtain rfl : e = .panicked [{ v := .iface 26 (.int .i64 2), recovered := false }] := h0
                  have P3 := Lib.hid (HSR.out.andThen s3)
                  clear p s3 h4
                  go_wp2_with fail
                  exact ⟨rfl, P3.out⟩
              · obtain ⟨h0, s3⟩ := S2.out.stops (t := l ++ bodyL true true items names) p h3 (by have := HLEN.out; simp only [List.length_append, List.length_cons, List.length_nil] at this ⊢; omega)
                obtain rfl : e = .panicked [{ v := .iface 26 (.int .i64 2), recovered := false }] := h0
                have P3 := Lib.hid (HSR.out.andThen s3)
                clear p s3 h3
                go_wp2_with fail
                exact ⟨rfl, P3.out⟩
            · obtain ⟨h0, s3⟩ := S1.out.stops (t := l ++ bodyL true true items names) p h2 (by have := HLEN.out; simp only [List.length_append, List.length_cons, List.length_nil] at this ⊢; omega)
              obtain rfl : e = .panicked [{ v := .iface 26 (.int .i64 2), recovered := false }] := h0
              have P3 := Lib.hid (HSR.out.andThen s3)
              clear p s3 h2
              go_wp2_with fail
              exact ⟨rfl, P3.out⟩
          · obtain ⟨h0, s3⟩ := S0.out.stops (t := l ++ bodyL true true items names) p h1 (by have := HLEN.out; simp only [List.length_append, List.length_cons, List.length_nil] at this ⊢; omega)
            obtain rfl : e = .panicked [{ v := .iface 26 (.int .i64 2), recovered := false }] := h0
            have P3 := Lib.hid (HSR.out.andThen s3)
            clear p s3 h1
            go_wp2_with fail
            exact ⟨rfl, P3.out⟩
      · have hO := HW.out.done (by have := HLI.out; omega)
        have HO := Lib.hid (show PutEnds B b (l ++ bodyL true true items names) w (.returned (.tuple #[])) wr by rw [← hO]; exact HST.out.ends HLO.out)
        clear hst hv5 hsz hO
        go_wp2_with fail
        go_end0
        exact HO.out
end Go.Proofs.YtlhnefeeihghgaaDoor
