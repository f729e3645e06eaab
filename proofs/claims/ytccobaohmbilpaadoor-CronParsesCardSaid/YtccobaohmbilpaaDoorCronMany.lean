/-
  The program's part and field of a schedule, by contracts. Conditions: texts of at most 300 bytes, bounds of at most 63, the package-level variables as CEnv says.
-/
import Derived.Test.YtccobaohmbilpaaDoorCronSpan
namespace Go.Proofs.YtccobaohmbilpaaDoor
open Go.RowKit

theorem span_in {s : List UInt8} {low high a b : Nat} (h : spanS s low high = .ok a b) (hlh : low ≤ high) : low ≤ a ∧ a ≤ b ∧ b ≤ high := by
  unfold spanS at h
  split at h
  · injection h with h1 h2; subst h1; subst h2; exact ⟨Nat.le_refl _, hlh, Nat.le_refl _⟩
  · split at h
    · cases h1 : numberL (cutB 45 s).1 low high <;> cases h2 : numberL (cutB 45 s).2.1 low high <;> rw [h1, h2] at h <;> simp only [spanOf] at h
      · cases h
      · cases h
      · cases h
      · split at h
        · rename_i hc
          injection h with h3 h4; subst h3; subst h4
          exact ⟨(numberL_le h1).1, hc, (numberL_le h2).2⟩
        · cases h
    · cases h
/-- How many ends. -/
def ManyEnd (aA aN aO : Addr) (e : Ending) : Mny → Prop
  | .ok n => e = .returned (.tuple #[.int .u64 (n : Nat), .nilIface])
  | .bad => ∃ x, (x = aN ∨ x = aO) ∧ e = .returned (.tuple #[.int .u64 0, errV x])
  | .alone => e = .returned (.tuple #[.int .u64 0, errV aA])

set_option maxRecDepth 100000 in
set_option maxHeartbeats 4000000 in
theorem many_t (low high : Nat) (s : ByteArray) (w : World) {aA aN aO : Addr} (hh : high ≤ 63) (hl : low ≤ high) (hs : s.size ≤ 300) (he : CEnv w aA aN aO) :
    Calls Tryd.prog 37 #[bV low high, .string s] w fun e w' => ManyEnd aA aN aO e (manyS s.data.toList low high) ∧ Below w.heap.size w w' := by
  obtain ⟨W, hW⟩ : ∃ W, w.alloc (.cells #[.int .i64 low, .int .i64 high] 53) = W := ⟨_, rfl⟩
  have hT := Two.new w low high
  have hB := below_new w (.cells #[.int .i64 low, .int .i64 high] 53)
  rw [hW] at hT hB
  have hsz := he.months.size
  have hE := he.keep hB
  have C1 := Lib.hid (cut_t s 47 hs W hE)
  have hcl := cutB_len 47 s.data.toList
  rw [← size_list s] at hcl
  have SP := Lib.hid (fun (x : List UInt8) (h : x.length ≤ 300) w1 (h2 : CEnv w1 aA aN aO) => span_t low high ⟨x.toArray⟩ w1 (show high ≤ 99 by omega) (show low ≤ 99 by omega) (by rw [size_list]; exact h) h2)
  have NT := Lib.hid (fun (x : List UInt8) (h : x.length ≤ 300) w1 (h2 : CEnv w1 aA aN aO) => number_t 1 59 ⟨x.toArray⟩ w1 (by decide) (by decide) (by rw [size_list]; exact h) h2)
  have HW := Lib.hid hW
  have HB := Lib.hid hB
  have HT := Lib.hid hT
  have HE := Lib.hid hE
  have HSP := Lib.hid (show manyS s.data.toList low high = manyOf (spanS (cutB 47 s.data.toList).1 low high) (cutB 47 s.data.toList).2.2 (numberL (cutB 47 s.data.toList).2.1 1 59) from rfl)
  clear hW hB hT hE he
  obtain ⟨q, hq⟩ : ∃ q, cutB 47 s.data.toList = q := ⟨_, rfl⟩
  rw [hq] at C1 HSP hcl
  clear hq
  obtain ⟨x, r, t⟩ := q
  simp only at C1 HSP hcl
  have S1 := Lib.hid (fun w1 h => SP.out x (by omega) w1 h)
  have N2 := Lib.hid (fun w1 h => NT.out r (by omega) w1 h)
  simp only at S1 N2
  obtain ⟨p1, hp1⟩ : ∃ p, spanS x low high = p := ⟨_, rfl⟩
  obtain ⟨p2, hp2⟩ : ∃ p, numberL r 1 59 = p := ⟨_, rfl⟩
  rw [hp1] at S1 HSP
  rw [hp2] at N2 HSP
  have HP1 := Lib.hid hp1
  have HP2 := Lib.hid hp2
  unfold bV at S1 N2
  clear hp1 hp2 NT SP
  unfold bV
  go_enter Tryd.func37, Tryd.ntmps37
  go_upto_region 1 with fail
  rw [HW.out]
  go_wp2_with fail
  refine C1.out.mono ?_
  rintro e w1 ⟨rfl, hb1⟩
  have HB1 := Lib.hid (HB.out.trans (hb1.mono HB.out.size))
  have hT1 := HT.out.keep hb1
  have HE1 := Lib.hid (HE.out.keep hb1)
  obtain ⟨⟨k0, k1⟩, -⟩ := hT1.cells
  clear hb1 hT1
  go_wp2_with fail
  refine (S1.out _ HE1.out).mono ?_
  rintro e w2 ⟨hse, hb2⟩
  have HB2 := Lib.hid (HB1.out.trans (hb2.mono HB1.out.size))
  have HE2 := Lib.hid (HE1.out.keep hb2)
  have hs1 : w.heap.size ≤ w2.heap.size := HB2.out.size
  clear hb2 k0 k1
  cases p1 with
  | bad =>
    obtain ⟨y, hy, rfl⟩ := hse
    have HO := Lib.hid (show manyS s.data.toList low high = .bad from HSP.out)
    have HY := Lib.hid hy
    have HB3 := Lib.hid (HB2.out.alloc hs1 (.cells #[.int .i64 0, .int .i64 0] 53))
    clear hy
    unfold bV
    go_wp2_with fail
    go_ret2
    exact ⟨by rw [HO.out]; exact ⟨y, HY.out, rfl⟩, HB3.out⟩
  | alone =>
    have hse2 : e = .returned (.tuple #[bV 0 0, errV aA]) := hse
    subst hse2
    have HO := Lib.hid (show manyS s.data.toList low high = .alone from HSP.out)
    have HB3 := Lib.hid (HB2.out.alloc hs1 (.cells #[.int .i64 0, .int .i64 0] 53))
    clear hse
    unfold bV
    go_wp2_with fail
    go_ret2
    exact ⟨by rw [HO.out]; exact rfl, HB3.out⟩
  | ok a b =>
    have hse2 : e = .returned (.tuple #[bV a b, .nilIface]) := hse
    subst hse2
    have hab := span_in HP1.out hl
    have HAB := Lib.hid hab
    have SE := Lib.hid (fun k w1 (h1 : 1 ≤ k) (h2 : k ≤ 99) => set_t a b k w1 (by omega) (by omega) h1 h2)
    unfold bV at SE
    have HB3 := Lib.hid (HB2.out.alloc hs1 (.cells #[.int .i64 a, .int .i64 b] 53))
    have HBN := Lib.hid (below_new w2 (.cells #[.int .i64 a, .int .i64 b] 53))
    have HTN := Lib.hid (Two.new w2 a b)
    clear hse hab
    unfold bV
    cases t with
    | false =>
      have HO := Lib.hid (show manyS s.data.toList low high = .ok (setN a b 1) from HSP.out)
      have S2 := Lib.hid (fun w1 => SE.out 1 w1 (Nat.le_refl _) (by decide))
      simp only [Int.natCast_one] at S2
      go_wp2_with fail
      refine (S2.out _).mono ?_
      rintro e w3 ⟨rfl, hb3⟩
      have HB4 := Lib.hid (HB3.out.trans (hb3.mono HB3.out.size))
      clear hb3
      go_wp2_with fail
      go_ret2
      exact ⟨by rw [HO.out]; exact rfl, HB4.out⟩
    | true =>
      have g5 := (HE2.out.keep HBN.out).bound 5 (by decide)
      obtain ⟨g50, g51⟩ := g5
      simp only [lowB, highB] at g50 g51
      simp only [Int.natCast_one] at g50 N2
      have HE3 := Lib.hid (HE2.out.keep HBN.out)
      cases p2 with
      | none =>
        have HO := Lib.hid (show manyS s.data.toList low high = .bad from HSP.out)
        go_wp2_with fail
        refine (N2.out _ HE3.out).mono ?_
        rintro e w3 ⟨rfl, hb3⟩
        have HB4 := Lib.hid (HB3.out.trans (hb3.mono HB3.out.size))
        clear hb3
        unfold numOut
        go_wp2_with fail
        go_ret2
        exact ⟨by rw [HO.out]; exact ⟨aN, Or.inl rfl, rfl⟩, HB4.out⟩
      | some k =>
        have hk := numberL_le HP2.out
        have HO := Lib.hid (show manyS s.data.toList low high = .ok (setN a b k) from HSP.out)
        have S2 := Lib.hid (fun w1 => SE.out k w1 hk.1 (by omega))
        go_wp2_with fail
        refine (N2.out _ HE3.out).mono ?_
        rintro e w3 ⟨rfl, hb3⟩
        have HB4 := Lib.hid (HB3.out.trans (hb3.mono HB3.out.size))
        obtain ⟨⟨y0, y1⟩, -⟩ := (HTN.out.keep hb3).cells
        clear hb3
        unfold numOut
        go_wp2_with fail
        refine (S2.out _).mono ?_
        rintro e w4 ⟨rfl, hb4⟩
        have HB5 := Lib.hid (HB4.out.trans (hb4.mono HB4.out.size))
        clear hb4
        go_wp2_with fail
        go_ret2
        exact ⟨by rw [HO.out]; exact rfl, HB5.out⟩

/-- How a part, or a field, ends. -/
def BitsEnd (e : Ending) : Option Nat → Prop
  | some n => e = .returned (.tuple #[.int .u64 (n : Nat), .nilIface])
  | none => ∃ x, e = .returned (.tuple #[.int .u64 0, errV x])

set_option maxRecDepth 100000 in
set_option maxHeartbeats 4000000 in
theorem part_t (low high : Nat) (s : ByteArray) (w : World) {aA aN aO : Addr} (hh : high ≤ 63) (hl : low ≤ high) (hs : s.size ≤ 300) (he : CEnv w aA aN aO) :
    Calls Tryd.prog 28 #[bV low high, .string s] w fun e w' => BitsEnd e (partS s.data.toList low high) ∧ Below w.heap.size w w' := by
  obtain ⟨W, hW⟩ : ∃ W, w.alloc (.cells #[.int .i64 low, .int .i64 high] 53) = W := ⟨_, rfl⟩
  have hT := Two.new w low high
  have hB := below_new w (.cells #[.int .i64 low, .int .i64 high] 53)
  rw [hW] at hT hB
  obtain ⟨⟨c0, c1⟩, -⟩ := hT.cells
  have hE := he.keep hB
  have M := Lib.hid (many_t low high s W hh hl hs hE)
  have NT := Lib.hid (fun w1 (h2 : CEnv w1 aA aN aO) => number_t low high s w1 (show high ≤ 99 by omega) (show low ≤ 99 by omega) hs h2)
  have HW := Lib.hid hW
  have HB := Lib.hid hB
  have HT := Lib.hid hT
  have HE := Lib.hid hE
  have HP := Lib.hid (show partS s.data.toList low high = match manyS s.data.toList low high with | .ok n => some n | .bad => none | .alone => (numberL s.data.toList low high).map (2 ^ ·) from rfl)
  obtain ⟨p1, hp1⟩ : ∃ p, manyS s.data.toList low high = p := ⟨_, rfl⟩
  obtain ⟨p2, hp2⟩ : ∃ p, numberL s.data.toList low high = p := ⟨_, rfl⟩
  rw [hp1] at M HP
  rw [hp2] at NT HP
  have HP2 := Lib.hid hp2
  unfold bV at M NT
  clear hW hB hT hE he hp1 hp2
  unfold bV
  go_enter Tryd.func28, Tryd.ntmps28
  go_upto_region 1 with fail
  rw [HW.out]
  go_wp2_with fail
  refine M.out.mono ?_
  rintro e w1 ⟨hme, hb1⟩
  have HB1 := Lib.hid (HB.out.trans (hb1.mono HB.out.size))
  have hT1 := HT.out.keep hb1
  have hE1 := HE.out.keep hb1
  have HE1 := Lib.hid hE1
  have gA := hE1.gA
  obtain ⟨⟨k0, k1⟩, -⟩ := hT1.cells
  clear hb1 hT1 hE1 c0 c1
  cases p1 with
  | ok n =>
    have hme2 : e = .returned (.tuple #[.int .u64 (n : Nat), .nilIface]) := hme
    subst hme2
    have HO := Lib.hid (show partS s.data.toList low high = some n from HP.out)
    have I := Lib.hid (is_nil aA w1)
    clear hme
    go_wp2_with fail
    refine I.out.mono ?_
    rintro e w2 ⟨rfl, hw2⟩
    subst hw2
    go_wp2_with fail
    go_ret2
    exact ⟨by rw [HO.out]; exact rfl, HB1.out⟩
  | bad =>
    obtain ⟨y, hy, rfl⟩ := hme
    have HO := Lib.hid (show partS s.data.toList low high = none from HP.out)
    have I := Lib.hid (show Calls Tryd.prog 38 #[errV y, errV aA] w1 fun e w' => e = .returned (.bool false) ∧ w1 = w' from by
      obtain ⟨cA, tA, bA⟩ := HE1.out.bA
      obtain ⟨cN, tN, bN⟩ := HE1.out.bN
      obtain ⟨cO, tO, bO⟩ := HE1.out.bO
      rcases hy with rfl | rfl
      · exact is_other _ _ cN cA tN tA w1 HE1.out.nNA bN bA
      · exact is_other _ _ cO cA tO tA w1 HE1.out.nOA bO bA)
    clear hy
    go_wp2_with fail
    refine I.out.mono ?_
    rintro e w2 ⟨rfl, hw2⟩
    subst hw2
    go_wp2_with fail
    go_ret2
    exact ⟨by rw [HO.out]; exact ⟨y, rfl⟩, HB1.out⟩
  | alone =>
    have hme2 : e = .returned (.tuple #[.int .u64 0, errV aA]) := hme
    subst hme2
    have I := Lib.hid (is_same aA w1)
    clear hme
    go_wp2_with fail
    refine I.out.mono ?_
    rintro e w2 ⟨rfl, hw2⟩
    subst hw2
    cases p2 with
    | none =>
      have HO := Lib.hid (show partS s.data.toList low high = none from HP.out)
      go_wp2_with fail
      refine (NT.out _ HE1.out).mono ?_
      rintro e w3 ⟨rfl, hb3⟩
      have HB3 := Lib.hid (HB1.out.trans (hb3.mono HB1.out.size))
      clear hb3
      unfold numOut
      go_wp2_with fail
      go_ret2
      exact ⟨by rw [HO.out]; exact ⟨aN, rfl⟩, HB3.out⟩
    | some n =>
      have hn := numberL_le HP2.out
      have HO := Lib.hid (show partS s.data.toList low high = some (2 ^ n) from HP.out)
      have BI := Lib.hid (fun w1 => bit_t n w1 (by omega))
      obtain ⟨p, hp⟩ : ∃ p, 2 ^ n = p := ⟨_, rfl⟩
      rw [hp] at HO BI
      clear hp
      go_wp2_with fail
      refine (NT.out _ HE1.out).mono ?_
      rintro e w3 ⟨rfl, hb3⟩
      have HB3 := Lib.hid (HB1.out.trans (hb3.mono HB1.out.size))
      clear hb3
      unfold numOut
      go_wp2_with fail
      refine (BI.out _).mono ?_
      rintro e w4 ⟨rfl, hw4⟩
      subst hw4
      go_wp2_with fail
      go_ret2
      exact ⟨by rw [HO.out]; exact rfl, HB3.out⟩
end Go.Proofs.YtccobaohmbilpaaDoor
