/-
  The program's number and set of values, by contracts. Conditions: bounds of at most 63, texts of at most 300 bytes, the package-level variables as CEnv says.
-/
import Derived.Test.YtccobaohmbilpaaDoorCronEnv
import Derived.Deep.Cut
namespace Go.Proofs.YtccobaohmbilpaaDoor
open Go.RowKit

/-- Bounds as a value. -/
def bV (low high : Nat) : Value := .agg #[.int .i64 low, .int .i64 high]
/-- Two cells lie at block B. -/
def Two (w : World) (B : Nat) (low high : Nat) : Prop := w.heap[B]? = some (.cells #[.int .i64 low, .int .i64 high] 53 (0, 0))
theorem Two.lt {w : World} {B low high : Nat} (h : Two w B low high) : B < w.heap.size := (Array.getElem?_eq_some_iff.1 h).1
theorem Two.keep {w w' : World} {B low high : Nat} (h : Two w B low high) (hb : Below w.heap.size w w') : Two w' B low high := (hb.block B h.lt).trans h
theorem Two.cells {w : World} {B low high : Nat} (h : Two w B low high) : (w.cell? ⟨B, 0, none⟩ = some (.int .i64 low) ∧ w.cell? ⟨B, 1, none⟩ = some (.int .i64 high)) ∧ w.frozen? ⟨B, 0, none⟩ = false ∧ w.frozen? ⟨B, 1, none⟩ = false := by
  unfold Two at h
  simp [World.cell?, World.frozen?, h]
theorem Two.new (w : World) (low high : Nat) : Two (w.alloc (.cells #[.int .i64 low, .int .i64 high] 53)) w.heap.size low high := heap_alloc_new w _
def numOut (a : Addr) : Option Nat → Value
  | some n => .tuple #[.int .i64 (n : Nat), .nilIface]
  | none => .tuple #[.int .i64 0, errV a]

set_option maxRecDepth 100000 in
set_option maxHeartbeats 4000000 in
theorem number_t (low high : Nat) (s : ByteArray) (w : World) {aA aN aO : Addr} (hh : high ≤ 99) (_hl : low ≤ 99) (hs : s.size ≤ 300) (he : CEnv w aA aN aO) :
    Calls Tryd.prog 39 #[bV low high, .string s] w fun e w' => e = .returned (numOut aN (numberL s.data.toList low high)) ∧ Below w.heap.size w w' := by
  obtain ⟨W, hW⟩ : ∃ W, w.alloc (.cells #[.int .i64 low, .int .i64 high] 53) = W := ⟨_, rfl⟩
  have hT := Two.new w low high
  have hB := below_new w (.cells #[.int .i64 low, .int .i64 high] 53)
  rw [hW] at hT hB
  have hE := he.keep hB
  have A1 := Lib.hid (atoi_any s (by omega) W hE)
  have IT := Lib.hid (fun n h0 h1 w1 (h : CEnv w1 aA aN aO) => itoa_any n h0 h1 w1 h)
  have HW := Lib.hid hW
  have HB := Lib.hid hB
  have HT := Lib.hid hT
  have HE := Lib.hid hE
  have Y := Lib.hid (fun (n : Int) (h1 : Lib.itoa n = s.data.toList) h2 h3 => number_yes (low := low) (high := high) h1 h2 h3 hh)
  have N := Lib.hid (fun h => number_no (s := s.data.toList) (low := low) (high := high) hh h)
  clear hW hB hT hE he
  unfold bV
  go_enter Tryd.func39, Tryd.ntmps39
  go_upto_region 1 with fail
  rw [HW.out]
  go_wp2_with fail
  refine A1.out.mono ?_
  rintro e w1 ⟨hend, hb1⟩
  have HB1 := Lib.hid hb1
  have hE1 := HE.out.keep hb1
  obtain ⟨⟨c0, c1⟩, -⟩ := (HT.out.keep hb1).cells
  have gN := hE1.gN
  have HE1 := Lib.hid hE1
  clear hb1 hE1
  rcases hend with ⟨n, ha, rfl⟩ | ⟨n, p, hno, rfl⟩
  · have hbd := Lib.atoiAll_bounds ha
    have I1 := Lib.hid (IT.out n hbd.1 hbd.2 w1 HE1.out)
    obtain ⟨x, hx⟩ : ∃ x : ByteArray, (⟨(Lib.itoa n).toArray⟩ : ByteArray) = x := ⟨_, rfl⟩
    have HX := Lib.hid (show x.data.toList = Lib.itoa n by rw [← hx])
    rw [hx] at I1
    have HA := Lib.hid ha
    clear hx ha
    by_cases heq : x = s
    · subst heq
      have e1 : (x.toList != x.toList) = false := by simp
      go_wp2_with fail
      refine I1.out.mono ?_
      rintro e w2 ⟨rfl, hb2⟩
      have gN2 := (HE1.out.keep hb2).gN
      obtain ⟨⟨d0, d1⟩, -⟩ := ((HT.out.keep HB1.out).keep hb2).cells
      have HB2 := Lib.hid (HB.out.trans ((HB1.out.trans (hb2.mono HB1.out.size)).mono HB.out.size))
      clear hb2 c0 c1 gN
      by_cases h1 : n < (low : Int)
      · have HO := Lib.hid (N.out fun m h2 h3 h4 h5 => by rw [HA.out] at h2; injection h2 with h2; omega)
        go_wp2_with fail
        go_quiet (fail)
        go_wp2_with fail
        go_ret2
        exact ⟨by rw [HO.out]; rfl, below_drewN HB2.out nq⟩
      · by_cases h2 : (high : Int) < n
        · have HO := Lib.hid (N.out fun m h2 h3 h4 h5 => by rw [HA.out] at h2; injection h2 with h2; omega)
          go_wp2_with fail
          go_quiet (fail)
          go_wp2_with fail
          go_ret2
          exact ⟨by rw [HO.out]; rfl, below_drewN HB2.out nq⟩
        · obtain ⟨m, rfl, hm⟩ := Y.out n HX.out.symm (by omega) (by omega)
          have HO := Lib.hid hm
          clear hm
          go_wp2_with fail
          go_ret2
          exact ⟨by rw [HO.out]; rfl, HB2.out⟩
    · have e1 : (x.toList == s.toList) = false := by
        rw [beq_eq_false_iff_ne, Lib.toList_data, Lib.toList_data]
        exact fun h => heq (ext_list h)
      have HO := Lib.hid (N.out fun m h2 h3 h4 h5 => heq (ext_list (by rw [HA.out] at h2; injection h2 with h2; rw [HX.out, h2, h3])))
      clear heq
      go_wp2_with fail
      refine I1.out.mono ?_
      rintro e w2 ⟨rfl, hb2⟩
      have gN2 := (HE1.out.keep hb2).gN
      have HB2 := Lib.hid (HB.out.trans ((HB1.out.trans (hb2.mono HB1.out.size)).mono HB.out.size))
      clear hb2 c0 c1 gN
      go_wp2_with fail
      go_quiet (fail)
      go_wp2_with fail
      go_ret2
      exact ⟨by rw [HO.out]; rfl, below_drewN HB2.out nq⟩
  · have HO := Lib.hid (N.out fun m h2 h3 h4 h5 => hno m h2)
    have HB2 := Lib.hid (HB.out.trans (HB1.out.mono HB.out.size))
    clear hno
    go_wp2_with fail
    go_quiet (fail)
    go_wp2_with fail
    go_ret2
    exact ⟨by rw [HO.out]; rfl, below_drewN HB2.out nq⟩

set_option maxRecDepth 100000 in
set_option maxHeartbeats 4000000 in
theorem set_t (low high k : Nat) (w : World) (hh : high < 64) (hl : low ≤ 99) (hk1 : 1 ≤ k) (hk2 : k ≤ 99) :
    Calls Tryd.prog 49 #[bV low high, .int .i64 k] w fun e w' => e = .returned (.int .u64 (setN low high k : Nat)) ∧ Below w.heap.size w w' := by
  obtain ⟨W, hW⟩ : ∃ W, w.alloc (.cells #[.int .i64 low, .int .i64 high] 53) = W := ⟨_, rfl⟩
  have hT := Two.new w low high
  have hB := below_new w (.cells #[.int .i64 low, .int .i64 high] 53)
  rw [hW] at hT hB
  obtain ⟨⟨c0, c1⟩, -⟩ := hT.cells
  have HW := Lib.hid hW
  have HB := Lib.hid hB
  have H0 := Lib.hid (set_first low high k)
  clear hW hB hT
  unfold bV
  go_enter Tryd.func49, Tryd.ntmps49
  go_upto_region 1 with fail
  rw [HW.out]
  go_wp2_with fail
  go_loop [5, 6] (fun sv nv => ∃ j n x : Nat, sv = .int .u64 x ∧ nv = .int .i64 n ∧ n = low + j * k ∧ low ≤ n ∧ n ≤ high + low + k ∧ bitsOf (fun v => hitP (low, high, k) v) n = x) (fun _ nv => high + low + k - (intOf nv).toNat)
  case atStart => exact ⟨0, low, 0, rfl, rfl, by simp, Nat.le_refl _, by omega, H0.out⟩
  case round =>
    obtain ⟨j, n, x, rfl, rfl, hn, hln, hnh, hx⟩ := hrel
    have HN := Lib.hid hn
    have HX := Lib.hid hx
    have HXL := Lib.hid (bitsOf_lt (fun v => hitP (low, high, k) v) n)
    rw [hx] at HXL
    clear hn hx
    by_cases hle : n ≤ high
    · have B := Lib.hid (bit_t n W (by omega))
      have hp := pow_lt (n := n) (by omega)
      have hxl : x < 18446744073709551616 := Nat.lt_trans HXL.out hp
      have HR := Lib.hid (show bitsOf (fun v => hitP (low, high, k) v) (n + k) = x ||| 2 ^ n from by
        have h := set_round low high k j hk1 (by rw [← HN.out]; exact hle)
        rw [← HN.out, HX.out] at h
        rw [h]
        congr 1
        rw [HN.out, Nat.succ_mul]; omega)
      have HOR := Lib.hid (u64_or_nat x (2 ^ n) hxl hp)
      obtain ⟨p, hpp⟩ : ∃ p, 2 ^ n = p := ⟨_, rfl⟩
      rw [hpp] at B HR HOR hp
      clear hpp hxl hp
      go_wp2_with fail
      refine B.out.mono ?_
      rintro e w1 ⟨rfl, hw1⟩
      subst hw1
      go_wp2_with fail
      rw [HOR.out]
      go_round
      case rel => exact ⟨j + 1, n + k, x ||| p, rfl, by go_num, by rw [HN.out, Nat.succ_mul]; omega, by omega, by omega, HR.out⟩
      case measure => simp [intOf]; omega
    · have HO := Lib.hid (show setN low high k = x from by rw [← HX.out, set_last low high k n (by omega)])
      go_wp2_with fail
      go_ret
      exact ⟨by rw [HO.out]; rfl, HB.out⟩
end Go.Proofs.YtccobaohmbilpaaDoor
