/-
  octet.Wide by its contract: the number in bytes, or the refusal. Conditions: the number is a uint64, the size an int; the package-level errors lie where they lie.
-/
import Derived.Test.YtibfpffoddhooaaDoorErr2
import Derived.Test.YtibfpffoddhooaaDoorShelf
import Derived.Test.YtibfpffoddhooaaDoorPlain
import Derived.WalkLawsBesides
import Derived.WalkSpells
import Derived.BigQuiet
import Derived.Deep.QuietTactic
namespace Go.Proofs.YtibfpffoddhooaaDoor
open Go.RowKit

theorem within_ok (a b : Int) (w : World) (h : a ≤ b) : Calls Tryd.prog 39 #[.int .i64 a, .int .i64 b] w fun e w' => e = .returned .nilIface ∧ w = w' := by
  go_enter Tryd.func39, Tryd.ntmps39
  go_wp2
  go_ret
  exact ⟨rfl, rfl⟩
theorem within_no (a b : Int) (w : World) (h : b < a) : Calls Tryd.prog 39 #[.int .i64 a, .int .i64 b] w fun e w' => e = .returned (.iface 73 (.agg #[.int .i64 a, .int .i64 b])) ∧ w = w' := by
  go_enter Tryd.func39, Tryd.ntmps39
  go_wp2
  go_ret
  exact ⟨rfl, rfl⟩

/-- wide: a size that may not be. -/
theorem wide_size (aD aS aZ : Addr) (n sz : Int) (w : World) (he : Env w aD aS aZ) (h : sz < 0 ∨ 8 < sz) :
    Calls Tryd.prog 27 #[.int .u64 n, .int .i64 sz] w fun e w' => e = .returned (.tuple #[.string ⟨#[]⟩, .iface 118 (.pointer (some aZ))]) ∧ Below w.heap.size w w' := by
  have g := he.gZ
  rcases h with h | h
  · go_enter Tryd.func27, Tryd.ntmps27
    go_wp2
    go_quiet (fail)
    go_wp2
    go_ret2
    exact ⟨rfl, below_drewN (Below.refl _ _) _⟩
  · have h0 : ¬ sz < 0 := by omega
    go_enter Tryd.func27, Tryd.ntmps27
    go_wp2
    go_quiet (fail)
    go_wp2
    go_ret2
    exact ⟨rfl, below_drewN (Below.refl _ _) _⟩

theorem infoByte : (Tryd.prog.info? 5).map (fun i => (i.zero, i.size, i.bytes)) = some (some (.int .u8 0), 1, 1) := by kernel_rfl

/-- How many bytes a number needs, as wide reckons it. -/
def needs (n : Nat) : Nat := (Lib.bitLen n + 7) / 8
theorem bitLen_le64 (n : Nat) (h : n < 2 ^ 64) : Lib.bitLen n ≤ 64 := Lib.bitLen_le n 64 (Nat.le_refl _) h
theorem needs_le (n k : Nat) (hk : k ≤ 8) (h : n < 256 ^ k) : needs n ≤ k := by
  have : Lib.bitLen n ≤ 8 * k := Lib.bitLen_le n (8 * k) (by omega) (by rw [Nat.pow_mul]; exact h)
  unfold needs; omega
theorem bitLen_pos (n : Nat) (h : n ≠ 0) (h2 : n < 2 ^ 64) : 1 ≤ Lib.bitLen n := by
  rw [Lib.bitLen_half n h h2]; omega
theorem needs_gt (n k : Nat) (h : 256 ^ k ≤ n) (hn : n < 2 ^ 64) : k < needs n := by
  have h2 : 2 ^ (8 * k) ≤ n := by rw [Nat.pow_mul]; exact h
  have h3 := Lib.bitLen_shift (8 * k) n h2 hn
  have h4 : n / 2 ^ (8 * k) ≠ 0 := by
    have := Nat.div_pos h2 (Nat.pow_pos (n := 8 * k) (show 0 < 2 by decide)); omega
  have h5 := bitLen_pos (n / 2 ^ (8 * k)) h4 (Nat.lt_of_le_of_lt (Nat.div_le_self _ _) hn)
  unfold needs; omega

theorem len_any (n b : Nat) (w : World) (hn : n < 18446744073709551616) (hb : Lib.bitLen n = b) :
    Calls Tryd.prog 40 #[.int .u64 n] w fun e w' => e = .returned (.int .i64 b) ∧ w = w' := by
  refine (Tryd.bits_Len64 n w (by omega) (by omega)).mono ?_
  rintro e w' ⟨rfl, rfl⟩
  rw [Int.toNat_natCast, hb]
  exact ⟨rfl, rfl⟩

set_option maxHeartbeats 1000000 in
/-- wide: a number that has no room. -/
theorem wide_long (n k : Nat) (w : World) (hn : n < 18446744073709551616) (hk : k ≤ 8) (h : k < needs n) :
    Calls Tryd.prog 27 #[.int .u64 n, .int .i64 k] w fun e w' => (∃ a b, e = .returned (.tuple #[.string ⟨#[]⟩, .iface 73 (.agg #[.int .i64 a, .int .i64 b])])) ∧ w = w' := by
  have hb := bitLen_le64 n hn
  unfold needs at h
  obtain ⟨b, hbl⟩ : ∃ b, Lib.bitLen n = b := ⟨_, rfl⟩
  rw [hbl] at hb h
  have hl := Lib.hid (len_any n b w hn hbl)
  clear hbl
  have c1 : decide ((k : Int) < 0) = false := by simp
  have c2 : decide ((8 : Int) < k) = false := by simp; omega
  go_enter Tryd.func27, Tryd.ntmps27
  go_wp2_with fail
  refine hl.out.mono ?_
  rintro e w' ⟨rfl, rfl⟩
  go_wp2_with fail
  refine (within_no _ _ w (by omega)).mono ?_
  rintro e w' ⟨rfl, rfl⟩
  go_wp2_with fail
  go_ret2
  exact ⟨⟨_, _, rfl⟩, rfl⟩

theorem addr0_add (b i : Nat) : (⟨b, 0, none⟩ : Addr).add i = ⟨b, i, none⟩ := by unfold Addr.add; split <;> simp_all
theorem shr_byte (n j : Nat) : (Value.int .u8 ((n : Int) / 2 ^ (8 * j) % 256)) = Value.int .u8 ((UInt8.ofNat (n / 256 ^ j % 256)).toNat) := by
  congr 1
  have h : ((n : Int) / 2 ^ (8 * j) % 256) = ((n / 2 ^ (8 * j) % 256 : Nat) : Int) := by
    rw [Int.natCast_emod, Int.natCast_ediv, Int.natCast_pow]; rfl
  rw [h, Nat.pow_mul]
  have : n / 256 ^ j % 256 < 256 := Nat.mod_lt _ (by decide)
  show ((n / 256 ^ j % 256 : Nat) : Int) = _
  rw [UInt8.toNat_ofNat_of_lt' (by simpa using this)]
theorem set_wide (n j k : Nat) (h : j < k) : (Lib.byteCells (wideL n j ++ List.replicate (k - j) 0)).set j (.int .u8 ((n : Int) / 2 ^ (8 * j) % 256)) = Lib.byteCells (wideL n (j + 1) ++ List.replicate (k - (j + 1)) 0) := by
  rw [shr_byte, wideL_succ, show k - j = (k - (j + 1)) + 1 by omega, List.replicate_succ, Lib.byteCells_append, Lib.byteCells_append, Lib.byteCells_append]
  rw [List.set_append_right _ _ (by rw [Lib.byteCells_length, wideL_length]; exact Nat.le_refl _), Lib.byteCells_length, wideL_length, Nat.sub_self]
  simp [Lib.byteCells]

set_option maxHeartbeats 1000000 in
/-- wide: a number that has room. -/
theorem wide_ok (n k : Nat) (w : World) (hn : n < 18446744073709551616) (hk : k ≤ 8) (h : needs n ≤ k) :
    Calls Tryd.prog 27 #[.int .u64 n, .int .i64 k] w fun e w' => e = .returned (.tuple #[.string ⟨(wideL n k).toArray⟩, .nilIface]) ∧ Below w.heap.size w w' := by
  have hb := bitLen_le64 n hn
  unfold needs at h
  obtain ⟨b, hbl⟩ : ∃ b, Lib.bitLen n = b := ⟨_, rfl⟩
  rw [hbl] at hb h
  have hl := Lib.hid (len_any n b w hn hbl)
  clear hbl
  have c1 : decide ((k : Int) < 0) = false := by simp
  have c2 : decide ((8 : Int) < k) = false := by simp; omega
  obtain ⟨i0, hi, hz0, hz1, hz2⟩ := info_parts infoByte
  go_enter Tryd.func27, Tryd.ntmps27
  go_wp2_with fail
  refine hl.out.mono ?_
  rintro e w' ⟨rfl, rfl⟩
  go_wp2_with fail
  refine (within_ok _ _ w (by omega)).mono ?_
  rintro e w' ⟨rfl, rfl⟩
  go_wp2_with (at_make; refine wpList_make_full w rfl _ _ 57 rfl w.heap.size 5 i0 (.int .u8 0) 1 Tryd.underlying57 hi hz0 hz1 .i64 .i64 k k k rfl rfl rfl rfl ?c1 ?c2 ?c3 ?_)
  case c1 => rw [hz2]; omega
  case c2 => unfold maxLen; omega
  case c3 => exact Nat.le_refl _
  intro w1 hown hgrow
  have hz : (madeCells #[Value.int IntKind.u8 0] k).toList = Lib.byteCells (wideL n 0 ++ List.replicate (k - 0) 0) := by
    rw [toList_madeCells_one]; simp [wideL, Lib.byteCells]
  rw [hz] at hown
  clear hz
  have hb1 : Below w.heap.size w w1 := (Below.refl _ _).grown hgrow (Nat.le_refl _) (fun _ e => by cases e)
  go_wp2_with fail
  go_loopw [29] (fun i wr => ∃ j : Nat, j ≤ k ∧ i = .int .i64 j ∧ wr.ownsRow w.heap.size 5 1 (.slice (some ⟨w.heap.size, 0, none⟩) k k) k (Lib.byteCells (wideL n j ++ List.replicate (k - j) 0)) ∧ Below w.heap.size w wr) (fun i _ => k - (intOf i).toNat)
  case atStart => exact ⟨0, Nat.zero_le _, rfl, hown, hb1⟩
  case round =>
    obtain ⟨j, hj, rfl, ho, hbw⟩ := hrel
    by_cases hlt : j < k
    · have q := ho.cellAt j (by omega)
      have f := ho.frozenAt j
      have hlen : (Lib.byteCells (wideL n j ++ List.replicate (k - j) 0)).length = k := by rw [Lib.byteCells_length]; simp [wideL_length]; omega
      rw [List.getElem?_eq_getElem (by omega)] at q
      go_wp2_with fail
      go_roundw
      case rel =>
        have st := ho.stored j (.int .u8 ((n : Int) / 2 ^ (8 * j) % 256))
        refine ⟨j + 1, by omega, by go_num, ?_, hbw.grown st.2 hbw.size (fun _ e => by cases e; exact Nat.le_refl _)⟩
        rw [← set_wide n j k hlt]
        exact st.1
      case measure => simp [intOf]; omega
    · obtain rfl : j = k := by omega
      rw [Nat.sub_self, List.replicate_zero, List.append_nil] at ho
      have hcv := run_convert_bytes_back (P := Tryd.prog) wr 57 9 5 ⟨w.heap.size, 0, none⟩ j (wideL n j) Tryd.underlying57 Tryd.underlying5 Tryd.underlying9 (fun i hi => by
        rw [wideL_length] at hi
        have := ho.cellAt i (by omega)
        rw [addr0_add, this, List.getElem?_eq_getElem (by rw [Lib.byteCells_length, wideL_length]; exact hi)]
        simp [Lib.byteCells])
      rw [wideL_length] at hcv
      go_wp2_with fail
      go_ret2
      exact ⟨rfl, hbw⟩

/-- Wide, whatever the number and the size: what it answers. -/
def wideOut (n : Nat) (sz : Int) : ByteArray × Int :=
  if sz < 0 ∨ 8 < sz then (⟨#[]⟩, 1) else if n < 256 ^ sz.toNat then (⟨(wideL n sz.toNat).toArray⟩, 0) else (⟨#[]⟩, 2)

set_option maxHeartbeats 1000000 in
theorem Wide_any (aD aS aZ : Addr) (n : Nat) (sz : Int) (w : World) (he : Env w aD aS aZ) (hn : n < 18446744073709551616) :
    Calls Tryd.prog 10 #[.int .u64 n, .int .i64 sz] w fun e w' => e = .returned (.tuple #[.string (wideOut n sz).1, .int .i64 (wideOut n sz).2]) ∧ Below w.heap.size w w' := by
  by_cases h : sz < 0 ∨ 8 < sz
  · have hw : wideOut n sz = (⟨#[]⟩, 1) := by simp [wideOut, h]
    rw [hw]
    have h1 := Lib.hid (wide_size aD aS aZ n sz w he h)
    have HE := Lib.hid he
    clear h he hw
    go_enter Tryd.func10, Tryd.ntmps10
    go_wp2_with fail
    refine h1.out.mono ?_
    rintro e w1 ⟨rfl, hb⟩
    have HE1 := Lib.hid (HE.out.keep hb)
    have hs := hb.size
    go_wp2_with fail
    refine (errno_any aD aS aZ _ 1 w1 HE1.out (Or.inr (Or.inl ⟨aZ, rfl, Or.inr (Or.inr ⟨rfl, rfl⟩)⟩))).mono ?_
    rintro e w2 ⟨rfl, hb2⟩
    go_wp2_with fail
    go_ret2
    exact ⟨rfl, hb.trans (hb2.mono hs)⟩
  · obtain ⟨k, rfl⟩ := Int.eq_ofNat_of_zero_le (show 0 ≤ sz by omega)
    have hk : k ≤ 8 := by omega
    by_cases hf : n < 256 ^ k
    · have hw : wideOut n k = (⟨(wideL n k).toArray⟩, 0) := by simp [wideOut, hf]; omega
      rw [hw]
      have h1 := Lib.hid (wide_ok n k w hn hk (needs_le n k hk hf))
      clear h hf hw he
      go_enter Tryd.func10, Tryd.ntmps10
      go_wp2_with fail
      refine h1.out.mono ?_
      rintro e w1 ⟨rfl, hb⟩
      have hs := hb.size
      go_wp2_with fail
      refine (errno_nil w1).mono ?_
      rintro e w2 ⟨rfl, hb2⟩
      go_wp2_with fail
      go_ret2
      exact ⟨rfl, hb.trans (hb2.mono hs)⟩
    · have hw : wideOut n k = (⟨#[]⟩, 2) := by simp [wideOut, hf]; omega
      rw [hw]
      have h1 := Lib.hid (wide_long n k w hn hk (needs_gt n k (by omega) hn))
      have HE := Lib.hid he
      clear h hf he hw
      go_enter Tryd.func10, Tryd.ntmps10
      go_wp2_with fail
      refine h1.out.mono ?_
      rintro e w1 ⟨⟨a, b, rfl⟩, rfl⟩
      go_wp2_with fail
      refine (errno_any aD aS aZ _ 2 w HE.out (Or.inl ⟨a, b, rfl, rfl⟩)).mono ?_
      rintro e w2 ⟨rfl, hb2⟩
      go_wp2_with fail
      go_ret2
      exact ⟨rfl, hb2⟩
end Go.Proofs.YtibfpffoddhooaaDoor
