/-
  octet.Wide by its contract: the number in bytes, or the refusal. Conditions: the number is a uint64, the size an int; the package-level errors lie where they lie.
  Slices of strings as values: what they read as. Conditions: none.
  Slices of strings as values: what they read as; May, Same, few of the statements, by contracts. Conditions: none.
  octet.Bytes and octet.Whole by their contracts: what digits say, what number bytes are, or the refusals. Conditions: the package-level errors lie where they lie; at most 2^40 digits.
  octet.Bind by its contract: the texts bound, or the refusal. Conditions: the package-level errors lie where they lie.
  octet.Loose by its contract: the texts, or the refusal. Conditions: the package-level errors lie where they lie; at most 2^40 bytes.
  The document's own Wide, Whole, Bind and Loose, by contracts. Conditions: at most 8 bytes in a number; the texts are not too long.
-/
import Derived.Test.YtkplpodljmlanaaGreatDoorZOct1
import Derived.Test.YtkplpodljmlanaaGreatDoorZShelf
import Derived.WalkLawsBesides
import Derived.WalkSpells
import Derived.BigQuiet
import Derived.Deep.QuietTactic
import Derived.Deep.Strs
/-! octet.Wide by its contract: the number in bytes, or the refusal. Conditions: the number is a uint64, the size an int; the package-level errors lie where they lie. -/
namespace Go.Proofs.YtkplpodljmlanaaGreatDoor
open Go.RowKit

theorem infoByte : (Tryz.prog.info? 5).map (fun i => (i.zero, i.size, i.bytes)) = some (some (.int .u8 0), 1, 1) := by kernel_rfl
theorem addr0_add (b i : Nat) : (⟨b, 0, none⟩ : Addr).add i = ⟨b, i, none⟩ := by unfold Addr.add; split <;> simp_all

theorem within_ok (a b : Int) (w : World) (h : a ≤ b) : Calls Tryz.prog 84 #[.int .i64 a, .int .i64 b] w fun e w' => e = .returned .nilIface ∧ w = w' := by
  go_enter Tryz.func84, Tryz.ntmps84
  go_wp2
  go_ret
  exact ⟨rfl, rfl⟩
theorem within_no (a b : Int) (w : World) (h : b < a) : Calls Tryz.prog 84 #[.int .i64 a, .int .i64 b] w fun e w' => e = .returned (.iface 132 (.agg #[.int .i64 a, .int .i64 b])) ∧ w = w' := by
  go_enter Tryz.func84, Tryz.ntmps84
  go_wp2
  go_ret
  exact ⟨rfl, rfl⟩

/-- wide: a size that may not be. -/
theorem wide_size (aD aS aZ : Addr) (n sz : Int) (w : World) (he : Env w aD aS aZ) (h : sz < 0 ∨ 8 < sz) :
    Calls Tryz.prog 86 #[.int .u64 n, .int .i64 sz] w fun e w' => e = .returned (.tuple #[.string ⟨#[]⟩, .iface 184 (.pointer (some aZ))]) ∧ Below w.heap.size w w' := by
  have g := he.gZ
  rcases h with h | h
  · go_enter Tryz.func86, Tryz.ntmps86
    go_wp2
    go_quiet (fail)
    go_wp2
    go_ret2
    exact ⟨rfl, below_drewN (Below.refl _ _) _⟩
  · have h0 : ¬ sz < 0 := by omega
    go_enter Tryz.func86, Tryz.ntmps86
    go_wp2
    go_quiet (fail)
    go_wp2
    go_ret2
    exact ⟨rfl, below_drewN (Below.refl _ _) _⟩


/-- How many bytes a number needs, as wide reckons it. -/
def needs (n : Nat) : Nat := (Lib.bitLen n + 7) / 8
theorem bitLen_le64 (n : Nat) (h : n < 2 ^ 64) : Lib.bitLen n ≤ 64 := Lib.bitLen_le n 64 (Nat.le_refl _) h
theorem needs_le (n k : Nat) (hk : k ≤ 8) (h : n < 256 ^ k) : needs n ≤ k := by
  have : Lib.bitLen n ≤ 8 * k := Lib.bitLen_le n (8 * k) (by omega) (by rw [Nat.pow_mul]; exact h)
  unfold needs; omega
theorem bitLen_pos (n : Nat) (h : n ≠ 0) (h2 : n < 2 ^ 64) : 1 ≤ Lib.bitLen n := by
  rw [Lib.bitLen_half n h h2]; omega
theorem needs_gt (n k : Nat) (h : 256 ^ k ≤ n) (hn : n < 2 ^ 64) : k < needs n := by
  have h2 : 2 ^ (8 * k) ≤ n := by rw [Nat.pow_mul]; exact h
  have h3 := Lib.bitLen_shift (8 * k) n h2 hn
  have h4 : n / 2 ^ (8 * k) ≠ 0 := by
    have := Nat.div_pos h2 (Nat.pow_pos (n := 8 * k) (show 0 < 2 by decide)); omega
  have h5 := bitLen_pos (n / 2 ^ (8 * k)) h4 (Nat.lt_of_le_of_lt (Nat.div_le_self _ _) hn)
  unfold needs; omega

theorem len_any (n b : Nat) (w : World) (hn : n < 18446744073709551616) (hb : Lib.bitLen n = b) :
    Calls Tryz.prog 101 #[.int .u64 n] w fun e w' => e = .returned (.int .i64 b) ∧ w = w' := by
  refine (Tryz.bits_Len64 n w (by omega) (by omega)).mono ?_
  rintro e w' ⟨rfl, rfl⟩
  rw [Int.toNat_natCast, hb]
  exact ⟨rfl, rfl⟩

set_option maxHeartbeats 1000000 in
/-- wide: a number that has no room. -/
theorem wide_long (n k : Nat) (w : World) (hn : n < 18446744073709551616) (hk : k ≤ 8) (h : k < needs n) :
    Calls Tryz.prog 86 #[.int .u64 n, .int .i64 k] w fun e w' => (∃ a b, e = .returned (.tuple #[.string ⟨#[]⟩, .iface 132 (.agg #[.int .i64 a, .int .i64 b])])) ∧ w = w' := by
  have hb := bitLen_le64 n hn
  unfold needs at h
  obtain ⟨b, hbl⟩ : ∃ b, Lib.bitLen n = b := ⟨_, rfl⟩
  rw [hbl] at hb h
  have hl := Lib.hid (len_any n b w hn hbl)
  clear hbl
  have c1 : decide ((k : Int) < 0) = false := by simp
  have c2 : decide ((8 : Int) < k) = false := by simp; omega
  go_enter Tryz.func86, Tryz.ntmps86
  go_wp2_with fail
  refine hl.out.mono ?_
  rintro e w' ⟨rfl, rfl⟩
  go_wp2_with fail
  refine (within_no _ _ w (by omega)).mono ?_
  rintro e w' ⟨rfl, rfl⟩
  go_wp2_with fail
  go_ret2
  exact ⟨⟨_, _, rfl⟩, rfl⟩

theorem shr_byte (n j : Nat) : (Value.int .u8 ((n : Int) / 2 ^ (8 * j) % 256)) = Value.int .u8 ((UInt8.ofNat (n / 256 ^ j % 256)).toNat) := by
  congr 1
  have h : ((n : Int) / 2 ^ (8 * j) % 256) = ((n / 2 ^ (8 * j) % 256 : Nat) : Int) := by
    rw [Int.natCast_emod, Int.natCast_ediv, Int.natCast_pow]; rfl
  rw [h, Nat.pow_mul]
  have : n / 256 ^ j % 256 < 256 := Nat.mod_lt _ (by decide)
  show ((n / 256 ^ j % 256 : Nat) : Int) = _
  rw [UInt8.toNat_ofNat_of_lt' (by simpa using this)]
theorem set_wide (n j k : Nat) (h : j < k) : (Lib.byteCells (wideL n j ++ List.replicate (k - j) 0)).set j (.int .u8 ((n : Int) / 2 ^ (8 * j) % 256)) = Lib.byteCells (wideL n (j + 1) ++ List.replicate (k - (j + 1)) 0) := by
  rw [shr_byte, wideL_succ, show k - j = (k - (j + 1)) + 1 by omega, List.replicate_succ, Lib.byteCells_append, Lib.byteCells_append, Lib.byteCells_append]
  rw [List.set_append_right _ _ (by rw [Lib.byteCells_length, wideL_length]; exact Nat.le_refl _), Lib.byteCells_length, wideL_length, Nat.sub_self]
  simp [Lib.byteCells]

set_option maxHeartbeats 1000000 in
/-- wide: a number that has room. -/
theorem wide_ok (n k : Nat) (w : World) (hn : n < 18446744073709551616) (hk : k ≤ 8) (h : needs n ≤ k) :
    Calls Tryz.prog 86 #[.int .u64 n, .int .i64 k] w fun e w' => e = .returned (.tuple #[.string ⟨(wideL n k).toArray⟩, .nilIface]) ∧ Below w.heap.size w w' := by
  have hb := bitLen_le64 n hn
  unfold needs at h
  obtain ⟨b, hbl⟩ : ∃ b, Lib.bitLen n = b := ⟨_, rfl⟩
  rw [hbl] at hb h
  have hl := Lib.hid (len_any n b w hn hbl)
  clear hbl
  have c1 : decide ((k : Int) < 0) = false := by simp
  have c2 : decide ((8 : Int) < k) = false := by simp; omega
  obtain ⟨i0, hi, hz0, hz1, hz2⟩ := info_parts infoByte
  go_enter Tryz.func86, Tryz.ntmps86
  go_wp2_with fail
  refine hl.out.mono ?_
  rintro e w' ⟨rfl, rfl⟩
  go_wp2_with fail
  refine (within_ok _ _ w (by omega)).mono ?_
  rintro e w' ⟨rfl, rfl⟩
  go_wp2_with (at_make; refine wpList_make_full w rfl _ _ 63 rfl w.heap.size 5 i0 (.int .u8 0) 1 Tryz.underlying63 hi hz0 hz1 .i64 .i64 k k k rfl rfl rfl rfl ?c1 ?c2 ?c3 ?_)
  case c1 => rw [hz2]; omega
  case c2 => unfold maxLen; omega
  case c3 => exact Nat.le_refl _
  intro w1 hown hgrow
  have hz : (madeCells #[Value.int IntKind.u8 0] k).toList = Lib.byteCells (wideL n 0 ++ List.replicate (k - 0) 0) := by
    rw [toList_madeCells_one]; simp [wideL, Lib.byteCells]
  rw [hz] at hown
  clear hz
  have hb1 : Below w.heap.size w w1 := (Below.refl _ _).grown hgrow (Nat.le_refl _) (fun _ e => by cases e)
  go_wp2_with fail
  go_loopw [29] (fun i wr => ∃ j : Nat, j ≤ k ∧ i = .int .i64 j ∧ wr.ownsRow w.heap.size 5 1 (.slice (some ⟨w.heap.size, 0, none⟩) k k) k (Lib.byteCells (wideL n j ++ List.replicate (k - j) 0)) ∧ Below w.heap.size w wr) (fun i _ => k - (intOf i).toNat)
  case atStart => exact ⟨0, Nat.zero_le _, rfl, hown, hb1⟩
  case round =>
    obtain ⟨j, hj, rfl, ho, hbw⟩ := hrel
    by_cases hlt : j < k
    · have q := ho.cellAt j (by omega)
      have f := ho.frozenAt j
      have hlen : (Lib.byteCells (wideL n j ++ List.replicate (k - j) 0)).length = k := by rw [Lib.byteCells_length]; simp [wideL_length]; omega
      rw [List.getElem?_eq_getElem (by omega)] at q
      go_wp2_with fail
      go_roundw
      case rel =>
        have st := ho.stored j (.int .u8 ((n : Int) / 2 ^ (8 * j) % 256))
        refine ⟨j + 1, by omega, by go_num, ?_, hbw.grown st.2 hbw.size (fun _ e => by cases e; exact Nat.le_refl _)⟩
        rw [← set_wide n j k hlt]
        exact st.1
      case measure => simp [intOf]; omega
    · obtain rfl : j = k := by omega
      rw [Nat.sub_self, List.replicate_zero, List.append_nil] at ho
      have hcv := run_convert_bytes_back (P := Tryz.prog) wr 63 9 5 ⟨w.heap.size, 0, none⟩ j (wideL n j) Tryz.underlying63 Tryz.underlying5 Tryz.underlying9 (fun i hi => by
        rw [wideL_length] at hi
        have := ho.cellAt i (by omega)
        rw [addr0_add, this, List.getElem?_eq_getElem (by rw [Lib.byteCells_length, wideL_length]; exact hi)]
        simp [Lib.byteCells])
      rw [wideL_length] at hcv
      go_wp2_with fail
      go_ret2
      exact ⟨rfl, hbw⟩

/-- Wide, whatever the number and the size: what it answers. -/
def wideOut (n : Nat) (sz : Int) : ByteArray × Int :=
  if sz < 0 ∨ 8 < sz then (⟨#[]⟩, 1) else if n < 256 ^ sz.toNat then (⟨(wideL n sz.toNat).toArray⟩, 0) else (⟨#[]⟩, 2)

set_option maxHeartbeats 1000000 in
theorem Wide_any (aD aS aZ : Addr) (n : Nat) (sz : Int) (w : World) (he : Env w aD aS aZ) (hn : n < 18446744073709551616) :
    Calls Tryz.prog 93 #[.int .u64 n, .int .i64 sz] w fun e w' => e = .returned (.tuple #[.string (wideOut n sz).1, .int .i64 (wideOut n sz).2]) ∧ Below w.heap.size w w' := by
  by_cases h : sz < 0 ∨ 8 < sz
  · have hw : wideOut n sz = (⟨#[]⟩, 1) := by simp [wideOut, h]
    rw [hw]
    have h1 := Lib.hid (wide_size aD aS aZ n sz w he h)
    have HE := Lib.hid he
    clear h he hw
    go_enter Tryz.func93, Tryz.ntmps93
    go_wp2_with fail
    refine h1.out.mono ?_
    rintro e w1 ⟨rfl, hb⟩
    have HE1 := Lib.hid (HE.out.keep hb)
    have hs := hb.size
    go_wp2_with fail
    refine (errno_any aD aS aZ _ 1 w1 HE1.out (Or.inr (Or.inl ⟨aZ, rfl, Or.inr (Or.inr ⟨rfl, rfl⟩)⟩))).mono ?_
    rintro e w2 ⟨rfl, hb2⟩
    go_wp2_with fail
    go_ret2
    exact ⟨rfl, hb.trans (hb2.mono hs)⟩
  · obtain ⟨k, rfl⟩ := Int.eq_ofNat_of_zero_le (show 0 ≤ sz by omega)
    have hk : k ≤ 8 := by omega
    by_cases hf : n < 256 ^ k
    · have hw : wideOut n k = (⟨(wideL n k).toArray⟩, 0) := by simp [wideOut, hf]; omega
      rw [hw]
      have h1 := Lib.hid (wide_ok n k w hn hk (needs_le n k hk hf))
      clear h hf hw he
      go_enter Tryz.func93, Tryz.ntmps93
      go_wp2_with fail
      refine h1.out.mono ?_
      rintro e w1 ⟨rfl, hb⟩
      have hs := hb.size
      go_wp2_with fail
      refine (errno_nil w1).mono ?_
      rintro e w2 ⟨rfl, hb2⟩
      go_wp2_with fail
      go_ret2
      exact ⟨rfl, hb.trans (hb2.mono hs)⟩
    · have hw : wideOut n k = (⟨#[]⟩, 2) := by simp [wideOut, hf]; omega
      rw [hw]
      have h1 := Lib.hid (wide_long n k w hn hk (needs_gt n k (by omega) hn))
      have HE := Lib.hid he
      clear h hf he hw
      go_enter Tryz.func93, Tryz.ntmps93
      go_wp2_with fail
      refine h1.out.mono ?_
      rintro e w1 ⟨⟨a, b, rfl⟩, rfl⟩
      go_wp2_with fail
      refine (errno_any aD aS aZ _ 2 w HE.out (Or.inl ⟨a, b, rfl, rfl⟩)).mono ?_
      rintro e w2 ⟨rfl, hb2⟩
      go_wp2_with fail
      go_ret2
      exact ⟨rfl, hb2⟩
end Go.Proofs.YtkplpodljmlanaaGreatDoor
/-! Slices of strings as values: what they read as. Conditions: none. -/
namespace Go.Proofs.YtkplpodljmlanaaGreatDoor
open Go.RowKit

/-- The value v is a slice that reads as the strings ss. -/
def StrRow (w : World) (v : Value) (ss : List ByteArray) : Prop :=
  v = .slice none 0 0 ∧ ss = [] ∨ ∃ b o cap, v = .slice (some ⟨b, o, none⟩) ss.length cap ∧ ss.length ≤ cap ∧ cap ≤ maxLen ∧ ∀ i (h : i < ss.length), w.cell? ⟨b, o + i, none⟩ = some (.string ss[i])
theorem StrRow.keep {w w' : World} {v : Value} {ss : List ByteArray} (h : StrRow w v ss) (hb : Below w.heap.size w w') : StrRow w' v ss := by
  rcases h with h | ⟨b, o, cap, h1, h2, h3, h4⟩
  · exact Or.inl h
  · exact Or.inr ⟨b, o, cap, h1, h2, h3, fun i hi => (hb.cell (World.block_lt_of_cell? _ _ (h4 i hi))).trans (h4 i hi)⟩
theorem StrRow.len {w : World} {v : Value} {ss : List ByteArray} (h : StrRow w v ss) : ss.length ≤ maxLen := by
  rcases h with ⟨_, rfl⟩ | ⟨b, o, cap, h1, h2, h3, h4⟩
  · exact Nat.zero_le _
  · omega


/-- Strings as cells. -/
def strC (ss : List ByteArray) : List Value := ss.map Value.string
theorem strC_length (ss : List ByteArray) : (strC ss).length = ss.length := by simp [strC]

theorem StrRow.of_own {w : World} {B n : Nat} {v : Value} {ss : List ByteArray} (h : w.ownsRow B 9 1 v n (strC ss)) (hn : ss.length = n) : StrRow w v ss := by
  subst hn
  rcases h.2 with ⟨rfl, h0⟩ | ⟨g, cap, cur, rfl, hb, hg, h1, h2, h3, h4⟩
  · exact Or.inl ⟨rfl, List.length_eq_zero_iff.1 h0⟩
  · refine Or.inr ⟨g, 0, cap, rfl, h1, h2, fun i hi => ?_⟩
    have := h.cells (g := g) rfl i (.string ss[i]) (by simp [strC, hi])
    rw [addr0_add] at this
    rw [Nat.zero_add]; exact this

/-- A string's first N bytes; the k first strings cut so. -/
def cutN (N : Nat) (s : ByteArray) : ByteArray := s.extract 0 (min s.size N)
theorem cutN_size (N : Nat) (s : ByteArray) : (cutN N s).size ≤ N := by unfold cutN; rw [ByteArray.size_extract]; omega
def cutNTo (N : Nat) (ss : List ByteArray) (k : Nat) : List ByteArray := (ss.take k).map (cutN N) ++ ss.drop k
theorem cutNTo_len (N : Nat) (ss : List ByteArray) (k : Nat) (h : k < ss.length) : (strC ((ss.take k).map (cutN N))).length = k := by simp [strC]; omega
theorem cutNTo_at (N : Nat) (ss : List ByteArray) (k : Nat) (h : k < ss.length) : strC (cutNTo N ss k) = strC ((ss.take k).map (cutN N)) ++ Value.string ss[k] :: strC (ss.drop (k + 1)) := by
  simp only [strC, cutNTo, List.map_append, List.drop_eq_getElem_cons h, List.map_cons]
theorem cutNTo_next (N : Nat) (ss : List ByteArray) (k : Nat) (h : k < ss.length) : strC (cutNTo N ss (k + 1)) = strC ((ss.take k).map (cutN N)) ++ Value.string (cutN N ss[k]) :: strC (ss.drop (k + 1)) := by
  simp only [strC, cutNTo, List.take_succ_eq_append_getElem h, List.map_append, List.map_cons, List.map_nil, List.append_assoc, List.cons_append, List.nil_append]
theorem cutNTo_set (N : Nat) (ss : List ByteArray) (k : Nat) (h : k < ss.length) : (strC (cutNTo N ss k)).set k (.string (cutN N ss[k])) = strC (cutNTo N ss (k + 1)) := by
  rw [cutNTo_at N ss k h, cutNTo_next N ss k h, List.set_append_right _ _ (by rw [cutNTo_len N ss k h]; exact Nat.le_refl _), cutNTo_len N ss k h, Nat.sub_self, List.set_cons_zero]
theorem cutNTo_get (N : Nat) (ss : List ByteArray) (k : Nat) (h : k < ss.length) : (strC (cutNTo N ss k))[k]? = some (.string ss[k]) := by
  rw [cutNTo_at N ss k h, List.getElem?_append_right (by rw [cutNTo_len N ss k h]; exact Nat.le_refl _), cutNTo_len N ss k h, Nat.sub_self]; rfl
theorem cutNTo_all (N : Nat) (ss : List ByteArray) : cutNTo N ss ss.length = ss.map (cutN N) := by simp [cutNTo]
end Go.Proofs.YtkplpodljmlanaaGreatDoor
/-! Slices of strings as values: what they read as; May, Same, few of the statements, by contracts. Conditions: none. -/
namespace Go.Proofs.YtkplpodljmlanaaGreatDoor
open Go.RowKit

set_option maxRecDepth 100000 in
set_option maxHeartbeats 1000000 in
theorem May_any (v : Value) (ss : List ByteArray) (w : World) (h : StrRow w v ss) (hsz : ∀ s ∈ ss, s.size ≤ maxLen) :
    Calls Tryz.prog 23 #[v] w fun e w' => e = .returned (.bool (mayB ss)) ∧ w = w' := by
  have hl := h.len
  unfold maxLen at hl hsz
  rcases h with ⟨rfl, rfl⟩ | ⟨b, o, cap, rfl, h2, h3, h4⟩
  · have HO := Lib.hid (show mayB [] = true from rfl)
    go_enter Tryz.func23, Tryz.ntmps23
    go_wp2
    refine wp_loop_rounds 1 ?_
    rw [rounds_succ]
    go_wp2
    go_ret
    exact ⟨by rw [HO.out]; rfl, rfl⟩
  · have H4 := Lib.hid h4
    have HZ := Lib.hid hsz
    clear h4 hsz
    unfold maxLen at h3
    go_enter Tryz.func23, Tryz.ntmps23
    go_wp2_with fail
    go_loop [7] (fun i => ∃ k : Nat, k ≤ ss.length ∧ i = .int .i64 k ∧ (ss.take k).all (fun s => decide (s.size ≤ 4096)) = true) (fun i => ss.length - (intOf i).toNat)
    case atStart => exact ⟨0, Nat.zero_le _, rfl, rfl⟩
    case round =>
      obtain ⟨k, hk, rfl, hall⟩ := hrel
      have HA := Lib.hid hall
      clear hall
      by_cases hlt : k < ss.length
      · have hc := H4.out k hlt
        have hz := HZ.out ss[k] (List.getElem_mem hlt)
        have hts := Lib.hid (List.take_succ_eq_append_getElem hlt)
        by_cases hbig : ss[k].size ≤ 4096
        · go_wp2_with fail
          go_round
          case rel => exact ⟨k + 1, by omega, by go_num, by rw [hts.out, List.all_append, HA.out]; simp [hbig]⟩
          case measure => simp [intOf]; omega
        · have HO := Lib.hid (show mayB ss = false by
            unfold mayB
            have : (ss.all fun s => decide (s.size ≤ 4096)) = false := by
              rw [List.all_eq_false]; exact ⟨ss[k], List.getElem_mem hlt, by simp; omega⟩
            rw [this]; rfl)
          go_wp2_with fail
          go_ret
          exact ⟨by rw [HO.out]; rfl, rfl⟩
      · have HO := Lib.hid (show mayB ss = decide ((ss.length : Int) ≤ 64) by
          unfold mayB
          have := HA.out
          rw [List.take_of_length_le (by omega)] at this
          rw [this]
          simp only [Bool.true_and]
          exact decide_eq_decide.2 (by omega))
        go_wp2_with fail
        go_ret
        exact ⟨by rw [HO.out]; rfl, rfl⟩

set_option maxRecDepth 100000 in
set_option maxHeartbeats 1000000 in
theorem Same_any (v u : Value) (ss ts : List ByteArray) (w : World) (h : StrRow w v ss) (g : StrRow w u ts) :
    Calls Tryz.prog 32 #[v, u] w fun e w' => e = .returned (.bool (decide (ss = ts))) ∧ Below w.heap.size w w' := by
  have hl := h.len
  have gl := g.len
  unfold maxLen at hl gl
  by_cases hne : ss.length = ts.length
  · rcases h with ⟨rfl, rfl⟩ | ⟨b, o, cap, rfl, h2, h3, h4⟩
    · obtain rfl : ts = [] := List.length_eq_zero_iff.1 (by simpa using hne.symm)
      have hu : ∃ a c, u = .slice a 0 c := by
        rcases g with ⟨rfl, _⟩ | ⟨b, o, cap, rfl, _⟩
        · exact ⟨_, _, rfl⟩
        · exact ⟨_, _, rfl⟩
      obtain ⟨a, c, rfl⟩ := hu
      clear g
      go_enter Tryz.func32, Tryz.ntmps32
      go_wp2
      refine wp_loop_rounds 1 ?_
      rw [rounds_succ]
      go_wp2
      go_ret
      exact ⟨by simp, Below.refl _ _⟩
    · unfold maxLen at h3
      have gg : ts = [] ∨ ∃ b o cap, u = .slice (some ⟨b, o, none⟩) ts.length cap ∧ ∀ i (h : i < ts.length), w.cell? ⟨b, o + i, none⟩ = some (.string ts[i]) := by
        rcases g with ⟨_, rfl⟩ | ⟨b, o, cap, rfl, _, _, g4⟩
        · exact Or.inl rfl
        · exact Or.inr ⟨b, o, cap, rfl, g4⟩
      have gu : ∃ a c, u = .slice a ts.length c := by
        rcases g with ⟨rfl, rfl⟩ | ⟨b, o, cap, rfl, _⟩
        · exact ⟨_, _, rfl⟩
        · exact ⟨_, _, rfl⟩
      obtain ⟨a, c, rfl⟩ := gu
      have H4 := Lib.hid h4
      have GG := Lib.hid gg
      have HN := Lib.hid hne
      have t0 : (((ss.length : Nat) : Int) != ((ts.length : Nat) : Int)) = false := by rw [bne_eq_false_iff_eq]; omega
      have n1 : ss.length ≤ ts.length := by omega
      have n2 : ts.length ≤ ss.length := by omega
      clear h4 gg g hne
      go_enter Tryz.func32, Tryz.ntmps32
      go_wp2_with fail
      go_loopw [13] (fun i wr => ∃ k : Nat, k ≤ ss.length ∧ i = .int .i64 k ∧ ss.take k = ts.take k ∧ Below w.heap.size w wr) (fun i _ => ss.length - (intOf i).toNat)
      case atStart => exact ⟨0, Nat.zero_le _, rfl, rfl, Below.refl _ _⟩
      case round =>
        obtain ⟨k, hk, rfl, htk, hb⟩ := hrel
        have HT := Lib.hid htk
        clear htk
        by_cases hlt : k < ss.length
        · have ht : k < ts.length := by omega
          have hc0 := H4.out k hlt
          have hc := (hb.cell (World.block_lt_of_cell? _ _ hc0)).trans hc0
          obtain ⟨b', o', c', hu, g4⟩ : ∃ b o cap, (Value.slice a ts.length c) = .slice (some ⟨b, o, none⟩) ts.length cap ∧ ∀ i (h : i < ts.length), w.cell? ⟨b, o + i, none⟩ = some (.string ts[i]) := by
            rcases GG.out with e | h
            · rw [e] at ht; simp at ht
            · exact h
          have ha : a = some ⟨b', o', none⟩ := by simp at hu; exact hu.1
          clear hu
          subst ha
          have gc0 := g4 k ht
          have gc := (hb.cell (World.block_lt_of_cell? _ _ gc0)).trans gc0
          clear hc0 gc0 g4
          by_cases heq : ss[k] = ts[k]
          · have HS := Lib.hid (show ss.take (k + 1) = ts.take (k + 1) by
              rw [List.take_succ_eq_append_getElem hlt, List.take_succ_eq_append_getElem ht, HT.out, heq])
            rw [heq] at hc
            clear heq
            go_wp2_with fail
            go_quiet (fail)
            go_wp2_with fail
            go_roundw
            case rel => exact ⟨k + 1, by omega, by go_num, HS.out, below_drewN hb _⟩
            case measure => simp [intOf]; omega
          · have HO := Lib.hid (show decide (ss = ts) = false by
              simp only [decide_eq_false_iff_not]; rintro rfl; exact heq rfl)
            have hne1 : (ss[k].toList == ts[k].toList) = false := by
              rw [beq_eq_false_iff_ne, ByteArray.toList_eq, ByteArray.toList_eq]; intro e; exact heq (ByteArray.ext (Array.ext' e))
            go_wp2_with fail
            go_quiet (fail)
            go_wp2_with fail
            go_ret
            exact ⟨by rw [HO.out]; rfl, below_drewN hb _⟩
        · have HO := Lib.hid (show decide (ss = ts) = true by
            have := HT.out
            rw [List.take_of_length_le (by omega), List.take_of_length_le (by omega)] at this
            simp [this])
          go_wp2_with fail
          go_ret
          exact ⟨by rw [HO.out]; rfl, hb⟩
  · have HO := Lib.hid (show decide (ss = ts) = false by
      simp only [decide_eq_false_iff_not]; rintro rfl; exact hne rfl)
    have hu : (∃ a c, v = .slice a ss.length c) ∧ ∃ a c, u = .slice a ts.length c := by
      constructor
      · rcases h with ⟨rfl, rfl⟩ | ⟨b, o, cap, rfl, _⟩
        · exact ⟨_, _, rfl⟩
        · exact ⟨_, _, rfl⟩
      · rcases g with ⟨rfl, rfl⟩ | ⟨b, o, cap, rfl, _⟩
        · exact ⟨_, _, rfl⟩
        · exact ⟨_, _, rfl⟩
    obtain ⟨⟨a, c, rfl⟩, a', c', rfl⟩ := hu
    have t0 : (((ss.length : Nat) : Int) != ((ts.length : Nat) : Int)) = true := by rw [bne_iff_ne]; omega
    clear h g hne
    go_enter Tryz.func32, Tryz.ntmps32
    go_wp2
    go_ret
    exact ⟨by rw [HO.out]; rfl, Below.refl _ _⟩

/-- What the statements cut a slice of strings to. -/
def fewB (ss : List ByteArray) : List ByteArray := (ss.take 66).map fun s => s.extract 0 (min s.size 4100)
theorem fewB_length (ss : List ByteArray) : (fewB ss).length = min 66 ss.length := by simp [fewB]
theorem fewB_size (ss : List ByteArray) : ∀ s ∈ fewB ss, s.size ≤ 4100 := by
  intro s hs
  obtain ⟨t, _, rfl⟩ := List.mem_map.1 hs
  simp; omega

/-- The k first strings cut. -/
def cutS (s : ByteArray) : ByteArray := s.extract 0 (min s.size 4100)
def cutTo (ss : List ByteArray) (k : Nat) : List ByteArray := (ss.take k).map cutS ++ ss.drop k
theorem cutTo_at (ss : List ByteArray) (k : Nat) (h : k < ss.length) : strC (cutTo ss k) = strC ((ss.take k).map cutS) ++ Value.string ss[k] :: strC (ss.drop (k + 1)) := by
  simp only [strC, cutTo, List.map_append, List.drop_eq_getElem_cons h, List.map_cons]
theorem cutTo_next (ss : List ByteArray) (k : Nat) (h : k < ss.length) : strC (cutTo ss (k + 1)) = strC ((ss.take k).map cutS) ++ Value.string (cutS ss[k]) :: strC (ss.drop (k + 1)) := by
  simp only [strC, cutTo, List.take_succ_eq_append_getElem h, List.map_append, List.map_cons, List.map_nil, List.append_assoc, List.cons_append, List.nil_append]
theorem cutTo_len (ss : List ByteArray) (k : Nat) (h : k < ss.length) : (strC ((ss.take k).map cutS)).length = k := by simp [strC]; omega
theorem cutTo_set (ss : List ByteArray) (k : Nat) (h : k < ss.length) : (strC (cutTo ss k)).set k (.string (cutS ss[k])) = strC (cutTo ss (k + 1)) := by
  rw [cutTo_at ss k h, cutTo_next ss k h, List.set_append_right _ _ (by rw [cutTo_len ss k h]; exact Nat.le_refl _), cutTo_len ss k h, Nat.sub_self, List.set_cons_zero]
theorem cutTo_get (ss : List ByteArray) (k : Nat) (h : k < ss.length) : (strC (cutTo ss k))[k]? = some (.string ss[k]) := by
  rw [cutTo_at ss k h, List.getElem?_append_right (by rw [cutTo_len ss k h]; exact Nat.le_refl _), cutTo_len ss k h, Nat.sub_self]; rfl
theorem cutTo_length (ss : List ByteArray) (k : Nat) (h : k ≤ ss.length) : (strC (cutTo ss k)).length = ss.length := by simp [strC, cutTo]; omega
theorem cutTo_all (ss : List ByteArray) : cutTo ss ss.length = ss.map cutS := by simp [cutTo]

end Go.Proofs.YtkplpodljmlanaaGreatDoor
/-! octet.Bytes and octet.Whole by their contracts: what digits say, what number bytes are, or the refusals. Conditions: the package-level errors lie where they lie; at most 2^40 digits. -/
namespace Go.Proofs.YtkplpodljmlanaaGreatDoor
open Go.RowKit

theorem octet_at (p : Int) (c : Value) (hc : ∃ T v, c = .iface T v) (w : World) : Calls Tryz.prog 85 #[.int .i64 p, c] w fun e w' => e = .returned (.iface 150 (.agg #[.int .i64 p, c])) ∧ w = w' := by
  obtain ⟨T, v, rfl⟩ := hc
  go_enter Tryz.func85, Tryz.ntmps85
  go_wp2
  go_ret
  exact ⟨rfl, rfl⟩

theorem whole_long (s : ByteArray) (w : World) (hs : s.size ≤ 9223372036854775807) (h : 8 < s.size) :
    Calls Tryz.prog 92 #[.string s] w fun e w' => (∃ a b, e = .returned (.tuple #[.int .u64 0, .iface 132 (.agg #[.int .i64 a, .int .i64 b])])) ∧ w = w' := by
  have W := Lib.hid (within_no s.size 8 w (by omega))
  go_enter Tryz.func92, Tryz.ntmps92
  go_wp2_with fail
  refine W.out.mono ?_
  rintro e w' ⟨rfl, rfl⟩
  go_wp2_with fail
  go_ret2
  exact ⟨⟨_, _, rfl⟩, rfl⟩

theorem or_byte (l : List UInt8) (k : Nat) (c : UInt8) (hl : l.length = k) (hk : k < 8) :
    bits BinOp.or IntKind.u64 ((numL l : Nat) : Int) (IntKind.u64.wrap (IntKind.u64.wrap (c.toNat : Int) * 2 ^ (8 * k))) = ((numL (l ++ [c]) : Nat) : Int) := by
  have hc := c.toNat_lt
  have h1 : numL l < 2 ^ (8 * k) := by have := numL_lt l; rw [hl, show (256 : Nat) = 2 ^ 8 from rfl, ← Nat.pow_mul] at this; exact this
  have h2 : 2 ^ (8 * k) * 256 ≤ 18446744073709551616 := by
    have : 2 ^ (8 * k) * 2 ^ 8 ≤ 2 ^ 64 := by rw [← Nat.pow_add]; exact Nat.pow_le_pow_right (by decide) (by omega)
    exact this
  have h3 : c.toNat * 2 ^ (8 * k) < 18446744073709551616 := by
    refine Nat.lt_of_lt_of_le ?_ h2
    rw [Nat.mul_comm]
    exact Nat.mul_lt_mul_of_pos_left (by omega) (Nat.pow_pos (by decide))
  have e1 : IntKind.u64.wrap (c.toNat : Int) = (c.toNat : Int) := by rw [IntKind.wrap_u64]; omega
  have e2 : IntKind.u64.wrap ((c.toNat : Int) * 2 ^ (8 * k)) = ((c.toNat * 2 ^ (8 * k) : Nat) : Int) := by
    rw [IntKind.wrap_u64, Int.natCast_mul, Int.natCast_pow]
    have : (c.toNat : Int) * 2 ^ (8 * k) = ((c.toNat * 2 ^ (8 * k) : Nat) : Int) := by rw [Int.natCast_mul, Int.natCast_pow]; rfl
    simp only [Int.cast_ofNat_Int]
    rw [this]; omega
  have h4 : numL l < 18446744073709551616 := by omega
  rw [e1, e2, bits_or_u64_nat _ _ h4 h3]
  congr 1
  rw [Nat.or_comm, ← Nat.shiftLeft_eq, ← Nat.shiftLeft_add_eq_or_of_lt h1, Nat.shiftLeft_eq, numL_append, hl, show (256 : Nat) = 2 ^ 8 from rfl, ← Nat.pow_mul]
  simp only [numL]
  rw [Nat.mul_comm, Nat.add_comm]
  simp

set_option maxRecDepth 100000 in
set_option maxHeartbeats 1000000 in
theorem whole_ok (s : ByteArray) (w : World) (h : s.size ≤ 8) :
    Calls Tryz.prog 92 #[.string s] w fun e w' => e = .returned (.tuple #[.int .u64 (numL s.data.toList), .nilIface]) ∧ w = w' := by
  have W := Lib.hid (within_ok s.size 8 w (by omega))
  go_enter Tryz.func92, Tryz.ntmps92
  go_wp2_with fail
  refine W.out.mono ?_
  rintro e w' ⟨rfl, rfl⟩
  go_wp2_with fail
  go_loop [5, 15] (fun n i => ∃ k : Nat, k ≤ s.size ∧ i = .int .i64 k ∧ n = .int .u64 (numL (s.data.toList.take k))) (fun _ i => s.size - (intOf i).toNat)
  case atStart => exact ⟨0, Nat.zero_le _, rfl, rfl⟩
  case round =>
    obtain ⟨k, hk, rfl, rfl⟩ := hrel
    by_cases hlt : k < s.size
    · go_wp2_with fail
      go_round
      case rel =>
        refine ⟨k + 1, by omega, by go_num, ?_⟩
        rw [or_byte (s.data.toList.take k) k s[k] (by simp; omega) (by omega), List.take_succ_eq_append_getElem (by simpa using hlt)]
        rfl
      case measure => simp [intOf]; omega
    · have hall := Lib.hid (show s.data.toList.take k = s.data.toList from List.take_of_length_le (by simp; omega))
      go_wp2_with fail
      go_ret2
      exact ⟨by rw [hall.out]; rfl, rfl⟩

/-- What Whole answers. -/
def wholeOut (s : ByteArray) : Nat × Int := if s.size ≤ 8 then (numL s.data.toList, 0) else (0, 2)

theorem Whole_any (aD aS aZ : Addr) (s : ByteArray) (w : World) (he : Env w aD aS aZ) (hs : s.size ≤ 9223372036854775807) :
    Calls Tryz.prog 74 #[.string s] w fun e w' => e = .returned (.tuple #[.int .u64 ((wholeOut s).1 : Nat), .int .i64 (wholeOut s).2]) ∧ Below w.heap.size w w' := by
  have HE := Lib.hid he
  clear he
  by_cases h : s.size ≤ 8
  · have HO := Lib.hid (show wholeOut s = (numL s.data.toList, 0) by simp [wholeOut, h])
    have H1 := Lib.hid (whole_ok s w h)
    go_enter Tryz.func74, Tryz.ntmps74
    go_wp2_with fail
    refine H1.out.mono ?_
    rintro e w1 ⟨rfl, rfl⟩
    go_wp2_with fail
    refine (errno_nil w).mono ?_
    rintro e w2 ⟨rfl, hb2⟩
    go_wp2_with fail
    go_ret2
    exact ⟨by rw [HO.out]; rfl, hb2⟩
  · have HO := Lib.hid (show wholeOut s = (0, 2) by simp [wholeOut, h])
    have H1 := Lib.hid (whole_long s w hs (by omega))
    go_enter Tryz.func74, Tryz.ntmps74
    go_wp2_with fail
    refine H1.out.mono ?_
    rintro e w1 ⟨⟨a, b, rfl⟩, rfl⟩
    go_wp2_with fail
    refine (errno_any aD aS aZ _ 2 w HE.out (Or.inl ⟨a, b, rfl, rfl⟩)).mono ?_
    rintro e w2 ⟨rfl, hb2⟩
    go_wp2_with fail
    go_ret2
    exact ⟨by rw [HO.out]; rfl, hb2⟩
end Go.Proofs.YtkplpodljmlanaaGreatDoor
/-! octet.Bind by its contract: the texts bound, or the refusal. Conditions: the package-level errors lie where they lie. -/
namespace Go.Proofs.YtkplpodljmlanaaGreatDoor
open Go.RowKit

theorem grownBy_of_below {w w' : World} (h : Below w.heap.size w w') : w.grownBy w' none := ⟨h.os, h.tape, h.output, h.size, fun k hk _ => h.block k hk⟩
/-- A builder stays one where nothing that was there turns. -/
theorem builder_keep {T e : TypeId} {B b : Nat} {bs : List Value} {w w' : World} (h : Lib.IsBuilderF T e B b bs w) (hb : Below w.heap.size w w') : Lib.IsBuilderF T e B b bs w' := by
  have go : ∀ p, Lib.BuilderAtF T e B b p bs w → Lib.BuilderAtF T e B b p bs w' := fun p hp => by
    have hlt := hp.lt
    obtain ⟨hB, v, hv, hown, hne⟩ := hp
    refine ⟨hB, v, (hb.block b hlt).trans hv, hown.kept (grownBy_of_below hb) ?_, hne⟩
    cases v.ownBlock <;> simp
  exact h.elim (fun x => Or.inl (go _ x)) (fun x => Or.inr (go _ x))
theorem wideL_size (n k : Nat) : (⟨(wideL n k).toArray⟩ : ByteArray).size = k := by
  show (wideL n k).toArray.size = k
  rw [List.size_toArray, wideL_length]

/-- What bind answers. -/
def BindEnd (aD aS aZ : Addr) (ss : List ByteArray) (w : World) (e : Ending) (w' : World) : Prop :=
  (mayB ss = true ∧ e = .returned (.tuple #[.string ⟨(bindL ss).toArray⟩, .nilIface]) ∧ Below w.heap.size w w') ∨
  (∃ T v, mayB ss = false ∧ Refuses aD aS aZ (.iface T v) 2 ∧ e = .returned (.tuple #[.string ⟨#[]⟩, .iface T v]) ∧ Below w.heap.size w w')

theorem mayB_true {ss : List ByteArray} (h1 : ∀ s ∈ ss, s.size ≤ 4096) (h2 : ss.length ≤ 64) : mayB ss = true := by
  unfold mayB
  rw [Bool.and_eq_true]
  exact ⟨List.all_eq_true.2 fun s hs => by simpa using h1 s hs, by simpa using h2⟩
theorem mayB_long {ss : List ByteArray} (h : 64 < ss.length) : mayB ss = false := by
  unfold mayB
  rw [Bool.and_eq_false_iff]
  exact Or.inr (by simpa using h)
theorem mayB_big {ss : List ByteArray} {s : ByteArray} (hs : s ∈ ss) (h : 4096 < s.size) : mayB ss = false := by
  unfold mayB
  rw [Bool.and_eq_false_iff]
  exact Or.inl (List.all_eq_false.2 ⟨s, hs, by simp; omega⟩)

set_option maxRecDepth 100000 in
set_option maxHeartbeats 2000000 in
theorem bind_any (aD aS aZ : Addr) (v : Value) (ss : List ByteArray) (w : World) (h : StrRow w v ss) (hsz : ∀ s ∈ ss, s.size ≤ maxLen) :
    Calls Tryz.prog 68 #[v] w (BindEnd aD aS aZ ss w) := by
  have hl := h.len
  unfold maxLen at hl hsz
  by_cases hlong : 64 < ss.length
  · have hM := Lib.hid (mayB_long hlong)
    have hv : ∃ a c, v = .slice a ss.length c := by
      rcases h with ⟨rfl, rfl⟩ | ⟨b, o, cap, rfl, _⟩
      · exact ⟨_, _, rfl⟩
      · exact ⟨_, _, rfl⟩
    obtain ⟨a, c, rfl⟩ := hv
    have W := Lib.hid (within_no ss.length 64 w (by omega))
    clear h hsz
    go_enter Tryz.func68, Tryz.ntmps68
    go_wp2_with fail
    refine W.out.mono ?_
    rintro e w' ⟨rfl, rfl⟩
    go_wp2_with fail
    go_ret2
    exact Or.inr ⟨_, _, hM.out, Or.inl ⟨_, _, rfl, rfl⟩, rfl, Below.refl _ _⟩
  · have b0 : Below w.heap.size w (w.alloc (.cells #[.pointer none, .slice none 0 0] 119)) := (Below.refl _ _).alloc (Nat.le_refl _) _
    have I0 : Lib.IsBuilderF 119 5 w.heap.size w.heap.size [] (w.alloc (.cells #[.pointer none, .slice none 0 0] 119)) := Lib.IsBuilderF.of (Lib.fresh_isBuilder 119 5 w)
    have W := Lib.hid (within_ok ss.length 64 w (by omega))
    rcases h with ⟨rfl, rfl⟩ | ⟨b, o, cap, rfl, h2, h3, h4⟩
    · go_enter Tryz.func68, Tryz.ntmps68
      go_wp2_with fail
      refine W.out.mono ?_
      rintro e w' ⟨rfl, rfl⟩
      go_wp2_with fail
      refine wp_loop_rounds 1 ?_
      rw [rounds_succ]
      go_wp2_with fail
      refine (Tryz.Builder_String_any_k w.heap.size w.heap.size [] _ I0 b0.size).mono ?_
      rintro e w2 ⟨rfl, -, hb2, -⟩
      go_wp2_with fail
      go_ret2
      exact Or.inl ⟨rfl, rfl, b0.trans hb2⟩
    · have H4 := Lib.hid h4
      have HZ := Lib.hid hsz
      clear h4 hsz
      unfold maxLen at h3
      go_enter Tryz.func68, Tryz.ntmps68
      go_wp2_with fail
      refine W.out.mono ?_
      rintro e w' ⟨rfl, rfl⟩
      go_wp2_with fail
      go_loopw [19] (fun i wr => ∃ k : Nat, k ≤ ss.length ∧ i = .int .i64 k ∧ (∀ s ∈ ss.take k, s.size ≤ 4096) ∧ Lib.IsBuilderF 119 5 w.heap.size w.heap.size (Lib.byteCells (bindL (ss.take k))) wr ∧ Below w.heap.size w wr) (fun i _ => ss.length - (intOf i).toNat)
      case atStart => exact ⟨0, Nat.zero_le _, rfl, by simp, I0, b0⟩
      case round =>
        obtain ⟨k, hk, rfl, hall, hI, hb⟩ := hrel
        have HA := Lib.hid hall
        have hbl := Lib.hid (bindL_length_le (ss.take k) hall)
        clear hall
        have hbs := hb.size
        by_cases hlt : k < ss.length
        · have hc0 := H4.out k hlt
          have hc := (hb.cell (World.block_lt_of_cell? _ _ hc0)).trans hc0
          have hmem := Lib.hid (List.getElem_mem hlt)
          have hts := Lib.hid (List.take_succ_eq_append_getElem hlt)
          obtain ⟨x, hx⟩ : ∃ x, ss[k] = x := ⟨_, rfl⟩
          rw [hx] at hc hmem hts
          clear hx hc0
          have hxz := HZ.out x hmem.out
          by_cases hbig : x.size ≤ 4096
          · have W2 := Lib.hid (within_ok x.size 4096 wr (by omega))
            have D := Lib.hid (wide_ok x.size 2 wr (by omega) (by omega) (needs_le x.size 2 (by omega) (by show _ < 65536; omega)))
            have hu : IntKind.u64.wrap (x.size : Int) = (x.size : Int) := by rw [IntKind.wrap_u64]; omega
            have hlen : (Lib.byteCells (bindL (ss.take k))).length ≤ 4098 * 64 := by
              rw [Lib.byteCells_length]; have := hbl.out; rw [List.length_take] at this; have : min k ss.length ≤ 64 := by omega
              exact Nat.le_trans hbl.out (Nat.mul_le_mul_left _ (by rw [List.length_take]; omega))
            go_wp2_with fail
            refine W2.out.mono ?_
            rintro e w' ⟨rfl, rfl⟩
            go_wp2_with fail
            refine D.out.mono ?_
            rintro e w2 ⟨rfl, hb2⟩
            have hbb2 := hb.trans (hb2.mono hbs)
            have hI2 : Lib.IsBuilderF 119 5 w.heap.size w.heap.size (Lib.byteCells (bindL (ss.take k))) w2 := builder_keep hI hb2
            go_wp2_with fail
            refine (Tryz.Builder_WriteString_k w.heap.size w.heap.size _ _ w2 hI2 (by rw [wideL_size]; omega) hbb2.size).mono ?_
            rintro e w3 ⟨rfl, h3', hb3, -⟩
            have hbb3 := hbb2.trans hb3
            go_wp2_with fail
            refine (Tryz.Builder_WriteString_k w.heap.size w.heap.size _ _ w3 (Or.inr h3') (by rw [List.length_append, Lib.strCells_length, wideL_size]; omega) hbb3.size).mono ?_
            rintro e w4 ⟨rfl, h4', hb4, -⟩
            have hbb4 := hbb3.trans hb4
            go_wp2_with fail
            go_roundw
            case rel =>
              refine ⟨k + 1, by omega, by go_num, ?_, ?_, hbb4⟩
              · rw [hts.out]; intro s hs
                rcases List.mem_append.1 hs with hs | hs
                · exact HA.out s hs
                · rw [List.mem_singleton.1 hs]; exact hbig
              · rw [hts.out, bindL_snoc]
                refine Or.inr ?_
                rw [Lib.byteCells_append, Lib.byteCells_append, ← List.append_assoc]
                exact h4'
            case measure => simp [intOf]; omega
          · have W2 := Lib.hid (within_no x.size 4096 wr (by omega))
            have hM := Lib.hid (mayB_big hmem.out (by omega))
            go_wp2_with fail
            refine W2.out.mono ?_
            rintro e w' ⟨rfl, rfl⟩
            go_wp2_with fail
            refine (octet_at _ _ ⟨_, _, rfl⟩ wr).mono ?_
            rintro e w' ⟨rfl, rfl⟩
            go_wp2_with fail
            go_ret2
            exact Or.inr ⟨_, _, hM.out, Or.inr (Or.inr (Or.inl ⟨_, _, _, rfl, rfl⟩)), rfl, hb⟩
        · have hM := Lib.hid (show mayB ss = true ∧ ss.take k = ss by
            have e : ss.take k = ss := List.take_of_length_le (by omega)
            have := HA.out
            rw [e] at this
            exact ⟨mayB_true this (by omega), e⟩)
          go_wp2_with fail
          refine (Tryz.Builder_String_any_k w.heap.size w.heap.size _ wr hI hb.size).mono ?_
          rintro e w2 ⟨rfl, -, hb2, -⟩
          go_wp2_with fail
          go_ret2
          exact Or.inl ⟨hM.out.1, by rw [hM.out.2]; rfl, hb.trans hb2⟩

/-- What Bind answers. -/
def bindOut (ss : List ByteArray) : ByteArray × Int := if mayB ss = true then (⟨(bindL ss).toArray⟩, 0) else (⟨#[]⟩, 2)

theorem Bind_any (aD aS aZ : Addr) (v : Value) (ss : List ByteArray) (w : World) (he : Env w aD aS aZ) (h : StrRow w v ss) (hsz : ∀ s ∈ ss, s.size ≤ maxLen) :
    Calls Tryz.prog 49 #[v] w fun e w' => e = .returned (.tuple #[.string (bindOut ss).1, .int .i64 (bindOut ss).2]) ∧ Below w.heap.size w w' := by
  have H1 := Lib.hid (bind_any aD aS aZ v ss w h hsz)
  have HE := Lib.hid he
  have hv : ∃ a n c, v = .slice a n c := by
    rcases h with ⟨rfl, rfl⟩ | ⟨b, o, cap, rfl, _⟩
    · exact ⟨_, _, _, rfl⟩
    · exact ⟨_, _, _, rfl⟩
  obtain ⟨a, n, c, rfl⟩ := hv
  clear he h hsz
  go_enter Tryz.func49, Tryz.ntmps49
  go_wp2_with fail
  refine H1.out.mono ?_
  rintro e w1 (⟨hm, rfl, hb⟩ | ⟨T, x, hm, hr, rfl, hb⟩)
  · have HO := Lib.hid (show bindOut ss = (⟨(bindL ss).toArray⟩, 0) by simp [bindOut, hm])
    have hbs := hb.size
    clear hm
    go_wp2_with fail
    refine (errno_nil w1).mono ?_
    rintro e w2 ⟨rfl, hb2⟩
    go_wp2_with fail
    go_ret2
    exact ⟨by rw [HO.out]; rfl, hb.trans (hb2.mono hbs)⟩
  · have HO := Lib.hid (show bindOut ss = (⟨#[]⟩, 2) by simp [bindOut, hm])
    have hbs := hb.size
    have HR := Lib.hid (errno_any aD aS aZ _ 2 w1 (HE.out.keep hb) hr)
    clear hm hr
    go_wp2_with fail
    refine HR.out.mono ?_
    rintro e w2 ⟨rfl, hb2⟩
    go_wp2_with fail
    go_ret2
    exact ⟨by rw [HO.out]; rfl, hb.trans (hb2.mono hbs)⟩
end Go.Proofs.YtkplpodljmlanaaGreatDoor
/-! octet.Loose by its contract: the texts, or the refusal. Conditions: the package-level errors lie where they lie; at most 2^40 bytes. -/
namespace Go.Proofs.YtkplpodljmlanaaGreatDoor
open Go.RowKit

theorem extract_end (s : ByteArray) (a : Nat) : (s.extract a s.size).data.toList = s.data.toList.drop a := by
  rw [Lib.extract_data, List.take_of_length_le (by simp)]

theorem cut_ok (s : ByteArray) (n : Nat) (w : World) (_hs : s.size ≤ 1099511627776) (h : n ≤ s.size) :
    Calls Tryz.prog 108 #[.string s, .int .i64 n] w fun e w' => e = .returned (.tuple #[.string (s.extract 0 n), .string (s.extract n s.size), .nilIface]) ∧ Below w.heap.size w w' := by
  go_enter Tryz.func108, Tryz.ntmps108
  go_wp2
  go_quiet (fail)
  go_wp2
  go_ret3
  exact ⟨rfl, below_drewN (Below.refl _ _) _⟩
theorem cut_no (aD aS aZ : Addr) (s : ByteArray) (n : Nat) (w : World) (he : Env w aD aS aZ) (_hs : s.size ≤ 1099511627776) (h : s.size < n) (_hn : n ≤ 1099511627776) :
    Calls Tryz.prog 108 #[.string s, .int .i64 n] w fun e w' => e = .returned (.tuple #[.string ⟨#[]⟩, .string ⟨#[]⟩, .iface 184 (.pointer (some aS))]) ∧ Below w.heap.size w w' := by
  have g := he.gS
  clear he
  go_enter Tryz.func108, Tryz.ntmps108
  go_wp2
  go_quiet (fail)
  go_wp2
  go_ret3
  exact ⟨rfl, below_drewN (Below.refl _ _) _⟩

theorem Clone_any (s : ByteArray) (w : World) (hs : s.size ≤ 1099511627776) :
    Calls Tryz.prog 95 #[.string s] w fun e w' => e = .returned (.string s) ∧ Below w.heap.size w w' := by
  have H := Lib.hid (Tryz.stringslite_Clone s w (by omega))
  go_enter Tryz.func95, Tryz.ntmps95
  go_wp2_with fail
  refine H.out.mono ?_
  rintro e w' ⟨rfl, hb⟩
  go_wp2_with fail
  go_ret
  exact ⟨rfl, hb⟩

theorem numL_take2_lt (l : List UInt8) (h : 2 ≤ l.length) : numL (l.take 2) < 65536 := by
  have := numL_lt (l.take 2)
  rw [List.length_take, Nat.min_eq_left h] at this
  exact this

/-- What first answers: the first text and the rest, or a refusal. -/
def FirstEnd (_aD aS _aZ : Addr) (s : ByteArray) (cnt : Nat) (w : World) (e : Ending) (w' : World) : Prop :=
  (∃ p r : ByteArray, 2 ≤ s.size ∧ ¬ (4096 < numL (s.data.toList.take 2) ∨ 64 ≤ cnt) ∧ ¬ s.size - 2 < numL (s.data.toList.take 2) ∧ p = ⟨((s.data.toList.drop 2).take (numL (s.data.toList.take 2))).toArray⟩ ∧ r.data.toList = (s.data.toList.drop 2).drop (numL (s.data.toList.take 2)) ∧
    e = .returned (.tuple #[.string p, .string r, .nilIface]) ∧ Below w.heap.size w w') ∨
  (∃ T v n, (s.size < 2 ∧ n = 3 ∨ 2 ≤ s.size ∧ (4096 < numL (s.data.toList.take 2) ∨ 64 ≤ cnt) ∧ n = 2 ∨ 2 ≤ s.size ∧ ¬ (4096 < numL (s.data.toList.take 2) ∨ 64 ≤ cnt) ∧ s.size - 2 < numL (s.data.toList.take 2) ∧ n = 3) ∧
    ((∃ a b, T = 132 ∧ v = .agg #[.int .i64 a, .int .i64 b] ∧ n = 2) ∨ (T = 184 ∧ v = .pointer (some aS) ∧ n = 3)) ∧ (∃ p r, e = .returned (.tuple #[.string p, .string r, .iface T v])) ∧ Below w.heap.size w w')

set_option maxRecDepth 100000 in
set_option maxHeartbeats 2000000 in
theorem first_any (aD aS aZ : Addr) (s : ByteArray) (cnt : Nat) (w : World) (he : Env w aD aS aZ) (hs : s.size ≤ 1099511627776) (hc : cnt ≤ 64) :
    Calls Tryz.prog 94 #[.string s, .int .i64 cnt] w (FirstEnd aD aS aZ s cnt w) := by
  have HE := Lib.hid he
  by_cases h2 : s.size < 2
  · have C := Lib.hid (cut_no aD aS aZ s 2 w he hs h2 (by omega))
    clear he
    go_enter Tryz.func94, Tryz.ntmps94
    go_wp2_with fail
    refine C.out.mono ?_
    rintro e w1 ⟨rfl, hb⟩
    go_wp2_with fail
    go_ret3
    exact Or.inr ⟨_, _, 3, Or.inl ⟨h2, rfl⟩, Or.inr ⟨rfl, rfl, rfl⟩, ⟨_, _, rfl⟩, hb⟩
  · have C := Lib.hid (cut_ok s 2 w hs (by omega))
    clear he
    have e1 : (s.extract 0 2).data.toList = s.data.toList.take 2 := by rw [Lib.extract_data]; simp
    have e2 : (s.extract 2 s.size).data.toList = s.data.toList.drop 2 := extract_end s 2
    have z1 : (s.extract 0 2).size = 2 := by simp; omega
    have z2 : (s.extract 2 s.size).size = s.size - 2 := by simp
    obtain ⟨n, hn⟩ : ∃ n, numL (s.data.toList.take 2) = n := ⟨_, rfl⟩
    have hn2 : n < 65536 := by rw [← hn]; exact numL_take2_lt _ (by simpa using h2)
    have W := Lib.hid (fun w => whole_ok (s.extract 0 2) w (by omega))
    rw [e1, hn] at W
    obtain ⟨x, hx⟩ : ∃ x, s.extract 0 2 = x := ⟨_, rfl⟩
    obtain ⟨y, hy⟩ : ∃ y, s.extract 2 s.size = y := ⟨_, rfl⟩
    rw [hx] at C W
    rw [hy] at C e2 z2
    have HN := Lib.hid hn
    have HE2 := Lib.hid e2
    have yz1 : y.size ≤ s.size - 2 := by omega
    have yz2 : s.size - 2 ≤ y.size := by omega
    clear hx hy z1 z2 e1 e2 hn
    have hu : IntKind.i64.wrap (n : Int) = (n : Int) := by rw [IntKind.wrap_i64]; omega
    go_enter Tryz.func94, Tryz.ntmps94
    go_wp2_with fail
    refine C.out.mono ?_
    rintro e w1 ⟨rfl, hb⟩
    have hbs := hb.size
    go_wp2_with fail
    refine (W.out w1).mono ?_
    rintro e w' ⟨rfl, rfl⟩
    by_cases hbig : 4096 < n
    · have W2 := Lib.hid (within_no n 4096 w1 (by omega))
      go_wp2_with fail
      refine W2.out.mono ?_
      rintro e w' ⟨rfl, rfl⟩
      go_wp2_with fail
      go_ret3
      exact Or.inr ⟨_, _, 2, Or.inr (Or.inl ⟨by omega, Or.inl (by rw [HN.out]; exact hbig), rfl⟩), Or.inl ⟨_, _, rfl, rfl, rfl⟩, ⟨_, _, rfl⟩, hb⟩
    · have W2 := Lib.hid (within_ok n 4096 w1 (by omega))
      go_wp2_with fail
      refine W2.out.mono ?_
      rintro e w' ⟨rfl, rfl⟩
      by_cases hcnt : 64 ≤ cnt
      · have W3 := Lib.hid (within_no (cnt + 1) 64 w1 (by omega))
        go_wp2_with fail
        refine W3.out.mono ?_
        rintro e w' ⟨rfl, rfl⟩
        go_wp2_with fail
        go_ret3
        exact Or.inr ⟨_, _, 2, Or.inr (Or.inl ⟨by omega, Or.inr hcnt, rfl⟩), Or.inl ⟨_, _, rfl, rfl, rfl⟩, ⟨_, _, rfl⟩, hb⟩
      · have W3 := Lib.hid (within_ok (cnt + 1) 64 w1 (by omega))
        go_wp2_with fail
        refine W3.out.mono ?_
        rintro e w' ⟨rfl, rfl⟩
        by_cases hshort : y.size < n
        · have C2 := Lib.hid (cut_no aD aS aZ y n w1 (HE.out.keep hb) (by omega) hshort (by omega))
          go_wp2_with fail
          refine C2.out.mono ?_
          rintro e w2 ⟨rfl, hb2⟩
          go_wp2_with fail
          go_ret3
          exact Or.inr ⟨_, _, 3, Or.inr (Or.inr ⟨by omega, by rw [HN.out]; omega, by rw [HN.out]; omega, rfl⟩), Or.inr ⟨rfl, rfl, rfl⟩, ⟨_, _, rfl⟩, hb.trans (hb2.mono hbs)⟩
        · have C2 := Lib.hid (cut_ok y n w1 (by omega) (by omega))
          have hp := Lib.hid (show y.extract 0 n = ⟨((s.data.toList.drop 2).take n).toArray⟩ ∧ (y.extract n y.size).data.toList = (s.data.toList.drop 2).drop n by
            constructor
            · apply ByteArray.ext; apply Array.ext'; rw [Lib.extract_data, HE2.out]; simp
            · rw [extract_end, HE2.out])
          go_wp2_with fail
          refine C2.out.mono ?_
          rintro e w2 ⟨rfl, hb2⟩
          go_wp2_with fail
          go_ret3
          exact Or.inl ⟨_, _, by omega, by rw [HN.out]; omega, by rw [HN.out]; omega, by rw [HN.out]; exact hp.out.1, by rw [HN.out]; exact hp.out.2, rfl, hb.trans (hb2.mono hbs)⟩

/-- What loose answers. -/
def LooseEnd (aD aS aZ : Addr) (s : ByteArray) (w : World) (e : Ending) (w' : World) : Prop :=
  (∃ ss v, looseB s = .inl ss ∧ (∀ x ∈ ss, x.size ≤ 4096) ∧ StrRow w' v ss ∧ e = .returned (.tuple #[v, .nilIface]) ∧ Below w.heap.size w w') ∨
  (∃ T v n, looseB s = .inr n ∧ Refuses aD aS aZ (.iface T v) n ∧ e = .returned (.tuple #[.slice none 0 0, .iface T v]) ∧ Below w.heap.size w w')

set_option maxRecDepth 100000 in
set_option maxHeartbeats 2000000 in
theorem loose_any (aD aS aZ : Addr) (s : ByteArray) (w : World) (he : Env w aD aS aZ) (hs : s.size ≤ 1099511627776) :
    Calls Tryz.prog 77 #[.string s] w (LooseEnd aD aS aZ s w) := by
  have HE := Lib.hid he
  clear he
  obtain ⟨i0, hi, hz0, hz1, hz2⟩ := info_parts infoStr
  go_enter Tryz.func77, Tryz.ntmps77
  go_wp2_with fail
  go_loopw [0, 4] (fun sv pv wr => ∃ (x : ByteArray) (acc : List ByteArray) (f n : Nat), x.size < f ∧ x.size ≤ s.size ∧ looseGo f x.data.toList acc = looseB s ∧ acc.length = n ∧ n ≤ 64 ∧ (∀ y ∈ acc, y.size ≤ 4096) ∧ sv = .string x ∧ (∃ a c, pv = .slice a n c) ∧ wr.ownsRow w.heap.size 9 1 pv n (strC acc) ∧ Below w.heap.size w wr) (fun sv _ _ => match sv with | .string x => x.size | _ => 0)
  case atStart => exact ⟨s, [], s.size + 1, 0, by omega, Nat.le_refl _, rfl, rfl, Nat.zero_le _, by simp, rfl, ⟨_, _, rfl⟩, World.ownsRow_nil _ _ _ _, Below.refl _ _⟩
  case round =>
    obtain ⟨x, acc, f, n, hf, hx, hgo, hal, hn, hall, rfl, ⟨a, c, rfl⟩, ho, hb⟩ := hrel
    have HG := Lib.hid hgo
    have HL := Lib.hid hal
    have HA := Lib.hid hall
    have hbs := hb.size
    clear hgo hal hall
    by_cases hx0 : x.size = 0
    · have hxe : x = ⟨#[]⟩ := by
        apply ByteArray.ext; exact Array.eq_empty_of_size_eq_zero hx0
      have hd := Lib.hid (show looseB s = .inl acc by have := HG.out; rw [hxe] at this; rw [← this]; exact looseGo_nil f acc)
      have hrow := Lib.hid (StrRow.of_own ho HL.out)
      subst hxe
      go_wp2_with fail
      go_ret2
      exact Or.inl ⟨acc, _, hd.out, HA.out, hrow.out, rfl, hb⟩
    · have h0 : (x.toList == []) = false := by
        rw [beq_eq_false_iff_ne, ByteArray.toList_eq]; intro e; apply hx0; have := congrArg List.length e; simpa using this
      have h1 : x.toList.isEmpty = false := by
        rw [ByteArray.toList_eq, List.isEmpty_eq_false_iff]; intro e; apply hx0; have := congrArg List.length e; simpa using this
      have F := Lib.hid (first_any aD aS aZ x n wr (HE.out.keep hb) (by omega) hn)
      go_wp2_with fail
      refine F.out.mono ?_
      rintro e w1 (⟨p, r, q1, q2, q3, hp, hr, rfl, hb1⟩ | ⟨T, v, m, hm, hv, ⟨p, r, rfl⟩, hb1⟩)
      · obtain ⟨f, rfl⟩ : ∃ g, f = g + 1 := ⟨f - 1, by omega⟩
        have hxl := toList_size x
        have hlen : r.data.toList.length = x.size - 2 - numL (x.data.toList.take 2) := by rw [hr, List.length_drop, List.length_drop, hxl]
        rw [toList_size] at hlen
        have hpl : p.data.toList.length ≤ 4096 := by rw [hp]; simp only [List.length_take]; omega
        rw [toList_size] at hpl
        have hgo2 := Lib.hid (show looseGo f r.data.toList (acc ++ [p]) = looseB s by
          rw [← HG.out, looseGo_more _ _ _ (by rw [hxl]; exact q1) (by rw [HL.out]; exact q2) (by rw [hxl]; exact q3), hr, hp])
        have rz : r.size < x.size := by omega
        have n64 : n < 64 := by omega
        clear hp hr q1 q2 q3 hlen hxl
        have hkeep : w1.ownsRow w.heap.size 9 1 (.slice a n c) n (strC acc) := ho.kept (grownBy_of_below hb1) (by cases (Value.slice a n c).ownBlock <;> simp)
        have hbb1 := hb.trans (hb1.mono hbs)
        have hbs1 := hbb1.size
        clear ho
        go_wp2_with fail
        refine (Clone_any p w1 (by omega)).mono ?_
        rintro e w2 ⟨rfl, hb2⟩
        have ho2 : w2.ownsRow w.heap.size 9 1 (.slice a n c) n (strC acc) := hkeep.kept (grownBy_of_below hb2) (by cases (Value.slice a n c).ownBlock <;> simp)
        have hbb2 := hbb1.trans (hb2.mono hbs1)
        have hbs2 := hbb2.size
        clear hkeep
        go_wp2_with (at_builtin; refine wpList_append_own _ rfl _ _ 22 rfl w.heap.size 9 i0 (.string ⟨#[]⟩) 1 16 Tryz.underlying22 hi hz0 hz1 hz2 rfl (by decide) _ n (strC acc) rfl (ho2.alloc _) ⟨w2.heap.size, 0, none⟩ 1 1 [.string p] rfl rfl ?c1 ?c2 ?c3 ?c4 ?c5 ?_)
        case c1 =>
          intro i u hi'
          match i, hi' with
          | 0, hi' => simp at hi'; subst hi'; rw [addr0_add, World.cell?_alloc_at _ _ _ _ rfl]; rfl
          | i + 1, hi' => simp at hi'
        case c2 => intro u hu; simp at hu; subst hu; rfl
        case c3 => unfold maxLen; omega
        case c4 => omega
        case c5 => simp; omega
        intro v' w3 hown3 hgrow3 _
        have hbb3 : Below w.heap.size w w3 := (hbb2.alloc hbs2 _).grown hgrow3 (by simp; omega) (fun k hk => (ho2.lt k hk).1)
        have hv' : ∃ a c, v' = .slice a (n + 1) c := by
          rcases hown3.2 with ⟨_, h0⟩ | ⟨g, c', cur, hv, _⟩
          · omega
          · exact ⟨_, _, hv⟩
        obtain ⟨a', c', rfl⟩ := hv'
        go_wp2
        go_roundw
        case rel =>
          refine ⟨r, acc ++ [p], f, n + 1, by omega, by omega, hgo2.out, by simp [HL.out], by omega, ?_, rfl, ⟨_, _, rfl⟩, by simpa [strC] using hown3, hbb3⟩
          intro y hy
          rcases List.mem_append.1 hy with hy | hy
          · exact HA.out y hy
          · rw [List.mem_singleton.1 hy]; exact hpl
        case measure => simpa using rz
      · obtain ⟨f, rfl⟩ : ∃ g, f = g + 1 := ⟨f - 1, by omega⟩
        have hxl := toList_size x
        have hgo2 : looseB s = .inr m := by
          rw [← HG.out]
          rcases hm with ⟨h, rfl⟩ | ⟨h, h2, rfl⟩ | ⟨h, h2, h3, rfl⟩
          · exact looseGo_short2 _ _ _ (by intro e; apply hx0; rw [← toList_size, e]; rfl) (by rw [hxl]; exact h)
          · exact looseGo_long _ _ _ (by rw [hxl]; exact h) (by rw [HL.out]; exact h2)
          · exact looseGo_short _ _ _ (by rw [hxl]; exact h) (by rw [HL.out]; exact h2) (by rw [hxl]; exact h3)
        have HR := Lib.hid (show looseB s = .inr m ∧ Refuses aD aS aZ (.iface 150 (.agg #[.int .i64 n, .iface T v])) m from ⟨hgo2, by
          rcases hv with ⟨a, b, rfl, rfl, rfl⟩ | ⟨rfl, rfl, rfl⟩
          · exact Or.inr (Or.inr (Or.inl ⟨_, _, _, rfl, rfl⟩))
          · exact Or.inr (Or.inr (Or.inr ⟨_, aS, rfl, Or.inl ⟨rfl, rfl⟩⟩))⟩)
        have hbb1 := hb.trans (hb1.mono hbs)
        clear hgo2 hm hv hxl
        go_wp2_with fail
        refine (octet_at _ _ ⟨_, _, rfl⟩ w1).mono ?_
        rintro e w' ⟨rfl, rfl⟩
        go_wp2_with fail
        go_ret2
        exact Or.inr ⟨_, _, m, HR.out.1, HR.out.2, rfl, hbb1⟩

/-- What Loose answers, as a slice's strings and a number. -/
def LooseOut (s : ByteArray) (w : World) (e : Ending) (w' : World) : Prop :=
  (∃ ss v, looseB s = .inl ss ∧ (∀ x ∈ ss, x.size ≤ 4096) ∧ StrRow w' v ss ∧ e = .returned (.tuple #[v, .int .i64 0]) ∧ Below w.heap.size w w') ∨
  (∃ n, looseB s = .inr n ∧ e = .returned (.tuple #[.slice none 0 0, .int .i64 n]) ∧ Below w.heap.size w w')

theorem Loose_any (aD aS aZ : Addr) (s : ByteArray) (w : World) (he : Env w aD aS aZ) (hs : s.size ≤ 1099511627776) :
    Calls Tryz.prog 62 #[.string s] w (LooseOut s w) := by
  have H1 := Lib.hid (loose_any aD aS aZ s w he hs)
  have HE := Lib.hid he
  clear he
  go_enter Tryz.func62, Tryz.ntmps62
  go_wp2_with fail
  refine H1.out.mono ?_
  rintro e w1 (⟨ss, v, hl, hz, hr, rfl, hb⟩ | ⟨T, v, n, hl, hr, rfl, hb⟩)
  · have hv : ∃ a n c, v = .slice a n c := by
      rcases hr with ⟨rfl, rfl⟩ | ⟨b, o, cap, rfl, _⟩
      · exact ⟨_, _, _, rfl⟩
      · exact ⟨_, _, _, rfl⟩
    obtain ⟨a, n, c, rfl⟩ := hv
    have HR := Lib.hid hr
    have HLL := Lib.hid hl
    have HZ := Lib.hid hz
    have hbs := hb.size
    clear hr hl hz
    go_wp2_with fail
    refine (errno_nil w1).mono ?_
    rintro e w2 ⟨rfl, hb2⟩
    have HR2 := Lib.hid (HR.out.keep hb2)
    go_wp2_with fail
    go_ret2
    exact Or.inl ⟨ss, _, HLL.out, HZ.out, HR2.out, rfl, hb.trans (hb2.mono hbs)⟩
  · have HR := Lib.hid (errno_any aD aS aZ _ n w1 (HE.out.keep hb) hr)
    have HLL := Lib.hid hl
    have hbs := hb.size
    clear hr hl
    go_wp2_with fail
    refine HR.out.mono ?_
    rintro e w2 ⟨rfl, hb2⟩
    go_wp2_with fail
    go_ret2
    exact Or.inr ⟨n, HLL.out, rfl, hb.trans (hb2.mono hbs)⟩
end Go.Proofs.YtkplpodljmlanaaGreatDoor
/-! The document's own Wide, Whole, Bind and Loose, by contracts. Conditions: at most 8 bytes in a number; the texts are not too long. -/
namespace Go.Proofs.YtkplpodljmlanaaGreatDoor
open Go.RowKit

theorem numL_drop (s : ByteArray) (j : Nat) (h : j < s.size) : numL (s.data.toList.drop j) = s[j].toNat + 256 * numL (s.data.toList.drop (j + 1)) := by
  rw [List.drop_eq_getElem_cons (by simpa using h)]; rfl

set_option maxRecDepth 100000 in
set_option maxHeartbeats 1000000 in
theorem refWhole_any (s : ByteArray) (w : World) (hs : s.size ≤ 8) :
    Calls Tryz.prog 65 #[.string s] w fun e w' => e = .returned (.int .u64 (numL s.data.toList)) ∧ w = w' := by
  go_enter Tryz.func65, Tryz.ntmps65
  go_wp2_with fail
  go_loop [3, 4] (fun n i => ∃ k : Nat, k ≤ s.size ∧ i = .int .i64 ((k : Int) - 1) ∧ n = .int .u64 (numL (s.data.toList.drop k))) (fun _ i => (intOf i + 1).toNat)
  case atStart => exact ⟨s.size, Nat.le_refl _, rfl, by rw [List.drop_of_length_le (by simp)]; rfl⟩
  case round =>
    obtain ⟨k, hk, rfl, rfl⟩ := hrel
    match k, hk with
    | 0, hk =>
      have hall := Lib.hid (show s.data.toList.drop 0 = s.data.toList from List.drop_zero)
      rw [show ((0 : Nat) : Int) - 1 = -1 from rfl]
      go_wp2_with fail
      go_ret
      exact ⟨by rw [← hall.out]; rfl, rfl⟩
    | j + 1, hk =>
      have hd := Lib.hid (numL_drop s j (by omega))
      have hb : numL (s.data.toList.drop (j + 1)) < 72057594037927936 := by
        have := numL_lt (s.data.toList.drop (j + 1))
        refine Nat.lt_of_lt_of_le this ?_
        exact Nat.pow_le_pow_right (n := 256) (by decide) (show (s.data.toList.drop (j + 1)).length ≤ 7 by simp; omega)
      obtain ⟨m, hm⟩ : ∃ m, numL (s.data.toList.drop (j + 1)) = m := ⟨_, rfl⟩
      rw [hm] at hb hd
      rw [hm, show ((j + 1 : Nat) : Int) - 1 = (j : Int) from by omega]
      clear hm
      have hc := s[j].toNat_lt
      have hj : j < s.size := by omega
      go_wp2_with fail
      go_round
      case rel => exact ⟨j, by omega, by go_num, by rw [hd.out, Nat.add_comm]; go_num⟩
      case measure => simp [intOf]

theorem wide_at (n j : Nat) : n / 256 ^ j / 256 = n / 256 ^ (j + 1) := by
  rw [Nat.div_div_eq_div_mul, Nat.pow_succ]

set_option maxRecDepth 100000 in
set_option maxHeartbeats 1000000 in
theorem refWide_any (n k : Nat) (w : World) (hn : n < 18446744073709551616) (hk : k ≤ 8) :
    Calls Tryz.prog 47 #[.int .u64 n, .int .i64 k] w fun e w' => e = .returned (.string ⟨(wideL n k).toArray⟩) ∧ Below w.heap.size w w' := by
  obtain ⟨i0, hi, hz0, hz1, hz2⟩ := info_parts infoByte
  go_enter Tryz.func47, Tryz.ntmps47
  go_wp2_with fail
  go_loopw [0, 5, 6] (fun nv bv iv wr => ∃ (j m : Nat), j ≤ k ∧ n / 256 ^ j = m ∧ m < 18446744073709551616 ∧ nv = .int .u64 m ∧ iv = .int .i64 j ∧ (∃ g c, bv = .slice (some ⟨g, 0, none⟩) j c ∧ w.heap.size ≤ g) ∧ wr.ownsRow w.heap.size 5 1 bv j (Lib.byteCells (wideL n j)) ∧ Below w.heap.size w wr) (fun _ _ i _ => k - (intOf i).toNat)
  case atStart => exact ⟨0, n, Nat.zero_le _, by simp, hn, rfl, rfl, ⟨_, _, rfl, Nat.le_refl _⟩, World.ownsRow_lit w #[] 0 (Nat.le_refl _) (Nat.zero_le _) rfl, (Below.refl _ _).alloc (by omega) _⟩
  case round =>
    obtain ⟨j, m, hj, hm, hmb, rfl, rfl, ⟨g, c, rfl, hgB⟩, ho, hb⟩ := hrel
    have hbs := hb.size
    have HM := Lib.hid hm
    clear hm
    by_cases hlt : j < k
    · go_wp2_with (at_builtin; refine wpList_append_own _ rfl _ _ 63 rfl w.heap.size 5 i0 (.int .u8 0) 1 1 Tryz.underlying63 hi hz0 hz1 hz2 rfl (by decide) _ j (Lib.byteCells (wideL n j)) rfl (ho.alloc _) ⟨wr.heap.size, 0, none⟩ 1 1 [.int .u8 ((m : Int) % 256)] rfl rfl ?c1 ?c2 ?c3 ?c4 ?c5 ?_)
      case c1 =>
        intro i u hi'
        match i, hi' with
        | 0, hi' => simp at hi'; subst hi'; rw [addr0_add, World.cell?_alloc_at _ _ _ _ rfl]; rfl
        | i + 1, hi' => simp at hi'
      case c2 => intro u hu; simp at hu; subst hu; rfl
      case c3 => unfold maxLen; omega
      case c4 => omega
      case c5 => simp; omega
      intro v' w3 hown3 hgrow3 _
      have hbb3 : Below w.heap.size w w3 := (hb.alloc hbs _).grown hgrow3 (by simp; omega) (fun k hk => by cases hk; exact hgB)
      have hv' : ∃ g c, v' = .slice (some ⟨g, 0, none⟩) (j + 1) c ∧ w.heap.size ≤ g := by
        rcases hown3.2 with ⟨_, h0⟩ | ⟨g, c', cur, hv, _⟩
        · omega
        · exact ⟨_, _, hv, (hown3.lt g (by rw [hv]; rfl)).1⟩
      obtain ⟨g', c', rfl, hg'⟩ := hv'
      go_wp2_with fail
      go_roundw
      case rel =>
        refine ⟨j + 1, m / 256, by omega, by rw [← HM.out]; exact (wide_at n j).symm, by omega, by go_num, by go_num, ⟨_, _, rfl, hg'⟩, ?_, hbb3⟩
        rw [wideL_succ, Lib.byteCells_append, HM.out]
        have e : Lib.byteCells [UInt8.ofNat (m % 256)] = [.int .u8 ((m : Int) % 256)] := by
          show [Value.int .u8 (((UInt8.ofNat (m % 256)).toNat : Nat) : Int)] = _
          rw [UInt8.toNat_ofNat_of_lt' (by have := Nat.mod_lt m (show 0 < 256 by decide); simpa using this)]
          rfl
        rw [e]
        exact hown3
      case measure => simp [intOf]; omega
    · obtain rfl : j = k := by omega
      have hcv := run_convert_bytes_back (P := Tryz.prog) wr 63 9 5 ⟨g, 0, none⟩ c (wideL n j) Tryz.underlying63 Tryz.underlying5 Tryz.underlying9 (fun i hi => by
        rw [wideL_length] at hi
        have := ho.cellAt i (by omega)
        rw [addr0_add, this, List.getElem?_eq_getElem (by rw [Lib.byteCells_length, wideL_length]; exact hi)]
        simp [Lib.byteCells])
      rw [wideL_length] at hcv
      go_wp2_with fail
      go_ret
      exact ⟨rfl, hb⟩

set_option maxRecDepth 100000 in
set_option maxHeartbeats 2000000 in
theorem refBind_any (v : Value) (ss : List ByteArray) (w : World) (h : StrRow w v ss) (hl : ss.length ≤ 64) (hz : ∀ s ∈ ss, s.size ≤ 4096) :
    Calls Tryz.prog 24 #[v] w fun e w' => e = .returned (.string ⟨(bindL ss).toArray⟩) ∧ Below w.heap.size w w' := by
  rcases h with ⟨rfl, rfl⟩ | ⟨b, o, cap, rfl, h2, h3, h4⟩
  · go_enter Tryz.func24, Tryz.ntmps24
    go_wp2_with fail
    refine wp_loop_rounds 1 ?_
    rw [rounds_succ]
    go_wp2
    go_ret
    exact ⟨rfl, Below.refl _ _⟩
  · have H4 := Lib.hid h4
    have HZ := Lib.hid hz
    clear h4 hz
    unfold maxLen at h3
    go_enter Tryz.func24, Tryz.ntmps24
    go_wp2_with fail
    go_loopw [3, 8] (fun ov i wr => ∃ (k : Nat) (x : ByteArray), k ≤ ss.length ∧ x.size ≤ 4098 * k ∧ x = ⟨(bindL (ss.take k)).toArray⟩ ∧ i = .int .i64 k ∧ ov = .string x ∧ Below w.heap.size w wr) (fun _ i _ => ss.length - (intOf i).toNat)
    case atStart => exact ⟨0, ⟨#[]⟩, Nat.zero_le _, Nat.zero_le _, rfl, rfl, rfl, Below.refl _ _⟩
    case round =>
      obtain ⟨k, x, hk, hx, hxe, rfl, rfl, hb⟩ := hrel
      have HX := Lib.hid hxe
      clear hxe
      have hbs := hb.size
      by_cases hlt : k < ss.length
      · have hc0 := H4.out k hlt
        have hc := (hb.cell (World.block_lt_of_cell? _ _ hc0)).trans hc0
        have hzk := HZ.out ss[k] (List.getElem_mem hlt)
        have hts := Lib.hid (List.take_succ_eq_append_getElem hlt)
        obtain ⟨y, hy⟩ : ∃ y, ss[k] = y := ⟨_, rfl⟩
        rw [hy] at hc hzk hts
        clear hy hc0
        have D := Lib.hid (refWide_any y.size 2 wr (by omega) (by omega))
        obtain ⟨z, hzz⟩ : ∃ z : ByteArray, ⟨(wideL y.size 2).toArray⟩ = z := ⟨_, rfl⟩
        have z2 : z.size ≤ 2 := by rw [← hzz, wideL_size]; omega
        rw [hzz] at D
        have HZZ := Lib.hid hzz
        clear hzz
        go_wp2_with fail
        refine D.out.mono ?_
        rintro e w2 ⟨rfl, hb2⟩
        go_wp2_with fail
        go_roundw
        case rel =>
          refine ⟨k + 1, x ++ z ++ y, by omega, by rw [ByteArray.size_append, ByteArray.size_append]; omega, ?_, by go_num, rfl, hb.trans (hb2.mono hbs)⟩
          apply ByteArray.ext
          rw [ByteArray.data_append, ByteArray.data_append, HX.out, ← HZZ.out, hts.out, bindL_snoc]
          simp
        case measure => simp [intOf]; omega
      · have hd := Lib.hid (show x = ⟨(bindL ss).toArray⟩ by have := HX.out; rwa [List.take_of_length_le (by omega)] at this)
        go_wp2_with fail
        go_ret
        exact ⟨by rw [← hd.out]; rfl, hb⟩

end Go.Proofs.YtkplpodljmlanaaGreatDoor
