/-
  strings.Clone; strings.IndexAny at two marks and whatever text. Conditions: fewer than 2^32 - 15 bytes.
-/
import Derived.Test.YtcdibcogboaikaaDoorShelf
import Derived.Test.YtcdibcogboaikaaDoorNamePlain
import Derived.WalkKit
import Derived.WalkLawsBesides
import Derived.WalkSpells
import Derived.BigCall
import Derived.Lib.Hide
import Derived.Outline
import Derived.Lib.OthersKept
import Derived.Laws.Runes
import Derived.Laws.RangeAny
import Derived.Deep.LoopGhost
import Derived.Lib.IndexAny
import Derived.WalkMore
import Derived.BigQuiet
import Derived.Deep.QuietTactic
import Derived.Deep.RegionWith
namespace Go.Proofs.YtcdibcogboaikaaDoor
open Go.RowKit

theorem clone_any (s : ByteArray) (w : World) (hs : s.size ≤ 1099511627776) :
    Calls Tryd.prog 30 #[.string s] w fun e w' => e = .returned (.string s) ∧ Below w.heap.size w w' := by
  have H := Lib.hid (Tryd.stringslite_Clone s w (by omega))
  go_enter Tryd.func30, Tryd.ntmps30
  go_wp2_with fail
  refine H.out.mono ?_
  rintro e w1 ⟨rfl, hb⟩
  have HB := Lib.hid hb
  clear hb
  go_wp2_with fail
  go_ret
  exact ⟨rfl, HB.out⟩

/-! ### A rune that is no byte's is not among the two marks -/
set_option maxRecDepth 100000 in
theorem rune_error (w : World) :
    Calls Tryd.prog 52 #[.string { data := #[58, 64] }, .int .i32 65533] w fun e w' => e = .returned (.int .i64 (-1)) ∧ Below w.heap.size w w' := by
  have n0 : ∀ ty, (Instr.next (.pointer (some ⟨w.heap.size, 0, none⟩)) true ty).run Tryd.prog (w.iter { data := #[58, 64] } 0) = .ok (.tuple #[.bool true, .int .i64 0, .int .i32 58]) (w.iter { data := #[58, 64] } 1) :=
    fun ty => run_next_ascii w { data := #[58, 64] } 0 ty (by decide) (by decide)
  have n1 : ∀ ty, (Instr.next (.pointer (some ⟨w.heap.size, 0, none⟩)) true ty).run Tryd.prog (w.iter { data := #[58, 64] } 1) = .ok (.tuple #[.bool true, .int .i64 1, .int .i32 64]) (w.iter { data := #[58, 64] } 2) :=
    fun ty => run_next_ascii w { data := #[58, 64] } 1 ty (by decide) (by decide)
  have n2 : ∀ ty, (Instr.next (.pointer (some ⟨w.heap.size, 0, none⟩)) true ty).run Tryd.prog (w.iter { data := #[58, 64] } 2) = .ok (.tuple #[.bool false]) (w.iter { data := #[58, 64] } 2) :=
    fun ty => run_next_end w { data := #[58, 64] } 2 ty (by decide)
  go_enter Tryd.func52, Tryd.ntmps52
  go_wp2_with fail
  refine wp_loop_rounds 3 ?_
  rw [rounds_succ]
  go_wp2_with fail
  rw [rounds_succ]
  go_wp2_with fail
  rw [rounds_succ]
  go_wp2_with fail
  go_ret
  exact ⟨rfl, (Below.refl _ _).alloc (Nat.le_refl _) _⟩

set_option maxRecDepth 100000 in
theorem rune_bad (r : Int) (w : World) (h0 : 128 ≤ r) (h1 : r ≤ 2147483647) (he : r ≠ 65533) (hv : Lib.validRune r = false) :
    Calls Tryd.prog 52 #[.string { data := #[58, 64] }, .int .i32 r] w fun e w' => e = .returned (.int .i64 (-1)) ∧ Below w.heap.size w w' := by
  have V := Lib.hid (Tryd.utf8_ValidRune r w)
  have e1 : (r == 65533) = false := beq_eq_false_iff_ne.2 he
  clear he
  go_enter Tryd.func52, Tryd.ntmps52
  go_wp2_with fail
  refine V.out.mono ?_
  rintro e w1 ⟨rfl, rfl⟩
  go_wp2_with fail
  go_ret
  exact ⟨rfl, Below.refl _ _⟩
theorem two_bytes (s : ByteArray) (h : s.size = 2) : ∃ x y : UInt8, s = { data := #[x, y] } := by
  obtain ⟨⟨l⟩⟩ := s
  match l, h with
  | [x, y], _ => exact ⟨x, y, rfl⟩
set_option maxRecDepth 100000 in
theorem rune_good (r : Int) (w : World) (h0 : 128 ≤ r) (h1 : r ≤ 2147483647) (he : r ≠ 65533) (hv : Lib.validRune r = true) :
    Calls Tryd.prog 52 #[.string { data := #[58, 64] }, .int .i32 r] w fun e w' => e = .returned (.int .i64 (-1)) ∧ Below w.heap.size w w' := by
  have V := Lib.hid (Tryd.utf8_ValidRune r w)
  have e1 : (r == 65533) = false := beq_eq_false_iff_ne.2 he
  obtain ⟨rs, hrs, f1, f2, f3⟩ : ∃ rs, Utf8.encode r = rs ∧ 2 ≤ rs.size ∧ rs.size ≤ 4 ∧ ∀ h : rs.size - 1 < rs.size, 128 ≤ (rs[rs.size - 1]'h).toNat := ⟨_, rfl, encode_facts r (by rw [validRune_eq]; exact hv) h0⟩
  have cv := fun w => run_convert_int_string (P := Tryd.prog) w 21 9 .i32 r (by kernel_rfl) Tryd.underlying9
  rw [hrs] at cv
  clear he hrs
  by_cases h2 : rs.size = 2
  · obtain ⟨x, y, rfl⟩ := two_bytes rs h2
    have hy : 128 ≤ y.toNat := f3 (show 2 - 1 < 2 by decide)
    have hy2 := y.toNat_lt
    have I := Lib.hid (show ∀ c w, Calls Tryd.prog 68 #[.string ByteArray.empty, .int .u8 c] w fun e w' => e = .returned (.int .i64 (-1)) ∧ w' = w from fun c w => Tryd.strings_IndexByte ByteArray.empty c w)
    have ne : ((64 : Int) != (y.toNat : Int)) = true := by rw [bne_iff_ne]; omega
    have b0 : (({ data := #[58, 64] } : ByteArray)[1]'(by decide)) = 64 := rfl
    have b1 : (({ data := #[x, y] } : ByteArray)[1]'(show 1 < 2 by decide)) = y := rfl
    clear f1 f2 f3 h2
    go_enter Tryd.func52, Tryd.ntmps52
    go_wp2_with fail
    refine V.out.mono ?_
    rintro e w1 ⟨rfl, rfl⟩
    go_wp2_with fail
    go_step3
    go_wp2_with fail
    refine wp_loop_rounds 1 ?_
    rw [rounds_succ]
    go_wp2_with fail
    go_step3
    go_wp2_with fail
    go_quiet (fail)
    go_wp2_with fail
    have k2 : IntKind.i64.wrap 2 = 2 := by decide
    go_quiet ((go_at_call 68; exact (I.out _ _).mono fun _ _ ⟨h1, h2⟩ => ⟨h1, _, h2⟩))
    go_wp2_with fail
    rw [Exit.noGoto_ret]
    go_wp2_with fail
    rw [Exit.noGoto_ret]
    go_ret
    exact ⟨rfl, below_drewN (Below.refl _ _) _⟩
  · have h3 : 3 ≤ rs.size := by omega
    clear f1 f3 h2
    go_enter Tryd.func52, Tryd.ntmps52
    go_wp2_with fail
    refine V.out.mono ?_
    rintro e w1 ⟨rfl, rfl⟩
    go_wp2_with fail
    go_step3
    go_wp2_with fail
    refine wp_loop_rounds 1 ?_
    rw [rounds_succ]
    go_wp2_with fail
    rw [Exit.noGoto_ret]
    go_ret
    exact ⟨rfl, Below.refl _ _⟩
theorem rune_any (r : Int) (w : World) (h0 : 128 ≤ r) (h1 : r ≤ 2147483647) :
    Calls Tryd.prog 52 #[.string { data := #[58, 64] }, .int .i32 r] w fun e w' => e = .returned (.int .i64 (-1)) ∧ Below w.heap.size w w' := by
  by_cases he : r = 65533
  · subst he; exact rune_error w
  · cases hv : Lib.validRune r with
    | true => exact rune_good r w h0 h1 he hv
    | false => exact rune_bad r w h0 h1 he hv
theorem rune_small (c : UInt8) (w : World) (h : c.toNat < 128) :
    Calls Tryd.prog 52 #[.string { data := #[58, 64] }, .int .i32 c.toNat] w fun e w' => e = .returned (.int .i64 (Lib.indexByte [58, 64] c)) ∧ w = w' := by
  refine (Tryd.strings_IndexRune_ascii { data := #[58, 64] } c.toNat w (by omega) (by omega)).mono ?_
  rintro e w' ⟨rfl, rfl⟩
  exact ⟨by rw [show ((c.toNat : Int)).toNat.toUInt8 = c by simp], rfl⟩

/-! ### The first mark -/
/-- Behind a byte that is no letter of ASCII stands nothing else, as far as its rune goes. -/
theorem decode_cont (s : ByteArray) (pos : Nat) (h : pos < s.size) (ha : 128 ≤ (s[pos]'h).toNat) :
    ∀ j, 1 ≤ j → j < (Utf8.decode s pos).2 → pos + j < s.size ∧ 128 ≤ (s.get! (pos + j)).toNat := by
  have hn : ¬ (s[pos]'h).toNat < 128 := by omega
  intro j h1 h2
  simp only [Utf8.decode, get_at s pos h, hn, if_false] at h2
  have hc : ∀ k, (decide (pos + k < s.size) && ((s.get! (pos + k)).toNat / 64 == 2)) = true → pos + k < s.size ∧ 128 ≤ (s.get! (pos + k)).toNat := fun k hk => by
    rw [Bool.and_eq_true, decide_eq_true_eq, beq_iff_eq] at hk
    exact ⟨hk.1, by omega⟩
  split at h2
  · rename_i hx
    rw [Bool.and_eq_true] at hx
    split at h2
    · obtain rfl : j = 1 := by simp only [] at h2; omega
      exact hc 1 hx.2
    · simp only [] at h2; omega
  · split at h2
    · rename_i hx
      rw [Bool.and_eq_true, Bool.and_eq_true] at hx
      split at h2
      · simp only [] at h2
        rcases (by omega : j = 1 ∨ j = 2) with rfl | rfl
        · exact hc 1 hx.1.2
        · exact hc 2 hx.2
      · simp only [] at h2; omega
    · split at h2
      · rename_i hx
        rw [Bool.and_eq_true, Bool.and_eq_true, Bool.and_eq_true] at hx
        split at h2
        · simp only [] at h2
          rcases (by omega : j = 1 ∨ j = 2 ∨ j = 3) with rfl | rfl | rfl
          · exact hc 1 hx.1.1.2
          · exact hc 2 hx.1.2
          · exact hc 3 hx.2
        · simp only [] at h2; omega
      · simp only [] at h2; omega
/-- .. so none of it is a mark. -/
theorem noAny_wide (s : ByteArray) (pos : Nat) (h : pos < s.size) (ha : 128 ≤ (s[pos]'h).toNat) (hN : Lib.NoAny s.data.toList [58, 64] pos) :
    Lib.NoAny s.data.toList [58, 64] (pos + (Utf8.decode s pos).2) := by
  intro j b hj hb
  by_cases h1 : j < pos
  · exact hN j b h1 hb
  have hbig : 128 ≤ b.toNat := by
    by_cases h2 : j = pos
    · subst h2
      rw [Lib.data_getElem? s j h] at hb
      cases hb; exact ha
    · obtain ⟨k, rfl⟩ : ∃ k, j = pos + k := ⟨j - pos, by omega⟩
      obtain ⟨h3, h4⟩ := decode_cont s pos h ha k (by omega) (by omega)
      rw [Lib.data_getElem? s (pos + k) h3] at hb
      cases hb
      have e : s.get! (pos + k) = s[pos + k] := get_at s (pos + k) h3
      rw [← e]; exact h4
  cases hc : ([58, 64] : List UInt8).contains b with
  | false => rfl
  | true =>
    simp only [List.contains_cons, List.contains_nil, Bool.or_false, Bool.or_eq_true, beq_iff_eq] at hc
    rcases hc with rfl | rfl <;> exact absurd hbig (by decide)

set_option maxRecDepth 100000 in
set_option maxHeartbeats 1000000 in
theorem first_short (s : ByteArray) (w : World) (h8 : s.size ≤ 8) :
    Calls Tryd.prog 39 #[.string s, .string { data := #[58, 64] }] w fun e w' => e = .returned (.int .i64 (Lib.indexAny s.data.toList [58, 64])) ∧ Below w.heap.size w w' := by
  have U := Lib.hid (Tryd.strings_shouldUseASCIISet (s.size : Int) w)
  rw [show decide ((8 : Int) < (s.size : Int)) = false from decide_eq_false (by omega)] at U
  go_enter Tryd.func39, Tryd.ntmps39
  go_wp2_with fail
  refine U.out.mono ?_
  rintro e w1 ⟨rfl, rfl⟩
  go_wp2_with fail
  clear U
  go_loopg [9, 10] s.size (fun g _ _ wx => ∃ i : Nat, wx.heap[w1.heap.size]? = some (.stringIter s i) ∧ Below w1.heap.size w1 wx ∧ s.size ≤ i + g ∧ Lib.NoAny s.data.toList [58, 64] i)
  case atStart => exact ⟨0, World.iter_heap w1 s 0, (Below.refl _ w1).alloc (Nat.le_refl _) _, by omega, Lib.NoAny.zero _ _⟩
  case round =>
    obtain ⟨i, hit, hb, hig, hno⟩ := hrel
    by_cases hi : i < s.size
    · obtain ⟨g, rfl⟩ : ∃ g', gk = g' + 1 := ⟨gk - 1, by omega⟩
      by_cases ha : (s[i]'hi).toNat < 128
      · have hnx := fun ty => Lib.run_next_ascii_at (P := Tryd.prog) wr w1.heap.size s i ty hit hi ha
        obtain ⟨x, hx⟩ : ∃ x : UInt8, s[i]'hi = x := ⟨_, rfl⟩
        have hxl : s.data.toList[i]? = some x := by rw [← hx]; exact Lib.data_getElem? s i hi
        rw [hx] at hnx ha
        have hit2 := Lib.hid (Lib.iterAt_heap wr w1.heap.size s i (i + 1) hit)
        have hb2 := Lib.hid (Lib.below_iterAt hb (k := w1.heap.size) (Nat.le_refl _) s (i + 1))
        obtain ⟨W, hW⟩ : ∃ W, wr.iterAt w1.heap.size s (i + 1) = W := ⟨_, rfl⟩
        rw [hW] at hnx hit2 hb2
        have R := Lib.hid (fun w => rune_small x w ha)
        have hcon := Lib.contains_iff_indexByte [58, 64] x
        cases hin : ([58, 64] : List UInt8).contains x
        · have HN := Lib.hid (hno.succ hxl hin)
          rw [hin] at hcon
          have hlt : ¬ ((0 : Int) ≤ Lib.indexByte [58, 64] x) := of_decide_eq_false hcon.symm
          obtain ⟨q, hq⟩ : ∃ q, Lib.indexByte [58, 64] x = q := ⟨_, rfl⟩
          rw [hq] at R hlt
          clear hcon hin hno hxl hx hit hb hW hq
          go_wp2_with fail
          refine (R.out _).mono ?_
          rintro e w2 ⟨rfl, rfl⟩
          go_wp2_with fail
          go_roundg g
          case measure => omega
          case rel => exact ⟨i + 1, hit2.out, hb2.out, by omega, HN.out⟩
        · have HN := Lib.hid (Lib.indexAny_hit hno hxl hin)
          rw [hin] at hcon
          have hge : (0 : Int) ≤ Lib.indexByte [58, 64] x := of_decide_eq_true hcon.symm
          obtain ⟨q, hq⟩ : ∃ q, Lib.indexByte [58, 64] x = q := ⟨_, rfl⟩
          rw [hq] at R hge
          clear hcon hin hno hxl hx hit hb hW hq
          go_wp2_with fail
          refine (R.out _).mono ?_
          rintro e w2 ⟨rfl, rfl⟩
          go_wp2_with fail
          go_ret
          exact ⟨by rw [HN.out]; rfl, hb2.out⟩
      · have hnx := fun ty => Lib.run_next_any_at (P := Tryd.prog) wr w1.heap.size s i ty hit hi
        have hd := decode_high s i hi (by omega)
        have hd2 := decode_le s i
        have HN := Lib.hid (noAny_wide s i hi (by omega) hno)
        obtain ⟨r, hr⟩ : ∃ r, (Utf8.decode s i).1 = r := ⟨_, rfl⟩
        obtain ⟨k, hk⟩ : ∃ k, (Utf8.decode s i).2 = k := ⟨_, rfl⟩
        rw [hr, hk] at hnx hd
        rw [hk] at HN
        rw [hr] at hd2
        have hit2 := Lib.hid (Lib.iterAt_heap wr w1.heap.size s i (i + k) hit)
        have hb2 := Lib.hid (Lib.below_iterAt hb (k := w1.heap.size) (Nat.le_refl _) s (i + k))
        have hsz := Lib.iterAt_size wr w1.heap.size s (i + k)
        have hlt := hb.size
        have hlt2 : w1.heap.size < wr.heap.size := (Array.getElem?_eq_some_iff.1 hit).1
        obtain ⟨W, hW⟩ : ∃ W, wr.iterAt w1.heap.size s (i + k) = W := ⟨_, rfl⟩
        rw [hW] at hnx hit2 hb2 hsz
        have R := Lib.hid (fun w => rune_any (r : Int) w (by omega) (by omega))
        have hk1 := hd.2
        clear hno hit hb hW hr hk ha hd hd2
        go_wp2_with fail
        refine (R.out _).mono ?_
        rintro e w2 ⟨rfl, hb3⟩
        have HB := Lib.hid (hb2.out.trans (hb3.mono (by omega)))
        have HI := Lib.hid ((hb3.block w1.heap.size (by omega)).trans hit2.out)
        clear hb3 hsz
        go_wp2_with fail
        go_roundg g
        case measure => omega
        case rel => exact ⟨i + k, HI.out, HB.out, by omega, HN.out⟩
    · have hnx := fun ty => Lib.run_next_end_at (P := Tryd.prog) wr w1.heap.size s i ty hit hi
      have HN := Lib.hid (Lib.indexAny_none (s := s.data.toList) (chars := [58, 64]) (fun j b hj hbb => hno j b (by have := Lib.size_eq s; omega) hbb))
      have HB := Lib.hid hb
      clear hno hit hb
      go_wp2_with fail
      go_ret
      exact ⟨by rw [HN.out]; rfl, HB.out⟩

/-- Where a text's first mark is. -/
def markAt (s : ByteArray) : Int := Lib.indexAny s.data.toList [58, 64]
theorem first_mark (s : ByteArray) (w : World) (hs : s.size < 4294967281) :
    Calls Tryd.prog 39 #[.string s, .string { data := #[58, 64] }] w fun e w' => e = .returned (.int .i64 (markAt s)) ∧ Below w.heap.size w w' := by
  by_cases h8 : s.size ≤ 8
  · exact first_short s w h8
  · have hz := (zero_of_info (P := Tryd.prog) (t := 77) (v := .agg (Array.replicate 256 (.bool false))) (n := 256) (by kernel_rfl)).1
    refine (Tryd.strings_IndexAny_long hz s { data := #[58, 64] } w (by decide) (by omega) hs (by decide) ?_).mono ?_
    · intro j b h
      have hm : b ∈ ([58, 64] : List UInt8) := List.mem_of_getElem? h
      simp only [List.mem_cons, List.not_mem_nil, or_false] at hm
      rcases hm with rfl | rfl <;> decide
    · rintro e w' ⟨rfl, rfl⟩
      exact ⟨rfl, ((Below.refl _ _).alloc (Nat.le_refl _) _).alloc (by simp) _⟩
end Go.Proofs.YtcdibcogboaikaaDoor
