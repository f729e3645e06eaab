/-
  octet.Hex by its contract: the digits of the bytes. Conditions: at most 2^40 bytes.
  octet.Wide by its contract: the number in bytes, or the refusal. Conditions: the number is a uint64, the size an int; the package-level errors lie where they lie.
  Slices of strings as values: what they read as. Conditions: none.
  octet.Bytes and octet.Whole by their contracts: what digits say, what number bytes are, or the refusals. Conditions: the package-level errors lie where they lie; at most 2^40 digits.
-/
import Derived.Test.YtepcaglekgeamaaGreatDoorYShelf
import Derived.Test.YtepcaglekgeamaaGreatDoorYOct1
import Derived.WalkKit
import Derived.WalkLawsBesides
import Derived.WalkSpells
import Derived.BigCall
import Derived.Lib.Hide
import Derived.Outline
import Derived.BigQuiet
import Derived.Deep.QuietTactic
import Derived.Deep.Strs
namespace Go.Proofs.YtepcaglekgeamaaGreatDoor
open Go.RowKit

theorem dig_at (n : Nat) (h : n < 16) : ({ data := #[48, 49, 50, 51, 52, 53, 54, 55, 56, 57, 97, 98, 99, 100, 101, 102] } : ByteArray)[n]'h = hexDig n := by
  have : ∀ m : Fin 16, ({ data := #[48, 49, 50, 51, 52, 53, 54, 55, 56, 57, 97, 98, 99, 100, 101, 102] } : ByteArray)[m.1]'m.2 = hexDig m.1 := by decide
  exact this ⟨n, h⟩

theorem take_hexL (s : ByteArray) (k : Nat) (h : k < s.size) : hexL (s.data.toList.take (k + 1)) = hexL (s.data.toList.take k) ++ [hexDig (s[k].toNat / 16), hexDig (s[k].toNat % 16)] := by
  rw [List.take_succ_eq_append_getElem (by simpa using h), hexL_append]; rfl

set_option maxHeartbeats 1000000 in
theorem Hex_any (s : ByteArray) (w : World) (hs : s.size ≤ 1099511627776) :
    Calls Tryz.prog 44 #[.string s] w fun e w' => e = .returned (.string ⟨(hexL s.data.toList).toArray⟩) ∧ Below w.heap.size w w' := by
  have hg := Tryz.Builder_Grow_fresh_cap w.heap.size w.heap.size (2 * s.size) (w.alloc (.cells #[.pointer none, .slice none 0 0] 96)) (Nat.le_refl _) (by show (w.heap.push _)[w.heap.size]? = _; simp) (by simp) (by omega)
  have HG := Lib.hid hg
  clear hg
  go_enter Tryz.func44, Tryz.ntmps44
  go_wp2_with fail
  refine (show Calls _ _ _ _ _ from by rw [show (2 * (s.size : Int)) = ((2 * s.size : Nat) : Int) from by omega]; exact HG.out).mono ?_
  rintro e w1 ⟨rfl, ⟨h1, hb1⟩, -⟩
  have I1 : Lib.IsBuilderF 96 5 w.heap.size w.heap.size (Lib.byteCells []) w1 := Or.inr (Lib.BuilderAtF.of h1)
  have b1 : Below w.heap.size w w1 := ((Below.refl _ _).alloc (by omega) _).trans hb1
  clear h1 hb1
  go_wp2_with fail
  go_loopw [11] (fun i wr => ∃ k : Nat, k ≤ s.size ∧ i = .int .i64 k ∧ Lib.IsBuilderF 96 5 w.heap.size w.heap.size (Lib.byteCells (hexL (s.data.toList.take k))) wr ∧ Below w.heap.size w wr) (fun i _ => s.size - (intOf i).toNat)
  case atStart => exact ⟨0, Nat.zero_le _, rfl, I1, b1⟩
  case round =>
    obtain ⟨k, hk, rfl, hI, hb⟩ := hrel
    by_cases hlt : k < s.size
    · have hbs := hb.size
      have hc := s[k].toNat_lt
      have q1 : (0 : Int) ≤ (s[k].toNat : Int) / 16 := by omega
      have q2 : (s[k].toNat : Int) / 16 < 16 := by omega
      have q3 : (0 : Int) ≤ (s[k].toNat : Int) % 16 := by omega
      have q4 : (s[k].toNat : Int) % 16 < 16 := by omega
      have ts := Lib.hid (take_hexL s k hlt)
      have hl : (Lib.byteCells (hexL (s.data.toList.take k))).length ≤ 2 * k := by rw [Lib.byteCells_length, hexL_length]; have := List.length_take_le k s.data.toList; omega
      go_wp2_with fail
      refine (Tryz.Builder_WriteByte_k w.heap.size w.heap.size _ _ wr hI (by omega) hbs).mono ?_
      rintro e w2 ⟨rfl, h2, hb2, -⟩
      have hbs2 := hb2.size
      go_wp2_with fail
      refine (Tryz.Builder_WriteByte_k w.heap.size w.heap.size _ _ w2 (Or.inr h2) (by simp only [List.length_append, List.length_cons, List.length_nil]; omega) (by omega)).mono ?_
      rintro e w3 ⟨rfl, h3, hb3, -⟩
      go_wp2
      go_roundw
      case rel =>
        refine ⟨k + 1, by omega, by go_num, ?_, (hb.trans hb2).trans hb3⟩
        rw [ts.out]
        rw [dig_at _ (by omega), dig_at _ (by omega)] at h3
        refine Or.inr ?_
        simpa [Lib.byteCells] using h3
      case measure => simp [intOf]; omega
    · rw [List.take_of_length_le (by simp; omega)] at hI
      go_wp2_with fail
      refine (Tryz.Builder_String_any_k w.heap.size w.heap.size _ wr hI hb.size).mono ?_
      rintro e w2 ⟨rfl, -, hb2, -⟩
      go_wp2
      go_ret
      exact ⟨rfl, hb.trans hb2⟩
end Go.Proofs.YtepcaglekgeamaaGreatDoor
namespace Go.Proofs.YtepcaglekgeamaaGreatDoor
open Go.RowKit

theorem infoByte : (Tryz.prog.info? 5).map (fun i => (i.zero, i.size, i.bytes)) = some (some (.int .u8 0), 1, 1) := by kernel_rfl

theorem addr0_add (b i : Nat) : (⟨b, 0, none⟩ : Addr).add i = ⟨b, i, none⟩ := by unfold Addr.add; split <;> simp_all
end Go.Proofs.YtepcaglekgeamaaGreatDoor
namespace Go.Proofs.YtepcaglekgeamaaGreatDoor
open Go.RowKit

def StrRow (w : World) (v : Value) (ss : List ByteArray) : Prop :=
  v = .slice none 0 0 ∧ ss = [] ∨ ∃ b o cap, v = .slice (some ⟨b, o, none⟩) ss.length cap ∧ ss.length ≤ cap ∧ cap ≤ maxLen ∧ ∀ i (h : i < ss.length), w.cell? ⟨b, o + i, none⟩ = some (.string ss[i])

theorem StrRow.keep {w w' : World} {v : Value} {ss : List ByteArray} (h : StrRow w v ss) (hb : Below w.heap.size w w') : StrRow w' v ss := by
  rcases h with h | ⟨b, o, cap, h1, h2, h3, h4⟩
  · exact Or.inl h
  · exact Or.inr ⟨b, o, cap, h1, h2, h3, fun i hi => (hb.cell (World.block_lt_of_cell? _ _ (h4 i hi))).trans (h4 i hi)⟩

theorem StrRow.len {w : World} {v : Value} {ss : List ByteArray} (h : StrRow w v ss) : ss.length ≤ maxLen := by
  rcases h with ⟨_, rfl⟩ | ⟨b, o, cap, h1, h2, h3, h4⟩
  · exact Nat.zero_le _
  · omega

def strC (ss : List ByteArray) : List Value := ss.map Value.string

theorem StrRow.of_own {w : World} {B n : Nat} {v : Value} {ss : List ByteArray} (h : w.ownsRow B 9 1 v n (strC ss)) (hn : ss.length = n) : StrRow w v ss := by
  subst hn
  rcases h.2 with ⟨rfl, h0⟩ | ⟨g, cap, cur, rfl, hb, hg, h1, h2, h3, h4⟩
  · exact Or.inl ⟨rfl, List.length_eq_zero_iff.1 h0⟩
  · refine Or.inr ⟨g, 0, cap, rfl, h1, h2, fun i hi => ?_⟩
    have := h.cells (g := g) rfl i (.string ss[i]) (by simp [strC, hi])
    rw [addr0_add] at this
    rw [Nat.zero_add]; exact this
end Go.Proofs.YtepcaglekgeamaaGreatDoor
namespace Go.Proofs.YtepcaglekgeamaaGreatDoor
open Go.RowKit

theorem octet_at (p : Int) (c : Value) (hc : ∃ T v, c = .iface T v) (w : World) : Calls Tryz.prog 119 #[.int .i64 p, c] w fun e w' => e = .returned (.iface 174 (.agg #[.int .i64 p, c])) ∧ w = w' := by
  obtain ⟨T, v, rfl⟩ := hc
  go_enter Tryz.func119, Tryz.ntmps119
  go_wp2
  go_ret
  exact ⟨rfl, rfl⟩

theorem digit_ok (c : UInt8) (x : Nat) (h : halfB c = some x) (w : World) : Calls Tryz.prog 118 #[.int .u8 c.toNat] w fun e w' => e = .returned (.tuple #[.int .u8 x, .nilIface]) ∧ w = w' := by
  have hc := c.toNat_lt
  unfold halfB at h
  split at h
  · simp only [Option.some.injEq] at h
    subst h
    have h1 : decide ((48 : Int) ≤ c.toNat) = true := by simp; omega
    have h2 : decide ((c.toNat : Int) ≤ 57) = true := by simp; omega
    go_enter Tryz.func118, Tryz.ntmps118
    go_wp2
    go_ret2
    exact ⟨by simp; omega, rfl⟩
  · split at h
    · simp only [Option.some.injEq] at h
      subst h
      have h1 : decide ((48 : Int) ≤ c.toNat) = true := by simp; omega
      have h2 : decide ((c.toNat : Int) ≤ 57) = false := by simp; omega
      have h3 : decide ((97 : Int) ≤ c.toNat) = true := by simp; omega
      have h4 : decide ((c.toNat : Int) ≤ 102) = true := by simp; omega
      go_enter Tryz.func118, Tryz.ntmps118
      go_wp2
      go_ret2
      exact ⟨by simp; omega, rfl⟩
    · cases h

theorem digit_no (aD aS aZ : Addr) (c : UInt8) (h : halfB c = none) (w : World) (he : Env w aD aS aZ) : Calls Tryz.prog 118 #[.int .u8 c.toNat] w fun e w' => e = .returned (.tuple #[.int .u8 0, .iface 253 (.pointer (some aD))]) ∧ Below w.heap.size w w' := by
  have hc := c.toNat_lt
  have g := he.gD
  have HE := Lib.hid he
  clear he
  unfold halfB at h
  by_cases q1 : 48 ≤ c.toNat
  · by_cases q2 : c.toNat ≤ 57
    · simp [q1, q2] at h
    · by_cases q3 : 97 ≤ c.toNat
      · by_cases q4 : c.toNat ≤ 102
        · simp [q2, q3, q4] at h
        · clear h
          have h1 : decide ((48 : Int) ≤ c.toNat) = true := by simp; omega
          have h2 : decide ((c.toNat : Int) ≤ 57) = false := by simp; omega
          have h3 : decide ((97 : Int) ≤ c.toNat) = true := by simp; omega
          have h4 : decide ((c.toNat : Int) ≤ 102) = false := by simp; omega
          clear q1 q2 q3 q4 hc
          go_enter Tryz.func118, Tryz.ntmps118
          go_wp2
          go_quiet (fail)
          go_wp2
          go_ret2
          exact ⟨rfl, below_drewN (Below.refl _ _) _⟩
      · clear h
        have h1 : decide ((48 : Int) ≤ c.toNat) = true := by simp; omega
        have h2 : decide ((c.toNat : Int) ≤ 57) = false := by simp; omega
        have h3 : decide ((97 : Int) ≤ c.toNat) = false := by simp; omega
        clear q1 q2 q3 hc
        go_enter Tryz.func118, Tryz.ntmps118
        go_wp2
        go_quiet (fail)
        go_wp2
        go_ret2
        exact ⟨rfl, below_drewN (Below.refl _ _) _⟩
  · clear h
    have h1 : decide ((48 : Int) ≤ c.toNat) = false := by simp; omega
    have h3 : decide ((97 : Int) ≤ c.toNat) = false := by simp; omega
    clear q1 hc
    go_enter Tryz.func118, Tryz.ntmps118
    go_wp2
    go_quiet (fail)
    go_wp2
    go_ret2
    exact ⟨rfl, below_drewN (Below.refl _ _) _⟩

theorem unhex_odd (aD aS aZ : Addr) (s : ByteArray) (w : World) (he : Env w aD aS aZ) (hs : s.size ≤ 1099511627776) (h : s.size % 2 = 1) :
    Calls Tryz.prog 96 #[.string s] w fun e w' => e = .returned (.tuple #[.string ⟨#[]⟩, .iface 253 (.pointer (some aD))]) ∧ Below w.heap.size w w' := by
  have g := he.gD
  have HE := Lib.hid he
  clear he
  have h1 : (((s.size : Int) % 2) != 0) = true := by rw [bne_iff_ne]; omega
  go_enter Tryz.func96, Tryz.ntmps96
  go_wp2
  go_quiet (fail)
  go_wp2
  go_ret2
  exact ⟨rfl, below_drewN (Below.refl _ _) _⟩

def NoDigits (aD : Addr) (v : Value) : Prop := v = .iface 253 (.pointer (some aD)) ∨ ∃ p, v = .iface 174 (.agg #[.int .i64 p, .iface 253 (.pointer (some aD))])

def UnhexEnd (aD : Addr) (s : ByteArray) (w : World) (e : Ending) (w' : World) : Prop :=
  (∃ l, unhexL s.data.toList = some l ∧ e = .returned (.tuple #[.string ⟨l.toArray⟩, .nilIface]) ∧ Below w.heap.size w w') ∨
  (∃ v, unhexL s.data.toList = none ∧ NoDigits aD v ∧ e = .returned (.tuple #[.string ⟨#[]⟩, v]) ∧ Below w.heap.size w w')

theorem or_digits (x y : Nat) (hx : x < 16) (hy : y < 16) : [Value.int .u8 (bits BinOp.or IntKind.u8 ((x : Int) * 16) y)] = Lib.byteCells [UInt8.ofNat (16 * x + y)] := by
  have h : ∀ a b : Fin 16, bits BinOp.or IntKind.u8 ((a.1 : Int) * 16) b.1 = ((UInt8.ofNat (16 * a.1 + b.1)).toNat : Int) := by decide +kernel
  have := h ⟨x, hx⟩ ⟨y, hy⟩
  simp only at this
  rw [this]
  rfl

set_option maxRecDepth 100000 in
set_option maxHeartbeats 2000000 in
theorem unhex_even (aD aS aZ : Addr) (s : ByteArray) (w : World) (he : Env w aD aS aZ) (hs : s.size ≤ 1099511627776) (h : s.size % 2 = 0) :
    Calls Tryz.prog 96 #[.string s] w (UnhexEnd aD s w) := by
  obtain ⟨i0, hi, hz0, hz1, hz2⟩ := info_parts infoByte
  have HE := Lib.hid he
  clear he
  obtain ⟨n, hn⟩ : ∃ n, s.size = 2 * n := ⟨s.size / 2, by omega⟩
  have h1 : (((s.size : Int) % 2) != 0) = false := by rw [bne_eq_false_iff_eq]; omega
  have hq : ((s.size : Int) / 2) = (n : Int) := by omega
  have HN := Lib.hid hn
  have n1 : 2 * n ≤ s.size := by omega
  have n2 : s.size ≤ 2 * n := by omega
  clear hn
  go_enter Tryz.func96, Tryz.ntmps96
  go_wp2_with (at_make; refine wpList_make_own w rfl _ _ 63 rfl w.heap.size 5 i0 (.int .u8 0) 1 Tryz.underlying63 hi hz0 hz1 .i64 .i64 n n rfl rfl rfl ?c1 ?c2 ?c3 ?_)
  case c1 => rw [hz2]; omega
  case c2 => unfold maxLen; omega
  case c3 => exact Nat.le_refl _
  intro w1 hown hgrow
  have hb1 : Below w.heap.size w w1 := (Below.refl _ _).grown hgrow (Nat.le_refl _) (fun _ e => by cases e)
  go_wp2_with fail
  go_loopw [4, 5] (fun b i wr => ∃ (k j : Nat) (acc : List UInt8), k ≤ n ∧ j ≤ 2 * k ∧ 2 * k ≤ j ∧ acc.length = k ∧ unhexL (s.data.toList.take j) = some acc ∧ i = .int .i64 j ∧ b = .slice (some ⟨w.heap.size, 0, none⟩) k n ∧ wr.ownsRow w.heap.size 5 1 (.slice (some ⟨w.heap.size, 0, none⟩) k n) k (Lib.byteCells acc) ∧ Below w.heap.size w wr) (fun _ i _ => s.size - (intOf i).toNat)
  case atStart => exact ⟨0, 0, [], Nat.zero_le _, Nat.le_refl _, Nat.le_refl _, rfl, rfl, rfl, rfl, hown, hb1⟩
  case round =>
    obtain ⟨k, j, acc, hk, hj1, hj2, hal, hun, rfl, rfl, ho, hb⟩ := hrel
    have hbs := hb.size
    have HU := Lib.hid hun
    have HL := Lib.hid hal
    have HE1 := Lib.hid (HE.out.keep hb)
    clear hun hal
    by_cases hlt : k < n
    · have k1 : j < s.size := by omega
      have k2 : j + 1 < s.size := by omega
      have hl2 : s.data.toList = s.data.toList.take j ++ s[j] :: s[j + 1] :: s.data.toList.drop (j + 2) := by
        rw [show s[j] = s.data.toList[j]'(by simpa using k1) from rfl, show s[j + 1] = s.data.toList[j + 1]'(by simpa using k2) from rfl, List.getElem_cons_drop, List.getElem_cons_drop, List.take_append_drop]
      have hall := Lib.hid ((congrArg unhexL hl2).trans (unhexL_step _ _ _ _ _ HU.out))
      clear hl2
      cases hx : halfB s[j] with
      | none =>
        have D := Lib.hid (digit_no aD aS aZ s[j] hx wr HE1.out)
        have hnone := Lib.hid (show unhexL s.data.toList = none by rw [hall.out, hx]; rfl)
        clear hx
        go_wp2_with fail
        refine D.out.mono ?_
        rintro e w2 ⟨rfl, hb2⟩
        go_wp2_with fail
        refine (octet_at _ _ ⟨_, _, rfl⟩ w2).mono ?_
        rintro e w3 ⟨rfl, rfl⟩
        go_wp2_with fail
        go_ret2
        exact Or.inr ⟨_, hnone.out, Or.inr ⟨_, rfl⟩, rfl, hb.trans (hb2.mono hbs)⟩
      | some x =>
        have D := Lib.hid (digit_ok s[j] x hx wr)
        have hx16 := halfB_lt hx
        have HX := Lib.hid hx
        clear hx
        go_wp2_with fail
        refine D.out.mono ?_
        rintro e w2 ⟨rfl, rfl⟩
        cases hy : halfB s[j + 1] with
        | none =>
          have D2 := Lib.hid (digit_no aD aS aZ s[j + 1] hy wr HE1.out)
          have hnone := Lib.hid (show unhexL s.data.toList = none by rw [hall.out, hy]; cases halfB s[j] <;> rfl)
          clear hy
          go_wp2_with fail
          refine D2.out.mono ?_
          rintro e w2 ⟨rfl, hb2⟩
          go_wp2_with fail
          refine (octet_at _ _ ⟨_, _, rfl⟩ w2).mono ?_
          rintro e w3 ⟨rfl, rfl⟩
          go_wp2_with fail
          go_ret2
          exact Or.inr ⟨_, hnone.out, Or.inr ⟨_, rfl⟩, rfl, hb.trans (hb2.mono hbs)⟩
        | some y =>
          have D2 := Lib.hid (digit_ok s[j + 1] y hy wr)
          have hy16 := halfB_lt hy
          have HY := Lib.hid hy
          clear hy
          go_wp2_with fail
          refine D2.out.mono ?_
          rintro e w2 ⟨rfl, rfl⟩
          have hnew : ∀ (o : Obj) (v : Value), (wr.alloc (.cells #[v] 5)).cell? ⟨wr.heap.size, 0, none⟩ = some v := fun _ v => by rw [World.cell?_alloc_at _ _ _ _ rfl]; rfl
          go_wp2_with (at_builtin; refine wpList_append_fits _ rfl _ _ 63 rfl w.heap.size 5 i0 1 Tryz.underlying63 hi hz1 w.heap.size k n (Lib.byteCells acc) rfl (ho.alloc _) ⟨wr.heap.size, 0, none⟩ 1 1 [.int .u8 (bits BinOp.or IntKind.u8 ((x : Int) * 16) y)] rfl rfl ?c1 ?c2 ?c3 ?_)
          case c1 =>
            intro i u hi'
            match i, hi' with
            | 0, hi' => simp at hi'; subst hi'; rw [addr0_add]; exact hnew (.cells #[] 5) _
            | i + 1, hi' => simp at hi'
          case c2 => intro u hu; simp at hu; subst hu; rfl
          case c3 => omega
          intro w3 hown3 hgrow3
          clear hnew
          have hb3 : Below w.heap.size w w3 := (hb.alloc hbs _).grown hgrow3 (by simp; omega) (fun _ e => by cases e; exact Nat.le_refl _)
          go_wp2
          go_roundw
          case rel =>
            refine ⟨k + 1, j + 2, acc ++ [UInt8.ofNat (16 * x + y)], by omega, by omega, by omega, by simp [HL.out], ?_, by go_num, by go_num, ?_, hb3⟩
            · rw [← List.take_append_drop j (s.data.toList.take (j + 2)), List.take_take, Nat.min_eq_left (by omega), List.drop_take, show j + 2 - j = 2 by omega]
              have hd : (s.data.toList.drop j).take 2 = s[j] :: s[j + 1] :: [] := by
                rw [List.drop_eq_getElem_cons (by simpa using k1), List.drop_eq_getElem_cons (by simpa using k2)]; rfl
              rw [hd, unhexL_step _ _ _ _ _ HU.out, HX.out, HY.out]
              rfl
            · rw [Lib.byteCells_append]
              rw [or_digits x y hx16 hy16] at hown3
              exact hown3
          case measure => simp [intOf]; omega
    · obtain rfl : k = n := by omega
      have hcv := run_convert_bytes_back (P := Tryz.prog) wr 63 9 5 ⟨w.heap.size, 0, none⟩ k acc Tryz.underlying63 Tryz.underlying5 Tryz.underlying9 (fun i hi => by
        have := ho.cellAt i (by rw [HL.out] at hi; omega)
        rw [addr0_add, this, List.getElem?_eq_getElem (by rw [Lib.byteCells_length]; exact hi)]
        simp [Lib.byteCells])
      rw [HL.out] at hcv
      have hdone := Lib.hid (show unhexL s.data.toList = some acc by have := HU.out; rwa [List.take_of_length_le (by simp; omega)] at this)
      go_wp2_with fail
      go_ret2
      exact Or.inl ⟨acc, hdone.out, rfl, hb⟩

def bytesOut (s : ByteArray) : ByteArray × Int := match unhexL s.data.toList with
  | some l => (⟨l.toArray⟩, 0)
  | none => (⟨#[]⟩, 4)

theorem unhex_any (aD aS aZ : Addr) (s : ByteArray) (w : World) (he : Env w aD aS aZ) (hs : s.size ≤ 1099511627776) :
    Calls Tryz.prog 96 #[.string s] w (UnhexEnd aD s w) := by
  by_cases h : s.size % 2 = 1
  · refine (unhex_odd aD aS aZ s w he hs h).mono ?_
    rintro e w' ⟨rfl, hb⟩
    exact Or.inr ⟨_, unhexL_odd _ (by simpa using h), Or.inl rfl, rfl, hb⟩
  · exact unhex_even aD aS aZ s w he hs (by omega)

theorem Bytes_any (aD aS aZ : Addr) (s : ByteArray) (w : World) (he : Env w aD aS aZ) (hs : s.size ≤ 1099511627776) :
    Calls Tryz.prog 75 #[.string s] w fun e w' => e = .returned (.tuple #[.string (bytesOut s).1, .int .i64 (bytesOut s).2]) ∧ Below w.heap.size w w' := by
  have H1 := Lib.hid (unhex_any aD aS aZ s w he hs)
  have HE := Lib.hid he
  clear he
  go_enter Tryz.func75, Tryz.ntmps75
  go_wp2_with fail
  refine H1.out.mono ?_
  rintro e w1 (⟨l, hl, rfl, hb⟩ | ⟨v, hl, hv, rfl, hb⟩)
  · have hout : bytesOut s = (⟨l.toArray⟩, 0) := by unfold bytesOut; rw [hl]
    have HO := Lib.hid hout
    have hbs := hb.size
    clear hl hout
    go_wp2_with fail
    refine (errno_nil w1).mono ?_
    rintro e w2 ⟨rfl, hb2⟩
    go_wp2_with fail
    go_ret2
    exact ⟨by rw [HO.out]; rfl, hb.trans (hb2.mono hbs)⟩
  · have hout : bytesOut s = (⟨#[]⟩, 4) := by unfold bytesOut; rw [hl]
    have HO := Lib.hid hout
    have hbs := hb.size
    have HE1 := Lib.hid (HE.out.keep hb)
    clear hl hout
    have hr : Refuses aD aS aZ v 4 := by
      rcases hv with rfl | ⟨p, rfl⟩
      · exact Or.inr (Or.inl ⟨aD, rfl, Or.inr (Or.inl ⟨rfl, rfl⟩)⟩)
      · exact Or.inr (Or.inr (Or.inr ⟨p, aD, rfl, Or.inr (Or.inl ⟨rfl, rfl⟩)⟩))
    have HR := Lib.hid (errno_any aD aS aZ v 4 w1 HE1.out hr)
    have hvi : ∃ T x, v = .iface T x := by rcases hv with rfl | ⟨p, rfl⟩ <;> exact ⟨_, _, rfl⟩
    obtain ⟨T, x, hv'⟩ := hvi
    clear hr hv
    subst hv'
    go_wp2_with fail
    refine HR.out.mono ?_
    rintro e w2 ⟨rfl, hb2⟩
    go_wp2_with fail
    go_ret2
    exact ⟨by rw [HO.out]; rfl, hb.trans (hb2.mono hbs)⟩
end Go.Proofs.YtepcaglekgeamaaGreatDoor
