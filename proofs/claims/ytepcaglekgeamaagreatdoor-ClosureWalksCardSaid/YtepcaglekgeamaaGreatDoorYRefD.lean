/-
  The document's own half, Hex and Bytes, by contracts. Conditions: none.
  The document's own Bytes, by a contract. Conditions: at most 300 bytes.
  The document's own Parse, by a contract. Conditions: none.
-/
import Derived.Test.YtepcaglekgeamaaGreatDoorYOct1
import Derived.Test.YtepcaglekgeamaaGreatDoorYOct2
import Derived.BigRegion
import Derived.Deep.RegionLaw
import Derived.Deep.AppendLies
import Derived.Test.YtepcaglekgeamaaGreatDoorYDig1
namespace Go.Proofs.YtepcaglekgeamaaGreatDoor
open Go.RowKit

set_option maxRecDepth 100000 in
set_option maxHeartbeats 1000000 in
theorem half_any (c : UInt8) (w : World) :
    Calls Tryz.prog 49 #[.int .u8 c.toNat] w fun e w' => e = .returned (.int .i64 ((halfB c).getD 16 : Nat)) ∧ w = w' := by
  have hc := c.toNat_lt
  by_cases h1 : 48 ≤ c.toNat ∧ c.toNat ≤ 57
  · have HO := Lib.hid (show (((halfB c).getD 16 : Nat) : Int) = (c.toNat : Int) - 48 by simp [halfB, h1]; omega)
    obtain ⟨h1, h2⟩ := h1
    go_enter Tryz.func49, Tryz.ntmps49
    go_wp2_with fail
    go_ret
    exact ⟨by rw [HO.out]; rfl, rfl⟩
  · by_cases h2 : 97 ≤ c.toNat ∧ c.toNat ≤ 102
    · have HO := Lib.hid (show (((halfB c).getD 16 : Nat) : Int) = (c.toNat : Int) - 97 + 10 by simp [halfB, h1, h2]; omega)
      obtain ⟨h3, h4⟩ := h2
      clear h1
      go_enter Tryz.func49, Tryz.ntmps49
      go_wp2_with fail
      go_ret
      exact ⟨by rw [HO.out]; rfl, rfl⟩
    · have HO := Lib.hid (show (((halfB c).getD 16 : Nat) : Int) = 16 by simp [halfB, h1, h2])
      go_enter Tryz.func49, Tryz.ntmps49
      go_wp2_with fail
      all_goals
        go_ret
        exact ⟨by rw [HO.out]; rfl, rfl⟩

theorem half_some (c : UInt8) (x : Nat) (h : halfB c = some x) (w : World) :
    Calls Tryz.prog 49 #[.int .u8 c.toNat] w fun e w' => e = .returned (.int .i64 x) ∧ w = w' := by
  have := half_any c w
  rwa [h] at this

theorem half_none (c : UInt8) (h : halfB c = none) (w : World) :
    Calls Tryz.prog 49 #[.int .u8 c.toNat] w fun e w' => e = .returned (.int .i64 16) ∧ w = w' := by
  have := half_any c w
  rwa [h] at this
end Go.Proofs.YtepcaglekgeamaaGreatDoor
namespace Go.Proofs.YtepcaglekgeamaaGreatDoor
open Go.RowKit

def RefBytesEnd (s : ByteArray) (w : World) (e : Ending) (w' : World) : Prop :=
  (∃ l, unhexL s.data.toList = some l ∧ e = .returned (.tuple #[.string ⟨l.toArray⟩, .bool true]) ∧ Below w.heap.size w w') ∨
  (∃ y, unhexL s.data.toList = none ∧ e = .returned (.tuple #[.string y, .bool false]) ∧ Below w.heap.size w w')

def halfV (c : UInt8) : Nat := (halfB c).getD 16

theorem half_v (c : UInt8) (w : World) : Calls Tryz.prog 49 #[.int .u8 c.toNat] w fun e w' => e = .returned (.int .i64 (halfV c)) ∧ w = w' := half_any c w

theorem halfV_some {c : UInt8} {x : Nat} (h : halfB c = some x) : halfV c = x := by unfold halfV; rw [h]; rfl

set_option maxRecDepth 100000 in
set_option maxHeartbeats 2000000 in
theorem refBytes_any (s : ByteArray) (w : World) (hs : s.size ≤ 300) :
    Calls Tryz.prog 32 #[.string s] w (RefBytesEnd s w) := by
  obtain ⟨i0, hi, hz0, hz1, hz2⟩ := info_parts infoByte
  go_enter Tryz.func32, Tryz.ntmps32
  go_wp2_with fail
  go_loopw [4, 5] (fun bv iv wr => ∃ (k j : Nat) (acc : List UInt8), j ≤ s.size ∧ j ≤ 2 * k ∧ 2 * k ≤ j ∧ acc.length = k ∧ unhexL (s.data.toList.take j) = some acc ∧ iv = .int .i64 j ∧ (∃ g c, bv = .slice (some ⟨g, 0, none⟩) k c ∧ w.heap.size ≤ g) ∧ wr.ownsRow w.heap.size 5 1 bv k (Lib.byteCells acc) ∧ Below w.heap.size w wr) (fun _ i _ => s.size - (intOf i).toNat)
  case atStart => exact ⟨0, 0, [], Nat.zero_le _, Nat.le_refl _, Nat.le_refl _, rfl, rfl, rfl, ⟨_, _, rfl, Nat.le_refl _⟩, World.ownsRow_lit w #[] 0 (Nat.le_refl _) (Nat.zero_le _) rfl, (Below.refl _ _).alloc (by omega) _⟩
  case round =>
    obtain ⟨k, j, acc, hj, hj1, hj2, hal, hun, rfl, ⟨g, c, rfl, hgB⟩, ho, hb⟩ := hrel
    have hbs := hb.size
    have HU := Lib.hid hun
    have HL := Lib.hid hal
    have HO := Lib.hid ho
    have HB := Lib.hid hb
    clear hun hal ho hb
    by_cases hlt : j + 1 < s.size
    · have k1 : j < s.size := by omega
      have k2 : j + 1 < s.size := by omega
      have hl2 : s.data.toList = s.data.toList.take j ++ s[j] :: s[j + 1] :: s.data.toList.drop (j + 2) := by
        rw [show s[j] = s.data.toList[j]'(by simpa using k1) from rfl, show s[j + 1] = s.data.toList[j + 1]'(by simpa using k2) from rfl, List.getElem_cons_drop, List.getElem_cons_drop, List.take_append_drop]
      have hall := Lib.hid ((congrArg unhexL hl2).trans (unhexL_step _ _ _ _ _ HU.out))
      clear hl2
      cases hx : halfB s[j] with
      | none =>
        have D := Lib.hid (half_none s[j] hx wr)
        have hnone := Lib.hid (show unhexL s.data.toList = none by rw [hall.out, hx]; rfl)
        clear hx
        go_wp2_with fail
        refine D.out.mono ?_
        rintro e w2 ⟨rfl, rfl⟩
        go_wp2_with fail
        go_ret2
        exact Or.inr ⟨_, hnone.out, rfl, HB.out⟩
      | some x =>
        have D := Lib.hid (half_some s[j] x hx)
        have hx16 := halfB_lt hx
        have HX := Lib.hid hx
        clear hx
        cases hy : halfB s[j + 1] with
        | none =>
          have D2 := Lib.hid (half_none s[j + 1] hy wr)
          have hnone := Lib.hid (show unhexL s.data.toList = none by rw [hall.out, hy]; cases halfB s[j] <;> rfl)
          clear hy
          go_wp2_with fail
          refine (D.out wr).mono ?_
          rintro e w2 ⟨rfl, rfl⟩
          go_wp2_with fail
          refine D2.out.mono ?_
          rintro e w2 ⟨rfl, rfl⟩
          go_wp2_with fail
          go_ret2
          exact Or.inr ⟨_, hnone.out, rfl, HB.out⟩
        | some y =>
          have D2 := Lib.hid (half_some s[j + 1] y hy)
          have hy16 := halfB_lt hy
          have HY := Lib.hid hy
          clear hy
          go_wp2_with fail
          refine (D.out wr).mono ?_
          rintro e w2 ⟨rfl, rfl⟩
          go_wp2_with fail
          refine (D2.out wr).mono ?_
          rintro e w2 ⟨rfl, rfl⟩
          go_wp2_with fail
          have e1 : IntKind.i64.wrap (16 * (x : Int)) = 16 * (x : Int) := by rw [IntKind.wrap_i64]; omega
          have e2 : IntKind.i64.wrap (16 * (x : Int) + (y : Int)) = 16 * (x : Int) + (y : Int) := by rw [IntKind.wrap_i64]; omega
          have e3 : IntKind.i64.wrap ((j : Int) + 1) = (j : Int) + 1 := by rw [IntKind.wrap_i64]; omega
          have e4 : IntKind.u8.wrap (16 * (x : Int) + (y : Int)) = 16 * (x : Int) + (y : Int) := by rw [IntKind.wrap_u8]; omega
          have hj0 : (j : Int) < (s.size : Int) := by omega
          have hk300 : k ≤ 300 := by omega
          have hvj : halfV s[j] = x := halfV_some HX.out
          have hvj1 : halfV s[j + 1] = y := halfV_some HY.out
          have HH := Lib.hid half_v
          have HU2 := Lib.hid (show unhexL (s.data.toList.take (j + 2)) = some (acc ++ [UInt8.ofNat (16 * x + y)]) by
            rw [← List.take_append_drop j (s.data.toList.take (j + 2)), List.take_take, Nat.min_eq_left (by omega), List.drop_take, show j + 2 - j = 2 by omega]
            have hd : (s.data.toList.drop j).take 2 = s[j] :: s[j + 1] :: [] := by
              rw [List.drop_eq_getElem_cons (by simpa using k1), List.drop_eq_getElem_cons (by simpa using k2)]; rfl
            rw [hd, unhexL_step _ _ _ _ _ HU.out, HX.out, HY.out]
            rfl)
          have HB8 := Lib.hid (show Lib.byteCells [UInt8.ofNat (16 * x + y)] = [.int .u8 (16 * (x : Int) + (y : Int))] by
            show [Value.int .u8 (((UInt8.ofNat (16 * x + y)).toNat : Nat) : Int)] = _
            rw [UInt8.toNat_ofNat_of_lt' (show 16 * x + y < 256 by omega)]
            congr 1)
          clear hlt D D2
          go_region_law (first
            | (refine step_append_lies _ (by rfl) _ _ _ (by rfl) w.heap.size 5 i0 _ 1 1 Tryz.underlying63 hi hz0 hz1 hz2 rfl (by decide) _ k (Lib.byteCells acc) (by rfl) ((HO.out.alloc _).drew) ⟨wr.heap.size, 0, none⟩ 1 1 [.int .u8 (16 * (x : Int) + (y : Int))] (by rfl) (by rfl) (World.news_of_block (cs := #[.int .u8 (16 * (x : Int) + (y : Int))]) (t := 5) (fr := (0, 0)) (heap_alloc_new wr _)) (by simp [Value.oneCell']) (by decide) (by unfold maxLen; omega) (by omega) (by simp; omega) (wr.heap.size + 1) (by simp) ?_; intro g3 c3 w3 hown3 hgrow3 hat3 hlt3)
            | (go_simp; go_at_call 49; refine (HH.out _ _).mono ?_; rintro e w2 ⟨rfl, rfl⟩))
          all_goals
            have hbb3 := Lib.hid (show Below w.heap.size w w3 from ((HB.out.alloc hbs _).drew).grown hgrow3 (by simp; omega) (fun k hk => by cases hk; exact hgB))
            have hg3 : w.heap.size ≤ g3 := by
              rcases hat3 with h | h
              · cases h; exact hgB
              · omega
            have hrow := Lib.hid (show w3.ownsRow w.heap.size 5 1 (.slice (some ⟨g3, 0, none⟩) (k + 1) c3) (k + 1) (Lib.byteCells (acc ++ [UInt8.ofNat (16 * x + y)])) by rw [Lib.byteCells_append, HB8.out]; exact hown3)
            clear hown3 hgrow3 hat3 hvj hvj1 HH e1 e2 e3 e4
            go_wp2_with fail
            go_roundw
            case rel => exact ⟨k + 1, j + 2, acc ++ [UInt8.ofNat (16 * x + y)], by omega, by omega, by omega, by simp [HL.out], HU2.out, by go_num, ⟨_, _, rfl, hg3⟩, hrow.out, hbb3.out⟩
            case measure => simp [intOf]; omega
    · have hdone : s.size = j ∨ s.size = j + 1 := by omega
      have hcv := run_convert_bytes_back (P := Tryz.prog) wr 63 9 5 ⟨g, 0, none⟩ c acc Tryz.underlying63 Tryz.underlying5 Tryz.underlying9 (fun i hi => by
        have := HO.out.cellAt i (by rw [HL.out] at hi; omega)
        rw [addr0_add, this, List.getElem?_eq_getElem (by rw [Lib.byteCells_length]; exact hi)]
        simp [Lib.byteCells])
      rw [HL.out] at hcv
      rcases hdone with hdone | hdone
      · have hfin := Lib.hid (show unhexL s.data.toList = some acc by have := HU.out; rwa [List.take_of_length_le (by simp; omega)] at this)
        have hm0 : ((s.size : Int) % 2 == 0) = true := by rw [beq_iff_eq]; omega
        have t1 : s.size ≤ j := by omega
        have t2 : ¬ j < s.size := by omega
        clear hdone
        go_wp2_with fail
        go_ret2
        exact Or.inl ⟨acc, hfin.out, rfl, HB.out⟩
      · have hfin := Lib.hid (show unhexL s.data.toList = none from unhexL_odd _ (by simp; omega))
        have hm0 : ((s.size : Int) % 2 == 0) = false := by rw [beq_eq_false_iff_ne]; omega
        have t1 : s.size ≤ j + 1 := by omega
        clear hdone
        go_wp2_with fail
        go_ret2
        exact Or.inr ⟨_, hfin.out, rfl, HB.out⟩
end Go.Proofs.YtepcaglekgeamaaGreatDoor
namespace Go.Proofs.YtepcaglekgeamaaGreatDoor
open Go.RowKit

def RefParseEnd (s : ByteArray) (w : World) (e : Ending) (w' : World) : Prop :=
  ∃ (y : ByteArray) (b : Bool), e = .returned (.tuple #[.string y, .bool b]) ∧ (b = true ∧ parseD s = (y, 0) ∨ b = false ∧ parseD s = (⟨#[]⟩, 6)) ∧ Below w.heap.size w w'

theorem prefix_cut (s : ByteArray) : Lib.hasPrefix s.data.toList prefB.data.toList = ((s.extract 0 7).toList == [115, 104, 97, 50, 53, 54, 58]) := by
  rw [Bool.eq_iff_iff, beq_iff_eq, Lib.toList_data]
  have e : (s.extract 0 7).data.toList = s.data.toList.take 7 := by simp
  rw [e]
  exact (List.isPrefixOf_iff_prefix.trans List.prefix_iff_eq_take).trans eq_comm

theorem drop_cut (s : ByteArray) (h : s.size = 71) : (s.extract 7 71).data.toList = s.data.toList.drop 7 := by
  have h6 : s.data.toList.length = s.size := by simp
  simp only [ByteArray.data_extract, Array.toList_extract, List.extract_eq_take_drop]
  rw [List.take_of_length_le (by rw [List.length_drop]; omega)]

set_option maxRecDepth 100000 in
set_option maxHeartbeats 1000000 in
theorem refParse_any (s : ByteArray) (w : World) :
    Calls Tryz.prog 18 #[.string s] w (RefParseEnd s w) := by
  by_cases h71 : s.size = 71
  · obtain ⟨d, hd⟩ : ∃ d, s.extract 7 71 = d := ⟨_, rfl⟩
    obtain ⟨p, hp⟩ : ∃ p, s.extract 0 7 = p := ⟨_, rfl⟩
    have hds : d.size = 64 := by rw [← hd, ByteArray.size_extract]; omega
    have R := Lib.hid (fun w => refBytes_any d w (by omega))
    have n71 : ((s.size : Int) != 71) = false := by rw [bne_eq_false_iff_eq]; omega
    have hpc := prefix_cut s
    rw [hp] at hpc
    have hdc := drop_cut s h71
    rw [hd] at hdc
    cases hb : (p.toList == [115, 104, 97, 50, 53, 54, 58]) with
    | true =>
      have HO := Lib.hid (show parseD s = match unhexL d.data.toList with | some l => (⟨l.toArray⟩, 0) | none => (⟨#[]⟩, 6) by
        unfold parseD; rw [if_pos ⟨hpc.trans hb, h71⟩, hdc]; cases unhexL (List.drop 7 s.data.toList) <;> rfl)
      clear hpc hdc
      go_enter Tryz.func18, Tryz.ntmps18
      go_wp2_with fail
      refine (R.out _).mono ?_
      rintro e w2 hr
      rcases hr with ⟨l, hl, rfl, hb2⟩ | ⟨y, hl, rfl, hb2⟩
      · have HF := Lib.hid (show parseD s = (⟨l.toArray⟩, 0) by rw [HO.out, hl])
        have HB := Lib.hid hb2
        clear hl hb2 HO
        go_wp2_with fail
        go_ret2
        exact ⟨_, true, rfl, Or.inl ⟨rfl, HF.out⟩, HB.out⟩
      · have HF := Lib.hid (show parseD s = (⟨#[]⟩, 6) by rw [HO.out, hl])
        have HB := Lib.hid hb2
        clear hl hb2 HO
        go_wp2_with fail
        go_ret2
        exact ⟨_, false, rfl, Or.inr ⟨rfl, HF.out⟩, HB.out⟩
    | false =>
      have HO := Lib.hid (parseD_no (s := s) (Or.inl (hpc.trans hb)))
      clear hpc hdc
      go_enter Tryz.func18, Tryz.ntmps18
      go_wp2_with fail
      go_ret2
      exact ⟨_, false, rfl, Or.inr ⟨rfl, HO.out⟩, Below.refl _ _⟩
  · have HO := Lib.hid (parseD_no (s := s) (Or.inr h71))
    have n71 : ((s.size : Int) != 71) = true := by rw [bne_iff_ne]; omega
    clear h71
    go_enter Tryz.func18, Tryz.ntmps18
    go_wp2_with fail
    go_ret2
    exact ⟨_, false, rfl, Or.inr ⟨rfl, HO.out⟩, Below.refl _ _⟩
end Go.Proofs.YtepcaglekgeamaaGreatDoor
