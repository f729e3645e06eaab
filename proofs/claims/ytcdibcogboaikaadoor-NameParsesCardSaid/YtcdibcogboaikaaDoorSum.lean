/-
  The digest's sum of an adder by its contract. Conditions: fewer than 2^59 bytes came; the tables lie where they lie.
-/
import Derived.Test.YtcdibcogboaikaaDoorNum
import Derived.Lib.AppendStr
import Derived.Deep.AppendLies
namespace Go.Proofs.YtcdibcogboaikaaDoor
open Go.RowKit

theorem index8 (a b c d e f g h : Int) (k : Nat) (hk : k < 8) (w : World) :
    (Instr.index 65 (.agg #[.int .u32 a, .int .u32 b, .int .u32 c, .int .u32 d, .int .u32 e, .int .u32 f, .int .u32 g, .int .u32 h]) (.int .i64 (k : Int))).run Tryd.prog w = .ok (.int .u32 ((St.toL ⟨a, b, c, d, e, f, g, h⟩).getD k 0)) w := by
  have h : k = 0 ∨ k = 1 ∨ k = 2 ∨ k = 3 ∨ k = 4 ∨ k = 5 ∨ k = 6 ∨ k = 7 := by omega
  rcases h with rfl | rfl | rfl | rfl | rfl | rfl | rfl | rfl
  all_goals (refine (show _ = _ from ?_); kernel_rfl)
/-- How far the filling is. -/
def cameOf (b : Nat) (w : World) : Nat := match w.cell? ⟨b, 72, none⟩ with | some (.int _ n) => n.toNat | _ => 0
theorem Adder.came {b : Nat} {bs : List UInt8} {w : World} (h : Adder b bs w) : w.cell? ⟨b, 72, none⟩ = some (.int .u64 bs.length) := by
  obtain ⟨blk, _, _, hr⟩ := h
  exact hr.cell (i := 72) (by omega)
theorem Adder.cameOf {b : Nat} {bs : List UInt8} {w : World} (h : Adder b bs w) : cameOf b w = bs.length := by
  unfold Go.Proofs.YtcdibcogboaikaaDoor.cameOf
  rw [h.came]
  exact Int.toNat_natCast _
def fillL (bs : List UInt8) (z : Nat) : List UInt8 := bs ++ 128 :: List.replicate z 0
theorem fillL_length (bs : List UInt8) (z : Nat) : (fillL bs z).length = bs.length + 1 + z := by simp [fillL]; omega
theorem fillL_succ (bs : List UInt8) (z : Nat) : fillL bs (z + 1) = fillL bs z ++ [0] := by simp [fillL, List.replicate_succ']
/-- The bytes of the first words. -/
def outN (l : List Int) (k : Nat) : List UInt8 := (l.take k).flatMap fun x => wideR x.toNat 4
theorem outN_succ (l : List Int) (k : Nat) (h : k < l.length) : outN l (k + 1) = outN l k ++ wideR (l.getD k 0).toNat 4 := by
  unfold outN
  rw [List.take_succ_eq_append_getElem h, List.flatMap_append]
  simp [List.getD_eq_getElem?_getD, h]
theorem outN_length (l : List Int) (k : Nat) (h : k ≤ l.length) : (outN l k).length = 4 * k := by
  induction k with
  | zero => simp [outN]
  | succ k ih => rw [outN_succ l k (by omega), List.length_append, ih (by omega), wideR_length]; omega

theorem grownBy_of_below {w w' : World} (h : Below w.heap.size w w') : w.grownBy w' none := ⟨h.os, h.tape, h.output, h.size, fun k hk _ => h.block k hk⟩

set_option maxRecDepth 100000 in
set_option maxHeartbeats 4000000 in
theorem sum_any (b : Nat) (bs : List UInt8) (w : World) (hb : 2 ≤ b) (ha : Adder b bs w) (ht : Tabs w) (hn : bs.length < 576460752303423488) :
    Calls Tryd.prog 45 #[.pointer (some ⟨b, 0, none⟩)] w fun e w' => e = .returned (.string ⟨(shaL bs).toArray⟩) ∧ Below b w w' := by
  obtain ⟨i0, hi, hz0, hz1, hz2⟩ := info_parts infoByte
  have HA := Lib.hid ha
  have HT := Lib.hid ht
  have cc := ha.came
  have hlt : b < w.heap.size := by obtain ⟨blk, _, _, hr⟩ := ha; exact hr.lt
  obtain ⟨cnt, hcnt⟩ : ∃ cnt : ByteArray, (⟨(wideR (8 * bs.length) 8).toArray⟩ : ByteArray) = cnt := ⟨_, rfl⟩
  have WD := Lib.hid (fun w => wideD_any (8 * bs.length) 8 w (by decide))
  rw [hcnt] at WD
  have HCNT := Lib.hid hcnt
  have A1 := Lib.hid (fun w h1 h2 => add_any b bs ⟨#[128]⟩ w hb h1 h2 (by show bs.length + 1 < _; omega))
  clear ha ht hcnt
  go_enter Tryd.func45, Tryd.ntmps45
  go_wp2_with fail
  refine (WD.out _).mono ?_
  rintro e w1 ⟨rfl, hb1⟩
  have hb1' : Below (b + 1) w w1 := hb1.mono hlt
  have HA1 := Lib.hid (show Adder b bs w1 by
    obtain ⟨blk, h1, h2, hr⟩ := HA.out
    exact ⟨blk, h1, h2, hr.of_block (hb1'.block b (Nat.lt_succ_self b))⟩)
  have HT1 := Lib.hid (HT.out.keep hb (hb1'.mono (Nat.le_succ b)))
  have B1 := Lib.hid (hb1'.mono (Nat.le_succ b))
  clear hb1 hb1' HA HT cc
  go_wp2_with fail
  refine (A1.out _ HA1.out HT1.out).mono ?_
  rintro e w2 ⟨rfl, ha2, hb2⟩
  have HA2 := Lib.hid (show Adder b (fillL bs 0) w2 from ha2)
  have HT2 := Lib.hid (HT1.out.keep hb hb2)
  have B2 := Lib.hid (B1.out.trans hb2)
  clear ha2 hb2 HA1 HT1 B1 A1
  go_wp2_with fail
  go_loopw [15] (fun _ wr => ∃ z : Nat, z ≤ padN bs.length ∧ Adder b (fillL bs z) wr ∧ Tabs wr ∧ Below b w wr) (fun _ wr => bs.length + 1 + 64 - cameOf b wr)
  case atStart => exact ⟨0, Nat.zero_le _, HA2.out, HT2.out, B2.out⟩
  case round =>
    clear HA2 HT2 B2
    obtain ⟨z, hz, ha, ht, hbb⟩ := hrel
    have cc := ha.came
    have hlen := fillL_length bs z
    rw [hlen] at cc
    have HA := Lib.hid ha
    have HT := Lib.hid ht
    have HB := Lib.hid hbb
    have HL := Lib.hid hlen
    have hp : padN bs.length < 64 := Nat.mod_lt _ (by decide)
    have hp2 : (bs.length + 1 + padN bs.length) % 64 = 56 := by unfold padN; omega
    have HP2 := Lib.hid hp2
    have HPN := Lib.hid (show fillL bs (padN bs.length) ++ wideR (8 * bs.length) 8 = padL bs from rfl)
    clear ha ht hbb hlen hp2
    generalize padN bs.length = pn at hz hp HP2 HPN
    by_cases hlt2 : z < pn
    · have t1 : ((((bs.length + 1 + z : Nat) : Int) % 64) != 56) = true := by rw [bne_iff_ne]; have := HP2.out; omega
      have A2 := Lib.hid (fun w h1 h2 => add_any b (fillL bs z) ⟨#[0]⟩ w hb h1 h2 (by rw [HL.out]; show bs.length + 1 + z + 1 < _; omega))
      go_wp2_with fail
      refine (A2.out _ HA.out HT.out).mono ?_
      rintro e w3 ⟨rfl, ha3, hb3⟩
      have ha4 : Adder b (fillL bs (z + 1)) w3 := by rw [fillL_succ]; exact ha3
      have HA3 := Lib.hid ha4
      have HT3 := Lib.hid (HT.out.keep hb hb3)
      have HB3 := Lib.hid (HB.out.trans hb3)
      have m1 := ha4.cameOf
      have m0 := HA.out.cameOf
      rw [fillL_length] at m1 m0
      have M := Lib.hid (show bs.length + 1 + 64 - cameOf b w3 < bs.length + 1 + 64 - cameOf b wr by omega)
      clear ha3 ha4 hb3 m0 m1
      go_wp2_with fail
      go_roundw
      case rel => exact ⟨z + 1, by omega, HA3.out, HT3.out, HB3.out⟩
      case measure => exact M.out
    · have hzp : pn ≤ z := by omega
      have t1 : ((((bs.length + 1 + z : Nat) : Int) % 64) != 56) = false := by rw [bne_eq_false_iff_eq]; have := HP2.out; have : z = pn := by omega
                                                                               omega
      obtain rfl : z = pn := by omega
      have A3 := Lib.hid (fun w h1 h2 => add_any b (fillL bs z) cnt w hb h1 h2 (by
        have h8 : cnt.size = 8 := by rw [← HCNT.out]; simp [ByteArray.size, wideR_length]
        rw [HL.out, h8]; omega))
      go_wp2_with fail
      refine (A3.out _ HA.out HT.out).mono ?_
      rintro e w3 ⟨rfl, ha3, hb3⟩
      have HA3 := Lib.hid (show Adder b (padL bs) w3 by
        rw [← HCNT.out] at ha3
        exact HPN.out ▸ ha3)
      have HB3 := Lib.hid (HB.out.trans hb3)
      clear ha3 hb3 HA HB HT A3
      obtain ⟨st, hst⟩ : ∃ st, chain (padL bs) ((padL bs).length / 64) = st := ⟨_, rfl⟩
      have HRW := Lib.hid (show w3.rangeAt b 0 (st.toL.map (Value.int .u32)) by
        obtain ⟨blk, _, _, hr⟩ := HA3.out
        rw [hst] at hr
        exact adder_range0 hr)
      have okst := Lib.hid (show st.Ok from hst ▸ chain_ok _ _)
      have HOUT := Lib.hid (show (⟨(shaL bs).toArray⟩ : ByteArray) = ⟨(outN st.toL 8).toArray⟩ by unfold shaL; rw [hst]; rfl)
      have hlt3 : b < w3.heap.size := by obtain ⟨blk, _, _, hr⟩ := HA3.out; exact hr.lt
      clear hst
      go_wp2_with (at_make; refine wpList_make_own w3 rfl _ _ 55 rfl w3.heap.size 5 i0 (.int .u8 0) 1 Tryd.underlying55 hi hz0 hz1 .i64 .i64 32 32 rfl rfl rfl ?c1 ?c2 ?c3 ?_)
      case c1 => rw [hz2]; omega
      case c2 => unfold maxLen; omega
      case c3 => exact Nat.le_refl _
      intro w4 hown hgrow
      have HB4 := Lib.hid (HB3.out.grown hgrow (Nat.le_of_lt hlt3) (fun _ e => by cases e))
      have HRW4 := Lib.hid (show w4.rangeAt b 0 (st.toL.map (Value.int .u32)) from fun j v hj => by
        rw [hgrow.cell_far _ (by show b < w3.heap.size; exact hlt3) (by simp)]; exact HRW.out j v hj)
      have hsz4 : b < w3.heap.size := hlt3
      have hg0 := hgrow.size
      clear hgrow HB3 HRW HA3
      obtain ⟨SW, hSW⟩ : ∃ SW : List Value, st.toL.map (Value.int .u32) = SW := ⟨_, rfl⟩
      have IX := Lib.hid (show ∀ (k : Nat), k < 8 → ∀ (w : World), (Instr.index 65 (.agg SW.toArray) (.int .i64 (k : Int))).run Tryd.prog w = .ok (.int .u32 (st.toL.getD k 0)) w from fun k hk w => by
        subst hSW
        exact index8 st.a st.b st.c st.d st.e st.f st.g st.h k hk w)
      have hSl : SW.length = 8 := by rw [← hSW]; rfl
      have HSI := Lib.hid (show (Tryd.prog.info? 65).map (·.size) = some SW.length by rw [hSl]; kernel_rfl)
      rw [hSW] at HRW4
      have HOK := Lib.hid (show ∀ k, k < 8 → U32 (st.toL.getD k 0) from fun k hk => by
        have o := okst.out
        have h : k = 0 ∨ k = 1 ∨ k = 2 ∨ k = 3 ∨ k = 4 ∨ k = 5 ∨ k = 6 ∨ k = 7 := by omega
        rcases h with rfl | rfl | rfl | rfl | rfl | rfl | rfl | rfl
        · exact o.a
        · exact o.b
        · exact o.c
        · exact o.d
        · exact o.e
        · exact o.f
        · exact o.g
        · exact o.h)
      clear hSW hSl
      go_wp2_with (refine wpList_load_mid rfl 65 (.tmp 29) rfl b 0 rfl SW _ HRW4.out Tryd.underlying65 rfl HSI.out ?_)
      obtain ⟨W3, hW3⟩ : ∃ W3, w3.heap.size = W3 := ⟨_, rfl⟩
      rw [hW3] at hown hg0 hsz4 ⊢
      clear hW3 HRW4 hlt3
      go_loopw [4, 31] (fun v i wr => ∃ k : Nat, k ≤ 8 ∧ i = .int .i64 k ∧ (∃ g c, v = .slice (some ⟨g, 0, none⟩) (4 * k) c ∧ W3 ≤ g) ∧ wr.ownsRow W3 5 1 v (4 * k) (Lib.byteCells (outN st.toL k)) ∧ W3 ≤ wr.heap.size ∧ Below b w wr) (fun _ i _ => 8 - (intOf i).toNat)
      case atStart => exact ⟨0, Nat.zero_le _, rfl, ⟨_, _, rfl, Nat.le_refl _⟩, hown, hg0, HB4.out⟩
      case round =>
        clear HB4 hown
        obtain ⟨k, hk, rfl, ⟨g, c, rfl, hgB⟩, ho, hW, hbb⟩ := hrel
        by_cases hlt8 : k < 8
        · obtain ⟨x0, x1⟩ := HOK.out k hlt8
          have hix := IX.out k hlt8
          have HS := Lib.hid (outN_succ st.toL k (by show k < 8; exact hlt8))
          obtain ⟨x, hx⟩ := Int.eq_ofNat_of_zero_le x0
          rw [hx] at hix HS x1
          rw [Int.toNat_natCast] at HS
          have x2 : x < 4294967296 := by omega
          clear x0 x1 hx hn
          obtain ⟨o4, ho4⟩ : ∃ o4 : ByteArray, (⟨(wideR x 4).toArray⟩ : ByteArray) = o4 := ⟨_, rfl⟩
          have WX := Lib.hid (fun w => wideD_any x 4 w (by decide))
          rw [ho4] at WX
          have H4 := Lib.hid ho4
          have s4 : o4.size = 4 := by rw [← ho4]; simp [ByteArray.size, wideR_length]
          have HO := Lib.hid ho
          have HB := Lib.hid hbb
          have HS4 := Lib.hid s4
          clear ho hbb ho4 s4
          go_wp2_with fail
          refine (WX.out _).mono ?_
          rintro e w5 ⟨rfl, hb5⟩
          have HO5 := Lib.hid (HO.out.kept (grownBy_of_below hb5) (Or.inr (by simp [Value.ownBlock])))
          have HB5 := Lib.hid (HB.out.trans (hb5.mono (by omega)))
          have hW5 : W3 ≤ w5.heap.size := Nat.le_trans hW hb5.size
          clear hb5 HO HB
          go_wp2_with (at_builtin; refine Lib.wpList_append_own_string _ rfl _ _ 55 9 rfl W3 5 i0 Tryd.underlying55 Tryd.underlying9 hi hz0 hz1 hz2 _ (4 * k) (Lib.byteCells (outN st.toL k)) rfl HO5.out o4 rfl ?c4 ?c5 ?c6 ?_)
          case c4 => have := HS4.out; unfold maxLen; omega
          case c5 => have := HS4.out; omega
          case c6 => exact hW5
          intro v6 w6 hown6 hgrow6 hnil6
          have hb6 : Below b w w6 := HB5.out.grown hgrow6 (Nat.le_trans (Nat.le_of_lt hsz4) hW5) (fun k' hk' => by cases hk'; exact Nat.le_trans (Nat.le_of_lt hsz4) hgB)
          have hat : ∃ g c, v6 = .slice (some ⟨g, 0, none⟩) (4 * (k + 1)) c ∧ W3 ≤ g := by
            rw [HS4.out] at hown6
            rcases hown6.2 with ⟨h1, _⟩ | ⟨g', cap, cur, h1, h2, _⟩
            · exact (hnil6 h1).elim
            · exact ⟨g', cap, h1, h2⟩
          have hrow6 : w6.ownsRow W3 5 1 v6 (4 * (k + 1)) (Lib.byteCells (outN st.toL (k + 1))) := by
            rw [HS4.out] at hown6
            rw [HS.out, Lib.byteCells_append]
            rw [← H4.out] at hown6
            exact hown6
          have hW6 : W3 ≤ w6.heap.size := Nat.le_trans hW5 hgrow6.size
          obtain ⟨g', c', rfl, hg'⟩ := hat
          have HR6 := Lib.hid hrow6
          have HB6 := Lib.hid hb6
          clear hown6 hgrow6 hnil6 hrow6 hb6 HO5 HB5
          go_wp2_with fail
          go_roundw
          case rel => exact ⟨k + 1, by omega, by go_num, ⟨_, _, rfl, hg'⟩, HR6.out, hW6, HB6.out⟩
          case measure => simp [intOf]; omega
        · have hk8 := Lib.hid (show k = 8 by omega)
          have hlen := outN_length st.toL k hk
          have hcv := run_convert_bytes_back (P := Tryd.prog) wr 55 9 5 ⟨g, 0, none⟩ c (outN st.toL k) Tryd.underlying55 Tryd.underlying5 Tryd.underlying9 (fun i hi => by
            rw [hlen] at hi
            have := ho.cellAt i (by omega)
            rw [addr0_add, this, List.getElem?_eq_getElem (by rw [Lib.byteCells_length, hlen]; exact hi)]
            simp [Lib.byteCells])
          rw [hlen] at hcv
          have HB := Lib.hid hbb
          clear ho hbb hlen
          go_wp2_with fail
          go_ret
          exact ⟨by rw [HOUT.out, ← hk8.out]; rfl, HB.out⟩
end Go.Proofs.YtcdibcogboaikaaDoor
