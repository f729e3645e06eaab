/-
  The digest's wide by its contract: a number's bytes, the highest first. Conditions: at most 8 bytes.
  The digest's sum of an adder by its contract. Conditions: fewer than 2^59 bytes came; the tables lie where they lie.
  digest.Sum by its contract: the sum of the texts, one behind the other. Conditions: fewer than 2^59 bytes; the tables lie where they lie.
  digest.Of, Parse and Fits by their contracts. Conditions: fewer than 2^40 bytes; the tables and octet's errors lie where they lie.
  What the digest's laws share: short and alive by contracts; what a digest tells. Conditions: the tables lie where they lie.
-/
import Derived.Test.YtepcaglekgeamaaGreatDoorYSha2
import Derived.Test.YtepcaglekgeamaaGreatDoorYOct2
import Derived.Laws.MakeOwn
import Derived.Lib.AppendStr
import Derived.Deep.AppendLies
namespace Go.Proofs.YtepcaglekgeamaaGreatDoor
open Go.RowKit

theorem set_wideR (n j k : Nat) (h : j < k) : (Lib.byteCells (List.replicate (k - j) 0 ++ wideR n j)).set (k - 1 - j) (.int .u8 ((n : Int) / 2 ^ (8 * j) % 256)) = Lib.byteCells (List.replicate (k - (j + 1)) 0 ++ wideR n (j + 1)) := by
  have hb : Value.int .u8 ((n : Int) / 2 ^ (8 * j) % 256) = Value.int .u8 ((UInt8.ofNat (n / 256 ^ j % 256)).toNat) := by
    congr 1
    have h : ((n : Int) / 2 ^ (8 * j) % 256) = ((n / 2 ^ (8 * j) % 256 : Nat) : Int) := by
      rw [Int.natCast_emod, Int.natCast_ediv, Int.natCast_pow]; rfl
    rw [h, Nat.pow_mul]
    have : n / 256 ^ j % 256 < 256 := Nat.mod_lt _ (by decide)
    show ((n / 256 ^ j % 256 : Nat) : Int) = _
    rw [UInt8.toNat_ofNat_of_lt' (by simpa using this)]
  rw [hb]
  have e : List.replicate (k - j) (0 : UInt8) = List.replicate (k - (j + 1)) 0 ++ [0] := by
    rw [show k - j = (k - (j + 1)) + 1 by omega, List.replicate_succ']
  have e2 : wideR n (j + 1) = UInt8.ofNat (n / 256 ^ j % 256) :: wideR n j := by
    unfold wideR; rw [wideL_succ, List.reverse_append]; rfl
  rw [e, e2, List.append_assoc, Lib.byteCells_append, Lib.byteCells_append, List.set_append_right _ _ (by rw [Lib.byteCells_length, List.length_replicate]; omega), Lib.byteCells_length, List.length_replicate, show k - 1 - j - (k - (j + 1)) = 0 by omega]
  simp [Lib.byteCells]

set_option maxRecDepth 100000 in
set_option maxHeartbeats 1000000 in
theorem wideD_any (n k : Nat) (w : World) (hk : k ≤ 8) :
    Calls Tryz.prog 94 #[.int .u64 n, .int .i64 k] w fun e w' => e = .returned (.string ⟨(wideR n k).toArray⟩) ∧ Below w.heap.size w w' := by
  obtain ⟨i0, hi, hz0, hz1, hz2⟩ := info_parts infoByte
  go_enter Tryz.func94, Tryz.ntmps94
  go_wp2_with (at_make; refine wpList_make_full w rfl _ _ 63 rfl w.heap.size 5 i0 (.int .u8 0) 1 Tryz.underlying63 hi hz0 hz1 .i64 .i64 k k k rfl rfl rfl rfl ?c1 ?c2 ?c3 ?_)
  case c1 => rw [hz2]; omega
  case c2 => unfold maxLen; omega
  case c3 => exact Nat.le_refl _
  intro w1 hown hgrow
  have hz : (madeCells #[Value.int IntKind.u8 0] k).toList = Lib.byteCells (List.replicate (k - 0) 0 ++ wideR n 0) := by
    rw [toList_madeCells_one]; simp [wideR, wideL, Lib.byteCells]
  rw [hz] at hown
  clear hz
  have hb1 : Below w.heap.size w w1 := (Below.refl _ _).grown hgrow (Nat.le_refl _) (fun _ e => by cases e)
  go_wp2_with fail
  go_loopw [11] (fun i wr => ∃ j : Nat, j ≤ k ∧ i = .int .i64 j ∧ wr.ownsRow w.heap.size 5 1 (.slice (some ⟨w.heap.size, 0, none⟩) k k) k (Lib.byteCells (List.replicate (k - j) 0 ++ wideR n j)) ∧ Below w.heap.size w wr) (fun i _ => k - (intOf i).toNat)
  case atStart => exact ⟨0, Nat.zero_le _, rfl, hown, hb1⟩
  case round =>
    obtain ⟨j, hj, rfl, ho, hbw⟩ := hrel
    by_cases hlt : j < k
    · have q := ho.cellAt (k - 1 - j) (by omega)
      have f := ho.frozenAt (k - 1 - j)
      have hlen : (Lib.byteCells (List.replicate (k - j) 0 ++ wideR n j)).length = k := by rw [Lib.byteCells_length]; simp [wideR_length]; omega
      obtain ⟨y, hy⟩ : ∃ y, (Lib.byteCells (List.replicate (k - j) 0 ++ wideR n j))[k - 1 - j]? = some y := ⟨_, List.getElem?_eq_getElem (by omega)⟩
      rw [hy] at q
      clear hy
      have HO := Lib.hid ho
      have HB := Lib.hid hbw
      clear ho hbw hlen
      have e1 : ((k : Int) - 1 - (j : Int)) = ((k - 1 - j : Nat) : Int) := by omega
      have e1' := Lib.hid e1
      clear e1
      have i1 : (0 : Int) ≤ (k : Int) - 1 - (j : Int) := by omega
      have i2 : (k : Int) - 1 - (j : Int) < (k : Int) := by omega
      have i3 : ((k : Int) - 1 - (j : Int)).toNat = k - 1 - j := by omega
      go_wp2_with fail
      go_roundw
      case rel =>
        have st := HO.out.stored (k - 1 - j) (.int .u8 ((n : Int) / 2 ^ (8 * j) % 256))
        refine ⟨j + 1, by omega, by go_num, ?_, HB.out.grown st.2 HB.out.size (fun _ e => by cases e; exact Nat.le_refl _)⟩
        rw [← set_wideR n j k hlt]
        exact st.1
      case measure => simp [intOf]; omega
    · obtain rfl : j = k := by omega
      rw [Nat.sub_self, List.replicate_zero, List.nil_append] at ho
      have hcv := run_convert_bytes_back (P := Tryz.prog) wr 63 9 5 ⟨w.heap.size, 0, none⟩ j (wideR n j) Tryz.underlying63 Tryz.underlying5 Tryz.underlying9 (fun i hi => by
        rw [wideR_length] at hi
        have := ho.cellAt i (by omega)
        rw [addr0_add, this, List.getElem?_eq_getElem (by rw [Lib.byteCells_length, wideR_length]; exact hi)]
        simp [Lib.byteCells])
      rw [wideR_length] at hcv
      go_wp2_with fail
      go_ret
      exact ⟨rfl, hbw⟩
end Go.Proofs.YtepcaglekgeamaaGreatDoor
namespace Go.Proofs.YtepcaglekgeamaaGreatDoor
open Go.RowKit

theorem index8 (a b c d e f g h : Int) (k : Nat) (hk : k < 8) (w : World) :
    (Instr.index 113 (.agg #[.int .u32 a, .int .u32 b, .int .u32 c, .int .u32 d, .int .u32 e, .int .u32 f, .int .u32 g, .int .u32 h]) (.int .i64 (k : Int))).run Tryz.prog w = .ok (.int .u32 ((St.toL ⟨a, b, c, d, e, f, g, h⟩).getD k 0)) w := by
  have h : k = 0 ∨ k = 1 ∨ k = 2 ∨ k = 3 ∨ k = 4 ∨ k = 5 ∨ k = 6 ∨ k = 7 := by omega
  rcases h with rfl | rfl | rfl | rfl | rfl | rfl | rfl | rfl
  all_goals (refine (show _ = _ from ?_); kernel_rfl)

def cameOf (b : Nat) (w : World) : Nat := match w.cell? ⟨b, 72, none⟩ with | some (.int _ n) => n.toNat | _ => 0

theorem Adder.came {b : Nat} {bs : List UInt8} {w : World} (h : Adder b bs w) : w.cell? ⟨b, 72, none⟩ = some (.int .u64 bs.length) := by
  obtain ⟨blk, _, _, hr⟩ := h
  exact hr.cell (i := 72) (by omega)

theorem Adder.cameOf {b : Nat} {bs : List UInt8} {w : World} (h : Adder b bs w) : cameOf b w = bs.length := by
  unfold Go.Proofs.YtepcaglekgeamaaGreatDoor.cameOf
  rw [h.came]
  exact Int.toNat_natCast _

def fillL (bs : List UInt8) (z : Nat) : List UInt8 := bs ++ 128 :: List.replicate z 0

theorem fillL_length (bs : List UInt8) (z : Nat) : (fillL bs z).length = bs.length + 1 + z := by simp [fillL]; omega

theorem fillL_succ (bs : List UInt8) (z : Nat) : fillL bs (z + 1) = fillL bs z ++ [0] := by simp [fillL, List.replicate_succ']

def outN (l : List Int) (k : Nat) : List UInt8 := (l.take k).flatMap fun x => wideR x.toNat 4

theorem outN_succ (l : List Int) (k : Nat) (h : k < l.length) : outN l (k + 1) = outN l k ++ wideR (l.getD k 0).toNat 4 := by
  unfold outN
  rw [List.take_succ_eq_append_getElem h, List.flatMap_append]
  simp [List.getD_eq_getElem?_getD, h]

theorem outN_length (l : List Int) (k : Nat) (h : k ≤ l.length) : (outN l k).length = 4 * k := by
  induction k with
  | zero => simp [outN]
  | succ k ih => rw [outN_succ l k (by omega), List.length_append, ih (by omega), wideR_length]; omega

theorem grownBy_of_below {w w' : World} (h : Below w.heap.size w w') : w.grownBy w' none := ⟨h.os, h.tape, h.output, h.size, fun k hk _ => h.block k hk⟩

set_option maxRecDepth 100000 in
set_option maxHeartbeats 4000000 in
theorem sum_any (b : Nat) (bs : List UInt8) (w : World) (hb : 2 ≤ b) (ha : Adder b bs w) (ht : Tabs w) (hn : bs.length < 576460752303423488) :
    Calls Tryz.prog 73 #[.pointer (some ⟨b, 0, none⟩)] w fun e w' => e = .returned (.string ⟨(shaL bs).toArray⟩) ∧ Below b w w' := by
  obtain ⟨i0, hi, hz0, hz1, hz2⟩ := info_parts infoByte
  have HA := Lib.hid ha
  have HT := Lib.hid ht
  have cc := ha.came
  have hlt : b < w.heap.size := by obtain ⟨blk, _, _, hr⟩ := ha; exact hr.lt
  obtain ⟨cnt, hcnt⟩ : ∃ cnt : ByteArray, (⟨(wideR (8 * bs.length) 8).toArray⟩ : ByteArray) = cnt := ⟨_, rfl⟩
  have WD := Lib.hid (fun w => wideD_any (8 * bs.length) 8 w (by decide))
  rw [hcnt] at WD
  have HCNT := Lib.hid hcnt
  have A1 := Lib.hid (fun w h1 h2 => add_any b bs ⟨#[128]⟩ w hb h1 h2 (by show bs.length + 1 < _; omega))
  clear ha ht hcnt
  go_enter Tryz.func73, Tryz.ntmps73
  go_wp2_with fail
  refine (WD.out _).mono ?_
  rintro e w1 ⟨rfl, hb1⟩
  have hb1' : Below (b + 1) w w1 := hb1.mono hlt
  have HA1 := Lib.hid (show Adder b bs w1 by
    obtain ⟨blk, h1, h2, hr⟩ := HA.out
    exact ⟨blk, h1, h2, hr.of_block (hb1'.block b (Nat.lt_succ_self b))⟩)
  have HT1 := Lib.hid (HT.out.keep hb (hb1'.mono (Nat.le_succ b)))
  have B1 := Lib.hid (hb1'.mono (Nat.le_succ b))
  clear hb1 hb1' HA HT cc
  go_wp2_with fail
  refine (A1.out _ HA1.out HT1.out).mono ?_
  rintro e w2 ⟨rfl, ha2, hb2⟩
  have HA2 := Lib.hid (show Adder b (fillL bs 0) w2 from ha2)
  have HT2 := Lib.hid (HT1.out.keep hb hb2)
  have B2 := Lib.hid (B1.out.trans hb2)
  clear ha2 hb2 HA1 HT1 B1 A1
  go_wp2_with fail
  go_loopw [15] (fun _ wr => ∃ z : Nat, z ≤ padN bs.length ∧ Adder b (fillL bs z) wr ∧ Tabs wr ∧ Below b w wr) (fun _ wr => bs.length + 1 + 64 - cameOf b wr)
  case atStart => exact ⟨0, Nat.zero_le _, HA2.out, HT2.out, B2.out⟩
  case round =>
    clear HA2 HT2 B2
    obtain ⟨z, hz, ha, ht, hbb⟩ := hrel
    have cc := ha.came
    have hlen := fillL_length bs z
    rw [hlen] at cc
    have HA := Lib.hid ha
    have HT := Lib.hid ht
    have HB := Lib.hid hbb
    have HL := Lib.hid hlen
    have hp : padN bs.length < 64 := Nat.mod_lt _ (by decide)
    have hp2 : (bs.length + 1 + padN bs.length) % 64 = 56 := by unfold padN; omega
    have HP2 := Lib.hid hp2
    have HPN := Lib.hid (show fillL bs (padN bs.length) ++ wideR (8 * bs.length) 8 = padL bs from rfl)
    clear ha ht hbb hlen hp2
    generalize padN bs.length = pn at hz hp HP2 HPN
    by_cases hlt2 : z < pn
    · have t1 : ((((bs.length + 1 + z : Nat) : Int) % 64) != 56) = true := by rw [bne_iff_ne]; have := HP2.out; omega
      have A2 := Lib.hid (fun w h1 h2 => add_any b (fillL bs z) ⟨#[0]⟩ w hb h1 h2 (by rw [HL.out]; show bs.length + 1 + z + 1 < _; omega))
      go_wp2_with fail
      refine (A2.out _ HA.out HT.out).mono ?_
      rintro e w3 ⟨rfl, ha3, hb3⟩
      have ha4 : Adder b (fillL bs (z + 1)) w3 := by rw [fillL_succ]; exact ha3
      have HA3 := Lib.hid ha4
      have HT3 := Lib.hid (HT.out.keep hb hb3)
      have HB3 := Lib.hid (HB.out.trans hb3)
      have m1 := ha4.cameOf
      have m0 := HA.out.cameOf
      rw [fillL_length] at m1 m0
      have M := Lib.hid (show bs.length + 1 + 64 - cameOf b w3 < bs.length + 1 + 64 - cameOf b wr by omega)
      clear ha3 ha4 hb3 m0 m1
      go_wp2_with fail
      go_roundw
      case rel => exact ⟨z + 1, by omega, HA3.out, HT3.out, HB3.out⟩
      case measure => exact M.out
    · have hzp : pn ≤ z := by omega
      have t1 : ((((bs.length + 1 + z : Nat) : Int) % 64) != 56) = false := by rw [bne_eq_false_iff_eq]; have := HP2.out; have : z = pn := by omega
                                                                               omega
      obtain rfl : z = pn := by omega
      have A3 := Lib.hid (fun w h1 h2 => add_any b (fillL bs z) cnt w hb h1 h2 (by
        have h8 : cnt.size = 8 := by rw [← HCNT.out]; simp [ByteArray.size, wideR_length]
        rw [HL.out, h8]; omega))
      go_wp2_with fail
      refine (A3.out _ HA.out HT.out).mono ?_
      rintro e w3 ⟨rfl, ha3, hb3⟩
      have HA3 := Lib.hid (show Adder b (padL bs) w3 by
        rw [← HCNT.out] at ha3
        exact HPN.out ▸ ha3)
      have HB3 := Lib.hid (HB.out.trans hb3)
      clear ha3 hb3 HA HB HT A3
      obtain ⟨st, hst⟩ : ∃ st, chain (padL bs) ((padL bs).length / 64) = st := ⟨_, rfl⟩
      have HRW := Lib.hid (show w3.rangeAt b 0 (st.toL.map (Value.int .u32)) by
        obtain ⟨blk, _, _, hr⟩ := HA3.out
        rw [hst] at hr
        exact adder_range0 hr)
      have okst := Lib.hid (show st.Ok from hst ▸ chain_ok _ _)
      have HOUT := Lib.hid (show (⟨(shaL bs).toArray⟩ : ByteArray) = ⟨(outN st.toL 8).toArray⟩ by unfold shaL; rw [hst]; rfl)
      have hlt3 : b < w3.heap.size := by obtain ⟨blk, _, _, hr⟩ := HA3.out; exact hr.lt
      clear hst
      go_wp2_with (at_make; refine wpList_make_own w3 rfl _ _ 63 rfl w3.heap.size 5 i0 (.int .u8 0) 1 Tryz.underlying63 hi hz0 hz1 .i64 .i64 32 32 rfl rfl rfl ?c1 ?c2 ?c3 ?_)
      case c1 => rw [hz2]; omega
      case c2 => unfold maxLen; omega
      case c3 => exact Nat.le_refl _
      intro w4 hown hgrow
      have HB4 := Lib.hid (HB3.out.grown hgrow (Nat.le_of_lt hlt3) (fun _ e => by cases e))
      have HRW4 := Lib.hid (show w4.rangeAt b 0 (st.toL.map (Value.int .u32)) from fun j v hj => by
        rw [hgrow.cell_far _ (by show b < w3.heap.size; exact hlt3) (by simp)]; exact HRW.out j v hj)
      have hsz4 : b < w3.heap.size := hlt3
      have hg0 := hgrow.size
      clear hgrow HB3 HRW HA3
      obtain ⟨SW, hSW⟩ : ∃ SW : List Value, st.toL.map (Value.int .u32) = SW := ⟨_, rfl⟩
      have IX := Lib.hid (show ∀ (k : Nat), k < 8 → ∀ (w : World), (Instr.index 113 (.agg SW.toArray) (.int .i64 (k : Int))).run Tryz.prog w = .ok (.int .u32 (st.toL.getD k 0)) w from fun k hk w => by
        subst hSW
        exact index8 st.a st.b st.c st.d st.e st.f st.g st.h k hk w)
      have hSl : SW.length = 8 := by rw [← hSW]; rfl
      have HSI := Lib.hid (show (Tryz.prog.info? 113).map (·.size) = some SW.length by rw [hSl]; kernel_rfl)
      rw [hSW] at HRW4
      have HOK := Lib.hid (show ∀ k, k < 8 → U32 (st.toL.getD k 0) from fun k hk => by
        have o := okst.out
        have h : k = 0 ∨ k = 1 ∨ k = 2 ∨ k = 3 ∨ k = 4 ∨ k = 5 ∨ k = 6 ∨ k = 7 := by omega
        rcases h with rfl | rfl | rfl | rfl | rfl | rfl | rfl | rfl
        · exact o.a
        · exact o.b
        · exact o.c
        · exact o.d
        · exact o.e
        · exact o.f
        · exact o.g
        · exact o.h)
      clear hSW hSl
      go_wp2_with (refine wpList_load_mid rfl 113 (.tmp 29) rfl b 0 rfl SW _ HRW4.out Tryz.underlying113 rfl HSI.out ?_)
      obtain ⟨W3, hW3⟩ : ∃ W3, w3.heap.size = W3 := ⟨_, rfl⟩
      rw [hW3] at hown hg0 hsz4 ⊢
      clear hW3 HRW4 hlt3
      go_loopw [4, 31] (fun v i wr => ∃ k : Nat, k ≤ 8 ∧ i = .int .i64 k ∧ (∃ g c, v = .slice (some ⟨g, 0, none⟩) (4 * k) c ∧ W3 ≤ g) ∧ wr.ownsRow W3 5 1 v (4 * k) (Lib.byteCells (outN st.toL k)) ∧ W3 ≤ wr.heap.size ∧ Below b w wr) (fun _ i _ => 8 - (intOf i).toNat)
      case atStart => exact ⟨0, Nat.zero_le _, rfl, ⟨_, _, rfl, Nat.le_refl _⟩, hown, hg0, HB4.out⟩
      case round =>
        clear HB4 hown
        obtain ⟨k, hk, rfl, ⟨g, c, rfl, hgB⟩, ho, hW, hbb⟩ := hrel
        by_cases hlt8 : k < 8
        · obtain ⟨x0, x1⟩ := HOK.out k hlt8
          have hix := IX.out k hlt8
          have HS := Lib.hid (outN_succ st.toL k (by show k < 8; exact hlt8))
          obtain ⟨x, hx⟩ := Int.eq_ofNat_of_zero_le x0
          rw [hx] at hix HS x1
          rw [Int.toNat_natCast] at HS
          have x2 : x < 4294967296 := by omega
          clear x0 x1 hx hn
          obtain ⟨o4, ho4⟩ : ∃ o4 : ByteArray, (⟨(wideR x 4).toArray⟩ : ByteArray) = o4 := ⟨_, rfl⟩
          have WX := Lib.hid (fun w => wideD_any x 4 w (by decide))
          rw [ho4] at WX
          have H4 := Lib.hid ho4
          have s4 : o4.size = 4 := by rw [← ho4]; simp [ByteArray.size, wideR_length]
          have HO := Lib.hid ho
          have HB := Lib.hid hbb
          have HS4 := Lib.hid s4
          clear ho hbb ho4 s4
          go_wp2_with fail
          refine (WX.out _).mono ?_
          rintro e w5 ⟨rfl, hb5⟩
          have HO5 := Lib.hid (HO.out.kept (grownBy_of_below hb5) (Or.inr (by simp [Value.ownBlock])))
          have HB5 := Lib.hid (HB.out.trans (hb5.mono (by omega)))
          have hW5 : W3 ≤ w5.heap.size := Nat.le_trans hW hb5.size
          clear hb5 HO HB
          go_wp2_with (at_builtin; refine Lib.wpList_append_own_string _ rfl _ _ 63 9 rfl W3 5 i0 Tryz.underlying63 Tryz.underlying9 hi hz0 hz1 hz2 _ (4 * k) (Lib.byteCells (outN st.toL k)) rfl HO5.out o4 rfl ?c4 ?c5 ?c6 ?_)
          case c4 => have := HS4.out; unfold maxLen; omega
          case c5 => have := HS4.out; omega
          case c6 => exact hW5
          intro v6 w6 hown6 hgrow6 hnil6
          have hb6 : Below b w w6 := HB5.out.grown hgrow6 (Nat.le_trans (Nat.le_of_lt hsz4) hW5) (fun k' hk' => by cases hk'; exact Nat.le_trans (Nat.le_of_lt hsz4) hgB)
          have hat : ∃ g c, v6 = .slice (some ⟨g, 0, none⟩) (4 * (k + 1)) c ∧ W3 ≤ g := by
            rw [HS4.out] at hown6
            rcases hown6.2 with ⟨h1, _⟩ | ⟨g', cap, cur, h1, h2, _⟩
            · exact (hnil6 h1).elim
            · exact ⟨g', cap, h1, h2⟩
          have hrow6 : w6.ownsRow W3 5 1 v6 (4 * (k + 1)) (Lib.byteCells (outN st.toL (k + 1))) := by
            rw [HS4.out] at hown6
            rw [HS.out, Lib.byteCells_append]
            rw [← H4.out] at hown6
            exact hown6
          have hW6 : W3 ≤ w6.heap.size := Nat.le_trans hW5 hgrow6.size
          obtain ⟨g', c', rfl, hg'⟩ := hat
          have HR6 := Lib.hid hrow6
          have HB6 := Lib.hid hb6
          clear hown6 hgrow6 hnil6 hrow6 hb6 HO5 HB5
          go_wp2_with fail
          go_roundw
          case rel => exact ⟨k + 1, by omega, by go_num, ⟨_, _, rfl, hg'⟩, HR6.out, hW6, HB6.out⟩
          case measure => simp [intOf]; omega
        · have hk8 := Lib.hid (show k = 8 by omega)
          have hlen := outN_length st.toL k hk
          have hcv := run_convert_bytes_back (P := Tryz.prog) wr 63 9 5 ⟨g, 0, none⟩ c (outN st.toL k) Tryz.underlying63 Tryz.underlying5 Tryz.underlying9 (fun i hi => by
            rw [hlen] at hi
            have := ho.cellAt i (by omega)
            rw [addr0_add, this, List.getElem?_eq_getElem (by rw [Lib.byteCells_length, hlen]; exact hi)]
            simp [Lib.byteCells])
          rw [hlen] at hcv
          have HB := Lib.hid hbb
          clear ho hbb hlen
          go_wp2_with fail
          go_ret
          exact ⟨by rw [HOUT.out, ← hk8.out]; rfl, HB.out⟩
end Go.Proofs.YtepcaglekgeamaaGreatDoor
namespace Go.Proofs.YtepcaglekgeamaaGreatDoor
open Go.RowKit

def catL (ss : List ByteArray) : List UInt8 := ss.flatMap fun s => s.data.toList

theorem catL_snoc (ss : List ByteArray) (s : ByteArray) : catL (ss ++ [s]) = catL ss ++ s.data.toList := by simp [catL]

def initAd : Array Value := (begins.toL.map (Value.int .u32) ++ (List.replicate 64 (Value.int .u8 0) ++ [Value.int .u64 0])).toArray

theorem initAd_size : initAd.size = 73 := by kernel_rfl

theorem initAd_one : initAd.all (·.oneCell') = true := by kernel_rfl

theorem initAd_at (i : Nat) (hi : i < 73) : initAd[i]? = some (adAt begins (List.replicate 64 0) 0 i) := by
  unfold initAd adAt
  rw [List.getElem?_toArray]
  by_cases h8 : i < 8
  · rw [if_pos h8, List.getElem?_append_left (by simp [St.toL]; omega)]
    unfold wordAt
    have hl2 : begins.toL.length = 8 := rfl
    simp [List.getD_eq_getElem?_getD, hl2, h8]
  · rw [if_neg h8, List.getElem?_append_right (by simp [St.toL]; omega)]
    have e : (begins.toL.map (Value.int .u32)).length = 8 := rfl
    rw [e]
    by_cases h72 : i < 72
    · rw [if_pos h72, List.getElem?_append_left (by simp; omega)]
      unfold byteAt
      rw [List.getElem?_replicate_of_lt (by omega), List.getD_eq_getElem?_getD, List.getElem?_replicate_of_lt (by omega)]
      rfl
    · have : i = 72 := by omega
      subst this
      rfl

theorem wpList_build_eq {P : Program} {ops : Array Oper} {rest : List Oper} {o : Oper} {a : Act} {w : World} {Q : Exit → Act → World → Prop} (hg : o.guard = none) (t : TypeId) (parts : Array (Nat × Operand)) (ho : o.op = .build t parts) (c : Array Value)
    (hf : P.built t (parts.map fun (i, x) => (i, a.eval x)).toList = some c) (h : wpList P ops Q rest (a.put o.dst (.agg c)) w) : wpList P ops Q (o :: rest) a w :=
  wpList_build hg t parts ho (by rw [hf]; rfl) (by rw [hf]; exact h)

theorem init_adder (w : World) : Adder w.heap.size [] ((w.alloc (.cells Tryz.zeroCells116 116)).setRow w.heap.size initAd) :=
  ⟨List.replicate 64 0, by simp, by simp, initAd, setRow_heap _ _ _ _ _ _ (heap_alloc_new w _), initAd_size, fun i hi => initAd_at i hi⟩

theorem init_below (w : World) : Below w.heap.size w ((w.alloc (.cells Tryz.zeroCells116 116)).setRow w.heap.size initAd) :=
  below_setRow ((Below.refl _ _).alloc (Nat.le_refl _) _) (Nat.le_refl _) _

set_option maxRecDepth 100000 in
set_option maxHeartbeats 4000000 in
theorem digestSum_any (v : Value) (ss : List ByteArray) (w : World) (h : StrRow w v ss) (ht : Tabs w) (hn : (catL ss).length < 576460752303423488) :
    Calls Tryz.prog 45 #[v] w fun e w' => e = .returned (.string ⟨(shaL (catL ss)).toArray⟩) ∧ Below w.heap.size w w' := by
  have HT := Lib.hid ht
  obtain ⟨tq, fq, hsq⟩ := ht.squares
  have HSQ := Lib.hid hsq
  have HNEW := Lib.hid (heap_alloc_new w (.cells Tryz.zeroCells116 116))
  have hmany := ht.many
  have HI := Lib.hid (init_adder w)
  have HB := Lib.hid (init_below w)
  have HHN := Lib.hid hn
  clear ht hn hsq
  rcases h with ⟨rfl, rfl⟩ | ⟨bk, o, cap, rfl, h2, h3, h4⟩
  · have S := Lib.hid (fun b w h1 h2 h3 => sum_any b [] w h1 h2 h3 (by decide))
    go_enter Tryz.func45, Tryz.ntmps45
    go_wp2_with (first
      | (refine wpList_load_row rfl 113 (.global 0) rfl 0 rfl tq _ fq _ HSQ.out Tryz.underlying113 rfl (by kernel_rfl) ?_)
      | (refine wpList_build_eq rfl 116 #[(0, .tmp 6)] rfl initAd (by kernel_rfl) ?_)
      | (refine wpList_store_row rfl 116 (.tmp 3) (.tmp 7) rfl w.heap.size initAd rfl rfl 116 _ HNEW.out (by rw [initAd_size]; kernel_rfl) (by rw [initAd_size]; kernel_rfl) initAd_one ?_))
    refine wp_loop_rounds 1 ?_
    rw [rounds_succ]
    go_wp2_with fail
    refine (S.out _ _ hmany HI.out (HT.out.keep hmany HB.out)).mono ?_
    rintro e w2 ⟨rfl, hb2⟩
    have HB2 := Lib.hid (HB.out.trans hb2)
    clear hb2
    go_wp2_with fail
    go_ret
    exact ⟨rfl, HB2.out⟩
  · have H4 := Lib.hid h4
    have S := Lib.hid (fun b w h1 h2 h3 => sum_any b (catL ss) w h1 h2 h3 HHN.out)
    clear h4
    unfold maxLen at h3
    go_enter Tryz.func45, Tryz.ntmps45
    go_wp2_with (first
      | (refine wpList_load_row rfl 113 (.global 0) rfl 0 rfl tq _ fq _ HSQ.out Tryz.underlying113 rfl (by kernel_rfl) ?_)
      | (refine wpList_build_eq rfl 116 #[(0, .tmp 6)] rfl initAd (by kernel_rfl) ?_)
      | (refine wpList_store_row rfl 116 (.tmp 3) (.tmp 7) rfl w.heap.size initAd rfl rfl 116 _ HNEW.out (by rw [initAd_size]; kernel_rfl) (by rw [initAd_size]; kernel_rfl) initAd_one ?_))
    go_loopw [10] (fun i wr => ∃ k : Nat, k ≤ ss.length ∧ i = .int .i64 k ∧ Adder w.heap.size (catL (ss.take k)) wr ∧ Tabs wr ∧ Below w.heap.size w wr) (fun i _ => ss.length - (intOf i).toNat)
    case atStart => exact ⟨0, Nat.zero_le _, rfl, HI.out, HT.out.keep hmany HB.out, HB.out⟩
    case round =>
      clear HI HB HNEW HSQ HT
      obtain ⟨k, hk, rfl, ha, ht, hbb⟩ := hrel
      by_cases hlt : k < ss.length
      · have hc0 := H4.out k hlt
        have hc := (hbb.cell (p := ⟨bk, o + k, none⟩) (World.block_lt_of_cell? _ _ hc0)).trans hc0
        have A := Lib.hid (add_any w.heap.size (catL (ss.take k)) ss[k] wr hmany ha ht (by
          have e : catL ss = catL (ss.take k) ++ (ss[k].data.toList ++ catL (ss.drop (k + 1))) := by
            have h1 : ss = ss.take k ++ ss[k] :: ss.drop (k + 1) := by rw [List.getElem_cons_drop, List.take_append_drop]
            have h2 := congrArg catL h1
            exact h2.trans (by unfold catL; rw [List.flatMap_append, List.flatMap_cons])
          have := HHN.out
          rw [e, List.length_append, List.length_append] at this
          have h6 : ss[k].data.toList.length = ss[k].size := by simp
          omega))
        have HTK := Lib.hid (show catL (ss.take (k + 1)) = catL (ss.take k) ++ ss[k].data.toList by rw [List.take_succ_eq_append_getElem hlt, catL_snoc])
        have HT := Lib.hid ht
        have HB := Lib.hid hbb
        clear ha ht hbb hc0
        generalize ss[k] = x at hc A HTK
        go_wp2_with fail
        refine A.out.mono ?_
        rintro e w2 ⟨rfl, ha2, hb2⟩
        have HA2 := Lib.hid (show Adder w.heap.size (catL (ss.take (k + 1))) w2 by rw [HTK.out]; exact ha2)
        have HT2 := Lib.hid (HT.out.keep hmany hb2)
        have HB2 := Lib.hid (HB.out.trans hb2)
        clear ha2 hb2 HT HB A
        go_wp2_with fail
        go_roundw
        case rel => exact ⟨k + 1, by omega, by go_num, HA2.out, HT2.out, HB2.out⟩
        case measure => simp [intOf]; omega
      · rw [List.take_of_length_le (by omega)] at ha
        have SS := Lib.hid (S.out _ _ hmany ha ht)
        have HB := Lib.hid hbb
        clear ha ht hbb S
        go_wp2_with fail
        refine SS.out.mono ?_
        rintro e w2 ⟨rfl, hb2⟩
        have HB2 := Lib.hid (HB.out.trans hb2)
        clear hb2
        go_wp2_with fail
        go_ret
        exact ⟨rfl, HB2.out⟩
end Go.Proofs.YtepcaglekgeamaaGreatDoor
namespace Go.Proofs.YtepcaglekgeamaaGreatDoor
open Go.RowKit

def prefB : ByteArray := { data := #[115, 104, 97, 50, 53, 54, 58] }

def ofB (s : ByteArray) : ByteArray := prefB ++ ⟨(hexL (shaL s.data.toList)).toArray⟩

theorem one_row (w : World) (s : ByteArray) (t : TypeId) : StrRow (w.alloc (.cells #[.string s] t)) (.slice (some ⟨w.heap.size, 0, none⟩) 1 1) [s] :=
  Or.inr ⟨w.heap.size, 0, 1, rfl, Nat.le_refl _, by decide, fun i hi => by
    obtain rfl : i = 0 := by simpa using hi
    rw [World.cell?_alloc_at _ _ _ _ rfl]; rfl⟩

set_option maxRecDepth 100000 in
set_option maxHeartbeats 1000000 in
theorem of_any (s : ByteArray) (w : World) (ht : Tabs w) (hs : s.size < 1099511627776) :
    Calls Tryz.prog 24 #[.string s] w fun e w' => e = .returned (.string (ofB s)) ∧ Below w.heap.size w w' := by
  have hb0 : Below w.heap.size w (w.alloc (.cells #[.string s] 9)) := (Below.refl _ _).alloc (Nat.le_refl _) _
  have S := Lib.hid (digestSum_any _ [s] _ (one_row w s 9) (ht.keep ht.many hb0) (by
    show ([s].flatMap fun s => s.data.toList).length < _
    have h6 : s.data.toList.length = s.size := by simp
    simp only [List.flatMap_cons, List.flatMap_nil, List.append_nil]; omega))
  obtain ⟨x, hx⟩ : ∃ x : ByteArray, (⟨(shaL (catL [s])).toArray⟩ : ByteArray) = x := ⟨_, rfl⟩
  rw [hx] at S
  have xs : x.size = 32 := by rw [← hx]; show (shaL _).toArray.size = _; rw [List.size_toArray, shaL_length]
  have H := Lib.hid (fun w => Hex_any x w (by omega))
  obtain ⟨y, hy⟩ : ∃ y : ByteArray, (⟨(hexL x.data.toList).toArray⟩ : ByteArray) = y := ⟨_, rfl⟩
  have ys : y.size ≤ 64 := by
    rw [← hy]; show (hexL _).toArray.size ≤ _
    have h6 : x.data.toList.length = x.size := by simp
    rw [List.size_toArray, hexL_length]; omega
  have HO := Lib.hid (show ofB s = prefB ++ y by rw [← hy, ← hx]; unfold ofB; simp [catL])
  rw [hy] at H
  have B0 := Lib.hid hb0
  clear hx hb0 ht hy xs
  go_enter Tryz.func24, Tryz.ntmps24
  go_wp2_with fail
  refine S.out.mono ?_
  rintro e w1 ⟨rfl, hb1⟩
  have B1 := Lib.hid (B0.out.trans (hb1.mono (by simp)))
  clear hb1 S B0
  go_wp2_with fail
  refine (H.out _).mono ?_
  rintro e w2 ⟨rfl, hb2⟩
  have B2 := Lib.hid (B1.out.trans (hb2.mono B1.out.size))
  clear hb2 H B1
  go_wp2_with fail
  go_ret
  exact ⟨by rw [HO.out]; rfl, B2.out⟩

def parseD (s : ByteArray) : ByteArray × Int :=
  if Lib.hasPrefix s.data.toList prefB.data.toList = true ∧ s.size = 71 then
    match unhexL (s.data.toList.drop 7) with
    | some l => (⟨l.toArray⟩, 0)
    | none => (⟨#[]⟩, 6)
  else (⟨#[]⟩, 6)

theorem parseD_no {s : ByteArray} (h : Lib.hasPrefix s.data.toList prefB.data.toList = false ∨ s.size ≠ 71) : parseD s = (⟨#[]⟩, 6) := by
  unfold parseD
  rw [if_neg]
  rintro ⟨h1, h2⟩
  rcases h with h | h
  · rw [h1] at h; cases h
  · exact h h2

set_option maxRecDepth 100000 in
set_option maxHeartbeats 1000000 in
theorem parse_any (aD aS aZ : Addr) (s : ByteArray) (w : World) (he : Env w aD aS aZ) (hs : s.size ≤ 9223372036854775807) :
    Calls Tryz.prog 46 #[.string s] w fun e w' => e = .returned (.tuple #[.string (parseD s).1, .int .i64 (parseD s).2]) ∧ Below w.heap.size w w' := by
  have C := Lib.hid (Tryz.strings_CutPrefix s prefB w)
  have p7 : prefB.data.toList.length = 7 := rfl
  cases hp : Lib.hasPrefix s.data.toList prefB.data.toList with
  | false =>
    have HO := Lib.hid (parseD_no (Or.inl hp))
    obtain ⟨d, hd⟩ : ∃ d : ByteArray, (⟨(Lib.trimPrefix s.data.toList prefB.data.toList).toArray⟩ : ByteArray) = d := ⟨_, rfl⟩
    rw [hd, hp] at C
    clear hp hd p7
    unfold prefB at C
    go_enter Tryz.func46, Tryz.ntmps46
    go_wp2_with fail
    refine C.out.mono ?_
    rintro e w1 ⟨rfl, rfl⟩
    go_wp2_with fail
    go_ret2
    exact ⟨by rw [HO.out]; rfl, Below.refl _ _⟩
  | true =>
    have hle : 7 ≤ s.size := by
      have h1 := List.IsPrefix.length_le (List.isPrefixOf_iff_prefix.1 hp)
      rw [p7] at h1
      have h6 : s.data.toList.length = s.size := by simp
      omega
    obtain ⟨d, hd⟩ : ∃ d : ByteArray, (⟨(Lib.trimPrefix s.data.toList prefB.data.toList).toArray⟩ : ByteArray) = d := ⟨_, rfl⟩
    have hdl : d.data.toList = s.data.toList.drop 7 := by rw [← hd]; unfold Lib.trimPrefix; rw [if_pos hp, p7]
    have hds : d.size = s.size - 7 := by
      have h6 : s.data.toList.length = s.size := by simp
      have h7 : d.data.toList.length = d.size := by simp
      rw [← h7, hdl, List.length_drop, h6]
    rw [hd, hp] at C
    by_cases h71 : s.size = 71
    · have hpd : parseD s = match unhexL (s.data.toList.drop 7) with | some l => (⟨l.toArray⟩, 0) | none => (⟨#[]⟩, 6) := by unfold parseD; rw [if_pos ⟨hp, h71⟩]
      have B := Lib.hid (Bytes_any aD aS aZ d w he (by omega))
      have d64 : ((d.size : Int) != 64) = false := by rw [bne_eq_false_iff_eq]; omega
      cases hu : unhexL (s.data.toList.drop 7) with
      | none =>
        rw [hu] at hpd
        have hb : bytesOut d = (⟨#[]⟩, 4) := by unfold bytesOut; rw [hdl, hu]
        rw [hb] at B
        have HO := Lib.hid hpd
        clear hpd hb hu h71 hds hdl hd hp p7 he
        unfold prefB at C
        go_enter Tryz.func46, Tryz.ntmps46
        go_wp2_with fail
        refine C.out.mono ?_
        rintro e w1 ⟨rfl, rfl⟩
        go_wp2_with fail
        refine B.out.mono ?_
        rintro e w2 ⟨rfl, hb2⟩
        have HB := Lib.hid hb2
        clear hb2
        go_wp2_with fail
        go_ret2
        exact ⟨by rw [HO.out]; rfl, HB.out⟩
      | some l =>
        rw [hu] at hpd
        have hb : bytesOut d = (⟨l.toArray⟩, 0) := by unfold bytesOut; rw [hdl, hu]
        rw [hb] at B
        have HO := Lib.hid hpd
        clear hpd hb hu h71 hds hdl hd hp p7 he
        unfold prefB at C
        go_enter Tryz.func46, Tryz.ntmps46
        go_wp2_with fail
        refine C.out.mono ?_
        rintro e w1 ⟨rfl, rfl⟩
        go_wp2_with fail
        refine B.out.mono ?_
        rintro e w2 ⟨rfl, hb2⟩
        have HB := Lib.hid hb2
        clear hb2
        go_wp2_with fail
        go_ret2
        exact ⟨by rw [HO.out]; rfl, HB.out⟩
    · have HO := Lib.hid (parseD_no (Or.inr h71))
      have d64 : ((d.size : Int) != 64) = true := by rw [bne_iff_ne]; omega
      clear h71 hds hdl hd hp p7 he
      unfold prefB at C
      go_enter Tryz.func46, Tryz.ntmps46
      go_wp2_with fail
      refine C.out.mono ?_
      rintro e w1 ⟨rfl, rfl⟩
      go_wp2_with fail
      go_ret2
      exact ⟨by rw [HO.out]; rfl, Below.refl _ _⟩

theorem unhexL_length : ∀ (l r : List UInt8), unhexL l = some r → l.length = 2 * r.length
  | [], r, h => by simp [unhexL] at h; subst h; rfl
  | [_], r, h => by simp [unhexL] at h
  | a :: b :: l, r, h => by
    cases ha : halfB a with
    | none => simp [unhexL, ha] at h
    | some x =>
      cases hb : halfB b with
      | none => simp [unhexL, hb] at h
      | some y =>
        cases hl : unhexL l with
        | none => simp [unhexL, hl] at h
        | some q =>
          simp only [unhexL, ha, hb, hl, Option.some.injEq] at h
          subst h
          have ih := unhexL_length l q hl
          simp only [List.length_cons]; omega

theorem parseD_cases (s : ByteArray) : ∃ (r : ByteArray) (e : Int), parseD s = (r, e) ∧ (e = 0 ∧ r.size = 32 ∨ e = 6 ∧ r = ⟨#[]⟩) := by
  by_cases h : Lib.hasPrefix s.data.toList prefB.data.toList = true ∧ s.size = 71
  · cases hu : unhexL (s.data.toList.drop 7) with
    | none => exact ⟨_, _, by unfold parseD; rw [if_pos h, hu], Or.inr ⟨rfl, rfl⟩⟩
    | some l =>
      refine ⟨⟨l.toArray⟩, 0, by unfold parseD; rw [if_pos h, hu], Or.inl ⟨rfl, ?_⟩⟩
      have h1 := unhexL_length _ _ hu
      have h6 : s.data.toList.length = s.size := by simp
      rw [List.length_drop, h6, h.2] at h1
      show l.toArray.size = 32
      rw [List.size_toArray]; omega
  · exact ⟨_, _, by unfold parseD; rw [if_neg h], Or.inr ⟨rfl, rfl⟩⟩

def sumB (s : ByteArray) : ByteArray := ⟨(shaL s.data.toList).toArray⟩

def fitsD (s data : ByteArray) : Int := if (parseD s).2 = 0 then (if sumB data = (parseD s).1 then 0 else 10) else (parseD s).2

theorem toList_beq (a b : ByteArray) : (a.toList == b.toList) = decide (a = b) := by
  rw [Lib.toList_data, Lib.toList_data]
  by_cases h : a = b
  · subst h; simp
  · rw [decide_eq_false h, beq_eq_false_iff_ne]
    intro e
    apply h
    cases a; cases b
    simp only [ByteArray.mk.injEq]
    exact Array.toList_inj.1 e

set_option maxRecDepth 100000 in
set_option maxHeartbeats 1000000 in
theorem fits_any (aD aS aZ : Addr) (s data : ByteArray) (w : World) (he : Env w aD aS aZ) (ht : Tabs w) (hs : s.size ≤ 9223372036854775807) (hd : data.size < 1099511627776) :
    Calls Tryz.prog 27 #[.string s, .string data] w fun e w' => e = .returned (.int .i64 (fitsD s data)) ∧ Below w.heap.size w w' := by
  obtain ⟨r, e, hp, hc⟩ := parseD_cases s
  have P := Lib.hid (parse_any aD aS aZ s w he hs)
  rw [hp] at P
  rcases hc with ⟨rfl, hr⟩ | ⟨rfl, rfl⟩
  · have HSZ : (catL [data]).length < 576460752303423488 := by
      show ([data].flatMap fun s => s.data.toList).length < _
      have h6 : data.data.toList.length = data.size := by simp
      simp only [List.flatMap_cons, List.flatMap_nil, List.append_nil]; omega
    have S := Lib.hid (fun (w1 : World) (h : Below w.heap.size w w1) => (digestSum_any _ [data] _ (one_row w1 data 9) ((ht.keep ht.many h).keep (Nat.le_trans ht.many h.size) ((Below.refl _ _).alloc (Nat.le_refl _) _)) HSZ))
    have hx : (⟨(shaL (catL [data])).toArray⟩ : ByteArray) = sumB data := by unfold sumB; simp [catL]
    rw [hx] at S
    clear hx HSZ
    by_cases heq : sumB data = r
    · have HO := Lib.hid (show fitsD s data = 0 by unfold fitsD; rw [hp, if_pos rfl, if_pos heq])
      have t1 : ((sumB data).toList == r.toList) = true := by rw [toList_beq]; exact decide_eq_true heq
      clear heq hp hr ht he
      generalize sumB data = x at S t1
      go_enter Tryz.func27, Tryz.ntmps27
      go_wp2_with fail
      refine P.out.mono ?_
      rintro e w1 ⟨rfl, hb1⟩
      have B1 := Lib.hid hb1
      clear hb1
      go_wp2_with fail
      refine (S.out _ B1.out).mono ?_
      rintro e w2 ⟨rfl, hb2⟩
      have B2 := Lib.hid (B1.out.trans ((((Below.refl _ _).alloc (Nat.le_refl _) _).trans (hb2.mono (by simp))).mono B1.out.size))
      clear hb2
      go_wp2_with fail
      go_ret
      exact ⟨by rw [HO.out]; rfl, B2.out⟩
    · have HO := Lib.hid (show fitsD s data = 10 by unfold fitsD; rw [hp, if_pos rfl, if_neg heq])
      have t1 : ((sumB data).toList == r.toList) = false := by rw [toList_beq]; exact decide_eq_false heq
      clear heq hp hr ht he
      generalize sumB data = x at S t1
      go_enter Tryz.func27, Tryz.ntmps27
      go_wp2_with fail
      refine P.out.mono ?_
      rintro e w1 ⟨rfl, hb1⟩
      have B1 := Lib.hid hb1
      clear hb1
      go_wp2_with fail
      refine (S.out _ B1.out).mono ?_
      rintro e w2 ⟨rfl, hb2⟩
      have B2 := Lib.hid (B1.out.trans ((((Below.refl _ _).alloc (Nat.le_refl _) _).trans (hb2.mono (by simp))).mono B1.out.size))
      clear hb2
      go_wp2_with fail
      go_ret
      exact ⟨by rw [HO.out]; rfl, B2.out⟩
  · have HO := Lib.hid (show fitsD s data = 6 by unfold fitsD; rw [hp]; rfl)
    clear hp ht he
    go_enter Tryz.func27, Tryz.ntmps27
    go_wp2_with fail
    refine P.out.mono ?_
    rintro e w1 ⟨rfl, hb1⟩
    have B1 := Lib.hid hb1
    clear hb1
    go_wp2_with fail
    go_ret
    exact ⟨by rw [HO.out]; rfl, B1.out⟩
end Go.Proofs.YtepcaglekgeamaaGreatDoor
namespace Go.Proofs.YtepcaglekgeamaaGreatDoor
open Go.RowKit

theorem halfB_hexDig {c : UInt8} {x : Nat} (h : halfB c = some x) : hexDig x = c := by
  unfold halfB at h
  split at h
  · simp only [Option.some.injEq] at h
    subst h
    unfold hexDig
    rw [if_pos (by omega), show 48 + (c.toNat - 48) = c.toNat by omega, UInt8.ofNat_toNat]
  · split at h
    · simp only [Option.some.injEq] at h
      subst h
      unfold hexDig
      rw [if_neg (by omega), show 87 + (c.toNat - 87) = c.toNat by omega, UInt8.ofNat_toNat]
    · cases h

theorem hexL_unhexL : ∀ (l r : List UInt8), unhexL l = some r → hexL r = l
  | [], r, h => by simp [unhexL] at h; subst h; rfl
  | [_], r, h => by simp [unhexL] at h
  | a :: b :: l, r, h => by
    cases ha : halfB a with
    | none => simp [unhexL, ha] at h
    | some x =>
      cases hb : halfB b with
      | none => simp [unhexL, hb] at h
      | some y =>
        cases hl : unhexL l with
        | none => simp [unhexL, hl] at h
        | some q =>
          simp only [unhexL, ha, hb, hl, Option.some.injEq] at h
          subst h
          have hx := halfB_lt ha
          have hy := halfB_lt hb
          have e : (UInt8.ofNat (16 * x + y)).toNat = 16 * x + y := UInt8.toNat_ofNat_of_lt' (by show _ < 256; omega)
          simp only [hexL, e]
          rw [show (16 * x + y) / 16 = x by omega, show (16 * x + y) % 16 = y by omega, halfB_hexDig ha, halfB_hexDig hb, hexL_unhexL l q hl]

theorem ofB_toList (x : ByteArray) : (ofB x).data.toList = prefB.data.toList ++ hexL (shaL x.data.toList) := by
  unfold ofB
  simp

theorem ofB_size (x : ByteArray) : (ofB x).size = 71 := by
  have h6 : (ofB x).data.toList.length = (ofB x).size := by simp
  rw [← h6, ofB_toList, List.length_append, hexL_length, shaL_length]; rfl

theorem drop_pref (l : List UInt8) : (prefB.data.toList ++ l).drop 7 = l := List.drop_left' rfl

theorem parseD_of (x : ByteArray) : parseD (ofB x) = (sumB x, 0) := by
  have hp : Lib.hasPrefix (ofB x).data.toList prefB.data.toList = true := by
    rw [ofB_toList]; exact List.isPrefixOf_iff_prefix.2 (List.prefix_append _ _)
  unfold parseD
  rw [if_pos ⟨hp, ofB_size x⟩, ofB_toList, drop_pref, unhexL_hexL]
  rfl

theorem fitsD_of (x y : ByteArray) : fitsD (ofB x) y = if sumB y = sumB x then 0 else 10 := by
  unfold fitsD; rw [parseD_of]; rfl
end Go.Proofs.YtepcaglekgeamaaGreatDoor
