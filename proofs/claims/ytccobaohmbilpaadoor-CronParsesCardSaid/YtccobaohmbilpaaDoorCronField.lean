/-
  The program's field of a schedule, by a contract. Conditions: texts of at most 300 bytes, bounds of at most 63, the package-level variables as CEnv says.
-/
import Derived.Test.YtccobaohmbilpaaDoorCronMany
namespace Go.Proofs.YtccobaohmbilpaaDoor
open Go.RowKit

theorem pieces_map {β : Type} (c : UInt8) (s : ByteArray) (f : List UInt8 → β) : (pieces c s).map (fun x => f x.data.toList) = (goC c [] s.data.toList).map f := by
  unfold pieces
  rw [List.map_map]
  rfl

set_option maxRecDepth 100000 in
set_option maxHeartbeats 4000000 in
theorem field_t (low high : Nat) (s : ByteArray) (w : World) {aA aN aO : Addr} (hh : high ≤ 63) (hl : low ≤ high) (hs : s.size ≤ 300) (he : CEnv w aA aN aO) :
    Calls Tryd.prog 19 #[bV low high, .string s] w fun e w' => BitsEnd e (fieldL s.data.toList low high) ∧ Below w.heap.size w w' := by
  obtain ⟨W, hW⟩ : ∃ W, w.alloc (.cells #[.int .i64 low, .int .i64 high] 53) = W := ⟨_, rfl⟩
  have hT := Two.new w low high
  have hB := below_new w (.cells #[.int .i64 low, .int .i64 high] 53)
  rw [hW] at hT hB
  have hE := he.keep hB
  have S1 := Lib.hid (split_t s 44 hs W hE)
  have PT := Lib.hid (fun (x : ByteArray) w1 (h : x.size ≤ 300) (h2 : CEnv w1 aA aN aO) => part_t low high x w1 hh hl h h2)
  have HF := Lib.hid (show fieldL s.data.toList low high = (allSome ((pieces 44 s).map fun x => partS x.data.toList low high)).map orL from by rw [field_eq _ _ _ hl, pieces_map 44 s (fun l => partS l low high)])
  have HPL := Lib.hid (pieces_len 44 s)
  have HW := Lib.hid hW
  have HB := Lib.hid hB
  have HT := Lib.hid hT
  have HE := Lib.hid hE
  obtain ⟨ps, hps⟩ : ∃ ps, pieces 44 s = ps := ⟨_, rfl⟩
  rw [hps] at S1 HF HPL
  have hlen : ps.length ≤ 301 := by have := HPL.out.1; omega
  obtain ⟨n, hn⟩ : ∃ n, ps.length = n := ⟨_, rfl⟩
  have HN := Lib.hid hn
  rw [hn] at hlen
  clear hW hB hT hE he hps hn
  unfold bV at *
  go_enter Tryd.func19, Tryd.ntmps19
  go_upto_region 1 with fail
  rw [HW.out]
  go_wp2_with fail
  refine S1.out.mono ?_
  rintro e w1 ⟨⟨pb, rfl, hcell⟩, hb1⟩
  have HB1 := Lib.hid (HB.out.trans (hb1.mono HB.out.size))
  have HT1 := Lib.hid (HT.out.keep hb1)
  have HE1 := Lib.hid (HE.out.keep hb1)
  have HC := Lib.hid hcell
  rw [HN.out]
  clear hcell hb1
  go_wp2_with fail
  go_loopw [6, 14] (fun sv iv wr => ∃ (k x : Nat) (r : List Nat), k ≤ n ∧ sv = .int .u64 x ∧ iv = .int .i64 k ∧ x < 18446744073709551616 ∧ allSome ((ps.take k).map fun x => partS x.data.toList low high) = some r ∧ orL r = x ∧ Below w1.heap.size w1 wr) (fun _ iv _ => n - (intOf iv).toNat)
  case atStart => exact ⟨0, 0, [], Nat.zero_le _, rfl, rfl, by decide, rfl, rfl, Below.refl _ _⟩
  case round =>
    obtain ⟨k, x, r, hk, rfl, rfl, hx, hall, hor, hb⟩ := hrel
    have HX := Lib.hid hx
    have HA := Lib.hid hall
    have HOR := Lib.hid hor
    have HBR := Lib.hid hb
    have HER := Lib.hid (HE1.out.keep hb)
    obtain ⟨⟨k0, k1⟩, -⟩ := (HT1.out.keep hb).cells
    clear hx hall hor
    by_cases hlt : k < n
    · have hkl : k < ps.length := by rw [HN.out]; exact hlt
      have hck := (hb.cell (World.block_lt_of_cell? _ _ (HC.out k hkl))).trans (HC.out k hkl)
      have hts : (ps.take (k + 1)).map (fun x => partS x.data.toList low high) = (ps.take k).map (fun x => partS x.data.toList low high) ++ [partS ps[k].data.toList low high] := by
        rw [List.take_succ_eq_append_getElem hkl, List.map_append]; rfl
      have HTS := Lib.hid hts
      have hmem : ps[k] ∈ ps := List.getElem_mem hkl
      obtain ⟨y, hy⟩ : ∃ y, ps[k] = y := ⟨_, rfl⟩
      rw [hy] at hck HTS hmem
      have hys : y.size ≤ 300 := by have := HPL.out.2 y hmem; omega
      have P1 := Lib.hid (PT.out y wr hys HER.out)
      have HMEM := Lib.hid (show partS y.data.toList low high ∈ ps.map fun x => partS x.data.toList low high from List.mem_map.2 ⟨y, hmem, rfl⟩)
      have HLT := Lib.hid (fun m (h : partS y.data.toList low high = some m) => partS_lt h hl (by omega))
      obtain ⟨p, hp⟩ : ∃ p, partS y.data.toList low high = p := ⟨_, rfl⟩
      rw [hp] at P1 HMEM HTS
      simp only [hp] at HLT
      clear hb hts hmem hy hp hkl
      go_wp2_with fail
      refine P1.out.mono ?_
      rintro e w2 ⟨hpe, hb2⟩
      have HB2 := Lib.hid (HBR.out.trans (hb2.mono HBR.out.size))
      clear hb2 hck k0 k1
      cases p with
      | none =>
        obtain ⟨z, rfl⟩ := hpe
        have HO := Lib.hid (show fieldL s.data.toList low high = none from by rw [HF.out, allSome_none HMEM.out]; rfl)
        go_wp2_with fail
        go_ret2
        exact ⟨by rw [HO.out]; exact ⟨z, rfl⟩, HB1.out.trans (HB2.out.mono HB1.out.size)⟩
      | some m =>
        have hpe2 : e = .returned (.tuple #[.int .u64 (m : Nat), .nilIface]) := hpe
        subst hpe2
        have hm := HLT.out m rfl
        have HORB := Lib.hid (u64_or_nat x m HX.out hm)
        have HXM := Lib.hid (show x ||| m < 18446744073709551616 from Nat.or_lt_two_pow (n := 64) HX.out hm)
        have HR := Lib.hid (show allSome ((ps.take (k + 1)).map fun x => partS x.data.toList low high) = some (r ++ [m]) ∧ orL (r ++ [m]) = x ||| m from by
          rw [HTS.out, allSome_snoc, HA.out, orL_snoc, HOR.out]; exact ⟨rfl, rfl⟩)
        clear hpe hm
        go_wp2_with fail
        rw [HORB.out]
        go_roundw
        case rel => exact ⟨k + 1, x ||| m, r ++ [m], by omega, rfl, by go_num, HXM.out, HR.out.1, HR.out.2, HB2.out⟩
        case measure => simp [intOf]; omega
    · have hkn : k = n := by omega
      have HO := Lib.hid (show fieldL s.data.toList low high = some x from by
        have h := HA.out
        rw [hkn, ← HN.out, List.take_length] at h
        rw [HF.out, h, ← HOR.out]; rfl)
      clear hb
      go_wp2_with fail
      go_ret2
      exact ⟨by rw [HO.out]; exact rfl, HB1.out.trans (HBR.out.mono HB1.out.size)⟩
end Go.Proofs.YtccobaohmbilpaaDoor
