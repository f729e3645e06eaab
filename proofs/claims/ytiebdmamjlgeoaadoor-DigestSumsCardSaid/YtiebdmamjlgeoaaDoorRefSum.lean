/-
  The document's own sum, by a contract. Conditions: fewer than 2^40 bytes.
-/
import Derived.Test.YtiebdmamjlgeoaaDoorRefRow
import Derived.Test.YtiebdmamjlgeoaaDoorRefKeys
import Derived.Test.YtiebdmamjlgeoaaDoorSum
namespace Go.Proofs.YtiebdmamjlgeoaaDoor
open Go.RowKit

/-- How long a slice is. -/
def lenOfV : Value → Nat
  | .slice _ n _ => n
  | _ => 0
def pwN (j : Nat) : Nat := 72057594037927936 / 256 ^ j
theorem pwN_succ (j : Nat) : pwN (j + 1) = pwN j / 256 := by unfold pwN; rw [Nat.pow_succ, Nat.div_div_eq_div_mul]
theorem pwN_pos (j : Nat) (h : j < 8) : 0 < pwN j := by
  have h : j = 0 ∨ j = 1 ∨ j = 2 ∨ j = 3 ∨ j = 4 ∨ j = 5 ∨ j = 6 ∨ j = 7 := by omega
  rcases h with rfl | rfl | rfl | rfl | rfl | rfl | rfl | rfl <;> decide
theorem pwN_small (j : Nat) : pwN j ≤ 72057594037927936 := Nat.div_le_self _ _
theorem wideR_take (N j : Nat) (h : j < 8) : (wideR N 8).take (j + 1) = (wideR N 8).take j ++ [UInt8.ofNat (N / pwN j % 256)] := by
  have h : j = 0 ∨ j = 1 ∨ j = 2 ∨ j = 3 ∨ j = 4 ∨ j = 5 ∨ j = 6 ∨ j = 7 := by omega
  rcases h with rfl | rfl | rfl | rfl | rfl | rfl | rfl | rfl <;> simp [wideR, wideL, pwN, List.range_succ]

theorem bytes4 (X : Nat) (h : X < 4294967296) : ∃ d0 d1 d2 d3 : Nat, (X : Int) / 16777216 = (d0 : Int) ∧ ((X : Int) / 65536).tmod 256 = (d1 : Int) ∧ (X : Int) / 65536 % 256 = (d1 : Int) ∧ ((X : Int) / 256).tmod 256 = (d2 : Int) ∧ (X : Int) / 256 % 256 = (d2 : Int) ∧ (X : Int).tmod 256 = (d3 : Int) ∧ (X : Int) % 256 = (d3 : Int) ∧
    d0 < 256 ∧ d1 < 256 ∧ d2 < 256 ∧ d3 < 256 ∧ wideR X 4 = [UInt8.ofNat d0, UInt8.ofNat d1, UInt8.ofNat d2, UInt8.ofNat d3] := by
  refine ⟨X / 16777216, X / 65536 % 256, X / 256 % 256, X % 256, by omega, ?_, by omega, ?_, by omega, ?_, by omega, by omega, by omega, by omega, by omega, ?_⟩
  · rw [Int.tmod_eq_emod_of_nonneg (by omega)]; omega
  · rw [Int.tmod_eq_emod_of_nonneg (by omega)]; omega
  · rw [Int.tmod_eq_emod_of_nonneg (by omega)]; omega
  · have e : X / 16777216 % 256 = X / 16777216 := by omega
    simp [wideR, wideL, List.range_succ, e]
theorem cells4 {d0 d1 d2 d3 : Nat} (h0 : d0 < 256) (h1 : d1 < 256) (h2 : d2 < 256) (h3 : d3 < 256) : Lib.byteCells [UInt8.ofNat d0, UInt8.ofNat d1, UInt8.ofNat d2, UInt8.ofNat d3] = [.int .u8 (d0 : Int), .int .u8 (d1 : Int), .int .u8 (d2 : Int), .int .u8 (d3 : Int)] := by
  show [Value.int .u8 (((UInt8.ofNat d0).toNat : Nat) : Int), .int .u8 (((UInt8.ofNat d1).toNat : Nat) : Int), .int .u8 (((UInt8.ofNat d2).toNat : Nat) : Int), .int .u8 (((UInt8.ofNat d3).toNat : Nat) : Int)] = _
  rw [UInt8.toNat_ofNat_of_lt' h0, UInt8.toNat_ofNat_of_lt' h1, UInt8.toNat_ofNat_of_lt' h2, UInt8.toNat_ofNat_of_lt' h3]

set_option maxRecDepth 100000 in
set_option maxHeartbeats 1000000 in
theorem refSum_any (s : ByteArray) (w : World) (hs : s.size < 1099511627776) :
    Calls Tryd.prog 10 #[.string s] w fun e w' => e = .returned (.string ⟨(shaL s.data.toList).toArray⟩) ∧ Below w.heap.size w w' := by
  obtain ⟨i0, hi, hz0, hz1, hz2⟩ := info_parts infoByte
  have hcv := run_bytes_of_string (P := Tryd.prog) w 9 39 5 s Tryd.underlying9 Tryd.underlying39 Tryd.underlying5
  have HO := Lib.hid (OwnB.conv w w.heap.size s (Nat.le_refl _) (by unfold maxLen; omega))
  have HB := Lib.hid (show Below w.heap.size w (w.drew.alloc (.cells (bytesRow s (grownCap w s.size 0 5)) 5 ((bytesRow s (grownCap w s.size 0 5)).size, (bytesRow s (grownCap w s.size 0 5)).size + 1))) from ((Below.refl w.heap.size w).drew).alloc (Nat.le_refl _) _)
  generalize w.drew.alloc (.cells (bytesRow s (grownCap w s.size 0 5)) 5 ((bytesRow s (grownCap w s.size 0 5)).size, (bytesRow s (grownCap w s.size 0 5)).size + 1)) = w1 at hcv HO HB
  generalize grownCap w s.size 0 5 = cp at hcv HO
  obtain ⟨l, hl⟩ : ∃ l, s.data.toList = l := ⟨_, rfl⟩
  have hll : l.length = s.size := by rw [← hl]; simp
  rw [hl] at HO ⊢
  clear hl
  obtain ⟨B, hBw⟩ : ∃ B, w.heap.size = B := ⟨_, rfl⟩
  rw [hBw] at hcv HO HB ⊢
  go_enter Tryd.func10, Tryd.ntmps10
  have hw1 : B ≤ w1.heap.size := by have := HB.out.size; omega
  have hl0 : (fillL l 0) = l ++ [128] := rfl
  go_wp2_with (at_builtin; refine wpList_append_B _ rfl _ _ rfl B B cp l s.size rfl hll (HO.out.alloc _) ⟨w1.heap.size, 0, none⟩ 1 128 rfl ?c1 ?c2 ?c3 ?_)
  case c1 => rw [addr0_add, World.cell?_alloc_at _ _ _ _ rfl]; rfl
  case c2 => omega
  case c3 => simp; omega
  intro g2 c2 w2 ho2 hb2
  have HO2 := Lib.hid (show OwnB w2 B g2 c2 (fillL l 0) from ho2)
  have HB2 := Lib.hid ((HB.out.alloc hw1 _).trans hb2)
  clear ho2 hb2 HO HB hcv
  go_wp2_with fail
  go_loopw [3] (fun bv wr => ∃ z g c : Nat, z ≤ padN l.length ∧ bv = .slice (some ⟨g, 0, none⟩) (s.size + 1 + z) c ∧ OwnB wr B g c (fillL l z) ∧ Below B w wr) (fun bv _ => s.size + 1 + 64 - lenOfV bv)
  case atStart => exact ⟨0, g2, c2, Nat.zero_le _, rfl, HO2.out, HB2.out⟩
  case round =>
    clear HO2 HB2
    obtain ⟨z, g, c, hz, rfl, ho, hb⟩ := hrel
    have hp : padN l.length < 64 := Nat.mod_lt _ (by decide)
    have hp2 : (s.size + 1 + padN l.length) % 64 = 56 := by rw [← hll]; unfold padN; omega
    have HP2 := Lib.hid hp2
    have HPN := Lib.hid (show fillL l (padN l.length) ++ wideR (8 * l.length) 8 = padL l from rfl)
    have HFS := Lib.hid (fillL_succ l z)
    have hfl := fillL_length l z
    have HO := Lib.hid ho
    have HB := Lib.hid hb
    have hbs : B ≤ wr.heap.size := by have := hb.size; omega
    clear ho hb hp2
    generalize padN l.length = pn at hz hp HP2 HPN
    by_cases hlt2 : z < pn
    · have t1 : ((((s.size + 1 + z : Nat) : Int) % 64) != 56) = true := by rw [bne_iff_ne]; have := HP2.out; omega
      go_wp2_with (at_builtin; refine wpList_append_B _ rfl _ _ rfl B g c (fillL l z) (s.size + 1 + z) rfl (by omega) (HO.out.alloc _) ⟨wr.heap.size, 0, none⟩ 1 0 rfl ?c1 ?c2 ?c3 ?_)
      case c1 => rw [addr0_add, World.cell?_alloc_at _ _ _ _ rfl]; rfl
      case c2 => omega
      case c3 => simp; omega
      intro g3 c3 w3 ho3 hb3
      have HO3 := Lib.hid (show OwnB w3 B g3 c3 (fillL l (z + 1)) by rw [HFS.out]; exact ho3)
      have HB3 := Lib.hid ((HB.out.alloc hbs _).trans hb3)
      clear ho3 hb3 HO HB t1
      go_wp2_with fail
      go_roundw
      case rel => exact ⟨z + 1, g3, c3, by omega, rfl, HO3.out, HB3.out⟩
      case measure => simp [lenOfV]; omega
    · have hzp : pn ≤ z := by omega
      have t1 : ((((s.size + 1 + z : Nat) : Int) % 64) != 56) = false := by rw [bne_eq_false_iff_eq]; have := HP2.out; have : z = pn := by omega
                                                                            omega
      obtain rfl : z = pn := by omega
      clear HP2
      obtain ⟨F, hF⟩ : ∃ F, fillL l z = F := ⟨_, rfl⟩
      have hFl : F.length = s.size + 1 + z := by rw [← hF]; omega
      rw [hF] at HO HPN
      clear hF HFS hfl hlt2
      obtain ⟨WR, hWR⟩ : ∃ WR, wideR (8 * l.length) 8 = WR := ⟨_, rfl⟩
      have hWl : WR.length = 8 := by rw [← hWR, wideR_length]
      have HWT := Lib.hid (show ∀ j, j < 8 → WR.take (j + 1) = WR.take j ++ [UInt8.ofNat (8 * s.size / pwN j % 256)] from fun j hj => by rw [← hWR, ← hll]; exact wideR_take (8 * l.length) j hj)
      rw [hWR] at HPN
      clear hWR
      go_wp2_with fail
      rw [show ((((s.size : Int) + 1 + (z : Int)) % 64) != 56) = false by have := t1; simpa using this]
      go_loopw [3, 5, 6] (fun bv pv iv wr => ∃ j g c : Nat, j ≤ 8 ∧ iv = .int .i64 j ∧ pv = .int .u64 ((pwN j : Nat) : Int) ∧ bv = .slice (some ⟨g, 0, none⟩) (s.size + 1 + z + j) c ∧ OwnB wr B g c (F ++ WR.take j) ∧ Below B w wr) (fun _ _ i _ => 8 - (intOf i).toNat)
      case atStart => exact ⟨0, g, c, Nat.zero_le _, rfl, rfl, rfl, by simpa using HO.out, HB.out⟩
      case round =>
        clear HO HB hbs hzp t1
        obtain ⟨j, g, c, hj, rfl, rfl, rfl, ho, hb⟩ := hrel
        have hbs : B ≤ wr.heap.size := by have := hb.size; omega
        have HO := Lib.hid ho
        have HB := Lib.hid hb
        clear ho hb
        by_cases hlt8 : j < 8
        · have hpp := pwN_pos j hlt8
          have hps := pwN_small j
          have HT := Lib.hid (HWT.out j hlt8)
          have HS := Lib.hid (pwN_succ j)
          generalize pwN j = pj at hpp hps HT HS
          have hjl : (F ++ WR.take j).length = s.size + 1 + z + j := by
            rw [List.length_append, List.length_take, hWl, hFl, Nat.min_eq_left (by omega)]
          obtain ⟨d, hd, hd256, hde⟩ : ∃ d : Nat, ((s.size : Int) * 8 / (pj : Int)).tmod 256 = (d : Int) ∧ d < 256 ∧ d = 8 * s.size / pj % 256 := by
            refine ⟨8 * s.size / pj % 256, ?_, Nat.mod_lt _ (by decide), rfl⟩
            rw [show (s.size : Int) * 8 = ((8 * s.size : Nat) : Int) by omega, ← Int.natCast_ediv, Int.tmod_eq_emod_of_nonneg (Int.natCast_nonneg _)]
            rfl
          rw [← hde] at HT
          have HDE := Lib.hid hde
          have hu : (((UInt8.ofNat d).toNat : Nat) : Int) = (d : Int) := by rw [UInt8.toNat_ofNat_of_lt' (show d < 256 from hd256)]
          have HU := Lib.hid hu
          clear hde hu
          go_wp2_with (at_builtin; refine wpList_append_B _ rfl _ _ rfl B g c (F ++ WR.take j) (s.size + 1 + z + j) rfl hjl (HO.out.alloc _) ⟨wr.heap.size, 0, none⟩ 1 (UInt8.ofNat d) rfl ?c1 ?c2 ?c3 ?_)
          case c1 => rw [addr0_add, World.cell?_alloc_at _ _ _ _ rfl, HU.out]; rfl
          case c2 => omega
          case c3 => simp; omega
          intro g3 c3 w3 ho3 hb3
          have HO3 := Lib.hid (show OwnB w3 B g3 c3 (F ++ WR.take (j + 1)) by rw [HT.out]; exact ho3)
          have HB3 := Lib.hid ((HB.out.alloc hbs _).trans hb3)
          clear ho3 hb3 HO HB hd
          go_wp2_with fail
          go_roundw
          case rel => exact ⟨j + 1, g3, c3, by omega, by go_num, by rw [HS.out]; go_num, rfl, HO3.out, HB3.out⟩
          case measure => simp [intOf]; omega
        · have hj8 : 8 ≤ j := by omega
          have HOP := Lib.hid (show OwnB wr B g c (padL l) by
            obtain rfl : j = 8 := by omega
            have := HO.out
            rwa [List.take_of_length_le (by omega), HPN.out] at this)
          have hP : (padL l).length = s.size + 1 + z + j := by rw [← HPN.out, List.length_append, hWl, hFl]; omega
          have hPW := padL_whole l
          obtain ⟨M, hM⟩ : ∃ M, padL l = M := ⟨_, rfl⟩
          have HSHA := Lib.hid (show shaL l = outS (chain M (M.length / 64)) by rw [← hM]; rfl)
          rw [hM] at HOP hP hPW
          obtain ⟨L, hL⟩ : ∃ L, s.size + 1 + z + j = L := ⟨_, rfl⟩
          have hL64 : L < 4398046511104 := by omega
          clear HO hM HPN hFl hz hp
          generalize hQJ : pwN j = pz
          clear hQJ hWl HWT
          go_wp2_with fail
          rw [show decide ((j : Int) < 8) = false from decide_eq_false (by omega)]
          refine (first_ref _).mono ?_
          rintro e w2 ⟨⟨gh, rfl, hrh, hgh⟩, hb2⟩
          have HOP2 := Lib.hid (HOP.out.kept hb2 HOP.out.lt)
          have HB2 := Lib.hid (HB.out.trans (hb2.mono hbs))
          have HRH := Lib.hid hrh
          have hbs2 : B ≤ w2.heap.size := by have := hb2.size; omega
          clear hb2 hrh HOP HB
          go_wp2_with fail
          refine (keys_ref _).mono ?_
          rintro e w3 ⟨⟨gk, rfl, hrk, hgk⟩, hb3⟩
          have HOP3 := Lib.hid (HOP2.out.kept hb3 HOP2.out.lt)
          have HB3 := Lib.hid (HB2.out.trans (hb3.mono hbs2))
          have HRH3 := Lib.hid (HRH.out.keep HRH.out.1 hb3)
          have HRK := Lib.hid hrk
          have hbs3 : B ≤ w3.heap.size := by have := hb3.size; omega
          clear hb3 hrk HOP2 HB2 HRH
          go_wp2_with fail
          have hML : M.length = L := by omega
          have hroom : L ≤ c := by have := HOP3.out.room; omega
          have hcm : c ≤ 9223372036854775807 := by have := HOP3.out.small; unfold maxLen at this; omega
          have HQ := Lib.hid (show M.length / 64 * 64 = L by omega)
          obtain ⟨Q, hQ⟩ : ∃ Q, M.length / 64 = Q := ⟨_, rfl⟩
          rw [hQ] at HSHA HQ
          have hQ64 : Q * 64 = L := HQ.out
          clear hP hPW HQ hL hQ
          go_loopw [7, 9] (fun hv av wr => ∃ k a gh ch : Nat, a = 64 * k ∧ k ≤ Q ∧ av = .int .i64 a ∧ hv = .slice (some ⟨gh, 0, none⟩) 8 ch ∧ RowU wr gh (chain M k).toL ∧ OwnB wr B g c M ∧ RowU wr gk keysL ∧ Below B w wr) (fun _ i _ => L - (intOf i).toNat)
          case atStart => exact ⟨0, 0, gh, 8, rfl, Nat.zero_le _, rfl, rfl, HRH3.out, HOP3.out, HRK.out, HB3.out⟩
          case round =>
            clear HRH3 HOP3 HRK HB3 hbs3 hbs2 hgh hgk hbs
            obtain ⟨k, a, gh, ch, ha, hk, rfl, rfl, hrh, ho, hrk, hb⟩ := hrel
            have hbs : B ≤ wr.heap.size := by have := hb.size; omega
            by_cases hlt9 : a < L
            · have hal : a + 64 ≤ L := by omega
              have hac : a + 64 ≤ c := by omega
              obtain ⟨T, hT⟩ : ∃ T, (M.drop (64 * k)).take 64 = T := ⟨_, rfl⟩
              have hTl : T.length = 64 := by rw [← hT, List.length_take, List.length_drop]; omega
              have hcv := run_convert_bytes_back (P := Tryd.prog) wr 39 9 5 ⟨g, a, none⟩ (c - a) T Tryd.underlying39 Tryd.underlying5 Tryd.underlying9 (fun i hi => by
                have h1 := ho.cell (a + i) (by omega)
                have e : (⟨g, a, none⟩ : Addr).add i = ⟨g, a + i, none⟩ := by unfold Addr.add; split <;> simp_all
                rw [e, h1]
                congr 2
                subst ha
                simp [← hT])
              rw [hTl] at hcv
              have HCH := Lib.hid (show blockS (chain M k) T = chain M (k + 1) by rw [chain_succ, hT])
              have BL := Lib.hid (block_any (chain M k) gh ch gk 64 ⟨T.toArray⟩ wr (chain_ok M k) hrh hrk (by show T.toArray.size = 64; simpa using hTl))
              obtain ⟨tb, htb⟩ : ∃ tb : ByteArray, (⟨T.toArray⟩ : ByteArray) = tb := ⟨_, rfl⟩
              have HTB := Lib.hid (show tb.data.toList = T by rw [← htb])
              rw [htb] at hcv BL
              rw [HTB.out, HCH.out] at BL
              have HO := Lib.hid ho
              have HK := Lib.hid hrk
              have HB := Lib.hid hb
              have hgkl : gk < wr.heap.size := hrk.1
              have HA := Lib.hid ha
              have hkQ : k + 1 ≤ Q := by omega
              clear hT htb hrh ho hrk hb HCH HTB ha
              go_wp2_with fail
              refine BL.out.mono ?_
              rintro e w4 ⟨⟨gh4, ch4, rfl, hr4, hg4⟩, hb4⟩
              have HR4 := Lib.hid hr4
              have HO4 := Lib.hid (HO.out.kept hb4 HO.out.lt)
              have HK4 := Lib.hid (HK.out.keep hgkl hb4)
              have HB4 := Lib.hid (HB.out.trans (hb4.mono hbs))
              clear hr4 hb4 BL HO HK HB hcv
              go_wp2_with fail
              go_roundw
              case rel => exact ⟨k + 1, a + 64, gh4, ch4, by have := HA.out; omega, hkQ, by go_num, rfl, HR4.out, HO4.out, HK4.out, HB4.out⟩
              case measure => simp [intOf]; omega
            · have hLa : L ≤ a := by omega
              have HR := Lib.hid (show RowU wr gh (chain M Q).toL by
                obtain rfl : k = Q := by omega
                exact hrh)
              have HB := Lib.hid hb
              have okst := Lib.hid (chain_ok M Q)
              have HOUT := Lib.hid (show (⟨(shaL l).toArray⟩ : ByteArray) = ⟨(outN (chain M Q).toL 8).toArray⟩ by rw [HSHA.out]; rfl)
              clear hrh ho hrk hb HSHA ha
              generalize chain M Q = st at HR okst HOUT
              have HOK := Lib.hid (show ∀ k, k < 8 → U32 (st.toL.getD k 0) from fun k hk => by
                have o := okst.out
                have h : k = 0 ∨ k = 1 ∨ k = 2 ∨ k = 3 ∨ k = 4 ∨ k = 5 ∨ k = 6 ∨ k = 7 := by omega
                rcases h with rfl | rfl | rfl | rfl | rfl | rfl | rfl | rfl
                · exact o.a
                · exact o.b
                · exact o.c
                · exact o.d
                · exact o.e
                · exact o.f
                · exact o.g
                · exact o.h)
              obtain ⟨wo, rfl⟩ : ∃ wo : World, wo = wr := ⟨_, rfl⟩
              go_wp2_with fail
              go_loopw [10, 63] (fun v i wr => ∃ k : Nat, k ≤ 8 ∧ i = .int .i64 k ∧ (∃ g c, v = .slice (some ⟨g, 0, none⟩) (4 * k) c ∧ wo.heap.size ≤ g) ∧ wr.ownsRow wo.heap.size 5 1 v (4 * k) (Lib.byteCells (outN st.toL k)) ∧ Below wo.heap.size wo wr) (fun _ i _ => 8 - (intOf i).toNat)
              case atStart => exact ⟨0, Nat.zero_le _, rfl, ⟨_, _, rfl, Nat.le_refl _⟩, World.ownsRow_lit wo #[] 0 (Nat.le_refl _) (Nat.zero_le _) rfl, (Below.refl _ _).alloc (Nat.le_refl _) _⟩
              case round =>
                obtain ⟨q, hq, rfl, ⟨g6, c6, rfl, hg6⟩, ho6, hb6⟩ := hrel
                have hbs6 := hb6.size
                by_cases hlt8 : q < 8
                · have ch1 := (HR.out.keep HR.out.1 hb6).2 q (by show q < 8; exact hlt8)
                  obtain ⟨x0, x1⟩ := HOK.out q hlt8
                  have HS := Lib.hid (outN_succ st.toL q (by show q < 8; exact hlt8))
                  obtain ⟨X, hX⟩ := Int.eq_ofNat_of_zero_le x0
                  rw [hX] at ch1 HS x1
                  rw [Int.toNat_natCast] at HS
                  have x2 : X < 4294967296 := by omega
                  clear x0 x1 hX
                  obtain ⟨d0, d1, d2, d3, e0, e1, f1, e2, f2, e3, f3, l0, l1, l2, l3, hw⟩ := bytes4 X x2
                  rw [hw] at HS
                  have HO6 := Lib.hid ho6
                  have HB6 := Lib.hid hb6
                  clear ho6 hb6 hw
                  go_wp2_with (at_builtin; refine wpList_append_own _ rfl _ _ 39 rfl wo.heap.size 5 i0 (.int .u8 0) 1 1 Tryd.underlying39 hi hz0 hz1 hz2 rfl (by decide) _ (4 * q) (Lib.byteCells (outN st.toL q)) rfl (HO6.out.alloc _) ⟨wr.heap.size, 0, none⟩ 4 4 [.int .u8 (d0 : Int), .int .u8 (d1 : Int), .int .u8 (d2 : Int), .int .u8 (d3 : Int)] rfl rfl ?c1 ?c2 ?c3 ?c4 ?c5 ?_)
                  case c1 =>
                    intro i u hi'
                    match i, hi' with
                    | 0, hi' => simp at hi'; subst hi'; rw [addr0_add, World.cell?_alloc_at _ _ _ _ rfl]; rfl
                    | 1, hi' => simp at hi'; subst hi'; rw [addr0_add, World.cell?_alloc_at _ _ _ _ rfl]; rfl
                    | 2, hi' => simp at hi'; subst hi'; rw [addr0_add, World.cell?_alloc_at _ _ _ _ rfl]; rfl
                    | 3, hi' => simp at hi'; subst hi'; rw [addr0_add, World.cell?_alloc_at _ _ _ _ rfl]; rfl
                    | i + 4, hi' => simp at hi'
                  case c2 => intro u hu; simp at hu; rcases hu with rfl | rfl | rfl | rfl <;> rfl
                  case c3 => unfold maxLen; omega
                  case c4 => omega
                  case c5 => simp; omega
                  intro v' w3 hown3 hgrow3 _
                  have hbb3 := (HB6.out.alloc hbs6 _).grown hgrow3 (by simp; omega) (fun k hk => by cases hk; exact hg6)
                  have hv' : ∃ g c, v' = .slice (some ⟨g, 0, none⟩) (4 * (q + 1)) c ∧ wo.heap.size ≤ g := by
                    rcases hown3.2 with ⟨_, h0⟩ | ⟨g, c', cur, hv, _⟩
                    · omega
                    · exact ⟨_, _, hv, (hown3.lt g (by rw [hv]; rfl)).1⟩
                  obtain ⟨g', c', rfl, hg'⟩ := hv'
                  have HO7 := Lib.hid (show w3.ownsRow wo.heap.size 5 1 (.slice (some ⟨g', 0, none⟩) (4 * (q + 1)) c') (4 * (q + 1)) (Lib.byteCells (outN st.toL (q + 1))) by
                    rw [HS.out, Lib.byteCells_append, cells4 l0 l1 l2 l3]
                    exact hown3)
                  have HB7 := Lib.hid hbb3
                  clear hown3 hgrow3 hbb3 HO6 HB6 e0 e1 f1 e2 f2 e3 f3
                  go_wp2_with fail
                  go_roundw
                  case rel => exact ⟨q + 1, by omega, by go_num, ⟨_, _, rfl, hg'⟩, HO7.out, HB7.out⟩
                  case measure => simp [intOf]; omega
                · have hq8 := Lib.hid (show q = 8 by omega)
                  have hq8' : 8 ≤ q := by omega
                  have hlen := outN_length st.toL q hq
                  have hcv := run_convert_bytes_back (P := Tryd.prog) wr 39 9 5 ⟨g6, 0, none⟩ c6 (outN st.toL q) Tryd.underlying39 Tryd.underlying5 Tryd.underlying9 (fun i hi => by
                    rw [hlen] at hi
                    have := ho6.cellAt i (by omega)
                    rw [addr0_add, this, List.getElem?_eq_getElem (by rw [Lib.byteCells_length, hlen]; exact hi)]
                    simp [Lib.byteCells])
                  rw [hlen] at hcv
                  have HBF := Lib.hid (HB.out.trans (hb6.mono hbs))
                  clear ho6 hb6 hlen
                  go_wp2_with fail
                  go_ret
                  exact ⟨by rw [HOUT.out, ← hq8.out]; rfl, HBF.out⟩
end Go.Proofs.YtiebdmamjlgeoaaDoor
