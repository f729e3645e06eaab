/-
  OctetLong returns true at every input: the walk. Conditions: the package-level errors lie where they lie.
-/
import Derived.Test.YtibfpffoddhooaaDoorLawApart
namespace Go.Proofs.YtibfpffoddhooaaDoor
open Go.RowKit

/-- Does one of the first k texts end at j, or is j 0? -/
def endsTo (L : List ByteArray) (j k : Nat) : Bool := (List.range (k + 1)).any fun i => decide ((bindL (L.take i)).length = j)
theorem endsTo_succ (L : List ByteArray) (j k : Nat) : endsTo L j (k + 1) = (endsTo L j k || decide ((bindL (L.take (k + 1))).length = j)) := by
  unfold endsTo
  rw [List.range_succ, List.any_append]
  simp
theorem endsTo_iff (L : List ByteArray) (j k : Nat) : endsTo L j k = true ↔ ∃ i, i ≤ k ∧ (bindL (L.take i)).length = j := by
  unfold endsTo
  rw [List.any_eq_true]
  constructor
  · rintro ⟨i, hi, h⟩
    exact ⟨i, by have := List.mem_range.1 hi; omega, by simpa using h⟩
  · rintro ⟨i, hi, h⟩
    exact ⟨i, List.mem_range.2 (by omega), by simpa using h⟩
theorem endsTo_zero (L : List ByteArray) (j : Nat) : ((j : Int) == 0) = endsTo L j 0 := by
  rw [Bool.eq_iff_iff, beq_iff_eq, endsTo_iff]
  constructor
  · intro h
    refine ⟨0, Nat.le_refl _, ?_⟩
    have : j = 0 := by omega
    subst this
    rfl
  · rintro ⟨i, hi, h⟩
    obtain rfl : i = 0 := by omega
    have : (bindL (L.take 0)).length = 0 := rfl
    omega
theorem bindL_take_succ (L : List ByteArray) (k : Nat) (h : k < L.length) : (bindL (L.take (k + 1))).length = (bindL (L.take k)).length + (2 + L[k].size) := by
  rw [List.take_succ_eq_append_getElem h, bindL_snoc, List.length_append, List.length_append, wideL_length, toList_size]

set_option maxRecDepth 100000 in
set_option maxHeartbeats 4000000 in
theorem long_walk (aD aS aZ : Addr) (v : Value) (ss : List ByteArray) (p : Int) (w : World) (he : Env w aD aS aZ) (hr : StrRow w v ss) (hz : ∀ s ∈ ss, s.size ≤ maxLen) (hp : -9223372036854775808 ≤ p ∧ p ≤ 9223372036854775807) :
    Calls Tryd.prog 7 #[v, .int .i64 p] w fun e w' => e = .returned (.bool true) ∧ Below w.heap.size w w' := by
  obtain ⟨a1, c1, rfl⟩ := strs_shape hr
  have F1 := Lib.hid (few_any _ ss w hr hz)
  have HE := Lib.hid he
  clear he hr hz
  go_enter Tryd.func7, Tryd.ntmps7
  go_wp2_with fail
  refine F1.out.mono ?_
  rintro ev w1 ⟨⟨v1, rfl, hL, x1, n1, d1, rfl⟩, hb1⟩
  have HE1 := Lib.hid (HE.out.keep hb1)
  have B1 := Lib.hid hb1
  clear hb1 F1
  obtain ⟨L, hLe⟩ : ∃ L, fewB ss = L := ⟨_, rfl⟩
  have hLz : ∀ s ∈ L, s.size ≤ 4100 := by rw [← hLe]; exact fewB_size ss
  rw [hLe] at hL
  have BL := Lib.hid (Bind_any aD aS aZ (.slice (some x1) n1 d1) L w1 HE1.out hL (fun s hs => by have := hLz s hs; unfold maxLen; omega))
  have HL1 := Lib.hid hL
  clear hLe hLz HE hL
  by_cases mL : mayB L = true
  · have iL := mayB_iff mL
    have e1 : bindOut L = (⟨(bindL L).toArray⟩, 0) := by simp [bindOut, mL]
    have hAz : (⟨(bindL L).toArray⟩ : ByteArray).size ≤ 4098 * 64 := by
      show (bindL L).toArray.size ≤ _
      rw [List.size_toArray]; exact Nat.le_trans (bindL_length_le L iL.1) (Nat.mul_le_mul_left _ iL.2)
    have hAl := Lib.hid (show (⟨(bindL L).toArray⟩ : ByteArray).data.toList = bindL L from rfl)
    obtain ⟨A, hA⟩ : ∃ A : ByteArray, ⟨(bindL L).toArray⟩ = A := ⟨_, rfl⟩
    rw [hA] at e1 hAz hAl
    rw [e1] at BL
    have IL := Lib.hid iL
    have hL64 := iL.2
    clear mL e1 hA iL
    have q1 : -((A.size : Int) + 1) < p.tmod ((A.size : Int) + 1) := by have := Int.lt_tmod_of_pos p (show (0 : Int) < (A.size : Int) + 1 by omega); omega
    have q2 : p.tmod ((A.size : Int) + 1) < (A.size : Int) + 1 := Int.tmod_lt_of_pos p (by omega)
    go_wp2_with fail
    refine BL.out.mono ?_
    rintro ev w2 ⟨rfl, hb2⟩
    have HE2 := Lib.hid (HE1.out.keep hb2)
    have HL2 := Lib.hid (HL1.out.keep hb2)
    have B2 := Lib.hid (B1.out.trans (hb2.mono B1.out.size))
    clear hb2 HE1 HL1 B1 BL
    obtain ⟨j, hj⟩ := Int.eq_ofNat_of_zero_le (Int.emod_nonneg (p.tmod ((A.size : Int) + 1) + (A.size : Int) + 1) (show ((A.size : Int) + 1) ≠ 0 by omega))
    have hjs : j ≤ A.size := by have := Int.emod_lt_of_pos (p.tmod ((A.size : Int) + 1) + (A.size : Int) + 1) (show (0 : Int) < (A.size : Int) + 1 by omega); omega
    have hn1 : n1 = L.length := by
      obtain ⟨a, c, e⟩ := strs_shape HL2.out
      simp only [Value.slice.injEq] at e
      exact e.2.1
    subst hn1
    have hcs : ∃ b o cap, (Value.slice (some x1) L.length d1) = .slice (some ⟨b, o, none⟩) L.length cap ∧ ∀ i (h : i < L.length), w2.cell? ⟨b, o + i, none⟩ = some (.string L[i]) := by
      rcases HL2.out with ⟨h0, _⟩ | ⟨b, o, cap, h1, _, _, h4⟩
      · simp at h0
      · exact ⟨b, o, cap, h1, h4⟩
    obtain ⟨b, o, cap, hvs, hcs⟩ := hcs
    have HC := Lib.hid hcs
    clear hcs
    simp only [Value.slice.injEq, Option.some.injEq, true_and] at hvs
    obtain ⟨rfl, rfl⟩ := hvs
    have e0 := endsTo_zero L j
    have hnow : ∀ k, (bindL (L.take k)).length ≤ 4098 * 64 := fun k => by
      have h1 := bindL_length_le (L.take k) (fun s hs => IL.out.1 s (List.mem_of_mem_take hs))
      have h2 : (L.take k).length ≤ 64 := by rw [List.length_take]; omega
      exact Nat.le_trans h1 (Nat.mul_le_mul_left _ h2)
    have HN := Lib.hid hnow
    clear hnow
    go_wp2_with fail
    go_loop [7, 8, 40] (fun en nw i => ∃ k now : Nat, k ≤ L.length ∧ i = .int .i64 k ∧ now = (bindL (L.take k)).length ∧ nw = .int .i64 now ∧ en = .bool (endsTo L j k)) (fun _ _ i => L.length - (intOf i).toNat)
    case atStart => exact ⟨0, 0, Nat.zero_le _, rfl, rfl, rfl, rfl⟩
    case round =>
      obtain ⟨k, now, hk, rfl, hnw, rfl, rfl⟩ := hrel
      have HNW := Lib.hid hnw
      have hnz : now ≤ 4098 * 64 := by rw [hnw]; exact HN.out k
      clear hnw
      by_cases hlt : k < L.length
      · have hc := HC.out k hlt
        have hs := Lib.hid (endsTo_succ L j k)
        have hb := Lib.hid (bindL_take_succ L k hlt)
        have hz := IL.out.1 L[k] (List.getElem_mem hlt)
        obtain ⟨y, hy⟩ : ∃ y, L[k] = y := ⟨_, rfl⟩
        rw [hy] at hc hb hz
        obtain ⟨en, hen⟩ : ∃ en, endsTo L j k = en := ⟨_, rfl⟩
        rw [hen] at hs ⊢
        have HNX := Lib.hid (show now + (2 + y.size) = (bindL (L.take (k + 1))).length by rw [hb.out, HNW.out])
        clear hy hen hb
        cases en
        · by_cases hx : now + (2 + y.size) = j
          · have t : (((now : Nat) : Int) + (2 + (y.size : Int)) == (j : Int)) = true := by rw [beq_iff_eq]; omega
            have hsn := Lib.hid (show endsTo L j (k + 1) = true by rw [hs.out, ← HNX.out, hx]; simp)
            clear hx
            go_wp2_with fail
            go_round
            case rel => exact ⟨k + 1, now + (2 + y.size), by omega, by go_num, HNX.out, by go_num, by rw [hsn.out]⟩
            case measure => simp [intOf]; omega
          · have t : (((now : Nat) : Int) + (2 + (y.size : Int)) == (j : Int)) = false := by rw [beq_eq_false_iff_ne]; omega
            have hsn := Lib.hid (show endsTo L j (k + 1) = false by rw [hs.out, ← HNX.out]; simp [hx])
            clear hx
            go_wp2_with fail
            go_round
            case rel => exact ⟨k + 1, now + (2 + y.size), by omega, by go_num, HNX.out, by go_num, by rw [hsn.out]⟩
            case measure => simp [intOf]; omega
        · have hsn := Lib.hid (show endsTo L j (k + 1) = true by rw [hs.out]; rfl)
          go_wp2_with fail
          go_round
          case rel => exact ⟨k + 1, now + (2 + y.size), by omega, by go_num, HNX.out, by go_num, by rw [hsn.out]⟩
          case measure => simp [intOf]; omega
      · obtain rfl : k = L.length := by omega
        have hcut := loose_cut L j [] ((A.extract 0 j).size + 1) IL.out.1 (by simpa using IL.out.2) (by rw [← hAl.out, toList_size]; exact hjs) (by rw [ByteArray.size_extract]; omega)
        have hdat : (A.extract 0 j).data.toList = (bindL L).take j := by rw [Lib.extract_data, hAl.out]; simp
        have hlb : looseB (A.extract 0 j) = looseGo ((A.extract 0 j).size + 1) ((bindL L).take j) [] := by unfold looseB; rw [hdat]
        rw [← hlb] at hcut
        have hcase : (endsTo L j L.length = true ∧ ∃ k, k ≤ L.length ∧ looseB (A.extract 0 j) = .inl (L.take k)) ∨ (endsTo L j L.length = false ∧ looseB (A.extract 0 j) = .inr 3) := by
          rcases hcut with ⟨k, hk, hkl, hg⟩ | ⟨hno, hg⟩
          · exact Or.inl ⟨(endsTo_iff _ _ _).2 ⟨k, hk, hkl⟩, k, hk, by simpa using hg⟩
          · refine Or.inr ⟨?_, hg⟩
            rw [Bool.eq_false_iff]
            intro h
            obtain ⟨i, hi, h⟩ := (endsTo_iff _ _ _).1 h
            exact hno i hi h
        have hxz : (A.extract 0 j).size ≤ 1099511627776 := by rw [ByteArray.size_extract]; omega
        obtain ⟨x, hx⟩ : ∃ x, A.extract 0 j = x := ⟨_, rfl⟩
        rw [hx] at hcase hxz
        have P := Lib.hid (Loose_any aD aS aZ x w2 HE2.out hxz)
        have HCC := Lib.hid hcase
        clear hcut hdat hlb hcase hxz
        obtain ⟨en, hen⟩ : ∃ en, endsTo L j L.length = en := ⟨_, rfl⟩
        rw [hen] at HCC ⊢
        clear hen e0
        go_wp2_with fail
        refine P.out.mono ?_
        rintro ev w3 (⟨ss', v3, hl, _, hr3, rfl, hb3⟩ | ⟨m, hl, rfl, hb3⟩)
        · have hok : en = true ∧ ss'.length ≤ L.length := by
            rcases HCC.out with ⟨h1, k, hk, h2⟩ | ⟨_, h2⟩
            · rw [h2] at hl; injection hl with hl
              exact ⟨h1, by rw [← hl, List.length_take]; omega⟩
            · rw [h2] at hl; cases hl
          obtain ⟨rfl, hle⟩ := hok
          obtain ⟨a3, c3, rfl⟩ := strs_shape hr3
          have HE3 := Lib.hid (HE2.out.keep hb3)
          have B3 := Lib.hid (B2.out.trans (hb3.mono B2.out.size))
          clear hl hr3 hb3 P HCC
          go_wp2_with fail
          refine (alive_any aD aS aZ w3 HE3.out).mono ?_
          rintro ev w5 ⟨rfl, hb5⟩
          go_wp2_with fail
          go_ret
          exact ⟨rfl, B3.out.trans (hb5.mono B3.out.size)⟩
        · have hok : en = false ∧ m = 3 := by
            rcases HCC.out with ⟨_, k, hk, h2⟩ | ⟨h1, h2⟩
            · rw [h2] at hl; cases hl
            · rw [h2] at hl; injection hl with hl
              exact ⟨h1, hl.symm⟩
          obtain ⟨rfl, rfl⟩ := hok
          have HE3 := Lib.hid (HE2.out.keep hb3)
          have B3 := Lib.hid (B2.out.trans (hb3.mono B2.out.size))
          clear hl hb3 P HCC
          go_wp2_with fail
          refine (alive_any aD aS aZ w3 HE3.out).mono ?_
          rintro ev w5 ⟨rfl, hb5⟩
          go_wp2_with fail
          go_ret
          exact ⟨rfl, B3.out.trans (hb5.mono B3.out.size)⟩
  · have e1 : bindOut L = (⟨#[]⟩, 2) := by simp [bindOut, mL]
    rw [e1] at BL
    clear e1 mL
    go_wp2_with fail
    refine BL.out.mono ?_
    rintro ev w2 ⟨rfl, hb2⟩
    have HE2 := Lib.hid (HE1.out.keep hb2)
    have B2 := Lib.hid (B1.out.trans (hb2.mono B1.out.size))
    clear hb2
    go_wp2_with fail
    refine (alive_any aD aS aZ w2 HE2.out).mono ?_
    rintro ev w5 ⟨rfl, hb5⟩
    go_wp2_with fail
    go_ret
    exact ⟨rfl, B2.out.trans (hb5.mono B2.out.size)⟩
end Go.Proofs.YtibfpffoddhooaaDoor
