/-
  The document's own primes, by a contract. Conditions: n of them are below K + 2, fewer below any less.
-/
import Derived.Test.YtiebdmamjlgeoaaDoorRoots
import Derived.Test.YtiebdmamjlgeoaaDoorRefBlock
namespace Go.Proofs.YtiebdmamjlgeoaaDoor
open Go.RowKit

theorem infoInt : (Tryd.prog.info? 3).map (fun i => (i.zero, i.size, i.bytes)) = some (some (.int .i64 0), 1, 8) := by kernel_rfl
def intC (l : List Nat) : List Value := l.map fun (n : Nat) => Value.int .i64 (n : Int)
theorem intC_length (l : List Nat) : (intC l).length = l.length := by simp [intC]
theorem intC_append (l m : List Nat) : intC (l ++ m) = intC l ++ intC m := by simp [intC]
/-- A row of numbers lies at g. -/
def RowN (w : World) (g : Nat) (l : List Nat) : Prop := g < w.heap.size ∧ ∀ i, i < l.length → w.cell? ⟨g, i, none⟩ = some (.int .i64 ((l.getD i 0 : Nat) : Int))
theorem RowN.keep {w w' : World} {g n : Nat} {l : List Nat} (h : RowN w g l) (hn : g < n) (hb : Below n w w') : RowN w' g l :=
  ⟨Nat.lt_of_lt_of_le h.1 hb.size, fun i hi => by rw [World.cell?_of_block (hb.block g hn)]; exact h.2 i hi⟩
theorem pbL_small (k q : Nat) (h : q ∈ pbL k) : 2 ≤ q ∧ q < k + 2 := by
  induction k with
  | zero => cases h
  | succ k ih =>
    unfold pbL at h
    split at h
    · rw [List.mem_append] at h
      rcases h with h | h
      · have := ih h; omega
      · simp at h; omega
    · have := ih h; omega
theorem pbL_length (k : Nat) : (pbL k).length ≤ k := by
  induction k with
  | zero => exact Nat.le_refl _
  | succ k ih =>
    unfold pbL
    split
    · simp; omega
    · omega

set_option maxRecDepth 100000 in
set_option maxHeartbeats 1000000 in
theorem primes_any (n K : Nat) (w : World) (hK : (pbL K).length = n) (hlt : ∀ k, k < K → (pbL k).length < n) (hK2 : K ≤ 310) :
    Calls Tryd.prog 27 #[.int .i64 n] w fun e w' => (∃ g c, e = .returned (.slice (some ⟨g, 0, none⟩) n c) ∧ RowN w' g (pbL K) ∧ w.heap.size ≤ g) ∧ Below w.heap.size w w' := by
  obtain ⟨i0, hi, hz0, hz1, hz2⟩ := info_parts infoInt
  have HK := Lib.hid hK
  have HLT := Lib.hid hlt
  have hn310 : n ≤ 310 := by have := pbL_length K; omega
  clear hK hlt
  go_enter Tryd.func27, Tryd.ntmps27
  go_wp2_with fail
  go_loopw [3, 4] (fun ov pv wr => ∃ k m : Nat, k ≤ K ∧ m = (pbL k).length ∧ pv = .int .i64 ((k + 2 : Nat) : Int) ∧ (∃ g c, ov = .slice (some ⟨g, 0, none⟩) m c ∧ w.heap.size ≤ g) ∧ wr.ownsRow w.heap.size 3 1 ov m (intC (pbL k)) ∧ Below w.heap.size w wr) (fun _ p _ => K + 2 - (intOf p).toNat)
  case atStart => exact ⟨0, 0, Nat.zero_le _, rfl, rfl, ⟨_, _, rfl, Nat.le_refl _⟩, World.ownsRow_lit w #[] 0 (Nat.le_refl _) (Nat.zero_le _) rfl, (Below.refl _ _).alloc (by omega) _⟩
  case round =>
    obtain ⟨k, m, hk, hm, rfl, ⟨g, c, rfl, hgB⟩, ho, hb⟩ := hrel
    have hbs := hb.size
    have HO := Lib.hid ho
    have HB := Lib.hid hb
    have HM := Lib.hid hm
    clear ho hb hm
    by_cases hkK : k < K
    · have hmn : m < n := by rw [HM.out]; exact HLT.out k hkK
      obtain ⟨wo, rfl⟩ : ∃ wo : World, wo = wr := ⟨_, rfl⟩
      obtain ⟨L, hL⟩ : ∃ L, pbL k = L := ⟨_, rfl⟩
      have HS := Lib.hid (show pbL (k + 1) = if L.all (fun q => (k + 2) % q != 0) then L ++ [k + 2] else L by rw [← hL]; rfl)
      have hLs : ∀ q ∈ L, 2 ≤ q ∧ q < k + 2 := fun q hq => pbL_small k q (by rw [hL]; exact hq)
      rw [hL] at HO HM
      have hLm : L.length = m := HM.out.symm
      have hP400 : k + 2 < 400 := by omega
      have hgl : g < wo.heap.size := (HO.out.lt g rfl).2
      have hrow : ∀ i (h : i < L.length), wo.cell? ⟨g, i, none⟩ = some (.int .i64 ((L[i] : Nat) : Int)) := fun i h => by
        rw [HO.out.cellAt i (by omega)]
        simp [intC, h]
      have HROW := Lib.hid hrow
      have HLS := Lib.hid hLs
      obtain ⟨P, hP⟩ : ∃ P, k + 2 = P := ⟨_, rfl⟩
      rw [hP] at HS hP400 HLS ⊢
      have HP := Lib.hid hP
      have HLM := Lib.hid hLm
      have HKK := Lib.hid hkK
      have HHK := Lib.hid hk
      clear hL hrow hLs hLm hP hkK hk
      go_wp2_with fail
      go_loopw [5, 15] (fun b i wi => ∃ j : Nat, j ≤ m ∧ i = .int .i64 j ∧ b = .bool ((L.take j).all fun q => P % q != 0) ∧ SameW wi wo) (fun _ i _ => m - (intOf i).toNat)
      case atStart => exact ⟨0, Nat.zero_le _, rfl, rfl, rfl⟩
      case round =>
        obtain ⟨j, hj, rfl, rfl, hsw⟩ := hrel
        unfold SameW at hsw
        subst hsw
        by_cases hlj : j < m
        · have hjl : j < L.length := by rw [HLM.out]; exact hlj
          have hc := HROW.out j hjl
          have hq := HLS.out L[j] (List.getElem_mem hjl)
          have HT := Lib.hid (show (L.take (j + 1)).all (fun q => P % q != 0) = ((L.take j).all (fun q => P % q != 0) && (P % L[j] != 0)) by
            rw [List.take_succ_eq_append_getElem hjl, List.all_append]; simp)
          generalize L[j] = q at hc hq HT
          obtain ⟨q2, qP⟩ := hq
          generalize (L.take j).all (fun q => P % q != 0) = b at HT
          have e0 : ((P : Int).tmod (q : Int)) = ((P % q : Nat) : Int) := by
            rw [Int.tmod_eq_emod_of_nonneg (Int.natCast_nonneg _)]; rfl
          by_cases hz : P % q = 0
          · rw [hz] at HT e0
            go_wp2_with fail
            go_roundw
            case rel => exact ⟨j + 1, by omega, by go_num, by rw [HT.out]; simp, rfl⟩
            case measure => simp [intOf]; omega
          · have t1 : ((((P % q : Nat) : Int)) == 0) = false := by rw [beq_eq_false_iff_ne]; omega
            have HZ := Lib.hid hz
            generalize P % q = rem at e0 t1 HT HZ
            clear hz
            go_wp2_with fail
            go_roundw
            case rel => exact ⟨j + 1, by omega, by go_num, by rw [HT.out]; have := HZ.out; simp [this], rfl⟩
            case measure => simp [intOf]; omega
        · rw [List.take_of_length_le (by rw [HLM.out]; omega)]
          have hge : m ≤ j := by omega
          cases hall : L.all (fun q => P % q != 0) with
          | true =>
            have HS2 := Lib.hid (show pbL (k + 1) = L ++ [P] by rw [HS.out, if_pos hall])
            clear hall HS
            go_wp2_with (at_builtin; refine wpList_append_own _ rfl _ _ 50 rfl w.heap.size 3 i0 (.int .i64 0) 1 8 Tryd.underlying50 hi hz0 hz1 hz2 rfl (by decide) _ m (intC L) rfl (HO.out.alloc _) ⟨wr.heap.size, 0, none⟩ 1 1 [.int .i64 (P : Int)] rfl rfl ?c1 ?c2 ?c3 ?c4 ?c5 ?_)
            case c1 =>
              intro i u hi'
              match i, hi' with
              | 0, hi' => simp at hi'; subst hi'; rw [addr0_add, World.cell?_alloc_at _ _ _ _ rfl]; rfl
              | i + 1, hi' => simp at hi'
            case c2 => intro u hu; simp at hu; subst hu; rfl
            case c3 => unfold maxLen; omega
            case c4 => omega
            case c5 => simp; omega
            intro v' w3 hown3 hgrow3 _
            have hbb3 := (HB.out.alloc hbs _).grown hgrow3 (by simp; omega) (fun k hk => by cases hk; exact hgB)
            have hv' : ∃ g c, v' = .slice (some ⟨g, 0, none⟩) (m + 1) c ∧ w.heap.size ≤ g := by
              rcases hown3.2 with ⟨_, h0⟩ | ⟨g, c', cur, hv, _⟩
              · omega
              · exact ⟨_, _, hv, (hown3.lt g (by rw [hv]; rfl)).1⟩
            obtain ⟨g', c', rfl, hg'⟩ := hv'
            have HO3 := Lib.hid (show w3.ownsRow w.heap.size 3 1 (.slice (some ⟨g', 0, none⟩) (m + 1) c') (m + 1) (intC (pbL (k + 1))) by rw [HS2.out, intC_append]; exact hown3)
            have HM3 := Lib.hid (show m + 1 = (pbL (k + 1)).length by rw [HS2.out, List.length_append, HLM.out]; rfl)
            have HB3 := Lib.hid hbb3
            clear hown3 hgrow3 hbb3 HO HB
            go_wp2_with fail
            go_roundw
            case rel => exact ⟨k + 1, m + 1, HKK.out, HM3.out, by have := HP.out; rw [← this]; go_num, ⟨_, _, rfl, hg'⟩, HO3.out, HB3.out⟩
            case measure => have h1 := HP.out; have h2 := HKK.out; simp [intOf]; omega
          | false =>
            have HS2 := Lib.hid (show pbL (k + 1) = L by rw [HS.out, hall]; rfl)
            clear hall HS
            have HO3 := Lib.hid (show wr.ownsRow w.heap.size 3 1 (.slice (some ⟨g, 0, none⟩) m c) m (intC (pbL (k + 1))) by rw [HS2.out]; exact HO.out)
            have HM3 := Lib.hid (show m = (pbL (k + 1)).length by rw [HS2.out, HLM.out])
            go_wp2_with fail
            go_roundw
            case rel => exact ⟨k + 1, m, HKK.out, HM3.out, by have := HP.out; rw [← this]; go_num, ⟨_, _, rfl, hgB⟩, HO3.out, HB.out⟩
            case measure => have h1 := HP.out; have h2 := HKK.out; simp [intOf]; omega
    · have hnm : n ≤ m := by
        have : k = K := by omega
        rw [HM.out, this, HK.out]; exact Nat.le_refl _
      have hkk := Lib.hid (show k = K by omega)
      have hnm' := Lib.hid (show m = n by rw [HM.out, hkk.out, HK.out])
      have HR := Lib.hid (show RowN wr g (pbL K) from ⟨(HO.out.lt g rfl).2, fun i hi => by
        have ho := HO.out
        rw [hkk.out] at ho
        rw [ho.cellAt i (by have h1 := HK.out; have h2 := hnm'.out; omega)]
        simp [intC, hi]⟩)
      clear HO HM
      go_wp2_with fail
      go_ret
      exact ⟨⟨g, c, by rw [← hnm'.out]; rfl, HR.out, hgB⟩, HB.out⟩
end Go.Proofs.YtiebdmamjlgeoaaDoor
