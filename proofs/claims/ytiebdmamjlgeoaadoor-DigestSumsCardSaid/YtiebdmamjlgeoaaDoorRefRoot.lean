/-
  The document's own roots, by a contract. Conditions: at most the third root.
-/
import Derived.Test.YtiebdmamjlgeoaaDoorRefPower
import Derived.Test.YtiebdmamjlgeoaaDoorRefAbove
namespace Go.Proofs.YtiebdmamjlgeoaaDoor
open Go.RowKit

/-- Digits whose b lowest bits are not set yet. -/
def RootOk (b : Nat) (a : List Nat) : Prop := a.length = 3 ∧ ∀ t, t < 3 → a.getD t 0 + 2 ^ (min (b - 16 * t) 16) ≤ 65536
theorem RootOk.small {b : Nat} {a : List Nat} (h : RootOk b a) : ∀ x ∈ a, x < 65536 := by
  intro x hx
  obtain ⟨j, hj, rfl⟩ := List.getElem_of_mem hx
  have h1 := h.2 j (by rw [← h.1]; exact hj)
  rw [List.getD_eq_getElem?_getD, List.getElem?_eq_getElem hj] at h1
  have := Nat.pow_pos (n := min (b - 16 * j) 16) (show 0 < 2 by decide)
  simp only [Option.getD_some] at h1
  omega
theorem RootOk.low {b : Nat} {a : List Nat} (h : RootOk (b + 1) a) : RootOk b a := by
  refine ⟨h.1, fun t ht => Nat.le_trans (Nat.add_le_add_left (Nat.pow_le_pow_right (by decide) (by omega)) _) (h.2 t ht)⟩
theorem RootOk.add {b : Nat} {a : List Nat} (h : RootOk (b + 1) a) : RootOk b (a.set (b / 16) (a.getD (b / 16) 0 + 2 ^ (b % 16))) := by
  refine ⟨by simpa using h.1, fun t ht => ?_⟩
  have hl := h.1
  by_cases e : t = b / 16
  · have h1 := h.2 t ht
    have e1 : min (b + 1 - 16 * t) 16 = b % 16 + 1 := by omega
    have e2 : min (b - 16 * t) 16 = b % 16 := by omega
    rw [e1, Nat.pow_succ] at h1
    rw [e2, ← e]
    have : (a.set t (a.getD t 0 + 2 ^ (b % 16))).getD t 0 = a.getD t 0 + 2 ^ (b % 16) := by
      rw [List.getD_eq_getElem?_getD, List.getElem?_set_self (by omega)]; rfl
    rw [this]
    omega
  · have : (a.set (b / 16) (a.getD (b / 16) 0 + 2 ^ (b % 16))).getD t 0 = a.getD t 0 := by
      rw [List.getD_eq_getElem?_getD, List.getElem?_set_ne (fun h => e h.symm), ← List.getD_eq_getElem?_getD]
    rw [this]
    exact h.low.2 t ht
theorem bit_ok {p n b : Nat} {a : List Nat} (h : RootOk (b + 1) a) : RootOk b (bitL p n a b) := by
  unfold bitL
  simp only []
  split
  · exact h.low
  · exact h.add
theorem root_ok (p n k : Nat) (h : k ≤ 37) : RootOk (37 - k) (rootA p n k) := by
  induction k with
  | zero =>
    refine ⟨rfl, fun t ht => ?_⟩
    have h : t = 0 ∨ t = 1 ∨ t = 2 := by omega
    rcases h with rfl | rfl | rfl <;> (show [0, 0, 0].getD _ 0 + _ ≤ 65536) <;> decide
  | succ k ih =>
    have := ih (by omega)
    rw [show 37 - k = (36 - k) + 1 by omega] at this
    rw [show 37 - (k + 1) = 36 - k by omega]
    exact bit_ok this
theorem rowIs_kept {w w' : World} {b n m : Nat} {t : TypeId} {f : Nat → Value} (h : w.rowIs b t n f) (hb : Below m w w') (hn : b < m) : w'.rowIs b t n f := by
  obtain ⟨c, h1, h2⟩ := h
  exact ⟨c, by rw [hb.block b hn]; exact h1, h2⟩
theorem rowN_of {w : World} {b : Nat} {l : List Nat} (h : w.rowIs b 3 l.length (fun t => .int .i64 ((l.getD t 0 : Nat) : Int))) : RowN w b l := ⟨h.lt, fun _ hi => h.cell hi⟩

set_option maxRecDepth 100000 in
set_option maxHeartbeats 1000000 in
theorem root_any (p n : Nat) (w : World) (hn : n ≤ 3) :
    Calls Tryd.prog 28 #[.int .i64 p, .int .i64 n] w fun e w' => e = .returned (.int .u32 ((rootL p n : Nat) : Int)) ∧ Below w.heap.size w w' := by
  go_enter Tryd.func28, Tryd.ntmps28
  go_wp2_with fail
  obtain ⟨G, hG⟩ : ∃ G, w.heap.size = G := ⟨_, rfl⟩
  have H0 := Lib.hid (show (w.alloc (.cells #[.int .i64 0, .int .i64 0, .int .i64 0] 3)).rowIs w.heap.size 3 3 (fun t => .int .i64 (((rootA p n 0).getD t 0 : Nat) : Int)) from
    World.rowIs_alloc w #[.int .i64 0, .int .i64 0, .int .i64 0] 3 _ (fun i hi => by
      have h : i = 0 ∨ i = 1 ∨ i = 2 := by simp at hi; omega
      rcases h with rfl | rfl | rfl <;> rfl))
  have HGE := Lib.hid hG
  have hGw : w.heap.size ≤ G := by omega
  rw [hG] at H0 ⊢
  clear hG
  obtain ⟨n2, hn2⟩ : ∃ n2 : Nat, 2 * n = n2 := ⟨_, rfl⟩
  have en2 : 2 * (n : Int) = (n2 : Int) := by omega
  have HN2 := Lib.hid hn2
  clear hn2
  go_loopw [6] (fun bv wr => ∃ k : Nat, k ≤ 37 ∧ bv = .int .i64 (36 - (k : Int)) ∧ wr.rowIs G 3 3 (fun t => .int .i64 (((rootA p n k).getD t 0 : Nat) : Int)) ∧ Below G w wr) (fun b _ => (intOf b + 1).toNat)
  case atStart => exact ⟨0, by omega, rfl, H0.out, (Below.refl _ _).alloc (by have := HGE.out; omega) _⟩
  case round =>
    clear H0
    obtain ⟨k, hk, rfl, hr, hb⟩ := hrel
    have hok := root_ok p n k hk
    by_cases hlt : k < 37
    · obtain ⟨b, hbk⟩ : ∃ b, 36 - k = b := ⟨_, rfl⟩
      rw [show 36 - (k : Int) = (b : Int) by omega]
      rw [show 37 - k = b + 1 by omega] at hok
      have hb36 : b ≤ 36 := by omega
      have HS := Lib.hid (show rootA p n (k + 1) = bitL p n (rootA p n k) b by rw [← hbk]; rfl)
      have HK := Lib.hid (show k + 1 ≤ 37 ∧ 36 - ((k + 1 : Nat) : Int) = (b : Int) - 1 by omega)
      generalize rootA p n k = A at hr hok HS
      obtain ⟨at', hat⟩ : ∃ c, b / 16 = c := ⟨_, rfl⟩
      obtain ⟨sh, hsh⟩ : ∃ c, b % 16 = c := ⟨_, rfl⟩
      have hat3 : at' < 3 := by omega
      have hsh16 : sh < 16 := by omega
      have e1 : ((b : Int)).tmod 16 = (sh : Int) := by rw [Int.tmod_eq_emod_of_nonneg (by omega)]; omega
      have e2 : (b : Int) % 16 = (sh : Int) := by omega
      have e3 : ((b : Int)).tdiv 16 = (at' : Int) := by rw [Int.tdiv_eq_ediv_of_nonneg (by omega)]; omega
      have e4 : (b : Int) / 16 = (at' : Int) := by omega
      have hadd := hok.add
      have HOB := hadd.small
      have HBL := hadd.1
      have HV := hadd.2 at' hat3
      unfold bitL at HS
      simp only [] at HS
      rw [hat, hsh] at HOB HBL HV HS
      have hAl := hok.1
      have gA : ∀ V t, (A.set at' V).getD t 0 = if t = at' then V else A.getD t 0 := fun V t => by
        rw [List.getD_eq_getElem?_getD, List.getD_eq_getElem?_getD, List.getElem?_set]
        by_cases h : at' = t
        · subst h; rw [if_pos rfl, if_pos rfl, if_pos (by omega)]; rfl
        · rw [if_neg h, if_neg (fun e => h e.symm)]
      have GA := Lib.hid gA
      have hV : A.getD at' 0 + 2 ^ sh ≤ 65536 := by
        rw [gA, if_pos rfl] at HV
        exact Nat.le_trans (Nat.le_add_right _ _) HV
      have HOBH := Lib.hid HOB
      have HBLH := Lib.hid HBL
      have HR := Lib.hid hr
      have HB := Lib.hid hb
      have c0 := hr.cell (i := at') hat3
      have f0 := hr.frozen at'
      have C0 := Lib.hid c0
      have F0 := Lib.hid f0
      have HVH := Lib.hid hV
      obtain ⟨wA, rfl⟩ : ∃ wA : World, wA = wr := ⟨_, rfl⟩
      clear hok hadd HOB HBL HV hAl gA hr hb hat hsh hbk hk hlt c0 f0 hV
      go_wp2_with fail
      go_loopw [8, 9] (fun av iv wi => ∃ i : Nat, i ≤ sh ∧ iv = .int .i64 i ∧ av = .int .i64 ((2 ^ i : Nat) : Int) ∧ SameW wi wA) (fun _ i _ => sh - (intOf i).toNat)
      case atStart => exact ⟨0, Nat.zero_le _, rfl, rfl, rfl⟩
      case round =>
        obtain ⟨i, hi, rfl, rfl, hsw⟩ := hrel
        unfold SameW at hsw
        subst hsw
        by_cases hlti : i < sh
        · have hp2 : 2 ^ i ≤ 32768 := Nat.pow_le_pow_right (show 0 < 2 by decide) (show i ≤ 15 by omega)
          have hs2 := Lib.hid (Nat.pow_succ 2 i)
          generalize 2 ^ i = P at hp2 hs2
          go_wp2_with fail
          go_roundw
          case rel => exact ⟨i + 1, by omega, by go_num, by rw [hs2.out]; congr 1; omega, rfl⟩
          case measure => simp [intOf]; omega
        · have his : i = sh := by omega
          have c0 := C0.out
          have f0 := F0.out
          have hV := HVH.out
          rw [← his] at HS HOBH HBLH hV
          generalize 2 ^ i = P at HS HOBH HBLH hV
          have hge : sh ≤ i := by omega
          clear his HVH
          obtain ⟨x, hx⟩ : ∃ x, A.getD at' 0 = x := ⟨_, rfl⟩
          rw [hx] at c0 hV HS HOBH HBLH
          have HX := Lib.hid hx
          clear hx
          go_wp2_with fail
          have hrowB : (wr.setCell ⟨G, at', none⟩ (.int .i64 ((x : Int) + (P : Int)))).rowIs G 3 3 (fun t => .int .i64 ((((A.set at' (x + P)).getD t 0 : Nat)) : Int)) := (HR.out.set at' _).congr fun t _ => by
            rw [GA.out]
            split
            · rfl
            · rfl
          have hbB : Below G w (wr.setCell ⟨G, at', none⟩ (.int .i64 ((x : Int) + (P : Int)))) := HB.out.setCell (p := ⟨G, at', none⟩) (Nat.le_refl G) _
          clear c0 f0 C0 F0
          obtain ⟨Bl, hBl⟩ : ∃ Bl, A.set at' (x + P) = Bl := ⟨_, rfl⟩
          have GB := Lib.hid (fun t => show Bl.getD t 0 = if t = at' then x + P else A.getD t 0 by rw [← hBl]; exact GA.out _ _)
          rw [hBl] at hrowB HS HOBH HBLH
          clear hBl HR HB GA
          generalize wr.setCell ⟨G, at', none⟩ (.int .i64 ((x : Int) + (P : Int))) = wB at hrowB hbB ⊢
          have PW := Lib.hid (power_any Bl n G 3 wB (rowN_of (by rw [HBLH.out]; exact hrowB)) HBLH.out HOBH.out hn)
          have hGB : G < wB.heap.size := hrowB.lt
          have HRB := Lib.hid hrowB
          have HBB := Lib.hid hbB
          have HPS := Lib.hid (powL_small Bl n)
          have HPL := Lib.hid (show (powL Bl n).length ≤ 13 by rw [powL_length, HBLH.out]; omega)
          obtain ⟨PB, hPB⟩ : ∃ PB, powL Bl n = PB := ⟨_, rfl⟩
          rw [hPB] at PW HS HPS HPL
          rw [HN2.out] at HS
          clear hrowB hbB hPB
          refine PW.out.mono ?_
          rintro e w3 ⟨⟨g3, c3, rfl, hr3, hg3⟩, hb3⟩
          have AB := Lib.hid (above_any PB p n2 g3 c3 w3 hr3 (by have := HPL.out; omega) (fun x hx => by have := HPS.out x hx; omega))
          have HRB3 := Lib.hid (rowIs_kept HRB.out hb3 hGB)
          have HBB3 := Lib.hid (HBB.out.trans (hb3.mono (Nat.le_of_lt hGB)))
          have hGB3 : G < w3.heap.size := Nat.lt_of_lt_of_le hGB hb3.size
          clear hr3 hb3 hg3 PW HRB HBB
          obtain ⟨ab, hab⟩ : ∃ ab, aboveL PB p n2 PB.length = ab := ⟨_, rfl⟩
          rw [hab] at AB HS
          clear hab
          go_wp2_with fail
          refine AB.out.mono ?_
          rintro e w4 ⟨rfl, hb4⟩
          have hr4 := rowIs_kept HRB3.out hb4 hGB3
          have HBB4 := Lib.hid (HBB3.out.trans (hb4.mono (Nat.le_of_lt hGB3)))
          have c0 := hr4.cell (i := at') hat3
          rw [GB.out, if_pos rfl, Int.natCast_add] at c0
          have f0 := hr4.frozen at'
          have HR4 := Lib.hid hr4
          clear hr4 hb4 AB HRB3 HBB3
          cases ab with
          | true =>
            have HSF := Lib.hid (show rootA p n (k + 1) = A by rw [HS.out]; rfl)
            clear HS
            go_wp2_with fail
            go_roundw
            case rel =>
              refine ⟨k + 1, HK.out.1, by rw [HK.out.2], ?_, ?_⟩
              · refine (HR4.out.set at' _).congr fun t _ => ?_
                rw [HSF.out, GB.out]
                by_cases h : t = at'
                · subst h
                  rw [if_pos rfl, HX.out]
                · rw [if_neg h, if_neg h]
              · exact HBB4.out.setCell (p := ⟨G, at', none⟩) (Nat.le_refl G) _
            case measure => simp [intOf]
          | false =>
            have HSF := Lib.hid (show rootA p n (k + 1) = Bl by rw [HS.out]; rfl)
            clear HS
            go_wp2_with fail
            go_roundw
            case rel => exact ⟨k + 1, HK.out.1, by rw [HK.out.2], HR4.out.congr fun t _ => by rw [HSF.out], HBB4.out⟩
            case measure => simp [intOf]
    · have hk37 : k = 37 := by omega
      subst hk37
      have c1 := hr.cell (i := 1) (by decide)
      have c0 := hr.cell (i := 0) (by decide)
      have HF := Lib.hid (show rootL p n = (65536 * (rootA p n 37).getD 1 0 + (rootA p n 37).getD 0 0) % 4294967296 from rfl)
      have hs := hok.small
      have b1 := getD_small hs (by decide) 1
      have b0 := getD_small hs (by decide) 0
      have HB := Lib.hid hb
      generalize (rootA p n 37).getD 1 0 = x1 at c1 b1 HF
      generalize (rootA p n 37).getD 0 0 = x0 at c0 b0 HF
      clear hr hb hok hs
      have HBF := Lib.hid (show Below w.heap.size w wr by rw [HGE.out]; exact HB.out)
      have HZ := Lib.hid (show ((65536 : Int) * (x1 : Int) + (x0 : Int)) = ((rootL p n : Nat) : Int) by rw [HF.out]; omega)
      have hz1 : ((65536 : Int) * (x1 : Int) + (x0 : Int)) < 4294967296 := by omega
      clear HB HF
      go_wp2_with fail
      go_quiet (fail)
      go_wp2_with fail
      go_ret
      exact ⟨by rw [← HZ.out]; rfl, HBF.out.trans ⟨rfl, rfl, rfl, Nat.le_refl _, fun _ _ => rfl⟩⟩
end Go.Proofs.YtiebdmamjlgeoaaDoor
