/-
  The document's own powers, by a contract. Conditions: at most 3 digits, each below 65536; at most 3 times.
-/
import Derived.Test.YtiebdmamjlgeoaaDoorRefPrimes
import Derived.Test.YtiebdmamjlgeoaaDoorRefRow
import Derived.Deep.OwnRows
namespace Go.Proofs.YtiebdmamjlgeoaaDoor
open Go.RowKit

/-- An entry behind i digits and j of the next one's products. -/
def mulF (out a : List Nat) (i j t : Nat) : Nat := mulS out a t i + (if i ≤ t ∧ t - i < j then out.getD i 0 * a.getD (t - i) 0 else 0)
theorem mulF_zero (out a : List Nat) (i t : Nat) : mulF out a i 0 t = mulS out a t i := by
  unfold mulF
  rw [if_neg (by omega), Nat.add_zero]
theorem mulF_full (out a : List Nat) (i t : Nat) : mulF out a i a.length t = mulS out a t (i + 1) := rfl
theorem mulF_succ (out a : List Nat) (i j t : Nat) : mulF out a i (j + 1) t = if t = i + j then mulF out a i j (i + j) + out.getD i 0 * a.getD j 0 else mulF out a i j t := by
  unfold mulF
  by_cases h : t = i + j
  · subst h
    rw [if_pos rfl, if_pos (by omega), if_neg (by omega), show i + j - i = j by omega]; omega
  · rw [if_neg h]
    by_cases h2 : i ≤ t ∧ t - i < j
    · rw [if_pos (by omega), if_pos h2]
    · rw [if_neg (by omega), if_neg h2]
theorem mulS_small (out a : List Nat) (t i : Nat) (ho : ∀ j, out.getD j 0 < 65536) (ha : ∀ j, a.getD j 0 < 65536) : mulS out a t i ≤ i * 4294967296 := by
  induction i with
  | zero => simp [mulS]
  | succ i ih =>
    have h1 : out.getD i 0 * a.getD (t - i) 0 ≤ 65535 * 65535 := Nat.mul_le_mul (by have := ho i; omega) (by have := ha (t - i); omega)
    have h2 : out.getD i 0 * a.getD (t - i) 0 ≤ 4294967296 := Nat.le_trans h1 (by decide)
    unfold mulS
    rw [Nat.succ_mul]
    refine Nat.add_le_add ih ?_
    split
    · exact h2
    · exact Nat.zero_le _
theorem mulF_small (out a : List Nat) (i j t : Nat) (ho : ∀ j, out.getD j 0 < 65536) (ha : ∀ j, a.getD j 0 < 65536) : mulF out a i j t ≤ (i + 1) * 4294967296 := by
  have h0 := mulS_small out a t i ho ha
  have h1 : out.getD i 0 * a.getD (t - i) 0 ≤ 65535 * 65535 := Nat.mul_le_mul (by have := ho i; omega) (by have := ha (t - i); omega)
  have h2 : out.getD i 0 * a.getD (t - i) 0 ≤ 4294967296 := Nat.le_trans h1 (by decide)
  unfold mulF
  rw [Nat.succ_mul]
  refine Nat.add_le_add h0 ?_
  split
  · exact h2
  · exact Nat.zero_le _
/-- What is left behind the first entries. -/
def restL : List Nat → Nat → Nat
  | [], c => c
  | x :: r, c => restL r ((c + x) / 65536)
theorem carryL_snoc (l : List Nat) (x c : Nat) : carryL (l ++ [x]) c = carryL l c ++ [(restL l c + x) % 65536] := by
  induction l generalizing c with
  | nil => rfl
  | cons y l ih => simp [carryL, restL, ih]
theorem restL_snoc (l : List Nat) (x c : Nat) : restL (l ++ [x]) c = (restL l c + x) / 65536 := by
  induction l generalizing c with
  | nil => rfl
  | cons y l ih => simp [restL, ih]
theorem carryL_length (l : List Nat) (c : Nat) : (carryL l c).length = l.length := by
  induction l generalizing c with
  | nil => rfl
  | cons y l ih => simp [carryL, ih]
theorem carryL_small (l : List Nat) (c : Nat) : ∀ x ∈ carryL l c, x < 65536 := by
  induction l generalizing c with
  | nil => intro x h; cases h
  | cons y l ih =>
    intro x h
    simp only [carryL, List.mem_cons] at h
    rcases h with rfl | h
    · exact Nat.mod_lt _ (by decide)
    · exact ih _ x h
theorem carry_at (l : List Nat) (c q : Nat) (h : q < l.length) : (carryL l c).getD q 0 = (restL (l.take q) c + l.getD q 0) % 65536 := by
  induction l generalizing c q with
  | nil => simp at h
  | cons y l ih =>
    cases q with
    | zero => simp [carryL, restL]
    | succ q =>
      have := ih ((c + y) / 65536) q (by simpa using h)
      simpa [carryL, restL] using this
theorem rest_at (l : List Nat) (c q : Nat) (h : q < l.length) : restL (l.take (q + 1)) c = (restL (l.take q) c + l.getD q 0) / 65536 := by
  rw [List.take_succ_eq_append_getElem h, restL_snoc, List.getD_eq_getElem?_getD, List.getElem?_eq_getElem h]
  rfl
theorem restL_small (l : List Nat) (c b : Nat) (hc : c ≤ b) (h : ∀ x ∈ l, x ≤ b) : restL l c ≤ b := by
  induction l generalizing c with
  | nil => exact hc
  | cons y l ih =>
    refine ih _ ?_ (fun x hx => h x (List.mem_cons_of_mem _ hx))
    have := h y (List.mem_cons_self ..)
    omega
theorem mulL_length (out a : List Nat) : (mulL out a).length = out.length + a.length + 1 := by simp [mulL]
theorem powL_small (a : List Nat) (n : Nat) : ∀ x ∈ powL a n, x < 65536 := by
  cases n with
  | zero => intro x h; simp [powL] at h; omega
  | succ n => exact carryL_small _ _
theorem powL_length (a : List Nat) (n : Nat) : (powL a n).length = 1 + n * (a.length + 1) := by
  induction n with
  | zero => simp [powL]
  | succ n ih => rw [powL, carryL_length, mulL_length, ih, Nat.add_mul]; omega
theorem getD_small {l : List Nat} {b : Nat} (h : ∀ x ∈ l, x < b) (hb : 0 < b) (j : Nat) : l.getD j 0 < b := by
  rw [List.getD_eq_getElem?_getD]
  cases hx : l[j]? with
  | none => exact hb
  | some x => exact h x (List.mem_of_getElem? hx)

theorem row_of_made {w : World} {B g n : Nat} {t : TypeId} {z : Value} (h : w.ownsRow B t 1 (.slice (some ⟨g, 0, none⟩) n n) n (madeCells #[z] n).toList) : w.rowIs g t n (fun _ => z) := by
  rcases h.2 with ⟨h0, _⟩ | ⟨g', cap, cur, hv, _, hg, _, _, hs, ht⟩
  · cases h0
  · cases hv
    rw [Nat.mul_one] at hs ht
    refine ⟨cur, hg, hs, fun i hi => ?_⟩
    have h1 : (madeCells #[z] n).toList[i]? = some z := by simp [madeCells, hi, Nat.mod_one]
    rw [← ht, List.getElem?_take, if_pos hi] at h1
    simpa using h1

set_option maxRecDepth 100000 in
set_option maxHeartbeats 1000000 in
theorem power_any (a : List Nat) (n g c : Nat) (w : World) (hg : RowN w g a) (hl : a.length = 3) (hs : ∀ x ∈ a, x < 65536) (hn : n ≤ 3) :
    Calls Tryd.prog 42 #[.slice (some ⟨g, 0, none⟩) 3 c, .int .i64 n] w fun e w' => (∃ g' c', e = .returned (.slice (some ⟨g', 0, none⟩) (powL a n).length c') ∧ RowN w' g' (powL a n) ∧ w.heap.size ≤ g') ∧ Below w.heap.size w w' := by
  obtain ⟨i0, hi, hz0, hz1, hz2⟩ := info_parts infoInt
  have HG := Lib.hid hg
  have HSM := Lib.hid hs
  have HL := Lib.hid hl
  clear hg hs hl
  go_enter Tryd.func42, Tryd.ntmps42
  go_wp2_with fail
  go_loopw [5, 6] (fun ov kv wr => ∃ k m g1 c1 : Nat, k ≤ n ∧ m = (powL a k).length ∧ kv = .int .i64 k ∧ ov = .slice (some ⟨g1, 0, none⟩) m c1 ∧ w.heap.size ≤ g1 ∧ RowN wr g1 (powL a k) ∧ Below w.heap.size w wr) (fun _ k _ => n - (intOf k).toNat)
  case atStart => exact ⟨0, 1, w.heap.size, 1, Nat.zero_le _, rfl, rfl, rfl, Nat.le_refl _, ⟨by simp, fun i hi => by
      have hi0 : i = 0 := by simp [powL] at hi; exact hi
      subst hi0
      rw [World.cell?_alloc_at _ _ _ _ rfl]; rfl⟩, (Below.refl _ _).alloc (Nat.le_refl _) _⟩
  case round =>
    obtain ⟨k, m, g1, c1, hk, hm, rfl, rfl, hg1, hr1, hb⟩ := hrel
    have hbs := hb.size
    have HB := Lib.hid hb
    have HR1 := Lib.hid hr1
    by_cases hlt : k < n
    · have hm13 : m ≤ 13 := by rw [hm, powL_length, HL.out]; omega
      have HO1 := Lib.hid (powL_small a k)
      have HPS := Lib.hid (show powL a (k + 1) = carryL (mulL (powL a k) a) 0 from rfl)
      have HM := Lib.hid hm
      obtain ⟨out, hout⟩ : ∃ out, powL a k = out := ⟨_, rfl⟩
      rw [hout] at HR1 HO1 HPS HM
      clear hr1 hb hm hout
      obtain ⟨wA, rfl⟩ : ∃ wA : World, wA = wr := ⟨_, rfl⟩
      go_wp2_with (at_make; refine wpList_make_full wA rfl _ _ 50 rfl wA.heap.size 3 i0 (.int .i64 0) 1 Tryd.underlying50 hi hz0 hz1 .i64 .i64 ((m : Int) + 3 + 1) ((m : Int) + 3 + 1) (m + 3 + 1) rfl rfl (by omega) (by omega) ?c1 ?c2 ?c3 ?_)
      case c1 => rw [hz2]; omega
      case c2 => unfold maxLen; omega
      case c3 => exact Nat.le_refl _
      intro w2 hown hgrow
      have hrow0 := row_of_made hown
      have hb2 : Below wA.heap.size wA w2 := ⟨hgrow.os, hgrow.tape, hgrow.output, hgrow.size, fun k hk => hgrow.block k hk (by simp)⟩
      have HB2 := Lib.hid hb2
      have HR0 := Lib.hid (show w2.rowIs wA.heap.size 3 (m + 3 + 1) (fun t => .int .i64 ((mulF out a 0 0 t : Nat) : Int)) from hrow0.congr fun t _ => by
        have : mulF out a 0 0 t = 0 := by rw [mulF_zero]; rfl
        rw [this]; rfl)
      obtain ⟨G, hG⟩ : ∃ G, wA.heap.size = G := ⟨_, rfl⟩
      rw [hG] at HR0 ⊢
      have HGE := Lib.hid hG
      have hGw : w.heap.size ≤ G := by omega
      have hgG : g < G := Nat.lt_of_lt_of_le (HG.out.keep HG.out.1 HB.out).1 (by omega)
      have hg1G : g1 < G := by have := HR1.out.1; omega
      have HA := Lib.hid (HG.out.keep HG.out.1 HB.out)
      have hoA : ∀ j, a.getD j 0 < 65536 := getD_small HSM.out (by decide)
      have hoO : ∀ j, out.getD j 0 < 65536 := getD_small HO1.out (by decide)
      have HOA := Lib.hid hoA
      have HOO := Lib.hid hoO
      clear hown hgrow hrow0 hb2 hG hoA hoO hbs
      go_wp2_with fail
      go_loopw [27] (fun iv wi => ∃ i : Nat, i ≤ m ∧ iv = .int .i64 i ∧ wi.rowIs G 3 (m + 3 + 1) (fun t => .int .i64 ((mulF out a i 0 t : Nat) : Int)) ∧ Below G wA wi) (fun i _ => m - (intOf i).toNat)
      case atStart => exact ⟨0, Nat.zero_le _, rfl, HR0.out, by rw [← HGE.out]; exact HB2.out⟩
      case round =>
        clear HR0 HB2
        obtain ⟨i, him, rfl, hri, hbi⟩ := hrel
        have HRI := Lib.hid hri
        have HBI := Lib.hid hbi
        clear hri hbi
        by_cases hlti : i < m
        · go_wp2_with fail
          go_loopw [32] (fun jv wi => ∃ j : Nat, j ≤ 3 ∧ jv = .int .i64 j ∧ wi.rowIs G 3 (m + 3 + 1) (fun t => .int .i64 ((mulF out a i j t : Nat) : Int)) ∧ Below G wA wi) (fun j _ => 3 - (intOf j).toNat)
          case atStart => exact ⟨0, Nat.zero_le _, rfl, HRI.out, HBI.out⟩
          case round =>
            clear HRI HBI
            obtain ⟨j, hj3, rfl, hrj, hbj⟩ := hrel
            by_cases hltj : j < 3
            · have d0 := hrj.cell (i := i + j) (by omega)
              have f0 := hrj.frozen (i + j)
              have c1 := (HR1.out.keep hg1G hbj).2 i (by rw [← HM.out]; exact hlti)
              have c2 := (HA.out.keep hgG hbj).2 j (by rw [HL.out]; exact hltj)
              have b0 := mulF_small out a i j (i + j) HOO.out HOA.out
              have b1 := HOO.out i
              have b2 := HOA.out j
              have HS := Lib.hid (fun t => mulF_succ out a i j t)
              have HRJ := Lib.hid hrj
              have HBJ := Lib.hid hbj
              clear hrj hbj
              have hF : mulF out a i j (i + j) ≤ 60129542144 := by omega
              generalize mulF out a i j (i + j) = F at d0 hF HS
              generalize out.getD i 0 = x at c1 b1 HS
              generalize a.getD j 0 = y at c2 b2 HS
              have e1 : ((x : Int) * (y : Int)) = ((x * y : Nat) : Int) := (Int.natCast_mul x y).symm
              have e2 : x * y ≤ 4294836225 := Nat.le_trans (Nat.mul_le_mul (show x ≤ 65535 by omega) (show y ≤ 65535 by omega)) (by decide)
              generalize x * y = pr at e1 e2 HS
              clear b0 b1 b2
              go_wp2_with fail
              go_region
              go_wp2_with fail
              go_roundw
              case rel =>
                refine ⟨j + 1, by omega, by go_num, ?_, ?_⟩
                · refine (HRJ.out.set (i + j) _).congr fun t _ => ?_
                  rw [HS.out]
                  split
                  · go_num
                  · rfl
                · exact (HBJ.out.setCell (p := ⟨G, i + j, none⟩) (Nat.le_refl G) _).trans ⟨rfl, rfl, rfl, Nat.le_refl _, fun _ _ => rfl⟩
              case measure => simp [intOf]; omega
            · have hj : j = 3 := by omega
              have hge : 3 ≤ j := by omega
              have HRN := Lib.hid (show wr.rowIs G 3 (m + 3 + 1) (fun t => .int .i64 ((mulF out a (i + 1) 0 t : Nat) : Int)) from hrj.congr fun t _ => by
                rw [mulF_zero, ← mulF_full, HL.out, hj])
              have HBJ := Lib.hid hbj
              clear hrj hbj hj
              go_wp2_with fail
              go_roundw
              case rel => exact ⟨i + 1, by omega, by go_num, HRN.out, HBJ.out⟩
              case measure => simp [intOf]; omega
        · have hge : m ≤ i := by omega
          have HRM := Lib.hid (show wr.rowIs G 3 (m + 3 + 1) (fun t => .int .i64 (((mulL out a).getD t 0 : Nat) : Int)) from HRI.out.congr fun t ht => by
            have hi : i = out.length := by rw [← HM.out]; omega
            rw [mulF_zero, hi]
            have h2 : t < out.length + a.length + 1 := by rw [← HM.out, HL.out]; omega
            simp [mulL, h2])
          obtain ⟨M, hM⟩ : ∃ M, mulL out a = M := ⟨_, rfl⟩
          have hMl : M.length = m + 3 + 1 := by rw [← hM, mulL_length, ← HM.out, HL.out]
          have hMs : ∀ j, M.getD j 0 ≤ 60129542144 := fun j => by
            rw [← hM]
            by_cases h : j < out.length + a.length + 1
            · have h2 : (mulL out a).getD j 0 = mulS out a j out.length := by simp [mulL, h]
              rw [h2]
              have := mulS_small out a j out.length HOO.out HOA.out
              have h3 := HM.out
              omega
            · rw [List.getD_eq_getElem?_getD, List.getElem?_eq_none (by rw [mulL_length]; omega)]
              exact Nat.zero_le _
          have HMS := Lib.hid hMs
          rw [hM] at HRM HPS
          clear HRI hM hMs
          go_wp2_with fail
          go_loopw [10, 60] (fun rv qv wi => ∃ q : Nat, q ≤ m + 3 + 1 ∧ qv = .int .i64 q ∧ rv = .int .i64 ((restL (M.take q) 0 : Nat) : Int) ∧ wi.rowIs G 3 (m + 3 + 1) (fun t => .int .i64 (((if t < q then (carryL M 0).getD t 0 else M.getD t 0) : Nat) : Int)) ∧ Below G wA wi) (fun _ q _ => m + 3 + 1 - (intOf q).toNat)
          case atStart => exact ⟨0, Nat.zero_le _, rfl, rfl, HRM.out.congr fun t _ => by simp, HBI.out⟩
          case round =>
            clear HRM HBI
            obtain ⟨q, hq, rfl, rfl, hrq, hbq⟩ := hrel
            by_cases hltq : q < m + 3 + 1
            · have d0 := hrq.cell (i := q) hltq
              have f0 := hrq.frozen q
              simp only [Nat.lt_irrefl, if_false] at d0
              have hC := carry_at M 0 q (by omega)
              have hR := rest_at M 0 q (by omega)
              have hx := HMS.out q
              have hr := restL_small (M.take q) 0 60129542144 (Nat.zero_le _) (fun x hx => by
                have h1 := List.mem_of_mem_take hx
                obtain ⟨j, hj, rfl⟩ := List.getElem_of_mem h1
                have := HMS.out j
                rwa [List.getD_eq_getElem?_getD, List.getElem?_eq_getElem hj] at this)
              have HRQ := Lib.hid hrq
              have HBQ := Lib.hid hbq
              have HC := Lib.hid hC
              have HRR := Lib.hid hR
              clear hrq hbq hC hR
              generalize M.getD q 0 = x at d0 hx HC HRR
              generalize restL (M.take q) 0 = r at hr HC HRR ⊢
              obtain ⟨dg, hdg⟩ : ∃ d, (r + x) % 65536 = d := ⟨_, rfl⟩
              obtain ⟨r2, hr2⟩ : ∃ d, (r + x) / 65536 = d := ⟨_, rfl⟩
              have e1 : ((r : Int) + (x : Int)).tmod 65536 = (dg : Int) := by rw [Int.tmod_eq_emod_of_nonneg (by omega)]; omega
              have e2 : ((r : Int) + (x : Int)) % 65536 = (dg : Int) := by omega
              have e3 : ((r : Int) + (x : Int)).tdiv 65536 = (r2 : Int) := by rw [Int.tdiv_eq_ediv_of_nonneg (by omega)]; omega
              have e4 : ((r : Int) + (x : Int)) / 65536 = (r2 : Int) := by omega
              rw [hdg] at HC
              rw [hr2] at HRR
              clear hdg hr2
              go_wp2_with fail
              go_roundw
              case rel =>
                refine ⟨q + 1, by omega, by go_num, by rw [HRR.out], ?_, ?_⟩
                · refine (HRQ.out.set q _).congr fun t _ => ?_
                  by_cases htq : t = q
                  · subst htq
                    rw [if_pos rfl, if_pos (Nat.lt_succ_self _), HC.out]
                  · rw [if_neg htq]
                    by_cases h2 : t < q
                    · rw [if_pos h2, if_pos (by omega)]
                    · rw [if_neg h2, if_neg (by omega)]
                · exact HBQ.out.setCell (p := ⟨G, q, none⟩) (Nat.le_refl G) _
              case measure => simp [intOf]; omega
            · have hge2 : m + 3 + 1 ≤ q := by omega
              have HN := Lib.hid (show RowN wr G (powL a (k + 1)) from ⟨hrq.lt, fun t ht => by
                rw [HPS.out] at ht ⊢
                rw [carryL_length, hMl] at ht
                have := hrq.cell (i := t) ht
                rw [if_pos (by omega)] at this
                exact this⟩)
              have HLN := Lib.hid (show m + 3 + 1 = (powL a (k + 1)).length by rw [HPS.out, carryL_length, hMl])
              have HBN := Lib.hid (show Below w.heap.size w wr from HB.out.trans (hbq.mono hGw))
              clear hrq hbq
              go_wp2_with fail
              go_roundw
              case rel => exact ⟨k + 1, m + 3 + 1, G, m + 3 + 1, hlt, HLN.out, by go_num, rfl, hGw, HN.out, HBN.out⟩
              case measure => simp [intOf]; omega
    · have hge : n ≤ k := by omega
      have HF := Lib.hid (show k = n by omega)
      have HMM := Lib.hid hm
      clear hr1 hb hm
      go_wp2_with fail
      go_ret
      exact ⟨⟨g1, c1, by rw [← HF.out, ← HMM.out]; rfl, by rw [← HF.out]; exact HR1.out, hg1⟩, HB.out⟩
end Go.Proofs.YtiebdmamjlgeoaaDoor
