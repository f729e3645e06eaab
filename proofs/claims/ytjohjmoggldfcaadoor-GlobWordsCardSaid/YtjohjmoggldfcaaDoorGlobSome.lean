/-
  Is a text one of some patterns: by contracts. Conditions: none but sizes.
-/
import Derived.Test.YtjohjmoggldfcaaDoorGlobMatch
namespace Go.Proofs.YtjohjmoggldfcaaDoor
open Go.RowKit

/-- The value v is a slice that reads as the strings ss. -/
def StrRow (w : World) (v : Value) (ss : List ByteArray) : Prop :=
  v = .slice none 0 0 ∧ ss = [] ∨ ∃ b o cap, v = .slice (some ⟨b, o, none⟩) ss.length cap ∧ ss.length ≤ cap ∧ cap ≤ maxLen ∧ ∀ i (h : i < ss.length), w.cell? ⟨b, o + i, none⟩ = some (.string ss[i])
theorem StrRow.keep {w w' : World} {v : Value} {ss : List ByteArray} (h : StrRow w v ss) (hb : Below w.heap.size w w') : StrRow w' v ss := by
  rcases h with h | ⟨b, o, cap, h1, h2, h3, h4⟩
  · exact Or.inl h
  · exact Or.inr ⟨b, o, cap, h1, h2, h3, fun i hi => (hb.cell (World.block_lt_of_cell? _ _ (h4 i hi))).trans (h4 i hi)⟩
theorem StrRow.len {w : World} {v : Value} {ss : List ByteArray} (h : StrRow w v ss) : ss.length ≤ maxLen := by
  rcases h with ⟨_, rfl⟩ | ⟨b, o, cap, h1, h2, h3, h4⟩
  · exact Nat.zero_le _
  · omega
/-- Is one of them wrong? Is one of them a pattern of the text? -/
def anyWrong (ss : List ByteArray) : Bool := ss.any fun p => !rightB p
def anyHit (ss : List ByteArray) (s : ByteArray) : Bool := ss.any fun p => matchB p s
theorem any_take_more (f : ByteArray → Bool) (ss : List ByteArray) (k : Nat) (h : k < ss.length) (h0 : (ss.take k).any f = false) : (ss.take (k + 1)).any f = f ss[k] := by
  rw [List.take_succ_eq_append_getElem h, List.any_append, h0]; simp
theorem any_take_hit (f : ByteArray → Bool) (ss : List ByteArray) (k : Nat) (h : k < ss.length) (h1 : f ss[k] = true) : ss.any f = true := by
  rw [List.any_eq_true]; exact ⟨ss[k], List.getElem_mem h, h1⟩

set_option maxRecDepth 100000 in
set_option maxHeartbeats 2000000 in
theorem wrongs_any (v : Value) (ss : List ByteArray) (w : World) (h : StrRow w v ss) (hz : ∀ s ∈ ss, s.size ≤ maxLen) :
    Calls Tryd.prog 40 #[v, .func (.func 31) #[] #[]] w fun e w' => ∃ n : Int, e = .returned (.int .i64 n) ∧ decide (0 ≤ n) = anyWrong ss ∧ w = w' := by
  have hl := h.len
  unfold maxLen at hl
  rcases h with ⟨rfl, rfl⟩ | ⟨b, o, cap, rfl, h2, h3, h4⟩
  · go_enter Tryd.func40, Tryd.ntmps40
    go_wp2_with fail
    refine wp_loop_rounds 1 ?_
    rw [rounds_succ]
    go_wp2_with fail
    go_ret
    exact ⟨-1, rfl, rfl, rfl⟩
  · go_enter Tryd.func40, Tryd.ntmps40
    have H4 := Lib.hid h4
    have HZ := Lib.hid hz
    clear h4 hz
    unfold maxLen at h3
    go_wp2_with fail
    go_loop [8] (fun i => ∃ k : Nat, k ≤ ss.length ∧ i = .int .i64 k ∧ (ss.take k).any (fun p => !rightB p) = false) (fun i => ss.length - (intOf i).toNat)
    case atStart => exact ⟨0, Nat.zero_le _, rfl, rfl⟩
    case round =>
      obtain ⟨k, hk, rfl, hall⟩ := hrel
      by_cases hlt : k < ss.length
      · have hc := H4.out k hlt
        have W := Lib.hid (fun w => isWrong_g ss[k] w (HZ.out ss[k] (List.getElem_mem hlt)))
        have HN := Lib.hid (any_take_more (fun p => !rightB p) ss k hlt hall)
        have HT := Lib.hid (any_take_hit (fun p => !rightB p) ss k hlt)
        obtain ⟨q, hq⟩ : ∃ q, (!rightB ss[k]) = q := ⟨_, rfl⟩
        rw [hq] at W
        have HQ := Lib.hid hq
        clear hall hq
        cases q with
        | true =>
          have HO := Lib.hid (show decide (0 ≤ (k : Int)) = anyWrong ss by
            rw [show anyWrong ss = true from HT.out HQ.out]; exact decide_eq_true (by omega))
          go_wp2_with fail
          refine (W.out _).mono ?_
          rintro e w1 ⟨rfl, rfl⟩
          go_wp2_with fail
          go_ret
          exact ⟨k, rfl, HO.out, rfl⟩
        | false =>
          go_wp2_with fail
          refine (W.out _).mono ?_
          rintro e w1 ⟨rfl, rfl⟩
          go_wp2_with fail
          go_round
          case rel => exact ⟨k + 1, by omega, by go_num, by rw [HN.out]; exact HQ.out⟩
          case measure => simp [intOf]; omega
      · have HO := Lib.hid (show decide (0 ≤ (-1 : Int)) = anyWrong ss by
          rw [List.take_of_length_le (by omega)] at hall
          rw [show anyWrong ss = false from hall]; rfl)
        clear hall
        go_wp2_with fail
        go_ret
        exact ⟨-1, rfl, HO.out, rfl⟩

set_option maxRecDepth 100000 in
theorem hit_g (p s : ByteArray) (B : Nat) (w : World) (hp : p.size ≤ maxLen) (hs : s.size ≤ maxLen) (hM : SomeMax w) (hc : w.cell? ⟨B, 0, none⟩ = some (.string s)) :
    Calls Tryd.prog 32 #[.string p, .pointer (some ⟨B, 0, none⟩)] w fun e w' => e = .returned (.bool (matchB p s)) ∧ Below w.heap.size w w' := by
  have M := Lib.hid (Match_g p s w hp hs hM)
  obtain ⟨b, hb⟩ : ∃ b, matchB p s = b := ⟨_, rfl⟩
  rw [hb] at M ⊢
  clear hb hp hs hM
  go_enter Tryd.func32, Tryd.ntmps32
  go_wp2_with fail
  refine M.out.mono ?_
  rintro e w1 ⟨rfl, hb1⟩
  have HB := Lib.hid hb1
  clear hb1
  go_wp2_with fail
  go_ret
  exact ⟨rfl, HB.out⟩

set_option maxRecDepth 100000 in
set_option maxHeartbeats 2000000 in
theorem hits_any (v : Value) (ss : List ByteArray) (s : ByteArray) (B : Nat) (w : World) (h : StrRow w v ss) (hz : ∀ s ∈ ss, s.size ≤ maxLen) (hs : s.size ≤ maxLen) (hM : SomeMax w) (hc : w.cell? ⟨B, 0, none⟩ = some (.string s)) :
    Calls Tryd.prog 40 #[v, .func (.func 32) #[] #[.pointer (some ⟨B, 0, none⟩)]] w fun e w' => ∃ n : Int, e = .returned (.int .i64 n) ∧ decide (0 ≤ n) = anyHit ss s ∧ Below w.heap.size w w' := by
  have hl := h.len
  unfold maxLen at hl
  rcases h with ⟨rfl, rfl⟩ | ⟨b, o, cap, rfl, h2, h3, h4⟩
  · go_enter Tryd.func40, Tryd.ntmps40
    go_wp2_with fail
    refine wp_loop_rounds 1 ?_
    rw [rounds_succ]
    go_wp2_with fail
    go_ret
    exact ⟨-1, rfl, rfl, Below.refl _ _⟩
  · go_enter Tryd.func40, Tryd.ntmps40
    have H4 := Lib.hid h4
    have HZ := Lib.hid hz
    have HM := Lib.hid hM
    have HC := Lib.hid hc
    clear h4 hz hM hc
    unfold maxLen at h3
    go_wp2_with fail
    go_loopw [8] (fun i wr => ∃ k : Nat, k ≤ ss.length ∧ i = .int .i64 k ∧ (ss.take k).any (fun p => matchB p s) = false ∧ Below w.heap.size w wr) (fun i _ => ss.length - (intOf i).toNat)
    case atStart => exact ⟨0, Nat.zero_le _, rfl, rfl, Below.refl _ _⟩
    case round =>
      obtain ⟨k, hk, rfl, hall, hb⟩ := hrel
      have HB := Lib.hid hb
      by_cases hlt : k < ss.length
      · have hc0 := H4.out k hlt
        have hc := (hb.cell (World.block_lt_of_cell? _ _ hc0)).trans hc0
        have W := Lib.hid (hit_g ss[k] s B wr (HZ.out ss[k] (List.getElem_mem hlt)) hs (HM.out.keep hb) ((hb.cell (World.block_lt_of_cell? _ _ HC.out)).trans HC.out))
        have HN := Lib.hid (any_take_more (fun p => matchB p s) ss k hlt hall)
        have HT := Lib.hid (any_take_hit (fun p => matchB p s) ss k hlt)
        obtain ⟨q, hq⟩ : ∃ q, (matchB ss[k] s) = q := ⟨_, rfl⟩
        rw [hq] at W
        have HQ := Lib.hid hq
        clear hall hq hb hc0
        cases q with
        | true =>
          have HO := Lib.hid (show decide (0 ≤ (k : Int)) = anyHit ss s by
            rw [show anyHit ss s = true from HT.out HQ.out]; exact decide_eq_true (by omega))
          go_wp2_with fail
          refine W.out.mono ?_
          rintro e w1 ⟨rfl, hb1⟩
          have HB1 := Lib.hid (HB.out.trans (hb1.mono HB.out.size))
          clear hb1
          go_wp2_with fail
          go_ret
          exact ⟨k, rfl, HO.out, HB1.out⟩
        | false =>
          go_wp2_with fail
          refine W.out.mono ?_
          rintro e w1 ⟨rfl, hb1⟩
          have HB1 := Lib.hid (HB.out.trans (hb1.mono HB.out.size))
          clear hb1
          go_wp2_with fail
          go_roundw
          case rel => exact ⟨k + 1, by omega, by go_num, by rw [HN.out]; exact HQ.out, HB1.out⟩
          case measure => simp [intOf]; omega
      · have HO := Lib.hid (show decide (0 ≤ (-1 : Int)) = anyHit ss s by
          rw [List.take_of_length_le (by omega)] at hall
          rw [show anyHit ss s = false from hall]; rfl)
        clear hall hb
        go_wp2_with fail
        go_ret
        exact ⟨-1, rfl, HO.out, HB.out⟩

set_option maxRecDepth 100000 in
theorem contains_wrong (v : Value) (ss : List ByteArray) (w : World) (h : StrRow w v ss) (hz : ∀ s ∈ ss, s.size ≤ maxLen) :
    Calls Tryd.prog 30 #[v, .func (.func 31) #[] #[]] w fun e w' => e = .returned (.bool (anyWrong ss)) ∧ w = w' := by
  have I := Lib.hid (wrongs_any v ss w h hz)
  clear h hz
  go_enter Tryd.func30, Tryd.ntmps30
  go_wp2_with fail
  refine I.out.mono ?_
  rintro e w1 ⟨n, rfl, hn, rfl⟩
  have HN := Lib.hid hn
  clear hn
  go_wp2_with fail
  go_ret
  exact ⟨by rw [← HN.out]; rfl, rfl⟩
set_option maxRecDepth 100000 in
theorem contains_hit (v : Value) (ss : List ByteArray) (s : ByteArray) (B : Nat) (w : World) (h : StrRow w v ss) (hz : ∀ s ∈ ss, s.size ≤ maxLen) (hs : s.size ≤ maxLen) (hM : SomeMax w) (hc : w.cell? ⟨B, 0, none⟩ = some (.string s)) :
    Calls Tryd.prog 30 #[v, .func (.func 32) #[] #[.pointer (some ⟨B, 0, none⟩)]] w fun e w' => e = .returned (.bool (anyHit ss s)) ∧ Below w.heap.size w w' := by
  have I := Lib.hid (hits_any v ss s B w h hz hs hM hc)
  clear h hz hM hc
  go_enter Tryd.func30, Tryd.ntmps30
  go_wp2_with fail
  refine I.out.mono ?_
  rintro e w1 ⟨n, rfl, hn, hb⟩
  have HN := Lib.hid hn
  have HB := Lib.hid hb
  clear hn hb
  go_wp2_with fail
  go_ret
  exact ⟨by rw [← HN.out]; rfl, HB.out⟩

/-- What Some answers. -/
def someB (ss : List ByteArray) (s : ByteArray) : Bool × Int :=
  if decide (200 < s.size) || anyWrong ss then (false, 1) else (anyHit ss s || ss.isEmpty, 0)
set_option maxRecDepth 100000 in
set_option maxHeartbeats 2000000 in
theorem Some_g (v : Value) (ss : List ByteArray) (s : ByteArray) (w : World) (h : StrRow w v ss) (hz : ∀ s ∈ ss, s.size ≤ maxLen) (hs : s.size ≤ maxLen) (hM : SomeMax w) :
    Calls Tryd.prog 16 #[.string s, v] w fun e w' => e = .returned (.tuple #[.bool (someB ss s).1, .int .i64 (someB ss s).2]) ∧ Below w.heap.size w w' := by
  have hv : ∃ a cap, v = .slice a ss.length cap := by
    rcases h with ⟨rfl, rfl⟩ | ⟨b, o, cap, rfl, _⟩
    · exact ⟨_, _, rfl⟩
    · exact ⟨_, _, rfl⟩
  obtain ⟨a, cap, rfl⟩ := hv
  have hl := h.len
  unfold maxLen at hl
  have hb0 : Below w.heap.size w (w.alloc (.cells #[.string s] 9)) := (Below.refl _ _).alloc (Nat.le_refl _) _
  have HB0 := Lib.hid hb0
  have C1 := Lib.hid (contains_wrong (.slice a ss.length cap) ss _ (h.keep hb0) hz)
  have C2 := Lib.hid (contains_hit (.slice a ss.length cap) ss s w.heap.size (w.alloc (.cells #[.string s] 9)) (h.keep hb0) hz hs (hM.keep hb0) (by rw [World.cell?_alloc_at _ _ _ _ rfl]; rfl))
  have HO := Lib.hid (show someB ss s = if decide (200 < s.size) || anyWrong ss then (false, 1) else (anyHit ss s || ss.isEmpty, 0) from rfl)
  have HE := Lib.hid (show ss.isEmpty = ((ss.length : Int) == 0) by
    rw [Bool.eq_iff_iff, List.isEmpty_iff, beq_iff_eq, ← List.length_eq_zero_iff]; omega)
  obtain ⟨p, hp⟩ : ∃ p, anyWrong ss = p := ⟨_, rfl⟩
  obtain ⟨q, hq⟩ : ∃ q, anyHit ss s = q := ⟨_, rfl⟩
  rw [hp] at C1 HO
  rw [hq] at C2 HO
  unfold maxLen at hs
  clear hp hq h hz hM hb0
  by_cases h2 : 200 < s.size
  · rw [decide_eq_true h2] at HO
    go_enter Tryd.func16, Tryd.ntmps16
    go_wp2_with fail
    go_ret2
    exact ⟨by rw [HO.out]; rfl, HB0.out⟩
  · rw [decide_eq_false h2] at HO
    cases p with
    | true =>
      go_enter Tryd.func16, Tryd.ntmps16
      go_wp2_with fail
      refine C1.out.mono ?_
      rintro e w1 ⟨rfl, rfl⟩
      go_wp2_with fail
      go_ret2
      exact ⟨by rw [HO.out]; rfl, HB0.out⟩
    | false =>
      cases q with
      | true =>
        go_enter Tryd.func16, Tryd.ntmps16
        go_wp2_with fail
        refine C1.out.mono ?_
        rintro e w1 ⟨rfl, rfl⟩
        go_wp2_with fail
        refine C2.out.mono ?_
        rintro e w1 ⟨rfl, hb1⟩
        have HB1 := Lib.hid (HB0.out.trans (hb1.mono HB0.out.size))
        clear hb1
        go_wp2_with fail
        go_ret2
        exact ⟨by rw [HO.out]; rfl, HB1.out⟩
      | false =>
        go_enter Tryd.func16, Tryd.ntmps16
        go_wp2_with fail
        refine C1.out.mono ?_
        rintro e w1 ⟨rfl, rfl⟩
        go_wp2_with fail
        refine C2.out.mono ?_
        rintro e w1 ⟨rfl, hb1⟩
        have HB1 := Lib.hid (HB0.out.trans (hb1.mono HB0.out.size))
        clear hb1
        go_wp2_with fail
        go_ret2
        exact ⟨by rw [HO.out, HE.out]; rfl, HB1.out⟩
end Go.Proofs.YtjohjmoggldfcaaDoor
