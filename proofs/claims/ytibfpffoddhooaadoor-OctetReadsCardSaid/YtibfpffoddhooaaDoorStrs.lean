/-
  Slices of strings as values: what they read as; May, Same, few of the statements, by contracts. Conditions: none.
-/
import Derived.Test.YtibfpffoddhooaaDoorWide
import Derived.Deep.Strs
import Derived.BigQuiet
import Derived.Deep.QuietTactic
namespace Go.Proofs.YtibfpffoddhooaaDoor
open Go.RowKit

/-- The value v is a slice that reads as the strings ss. -/
def StrRow (w : World) (v : Value) (ss : List ByteArray) : Prop :=
  v = .slice none 0 0 ∧ ss = [] ∨ ∃ b o cap, v = .slice (some ⟨b, o, none⟩) ss.length cap ∧ ss.length ≤ cap ∧ cap ≤ maxLen ∧ ∀ i (h : i < ss.length), w.cell? ⟨b, o + i, none⟩ = some (.string ss[i])
theorem StrRow.keep {w w' : World} {v : Value} {ss : List ByteArray} (h : StrRow w v ss) (hb : Below w.heap.size w w') : StrRow w' v ss := by
  rcases h with h | ⟨b, o, cap, h1, h2, h3, h4⟩
  · exact Or.inl h
  · exact Or.inr ⟨b, o, cap, h1, h2, h3, fun i hi => (hb.cell (World.block_lt_of_cell? _ _ (h4 i hi))).trans (h4 i hi)⟩
theorem StrRow.len {w : World} {v : Value} {ss : List ByteArray} (h : StrRow w v ss) : ss.length ≤ maxLen := by
  rcases h with ⟨_, rfl⟩ | ⟨b, o, cap, h1, h2, h3, h4⟩
  · exact Nat.zero_le _
  · omega

/-- May texts be bound? -/
def mayB (ss : List ByteArray) : Bool := (ss.all fun s => decide (s.size ≤ 4096)) && decide (ss.length ≤ 64)

set_option maxRecDepth 100000 in
set_option maxHeartbeats 1000000 in
theorem May_any (v : Value) (ss : List ByteArray) (w : World) (h : StrRow w v ss) (hsz : ∀ s ∈ ss, s.size ≤ maxLen) :
    Calls Tryd.prog 23 #[v] w fun e w' => e = .returned (.bool (mayB ss)) ∧ w = w' := by
  have hl := h.len
  unfold maxLen at hl hsz
  rcases h with ⟨rfl, rfl⟩ | ⟨b, o, cap, rfl, h2, h3, h4⟩
  · have HO := Lib.hid (show mayB [] = true from rfl)
    go_enter Tryd.func23, Tryd.ntmps23
    go_wp2
    refine wp_loop_rounds 1 ?_
    rw [rounds_succ]
    go_wp2
    go_ret
    exact ⟨by rw [HO.out]; rfl, rfl⟩
  · have H4 := Lib.hid h4
    have HZ := Lib.hid hsz
    clear h4 hsz
    unfold maxLen at h3
    go_enter Tryd.func23, Tryd.ntmps23
    go_wp2_with fail
    go_loop [7] (fun i => ∃ k : Nat, k ≤ ss.length ∧ i = .int .i64 k ∧ (ss.take k).all (fun s => decide (s.size ≤ 4096)) = true) (fun i => ss.length - (intOf i).toNat)
    case atStart => exact ⟨0, Nat.zero_le _, rfl, rfl⟩
    case round =>
      obtain ⟨k, hk, rfl, hall⟩ := hrel
      have HA := Lib.hid hall
      clear hall
      by_cases hlt : k < ss.length
      · have hc := H4.out k hlt
        have hz := HZ.out ss[k] (List.getElem_mem hlt)
        have hts := Lib.hid (List.take_succ_eq_append_getElem hlt)
        by_cases hbig : ss[k].size ≤ 4096
        · go_wp2_with fail
          go_round
          case rel => exact ⟨k + 1, by omega, by go_num, by rw [hts.out, List.all_append, HA.out]; simp [hbig]⟩
          case measure => simp [intOf]; omega
        · have HO := Lib.hid (show mayB ss = false by
            unfold mayB
            have : (ss.all fun s => decide (s.size ≤ 4096)) = false := by
              rw [List.all_eq_false]; exact ⟨ss[k], List.getElem_mem hlt, by simp; omega⟩
            rw [this]; rfl)
          go_wp2_with fail
          go_ret
          exact ⟨by rw [HO.out]; rfl, rfl⟩
      · have HO := Lib.hid (show mayB ss = decide ((ss.length : Int) ≤ 64) by
          unfold mayB
          have := HA.out
          rw [List.take_of_length_le (by omega)] at this
          rw [this]
          simp only [Bool.true_and]
          exact decide_eq_decide.2 (by omega))
        go_wp2_with fail
        go_ret
        exact ⟨by rw [HO.out]; rfl, rfl⟩

set_option maxRecDepth 100000 in
set_option maxHeartbeats 1000000 in
theorem Same_any (v u : Value) (ss ts : List ByteArray) (w : World) (h : StrRow w v ss) (g : StrRow w u ts) :
    Calls Tryd.prog 22 #[v, u] w fun e w' => e = .returned (.bool (decide (ss = ts))) ∧ Below w.heap.size w w' := by
  have hl := h.len
  have gl := g.len
  unfold maxLen at hl gl
  by_cases hne : ss.length = ts.length
  · rcases h with ⟨rfl, rfl⟩ | ⟨b, o, cap, rfl, h2, h3, h4⟩
    · obtain rfl : ts = [] := List.length_eq_zero_iff.1 (by simpa using hne.symm)
      have hu : ∃ a c, u = .slice a 0 c := by
        rcases g with ⟨rfl, _⟩ | ⟨b, o, cap, rfl, _⟩
        · exact ⟨_, _, rfl⟩
        · exact ⟨_, _, rfl⟩
      obtain ⟨a, c, rfl⟩ := hu
      clear g
      go_enter Tryd.func22, Tryd.ntmps22
      go_wp2
      refine wp_loop_rounds 1 ?_
      rw [rounds_succ]
      go_wp2
      go_ret
      exact ⟨by simp, Below.refl _ _⟩
    · unfold maxLen at h3
      have gg : ts = [] ∨ ∃ b o cap, u = .slice (some ⟨b, o, none⟩) ts.length cap ∧ ∀ i (h : i < ts.length), w.cell? ⟨b, o + i, none⟩ = some (.string ts[i]) := by
        rcases g with ⟨_, rfl⟩ | ⟨b, o, cap, rfl, _, _, g4⟩
        · exact Or.inl rfl
        · exact Or.inr ⟨b, o, cap, rfl, g4⟩
      have gu : ∃ a c, u = .slice a ts.length c := by
        rcases g with ⟨rfl, rfl⟩ | ⟨b, o, cap, rfl, _⟩
        · exact ⟨_, _, rfl⟩
        · exact ⟨_, _, rfl⟩
      obtain ⟨a, c, rfl⟩ := gu
      have H4 := Lib.hid h4
      have GG := Lib.hid gg
      have HN := Lib.hid hne
      have t0 : (((ss.length : Nat) : Int) != ((ts.length : Nat) : Int)) = false := by rw [bne_eq_false_iff_eq]; omega
      have n1 : ss.length ≤ ts.length := by omega
      have n2 : ts.length ≤ ss.length := by omega
      clear h4 gg g hne
      go_enter Tryd.func22, Tryd.ntmps22
      go_wp2_with fail
      go_loopw [13] (fun i wr => ∃ k : Nat, k ≤ ss.length ∧ i = .int .i64 k ∧ ss.take k = ts.take k ∧ Below w.heap.size w wr) (fun i _ => ss.length - (intOf i).toNat)
      case atStart => exact ⟨0, Nat.zero_le _, rfl, rfl, Below.refl _ _⟩
      case round =>
        obtain ⟨k, hk, rfl, htk, hb⟩ := hrel
        have HT := Lib.hid htk
        clear htk
        by_cases hlt : k < ss.length
        · have ht : k < ts.length := by omega
          have hc0 := H4.out k hlt
          have hc := (hb.cell (World.block_lt_of_cell? _ _ hc0)).trans hc0
          obtain ⟨b', o', c', hu, g4⟩ : ∃ b o cap, (Value.slice a ts.length c) = .slice (some ⟨b, o, none⟩) ts.length cap ∧ ∀ i (h : i < ts.length), w.cell? ⟨b, o + i, none⟩ = some (.string ts[i]) := by
            rcases GG.out with e | h
            · rw [e] at ht; simp at ht
            · exact h
          have ha : a = some ⟨b', o', none⟩ := by simp at hu; exact hu.1
          clear hu
          subst ha
          have gc0 := g4 k ht
          have gc := (hb.cell (World.block_lt_of_cell? _ _ gc0)).trans gc0
          clear hc0 gc0 g4
          by_cases heq : ss[k] = ts[k]
          · have HS := Lib.hid (show ss.take (k + 1) = ts.take (k + 1) by
              rw [List.take_succ_eq_append_getElem hlt, List.take_succ_eq_append_getElem ht, HT.out, heq])
            rw [heq] at hc
            clear heq
            go_wp2_with fail
            go_quiet (fail)
            go_wp2_with fail
            go_roundw
            case rel => exact ⟨k + 1, by omega, by go_num, HS.out, below_drewN hb _⟩
            case measure => simp [intOf]; omega
          · have HO := Lib.hid (show decide (ss = ts) = false by
              simp only [decide_eq_false_iff_not]; rintro rfl; exact heq rfl)
            have hne1 : (ss[k].toList == ts[k].toList) = false := by
              rw [beq_eq_false_iff_ne, ByteArray.toList_eq, ByteArray.toList_eq]; intro e; exact heq (ByteArray.ext (Array.ext' e))
            go_wp2_with fail
            go_quiet (fail)
            go_wp2_with fail
            go_ret
            exact ⟨by rw [HO.out]; rfl, below_drewN hb _⟩
        · have HO := Lib.hid (show decide (ss = ts) = true by
            have := HT.out
            rw [List.take_of_length_le (by omega), List.take_of_length_le (by omega)] at this
            simp [this])
          go_wp2_with fail
          go_ret
          exact ⟨by rw [HO.out]; rfl, hb⟩
  · have HO := Lib.hid (show decide (ss = ts) = false by
      simp only [decide_eq_false_iff_not]; rintro rfl; exact hne rfl)
    have hu : (∃ a c, v = .slice a ss.length c) ∧ ∃ a c, u = .slice a ts.length c := by
      constructor
      · rcases h with ⟨rfl, rfl⟩ | ⟨b, o, cap, rfl, _⟩
        · exact ⟨_, _, rfl⟩
        · exact ⟨_, _, rfl⟩
      · rcases g with ⟨rfl, rfl⟩ | ⟨b, o, cap, rfl, _⟩
        · exact ⟨_, _, rfl⟩
        · exact ⟨_, _, rfl⟩
    obtain ⟨⟨a, c, rfl⟩, a', c', rfl⟩ := hu
    have t0 : (((ss.length : Nat) : Int) != ((ts.length : Nat) : Int)) = true := by rw [bne_iff_ne]; omega
    clear h g hne
    go_enter Tryd.func22, Tryd.ntmps22
    go_wp2
    go_ret
    exact ⟨by rw [HO.out]; rfl, Below.refl _ _⟩

/-- What the statements cut a slice of strings to. -/
def fewB (ss : List ByteArray) : List ByteArray := (ss.take 66).map fun s => s.extract 0 (min s.size 4100)
theorem fewB_length (ss : List ByteArray) : (fewB ss).length = min 66 ss.length := by simp [fewB]
theorem fewB_size (ss : List ByteArray) : ∀ s ∈ fewB ss, s.size ≤ 4100 := by
  intro s hs
  obtain ⟨t, _, rfl⟩ := List.mem_map.1 hs
  simp; omega

theorem infoStr : (Tryd.prog.info? 9).map (fun i => (i.zero, i.size, i.bytes)) = some (some (.string ⟨#[]⟩), 1, 16) := by kernel_rfl

/-- Strings as cells. -/
def strC (ss : List ByteArray) : List Value := ss.map Value.string
theorem strC_length (ss : List ByteArray) : (strC ss).length = ss.length := by simp [strC]

theorem StrRow.of_own {w : World} {B n : Nat} {v : Value} {ss : List ByteArray} (h : w.ownsRow B 9 1 v n (strC ss)) (hn : ss.length = n) : StrRow w v ss := by
  subst hn
  rcases h.2 with ⟨rfl, h0⟩ | ⟨g, cap, cur, rfl, hb, hg, h1, h2, h3, h4⟩
  · exact Or.inl ⟨rfl, List.length_eq_zero_iff.1 h0⟩
  · refine Or.inr ⟨g, 0, cap, rfl, h1, h2, fun i hi => ?_⟩
    have := h.cells (g := g) rfl i (.string ss[i]) (by simp [strC, hi])
    rw [addr0_add] at this
    rw [Nat.zero_add]; exact this

/-- The k first strings cut. -/
def cutS (s : ByteArray) : ByteArray := s.extract 0 (min s.size 4100)
def cutTo (ss : List ByteArray) (k : Nat) : List ByteArray := (ss.take k).map cutS ++ ss.drop k
theorem cutTo_at (ss : List ByteArray) (k : Nat) (h : k < ss.length) : strC (cutTo ss k) = strC ((ss.take k).map cutS) ++ Value.string ss[k] :: strC (ss.drop (k + 1)) := by
  simp only [strC, cutTo, List.map_append, List.drop_eq_getElem_cons h, List.map_cons]
theorem cutTo_next (ss : List ByteArray) (k : Nat) (h : k < ss.length) : strC (cutTo ss (k + 1)) = strC ((ss.take k).map cutS) ++ Value.string (cutS ss[k]) :: strC (ss.drop (k + 1)) := by
  simp only [strC, cutTo, List.take_succ_eq_append_getElem h, List.map_append, List.map_cons, List.map_nil, List.append_assoc, List.cons_append, List.nil_append]
theorem cutTo_len (ss : List ByteArray) (k : Nat) (h : k < ss.length) : (strC ((ss.take k).map cutS)).length = k := by simp [strC]; omega
theorem cutTo_set (ss : List ByteArray) (k : Nat) (h : k < ss.length) : (strC (cutTo ss k)).set k (.string (cutS ss[k])) = strC (cutTo ss (k + 1)) := by
  rw [cutTo_at ss k h, cutTo_next ss k h, List.set_append_right _ _ (by rw [cutTo_len ss k h]; exact Nat.le_refl _), cutTo_len ss k h, Nat.sub_self, List.set_cons_zero]
theorem cutTo_get (ss : List ByteArray) (k : Nat) (h : k < ss.length) : (strC (cutTo ss k))[k]? = some (.string ss[k]) := by
  rw [cutTo_at ss k h, List.getElem?_append_right (by rw [cutTo_len ss k h]; exact Nat.le_refl _), cutTo_len ss k h, Nat.sub_self]; rfl
theorem cutTo_length (ss : List ByteArray) (k : Nat) (h : k ≤ ss.length) : (strC (cutTo ss k)).length = ss.length := by simp [strC, cutTo]; omega
theorem cutTo_all (ss : List ByteArray) : cutTo ss ss.length = ss.map cutS := by simp [cutTo]

set_option maxRecDepth 100000 in
set_option maxHeartbeats 1000000 in
theorem few_any (v : Value) (ss : List ByteArray) (w : World) (h : StrRow w v ss) (hsz : ∀ s ∈ ss, s.size ≤ maxLen) :
    Calls Tryd.prog 18 #[v] w fun e w' => (∃ u, e = .returned u ∧ StrRow w' u (fewB ss) ∧ ∃ x n c, u = .slice (some x) n c) ∧ Below w.heap.size w w' := by
  have hl := h.len
  unfold maxLen at hl hsz
  obtain ⟨i0, hi, hz0, hz1, hz2⟩ := info_parts infoStr
  rcases h with ⟨rfl, rfl⟩ | ⟨b, o, cap, rfl, h2, h3, h4⟩
  · have m0 : min (0 : Int) 66 = 0 := by decide
    go_enter Tryd.func18, Tryd.ntmps18
    go_wp2_with fail
    refine wp_loop_rounds 1 ?_
    rw [rounds_succ]
    go_wp2
    go_ret
    refine ⟨⟨_, rfl, Or.inr ⟨w.heap.size, 0, 0, rfl, Nat.le_refl _, Nat.zero_le _, fun i hi => absurd hi (Nat.not_lt_zero _)⟩, _, _, _, rfl⟩, (Below.refl _ _).alloc (by omega) _⟩
  · obtain ⟨m, hm⟩ : ∃ m, min ss.length 66 = m := ⟨_, rfl⟩
    have hm' : min ((ss.length : Nat) : Int) 66 = (m : Int) := by omega
    have hms : m ≤ ss.length := by omega
    have hm66 : m ≤ 66 := by omega
    have hlm : (ss.take m).length = m := by simp; omega
    have hf : fewB ss = (ss.take m).map cutS := by
      unfold fewB
      rw [← hm, List.take_eq_take_min]; simp [Nat.min_comm]; rfl
    have HF := Lib.hid hf
    have HL := Lib.hid hlm
    have hcells : ∀ o', ∀ (j : Nat) (u : Value), (strC (ss.take m))[j]? = some u → (w.alloc o').cell? ((⟨b, o, none⟩ : Addr).add j) = some u := fun o' j u hu => by
      have hj : j < m := by
        have := (List.getElem?_eq_some_iff.1 hu).1; rw [strC_length, hlm] at this; exact this
      have e : (⟨b, o, none⟩ : Addr).add j = ⟨b, o + j, none⟩ := by unfold Addr.add; split <;> simp_all
      have hc := h4 j (by omega)
      have hu' : u = .string ss[j] := by
        simp only [strC, List.getElem?_map, List.getElem?_take] at hu
        rw [if_pos hj, List.getElem?_eq_getElem (by omega)] at hu
        simpa using hu.symm
      rw [e, hu', World.cell?_alloc_lt _ _ _ (World.block_lt_of_cell? _ _ hc)]
      exact hc
    have HC := Lib.hid hcells
    have HZ := Lib.hid hsz
    clear h4 hsz hcells hf hlm hm
    unfold maxLen at h3
    go_enter Tryd.func18, Tryd.ntmps18
    go_wp2_with (at_builtin; refine wpList_append_own _ rfl _ _ 36 rfl w.heap.size 9 i0 (.string ⟨#[]⟩) 1 16 Tryd.underlying36 hi hz0 hz1 hz2 rfl (by decide) _ 0 [] rfl (World.ownsRow_lit w #[] 0 (Nat.le_refl _) (Nat.zero_le _) rfl) ⟨b, o, none⟩ m cap (strC (ss.take m)) rfl ?c1 ?c2 ?c3 ?c4 ?c5 ?c6 ?_)
    case c1 => rw [strC_length, HL.out, Nat.mul_one]
    case c2 => exact HC.out _
    case c3 => intro u hu; obtain ⟨t, _, rfl⟩ := List.mem_map.1 hu; rfl
    case c4 => unfold maxLen; omega
    case c5 => omega
    case c6 => simp
    intro v' w1 hown hgrow hnil
    have hb1 : Below w.heap.size w w1 := ((Below.refl _ _).alloc (Nat.le_refl _) _).grown hgrow (by simp) (fun _ e => by cases e; exact Nat.le_refl _)
    have hv : ∃ g c, v' = .slice (some ⟨g, 0, none⟩) m c := by
      rcases hown.2 with ⟨h0, _⟩ | ⟨g, c, cur, hv, _⟩
      · exact (hnil h0).elim
      · exact ⟨g, c, hv⟩
    obtain ⟨g, c, rfl⟩ := hv
    clear hnil hgrow
    have hgB : w.heap.size ≤ g := (hown.lt g rfl).1
    go_wp2_with fail
    go_loopw [14] (fun i wr => ∃ k : Nat, k ≤ m ∧ i = .int .i64 k ∧ wr.ownsRow w.heap.size 9 1 (.slice (some ⟨g, 0, none⟩) m c) m (strC (cutTo (ss.take m) k)) ∧ Below w.heap.size w wr) (fun i _ => m - (intOf i).toNat)
    case atStart => exact ⟨0, Nat.zero_le _, rfl, by simpa [cutTo] using hown, hb1⟩
    case round =>
      obtain ⟨k, hk, rfl, ho, hb⟩ := hrel
      by_cases hlt : k < m
      · have hkl : k < (ss.take m).length := by rw [HL.out]; exact hlt
        have hc := (ho.cellAt k (by omega)).trans (cutTo_get (ss.take m) k hkl)
        have hfz := ho.frozenAt k
        have st := Lib.hid (ho.stored k (.string (cutS (ss.take m)[k])))
        have hset := Lib.hid (cutTo_set (ss.take m) k hkl)
        have hsk := HZ.out (ss.take m)[k] (List.mem_of_mem_take (List.getElem_mem hkl))
        obtain ⟨x, hx⟩ : ∃ x, (ss.take m)[k] = x := ⟨_, rfl⟩
        rw [hx] at hc hsk st hset
        have hmx : min ((x.size : Nat) : Int) 4100 = ((min x.size 4100 : Nat) : Int) := by omega
        have hcut : x.extract 0 (min x.size 4100) = cutS x := rfl
        have hmx2 : (((min x.size 4100 : Nat) : Int)).toNat = min x.size 4100 := by omega
        clear hx
        go_wp2_with fail
        go_roundw
        case rel => exact ⟨k + 1, by omega, by go_num, by rw [← hset.out]; exact st.out.1, hb.grown st.out.2 hb.size (fun _ e => by cases e; exact hgB)⟩
        case measure => simp [intOf]; omega
      · obtain rfl : k = m := by omega
        have hdone := Lib.hid (show StrRow wr (.slice (some ⟨g, 0, none⟩) k c) (fewB ss) from by
          have e : cutTo (ss.take k) k = fewB ss := by
            have := cutTo_all (ss.take k); rw [HL.out] at this; rw [this, HF.out]
          rw [e] at ho
          exact StrRow.of_own ho (by rw [HF.out, List.length_map, HL.out]))
        go_wp2_with fail
        go_ret
        exact ⟨⟨_, rfl, hdone.out, _, _, _, rfl⟩, hb⟩
end Go.Proofs.YtibfpffoddhooaaDoor
