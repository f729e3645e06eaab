/-
  GlobNames returns true at every input: the walk. Conditions: none but sizes.
-/
import Derived.Test.YtjohjmoggldfcaaDoorGlobSome
import Derived.Test.YtjohjmoggldfcaaDoorGlobLaws2
import Derived.Lib.MinMax
import Derived.SliceStrings
import Derived.Deep.Strs
import Derived.Lib.AppendStr
import Derived.ArgAppend
import Derived.Deep.AppendLies
namespace Go.Proofs.YtjohjmoggldfcaaDoor
open Go.RowKit

theorem infoStr : (Tryd.prog.info? 9).map (fun i => (i.zero, i.size, i.bytes)) = some (some (.string ⟨#[]⟩), 1, 16) := by kernel_rfl

/-- Strings as cells. -/
def strC (ss : List ByteArray) : List Value := ss.map Value.string
theorem strC_length (ss : List ByteArray) : (strC ss).length = ss.length := by simp [strC]

theorem StrRow.of_own {w : World} {B n : Nat} {v : Value} {ss : List ByteArray} (h : w.ownsRow B 9 1 v n (strC ss)) (hn : ss.length = n) : StrRow w v ss := by
  subst hn
  rcases h.2 with ⟨rfl, h0⟩ | ⟨g, cap, cur, rfl, hb, hg, h1, h2, h3, h4⟩
  · exact Or.inl ⟨rfl, List.length_eq_zero_iff.1 h0⟩
  · refine Or.inr ⟨g, 0, cap, rfl, h1, h2, fun i hi => ?_⟩
    have := h.cells (g := g) rfl i (.string ss[i]) (by simp [strC, hi])
    rw [addr0_addG] at this
    rw [Nat.zero_add]; exact this

/-- A string's first N bytes; the k first strings cut so. -/
def cutN (N : Nat) (s : ByteArray) : ByteArray := s.extract 0 (min s.size N)
theorem cutN_size (N : Nat) (s : ByteArray) : (cutN N s).size ≤ N := by unfold cutN; rw [ByteArray.size_extract]; omega
def cutNTo (N : Nat) (ss : List ByteArray) (k : Nat) : List ByteArray := (ss.take k).map (cutN N) ++ ss.drop k
theorem cutNTo_len (N : Nat) (ss : List ByteArray) (k : Nat) (h : k < ss.length) : (strC ((ss.take k).map (cutN N))).length = k := by simp [strC]; omega
theorem cutNTo_at (N : Nat) (ss : List ByteArray) (k : Nat) (h : k < ss.length) : strC (cutNTo N ss k) = strC ((ss.take k).map (cutN N)) ++ Value.string ss[k] :: strC (ss.drop (k + 1)) := by
  simp only [strC, cutNTo, List.map_append, List.drop_eq_getElem_cons h, List.map_cons]
theorem cutNTo_next (N : Nat) (ss : List ByteArray) (k : Nat) (h : k < ss.length) : strC (cutNTo N ss (k + 1)) = strC ((ss.take k).map (cutN N)) ++ Value.string (cutN N ss[k]) :: strC (ss.drop (k + 1)) := by
  simp only [strC, cutNTo, List.take_succ_eq_append_getElem h, List.map_append, List.map_cons, List.map_nil, List.append_assoc, List.cons_append, List.nil_append]
theorem cutNTo_set (N : Nat) (ss : List ByteArray) (k : Nat) (h : k < ss.length) : (strC (cutNTo N ss k)).set k (.string (cutN N ss[k])) = strC (cutNTo N ss (k + 1)) := by
  rw [cutNTo_at N ss k h, cutNTo_next N ss k h, List.set_append_right _ _ (by rw [cutNTo_len N ss k h]; exact Nat.le_refl _), cutNTo_len N ss k h, Nat.sub_self, List.set_cons_zero]
theorem cutNTo_get (N : Nat) (ss : List ByteArray) (k : Nat) (h : k < ss.length) : (strC (cutNTo N ss k))[k]? = some (.string ss[k]) := by
  rw [cutNTo_at N ss k h, List.getElem?_append_right (by rw [cutNTo_len N ss k h]; exact Nat.le_refl _), cutNTo_len N ss k h, Nat.sub_self]; rfl
theorem cutNTo_all (N : Nat) (ss : List ByteArray) : cutNTo N ss ss.length = ss.map (cutN N) := by simp [cutNTo]

set_option maxRecDepth 100000 in
set_option maxHeartbeats 8000000 in
theorem names_walk (s : ByteArray) (v : Value) (ss : List ByteArray) (w : World) (hM : SomeMax w) (hs : s.size ≤ maxLen) (h : StrRow w v ss) (hsz : ∀ s ∈ ss, s.size ≤ maxLen) :
    Calls Tryd.prog 6 #[.string s, v] w fun e w' => e = .returned (.bool true) ∧ Below w.heap.size w w' := by
  have hl := h.len
  unfold maxLen at hl hs hsz
  obtain ⟨i0, hi, hz0, hz1, hz2⟩ := info_parts infoStr
  have HM := Lib.hid hM
  have A := Lib.hid (fun w1 (h : Below w.heap.size w w1) => alive_g w1 (HM.out.keep h))
  obtain ⟨sx, hsx⟩ : ∃ x, s.extract 0 (min (s.size : Int) 100).toNat = x := ⟨_, rfl⟩
  have hss : sx.size ≤ 100 := by rw [← hsx]; simp; omega
  clear hM
  rcases h with ⟨rfl, rfl⟩ | ⟨b, o, cap, rfl, h2, h3, h4⟩
  · have m0 : min (0 : Int) 5 = 0 := by decide
    have C0 := Lib.hid (show Below w.heap.size w (w.alloc (.cells #[] 9)) from (Below.refl _ _).alloc (Nat.le_refl _) _)
    have HROW := Lib.hid (show (w.alloc (.cells #[] 9)).ownsRow w.heap.size 9 1 (.slice (some ⟨w.heap.size, 0, none⟩) 0 0) 0 (strC []) from World.ownsRow_lit w #[] 0 (Nat.le_refl _) (Nat.zero_le _) rfl)
    have HL1 := Lib.hid (show StrRow (w.alloc (.cells #[] 9)) (.slice (some ⟨w.heap.size, 0, none⟩) 0 0) [] from Or.inr ⟨w.heap.size, 0, 0, rfl, Nat.le_refl _, Nat.zero_le _, fun i hi => absurd hi (Nat.not_lt_zero _)⟩)
    have HLS := Lib.hid (show ∀ x ∈ ([] : List ByteArray), x.size ≤ 100 by simp)
    have HLL := Lib.hid (show ([] : List ByteArray).length = 0 from rfl)
    have HON := Lib.hid (show anyHit [] sx = false from rfl)
    have HMA := Lib.hid (show anyWrong [] = !true from rfl)
    obtain ⟨L, hL⟩ : ∃ L : List ByteArray, [] = L := ⟨_, rfl⟩
    rw [hL] at HROW HL1 HLS HLL HON HMA
    clear hL
    go_enter Tryd.func6, Tryd.ntmps6
    go_wp2_with fail
    generalize w.alloc (.cells #[] 9) = v0 at HROW HL1 C0 ⊢
    refine wp_loop_rounds 1 ?_
    rw [rounds_succ]
    have S1 := Lib.hid (fun w1 (h : Below w.heap.size w w1) (hr : StrRow w1 (.slice (some ⟨w.heap.size, 0, none⟩) 0 0) L) => Some_g (.slice (some ⟨w.heap.size, 0, none⟩) 0 0) L sx w1 hr (fun x hx => by have := HLS.out x hx; unfold maxLen; omega) (by unfold maxLen; omega) (HM.out.keep h))
    have HST := Lib.hid (show true = true → someB L sx = (false || L.isEmpty, 0) from fun h => by
      unfold someB
      rw [HMA.out, h, HON.out, decide_eq_false (by omega)]; rfl)
    have HS2 := Lib.hid (show true = true → someB (L ++ [⟨#[42, 42]⟩]) sx = (true, 0) from fun h => by
      have e1 : anyWrong (L ++ [⟨#[42, 42]⟩]) = false := by
        have h2 := HMA.out
        rw [h] at h2
        unfold anyWrong at h2 ⊢
        rw [List.any_append, h2]; rfl
      have e2 : anyHit (L ++ [⟨#[42, 42]⟩]) sx = true := by
        unfold anyHit
        rw [List.any_append, show ([⟨#[42, 42]⟩] : List ByteArray).any (fun p => matchB p sx) = true from by
          rw [List.any_cons, show matchB ⟨#[42, 42]⟩ sx = true from match_stars _ (by rw [size_lenG]; omega)]; rfl, Bool.or_true]
      unfold someB
      rw [e1, e2, decide_eq_false (by omega)]; rfl)
    go_wp2_with fail
    refine (S1.out v0 C0.out HL1.out).mono ?_
    rw [HST.out (by trivial)]
    rintro e v1 ⟨rfl, hb1⟩
    have C1 := Lib.hid (C0.out.trans (hb1.mono C0.out.size))
    have ho1 : v1.ownsRow w.heap.size 9 1 (.slice (some ⟨w.heap.size, 0, none⟩) 0 0) 0 (strC L) := HROW.out.kept (grownBy_of_below hb1) (by cases (.slice (some ⟨w.heap.size, 0, none⟩) 0 0 : Value).ownBlock <;> simp)
    have hbs1 := C1.out.size
    clear hb1
    go_wp2_with (at_builtin; refine wpList_append_lies _ rfl _ _ 27 rfl w.heap.size 9 i0 (.string ⟨#[]⟩) 1 16 Tryd.underlying27 hi hz0 hz1 hz2 rfl (by decide) _ 0 (strC L) rfl (ho1.alloc _) ⟨v1.heap.size, 0, none⟩ 1 1 [.string ⟨#[42, 42]⟩] rfl rfl ?c1 ?c2 ?c3 ?c4 ?c5 ?c6 (v1.alloc (.cells #[.string ⟨#[42, 42]⟩] 9)).heap.size rfl ?_)
    case c1 =>
      intro i v hi'
      match i, hi' with
      | 0, hi' => simp at hi'; subst hi'; rw [addr0_addG, World.cell?_alloc_at _ _ _ _ rfl]; rfl
      | i + 1, hi' => simp at hi'
    case c2 => intro v hv; simp at hv; subst hv; rfl
    case c3 => decide
    case c4 => unfold maxLen; omega
    case c5 => omega
    case c6 => simp; omega
    intro g3 cap3 w3 hown3 hgrow3 hg3 hlt3
    have C3 := Lib.hid (show Below w.heap.size w w3 from (C1.out.alloc hbs1 _).grown hgrow3 (by simp; omega) (fun k hk => (ho1.lt k hk).1))
    have HL3 := Lib.hid (StrRow.of_own (ss := L ++ [⟨#[42, 42]⟩]) (by simpa [strC] using hown3) (by rw [List.length_append, HLL.out]; rfl))
    have S3 := Lib.hid (Some_g (.slice (some ⟨g3, 0, none⟩) (0 + 1) cap3) (L ++ [⟨#[42, 42]⟩]) sx w3 HL3.out (fun x hx => by
      rcases List.mem_append.1 hx with hx | hx
      · have := HLS.out x hx; unfold maxLen; omega
      · rw [List.mem_singleton.1 hx]; decide) (by unfold maxLen; omega) (HM.out.keep C3.out))
    clear hown3 hgrow3 hg3 hlt3 ho1 hbs1
    go_wp2_with fail
    refine S3.out.mono ?_
    rw [HS2.out (by trivial)]
    rintro e v4 ⟨rfl, hb4⟩
    have C4 := Lib.hid (C3.out.trans (hb4.mono C3.out.size))
    clear hb4
    go_wp2_with fail
    refine (A.out v4 C4.out).mono ?_
    rintro e v5 ⟨rfl, hb5⟩
    have C5 := Lib.hid (C4.out.trans (hb5.mono C4.out.size))
    have hem : (((0 : Nat) : Int) == 0) = L.isEmpty := by
      rw [← HLL.out, Bool.eq_iff_iff, List.isEmpty_iff, beq_iff_eq, ← List.length_eq_zero_iff]; omega
    obtain ⟨em, hem2⟩ : ∃ b, L.isEmpty = b := ⟨_, rfl⟩
    rw [hem2] at hem ⊢
    clear hem2 hb5
    cases em with
    | false => exact absurd hem (by decide)
    | true =>
      go_wp2_with fail
      go_ret
      exact ⟨rfl, C5.out⟩
  · obtain ⟨m, hm⟩ : ∃ m, min ss.length 5 = m := ⟨_, rfl⟩
    have hm' : min ((ss.length : Nat) : Int) 5 = (m : Int) := by omega
    have hms : m ≤ ss.length := by omega
    have hm5 : m ≤ 5 := by omega
    have hlm : (ss.take m).length = m := by simp; omega
    have hcells : ∀ o', ∀ (j : Nat) (u : Value), (strC (ss.take m))[j]? = some u → (w.alloc o').cell? ⟨b, o + j, none⟩ = some u := fun o' j u hu => by
      have hj : j < m := by
        have := (List.getElem?_eq_some_iff.1 hu).1; rw [strC_length, hlm] at this; exact this
      have hc := h4 j (by omega)
      have hu' : u = .string ss[j] := by
        simp only [strC, List.getElem?_map, List.getElem?_take] at hu
        rw [if_pos hj, List.getElem?_eq_getElem (by omega)] at hu
        simpa using hu.symm
      rw [hu', World.cell?_alloc_lt _ _ _ (World.block_lt_of_cell? _ _ hc)]
      exact hc
    have HC := Lib.hid hcells
    have HZ := Lib.hid hsz
    have HLM := Lib.hid hlm
    clear h4 hsz hcells hlm hm
    unfold maxLen at h3
    go_enter Tryd.func6, Tryd.ntmps6
    go_wp2_with (at_builtin; refine wpList_append_own _ rfl _ _ 27 rfl w.heap.size 9 i0 (.string ⟨#[]⟩) 1 16 Tryd.underlying27 hi hz0 hz1 hz2 rfl (by decide) _ 0 [] rfl (World.ownsRow_lit w #[] 0 (Nat.le_refl _) (Nat.zero_le _) rfl) ⟨b, o, none⟩ m cap (strC (ss.take m)) rfl ?c1 ?c2 ?c3 ?c4 ?c5 ?c6 ?_)
    case c1 => rw [strC_length, HLM.out, Nat.mul_one]
    case c2 => intro j u hu; rw [Addr.add_mid]; exact HC.out _ j u hu
    case c3 => intro u hu; obtain ⟨t, _, rfl⟩ := List.mem_map.1 hu; rfl
    case c4 => unfold maxLen; omega
    case c5 => omega
    case c6 => simp
    intro v' w1 hown hgrow hnil
    have hb1 : Below w.heap.size w w1 := ((Below.refl _ _).alloc (Nat.le_refl _) _).grown hgrow (by simp) (fun _ e => by cases e; exact Nat.le_refl _)
    have hv : ∃ g c, v' = .slice (some ⟨g, 0, none⟩) m c := by
      rcases hown.2 with ⟨h0, _⟩ | ⟨g, c, cur, hv, _⟩
      · exact (hnil h0).elim
      · exact ⟨g, c, hv⟩
    obtain ⟨g, c, rfl⟩ := hv
    clear hnil hgrow
    have hgB : w.heap.size ≤ g := (hown.lt g rfl).1
    clear hsx
    go_wp2_with fail
    go_loopw [5, 6, 27] (fun ov mv i wr => ∃ (k : Nat) (on ma : Bool), k ≤ m ∧ ov = .bool on ∧ mv = .bool ma ∧ i = .int .i64 k ∧ (((ss.take m).take k).map (cutN 100)).any (fun p => matchB p sx) = on ∧ (((ss.take m).take k).map (cutN 100)).any (fun p => !rightB p) = !ma ∧ wr.ownsRow w.heap.size 9 1 (.slice (some ⟨g, 0, none⟩) m c) m (strC (cutNTo 100 (ss.take m) k)) ∧ Below w.heap.size w wr) (fun _ _ i _ => m - (intOf i).toNat)
    case atStart => exact ⟨0, false, true, Nat.zero_le _, rfl, rfl, rfl, rfl, rfl, by simpa [cutNTo] using hown, hb1⟩
    case round =>
      obtain ⟨k, on, ma, hk, rfl, rfl, rfl, hon, hma, ho, hb⟩ := hrel
      clear hown hb1
      have HON := Lib.hid hon
      have HMA := Lib.hid hma
      have HB := Lib.hid hb
      clear hon hma
      by_cases hlt : k < m
      · have hkl : k < (ss.take m).length := by rw [HLM.out]; exact hlt
        have hc := (ho.cellAt k (by omega)).trans (cutNTo_get 100 (ss.take m) k hkl)
        have hfz := ho.frozenAt k
        have st := ho.stored k (.string (cutN 100 (ss.take m)[k]))
        have hset := cutNTo_set 100 (ss.take m) k hkl
        rw [hset] at st
        have hsk := HZ.out (ss.take m)[k] (List.mem_of_mem_take (List.getElem_mem hkl))
        have HMORE := Lib.hid (show ∀ f : ByteArray → Bool, (((ss.take m).take (k + 1)).map (cutN 100)).any f = ((((ss.take m).take k).map (cutN 100)).any f || f (cutN 100 (ss.take m)[k])) from fun f => by
          rw [List.take_succ_eq_append_getElem hkl, List.map_append, List.any_append]; simp)
        have hqc : (cutNTo 100 (ss.take m) (k + 1)) = (cutNTo 100 (ss.take m) (k + 1)) := rfl
        have HCELL := Lib.hid (show ∀ w2 : World, w2.ownsRow w.heap.size 9 1 (.slice (some ⟨g, 0, none⟩) m c) m (strC (cutNTo 100 (ss.take m) (k + 1))) → w2.cell? ⟨g, k, none⟩ = some (.string (cutN 100 (ss.take m)[k])) from fun w2 h2 => by
          refine (h2.cellAt k (by omega)).trans ?_
          rw [cutNTo_next 100 (ss.take m) k hkl, List.getElem?_append_right (by rw [cutNTo_len 100 (ss.take m) k hkl]; exact Nat.le_refl _), cutNTo_len 100 (ss.take m) k hkl, Nat.sub_self]; rfl)
        obtain ⟨x, hx⟩ : ∃ x, (ss.take m)[k] = x := ⟨_, rfl⟩
        rw [hx] at hc hsk st HMORE HCELL
        have hmx : min ((x.size : Nat) : Int) 100 = ((min x.size 100 : Nat) : Int) := by omega
        have hcs := cutN_size 100 x
        have hcut : x.extract 0 (min x.size 100) = cutN 100 x := rfl
        have hmx2 : (((min x.size 100 : Nat) : Int)).toNat = min x.size 100 := by omega
        obtain ⟨x1, hx1⟩ : ∃ y, cutN 100 x = y := ⟨_, rfl⟩
        rw [hx1] at st HMORE HCELL hcs hcut
        have HST := Lib.hid st
        have HBQ := Lib.hid (show Below w.heap.size w (wr.setCell ⟨g, k, none⟩ (.string x1)) from hb.setCell (show w.heap.size ≤ g from hgB) _)
        have hc2 := HCELL.out _ HST.out.1
        have MM := Lib.hid (fun w1 (h : Below w.heap.size w w1) => Match_g x1 sx w1 (by unfold maxLen; omega) (by unfold maxLen; omega) (HM.out.keep h))
        have RR := Lib.hid (fun w1 => Right_g x1 w1 (by unfold maxLen; omega))
        obtain ⟨mv, hmv⟩ : ∃ b, matchB x1 sx = b := ⟨_, rfl⟩
        obtain ⟨rv, hrv⟩ : ∃ b, rightB x1 = b := ⟨_, rfl⟩
        rw [hmv] at MM
        rw [hrv] at RR
        have HN1 := Lib.hid (show (((ss.take m).take (k + 1)).map (cutN 100)).any (fun p => matchB p sx) = (on || mv) by rw [HMORE.out, HON.out, hmv])
        have HN2 := Lib.hid (show (((ss.take m).take (k + 1)).map (cutN 100)).any (fun p => !rightB p) = !(ma && rv) by rw [HMORE.out, HMA.out, hrv]; cases ma <;> rfl)
        clear hx hx1 hmv hrv st hset ho hb hqc HMORE
        cases on with
        | true =>
          cases ma with
          | true =>
            go_wp2_with fail
            refine (RR.out _).mono ?_
            rintro e w2 ⟨rfl, hw2⟩
            subst hw2
            go_wp2_with fail
            go_roundw
            case rel => exact ⟨k + 1, true, rv, by omega, rfl, rfl, by go_num, by rw [HN1.out]; rfl, by rw [HN2.out]; rfl, HST.out.1, HBQ.out⟩
            case measure => simp [intOf]; omega
          | false =>
            go_wp2_with fail
            go_roundw
            case rel => exact ⟨k + 1, true, false, by omega, rfl, rfl, by go_num, by rw [HN1.out]; rfl, by rw [HN2.out]; rfl, HST.out.1, HBQ.out⟩
            case measure => simp [intOf]; omega
        | false =>
          cases ma with
          | true =>
            go_wp2_with fail
            refine (MM.out _ HBQ.out).mono ?_
            rintro e w2 ⟨rfl, hb2⟩
            have HO2 := Lib.hid (HST.out.1.kept (grownBy_of_below hb2) (by cases (Value.slice (some ⟨g, 0, none⟩) m c).ownBlock <;> simp))
            have HB2 := Lib.hid (HBQ.out.trans (hb2.mono HBQ.out.size))
            have hc3 := HCELL.out _ HO2.out
            clear hb2 hc2 hc hfz
            go_wp2_with fail
            refine (RR.out _).mono ?_
            rintro e w3 ⟨rfl, hw3⟩
            subst hw3
            go_wp2_with fail
            go_roundw
            case rel => exact ⟨k + 1, mv, rv, by omega, rfl, rfl, by go_num, by rw [HN1.out]; rfl, by rw [HN2.out]; rfl, HO2.out, HB2.out⟩
            case measure => simp [intOf]; omega
          | false =>
            go_wp2_with fail
            refine (MM.out _ HBQ.out).mono ?_
            rintro e w2 ⟨rfl, hb2⟩
            have HO2 := Lib.hid (HST.out.1.kept (grownBy_of_below hb2) (by cases (Value.slice (some ⟨g, 0, none⟩) m c).ownBlock <;> simp))
            have HB2 := Lib.hid (HBQ.out.trans (hb2.mono HBQ.out.size))
            clear hb2 hc2 hc hfz
            go_wp2_with fail
            go_roundw
            case rel => exact ⟨k + 1, mv, false, by omega, rfl, rfl, by go_num, by rw [HN1.out]; rfl, by rw [HN2.out]; rfl, HO2.out, HB2.out⟩
            case measure => simp [intOf]; omega
      · have hkm : k = m := by omega
        subst hkm
        obtain ⟨L, hL⟩ : ∃ L, (ss.take k).map (cutN 100) = L := ⟨_, rfl⟩
        have htt : (ss.take k).take k = ss.take k := List.take_of_length_le (by rw [HLM.out]; omega)
        rw [htt, hL] at HON HMA
        replace HON := Lib.hid (show anyHit L sx = on from HON.out)
        replace HMA := Lib.hid (show anyWrong L = !ma from HMA.out)
        have HLL := Lib.hid (show L.length = k by rw [← hL, List.length_map, HLM.out])
        have HLS := Lib.hid (show ∀ x ∈ L, x.size ≤ 100 from fun x hx => by
          rw [← hL] at hx
          obtain ⟨t, _, rfl⟩ := List.mem_map.1 hx
          exact cutN_size _ _)
        have e := cutNTo_all 100 (ss.take k)
        rw [HLM.out, hL] at e
        rw [e] at ho
        have HROW := Lib.hid ho
        have HL1 := Lib.hid (StrRow.of_own ho HLL.out)
        have C0 := HB
        clear ho hb e hL htt HLM HZ HC HB
        generalize wr = v0 at HROW HL1 C0 ⊢
        go_wp2_with fail
        have S1 := Lib.hid (fun w1 (h : Below w.heap.size w w1) (hr : StrRow w1 (.slice (some ⟨g, 0, none⟩) k c) L) => Some_g (.slice (some ⟨g, 0, none⟩) k c) L sx w1 hr (fun x hx => by have := HLS.out x hx; unfold maxLen; omega) (by unfold maxLen; omega) (HM.out.keep h))
        have HSF := Lib.hid (show ma = false → someB L sx = (false, 1) from fun h => by
          unfold someB
          rw [HMA.out, h, decide_eq_false (by omega)]; rfl)
        have HST := Lib.hid (show ma = true → someB L sx = (on || L.isEmpty, 0) from fun h => by
          unfold someB
          rw [HMA.out, h, HON.out, decide_eq_false (by omega)]; rfl)
        have HS2 := Lib.hid (show ma = true → someB (L ++ [⟨#[42, 42]⟩]) sx = (true, 0) from fun h => by
          have e1 : anyWrong (L ++ [⟨#[42, 42]⟩]) = false := by
            have h2 := HMA.out
            rw [h] at h2
            unfold anyWrong at h2 ⊢
            rw [List.any_append, h2]; rfl
          have e2 : anyHit (L ++ [⟨#[42, 42]⟩]) sx = true := by
            unfold anyHit
            rw [List.any_append, show ([⟨#[42, 42]⟩] : List ByteArray).any (fun p => matchB p sx) = true from by
              rw [List.any_cons, show matchB ⟨#[42, 42]⟩ sx = true from match_stars _ (by rw [size_lenG]; omega)]; rfl, Bool.or_true]
          unfold someB
          rw [e1, e2, decide_eq_false (by omega)]; rfl)
        cases ma with
        | false =>
          go_wp2_with fail
          refine (S1.out v0 C0.out HL1.out).mono ?_
          rw [HSF.out (by trivial)]
          rintro e v1 ⟨rfl, hb1⟩
          have C1 := Lib.hid (C0.out.trans (hb1.mono C0.out.size))
          go_wp2_with fail
          refine (A.out v1 C1.out).mono ?_
          rintro e v2 ⟨rfl, hb2⟩
          have C2 := Lib.hid (C1.out.trans (hb2.mono C1.out.size))
          go_wp2_with fail
          go_ret
          exact ⟨rfl, C2.out⟩
        | true =>
          go_wp2_with fail
          refine (S1.out v0 C0.out HL1.out).mono ?_
          rw [HST.out (by trivial)]
          rintro e v1 ⟨rfl, hb1⟩
          have C1 := Lib.hid (C0.out.trans (hb1.mono C0.out.size))
          have ho1 : v1.ownsRow w.heap.size 9 1 (.slice (some ⟨g, 0, none⟩) k c) k (strC L) := HROW.out.kept (grownBy_of_below hb1) (by cases (.slice (some ⟨g, 0, none⟩) k c : Value).ownBlock <;> simp)
          have hbs1 := C1.out.size
          clear hb1
          go_wp2_with (at_builtin; refine wpList_append_lies _ rfl _ _ 27 rfl w.heap.size 9 i0 (.string ⟨#[]⟩) 1 16 Tryd.underlying27 hi hz0 hz1 hz2 rfl (by decide) _ k (strC L) rfl (ho1.alloc _) ⟨v1.heap.size, 0, none⟩ 1 1 [.string ⟨#[42, 42]⟩] rfl rfl ?c1 ?c2 ?c3 ?c4 ?c5 ?c6 (v1.alloc (.cells #[.string ⟨#[42, 42]⟩] 9)).heap.size rfl ?_)
          case c1 =>
            intro i v hi'
            match i, hi' with
            | 0, hi' => simp at hi'; subst hi'; rw [addr0_addG, World.cell?_alloc_at _ _ _ _ rfl]; rfl
            | i + 1, hi' => simp at hi'
          case c2 => intro v hv; simp at hv; subst hv; rfl
          case c3 => decide
          case c4 => unfold maxLen; omega
          case c5 => omega
          case c6 => simp; omega
          intro g3 cap3 w3 hown3 hgrow3 hg3 hlt3
          have C3 := Lib.hid (show Below w.heap.size w w3 from (C1.out.alloc hbs1 _).grown hgrow3 (by simp; omega) (fun k hk => (ho1.lt k hk).1))
          have HL3 := Lib.hid (StrRow.of_own (ss := L ++ [⟨#[42, 42]⟩]) (by simpa [strC] using hown3) (by rw [List.length_append, HLL.out]; rfl))
          have S3 := Lib.hid (Some_g (.slice (some ⟨g3, 0, none⟩) (k + 1) cap3) (L ++ [⟨#[42, 42]⟩]) sx w3 HL3.out (fun x hx => by
            rcases List.mem_append.1 hx with hx | hx
            · have := HLS.out x hx; unfold maxLen; omega
            · rw [List.mem_singleton.1 hx]; decide) (by unfold maxLen; omega) (HM.out.keep C3.out))
          clear hown3 hgrow3 hg3 hlt3 ho1 hbs1
          go_wp2_with fail
          refine S3.out.mono ?_
          rw [HS2.out (by trivial)]
          rintro e v4 ⟨rfl, hb4⟩
          have C4 := Lib.hid (C3.out.trans (hb4.mono C3.out.size))
          clear hb4
          go_wp2_with fail
          refine (A.out v4 C4.out).mono ?_
          rintro e v5 ⟨rfl, hb5⟩
          have C5 := Lib.hid (C4.out.trans (hb5.mono C4.out.size))
          have hem : (((k : Nat) : Int) == 0) = L.isEmpty := by
            rw [← HLL.out, Bool.eq_iff_iff, List.isEmpty_iff, beq_iff_eq, ← List.length_eq_zero_iff]; omega
          obtain ⟨em, hem2⟩ : ∃ b, L.isEmpty = b := ⟨_, rfl⟩
          rw [hem2] at hem ⊢
          clear hem2 hb5
          cases on with
          | true =>
            go_wp2_with fail
            go_ret
            exact ⟨rfl, C5.out⟩
          | false =>
            go_wp2_with fail
            go_ret
            exact ⟨rfl, C5.out⟩
end Go.Proofs.YtjohjmoggldfcaaDoor
