/-
  DigestApart returns true at every input: the walk. Conditions: the tables and octet's errors lie where they lie.
-/
import Derived.Test.YtiebdmamjlgeoaaDoorLawD
import Derived.Laws.IdiomStrings
namespace Go.Proofs.YtiebdmamjlgeoaaDoor
open Go.RowKit

theorem apart_at (a : Int) : ∃ (p : Int) (k : Nat), a.tmod 71 = p ∧ -71 < p ∧ p < 71 ∧ (p + 71) % 71 = (k : Int) ∧ (p + 71).tmod 71 = (k : Int) ∧ k < 71 := by
  have e1 : -71 < a.tmod 71 ∧ a.tmod 71 < 71 := ⟨by have := Int.lt_tmod_of_pos a (show (0 : Int) < 71 by decide); omega, Int.tmod_lt_of_pos a (by decide)⟩
  have e2 : 0 ≤ (a.tmod 71 + 71) % 71 := Int.emod_nonneg _ (by decide)
  have e3 : (a.tmod 71 + 71) % 71 < 71 := Int.emod_lt_of_pos _ (by decide)
  exact ⟨_, ((a.tmod 71 + 71) % 71).toNat, rfl, e1.1, e1.2, by omega, by rw [Int.tmod_eq_emod_of_nonneg (by omega)]; omega, by omega⟩

theorem bytes_laid (w : World) (d : ByteArray) : ∀ j (hj : j < d.size), (w.drew.alloc (.cells (bytesRow d (grownCap w d.size 0 5)) 5 ((bytesRow d (grownCap w d.size 0 5)).size, (bytesRow d (grownCap w d.size 0 5)).size + 1))).cell? ⟨w.heap.size, j, none⟩ = some (.int .u8 d[j].toNat) ∧
    (w.drew.alloc (.cells (bytesRow d (grownCap w d.size 0 5)) 5 ((bytesRow d (grownCap w d.size 0 5)).size, (bytesRow d (grownCap w d.size 0 5)).size + 1))).frozen? ⟨w.heap.size, j, none⟩ = false := by
  intro j hj
  have h := heap_alloc_new w.drew (.cells (bytesRow d (grownCap w d.size 0 5)) 5 ((bytesRow d (grownCap w d.size 0 5)).size, (bytesRow d (grownCap w d.size 0 5)).size + 1))
  have hb : (bytesRow d (grownCap w d.size 0 5))[j]? = some (.int .u8 d[j].toNat) := by
    unfold bytesRow
    have hj' : j < d.data.size := hj
    rw [Array.getElem?_append_left (by simpa using hj')]
    rw [Array.getElem?_map, Array.getElem?_eq_getElem hj']
    rfl
  constructor
  · rw [cell_of_row _ w.heap.size j _ _ _ h, hb]
  · have hlt : j < (bytesRow d (grownCap w d.size 0 5)).size := (Array.getElem?_eq_some_iff.1 hb).1
    have h' : ((w.drew.alloc (.cells (bytesRow d (grownCap w d.size 0 5)) 5 ((bytesRow d (grownCap w d.size 0 5)).size, (bytesRow d (grownCap w d.size 0 5)).size + 1))).heap[w.heap.size]?) = some (.cells (bytesRow d (grownCap w d.size 0 5)) 5 ((bytesRow d (grownCap w d.size 0 5)).size, (bytesRow d (grownCap w d.size 0 5)).size + 1)) := h
    unfold World.frozen?
    simp only [h']
    have : ¬ (bytesRow d (grownCap w d.size 0 5)).size ≤ j := by omega
    simp [this]

set_option maxRecDepth 100000 in
set_option maxHeartbeats 4000000 in
theorem apart_walk (aD aS aZ : Addr) (data other : ByteArray) (n : Int) (c : UInt8) (w : World) (he : Env w aD aS aZ) (ht : Tabs w) (hd : data.size ≤ maxLen) (ho : other.size ≤ maxLen) :
    Calls Tryd.prog 6 #[.string data, .string other, .int .i64 n, .int .u8 c.toNat] w fun e w' => e = .returned (.bool true) ∧ Below w.heap.size w w' := by
  unfold maxLen at hd ho
  have C1 := Lib.hid (fun w => short_any data w (by omega))
  have C2 := Lib.hid (fun w => short_any other w (by omega))
  have hxs := shortB_size data
  have hys := shortB_size other
  generalize shortB data = x at C1 hxs
  generalize shortB other = y at C2 hys
  have C3 := Lib.hid (fun w ht => of_any x w ht (by omega))
  have ds := ofB_size x
  have HPO := Lib.hid (parseD_of x)
  have HF := Lib.hid (fitsD_of x y)
  have HOT := Lib.hid (fun k h1 h2 => parseD_other x k c h1 h2)
  have rs := sumB_size x
  obtain ⟨p, k, hp, hp1, hp2, hk, hk', hk71⟩ := apart_at n
  have HP := Lib.hid hp
  have HK := Lib.hid hk
  have HK' := Lib.hid hk'
  obtain ⟨d, hd⟩ : ∃ d, ofB x = d := ⟨_, rfl⟩
  rw [hd] at C3 ds HPO HF HOT
  have C4 := Lib.hid (fun w he => parse_any aD aS aZ d w he (by omega))
  rw [HPO.out] at C4
  have C5 := Lib.hid (fun w he ht => fits_any aD aS aZ d y w he ht (by omega) (by omega))
  rw [HF.out] at C5
  have C6 := Lib.hid (fun w => alive_any w)
  have HE := Lib.hid he
  have HT := Lib.hid ht
  have d71 : ((d.size : Int) != 71) = false := by rw [bne_eq_false_iff_eq]; omega
  have r32 : (((sumB x).size : Int) != 32) = false := by rw [bne_eq_false_iff_eq]; omega
  have HDS := Lib.hid ds
  clear hd he ht hp hk hk' ds rs
  generalize sumB x = r at HPO HF HOT C4 C5 r32
  go_enter Tryd.func6, Tryd.ntmps6
  go_wp2_with fail
  refine (C1.out _).mono ?_
  rintro e w1 ⟨rfl, rfl⟩
  go_wp2_with fail
  refine (C2.out _).mono ?_
  rintro e w1 ⟨rfl, rfl⟩
  go_wp2_with fail
  refine (C3.out _ HT.out).mono ?_
  rintro e w1 ⟨rfl, hb1⟩
  have HE1 := Lib.hid (HE.out.keep hb1)
  have HT1 := Lib.hid (HT.out.keep HT.out.many hb1)
  have B1 := Lib.hid hb1
  clear hb1 HE HT C1 C2 C3
  go_wp2_with fail
  refine (C4.out _ HE1.out).mono ?_
  rintro e w2 ⟨rfl, hb2⟩
  have HE2 := Lib.hid (HE1.out.keep hb2)
  have HT2 := Lib.hid (HT1.out.keep HT1.out.many hb2)
  have B2 := Lib.hid (B1.out.trans (hb2.mono B1.out.size))
  clear hb2 HE1 HT1 B1 C4
  go_wp2_with fail
  refine (C6.out _ HT2.out).mono ?_
  rintro e w3 ⟨rfl, hb3⟩
  have HE3 := Lib.hid (HE2.out.keep hb3)
  have HT3 := Lib.hid (HT2.out.keep HT2.out.many hb3)
  have B3 := Lib.hid (B2.out.trans (hb3.mono B2.out.size))
  clear hb3 HE2 HT2 B2 C6
  go_wp2_with fail
  refine (C5.out _ HE3.out HT3.out).mono ?_
  rintro e w4 ⟨rfl, hb4⟩
  have HE4 := Lib.hid (HE3.out.keep hb4)
  have HT4 := Lib.hid (HT3.out.keep HT3.out.many hb4)
  have B4 := Lib.hid (B3.out.trans (hb4.mono B3.out.size))
  have S4 := Lib.hid (sum_one y w4 HT4.out (by omega))
  have TB := Lib.hid (toList_beq (sumB y) r)
  clear hb4 HE3 HT3 B3 C5
  have hcase : ∃ (v : Int) (tb : Bool), (if sumB y = r then (0 : Int) else 10) = v ∧ ((sumB y).toList == r.toList) = tb ∧ (v = 0 ∧ tb = true ∨ v = 10 ∧ tb = false) := by
    by_cases h : sumB y = r
    · exact ⟨0, true, if_pos h, by rw [TB.out]; exact decide_eq_true h, Or.inl ⟨rfl, rfl⟩⟩
    · exact ⟨10, false, if_neg h, by rw [TB.out]; exact decide_eq_false h, Or.inr ⟨rfl, rfl⟩⟩
  obtain ⟨v, tb, hv, htb, hvt⟩ := hcase
  rw [hv]
  clear hv HF TB
  generalize sumB y = z at S4 htb
  rcases hvt with ⟨rfl, rfl⟩ | ⟨rfl, rfl⟩
  all_goals
    go_wp2_with fail
    refine S4.out.mono ?_
    rintro e w5 ⟨rfl, hb5⟩
    have HE5 := Lib.hid (HE4.out.keep hb5)
    have B5 := Lib.hid (B4.out.trans (hb5.mono B4.out.size))
    clear hb5 HE4 HT4 B4 S4
    have hcv := run_bytes_of_string (P := Tryd.prog) w5 9 39 5 d Tryd.underlying9 Tryd.underlying39 Tryd.underlying5
    have hbl := bytes_laid w5 d
    have hbb := Lib.hid (B5.out.trans (((Below.refl w.heap.size w5).drew.alloc B5.out.size (.cells (bytesRow d (grownCap w5 d.size 0 5)) 5 ((bytesRow d (grownCap w5 d.size 0 5)).size, (bytesRow d (grownCap w5 d.size 0 5)).size + 1)))))
    have HB56 := Lib.hid ((((Below.refl w5.heap.size w5).drew.alloc (Nat.le_refl _) (.cells (bytesRow d (grownCap w5 d.size 0 5)) 5 ((bytesRow d (grownCap w5 d.size 0 5)).size, (bytesRow d (grownCap w5 d.size 0 5)).size + 1)))))
    generalize w5.drew.alloc (.cells (bytesRow d (grownCap w5 d.size 0 5)) 5 ((bytesRow d (grownCap w5 d.size 0 5)).size, (bytesRow d (grownCap w5 d.size 0 5)).size + 1)) = w6 at hcv hbl hbb HB56
    generalize grownCap w5 d.size 0 5 = cp at hcv
    have hW5 := B5.out.size
    have HBL := Lib.hid hbl
    have hck := (hbl k (by have := HDS.out; omega)).1
    have hfk := (hbl k (by have := HDS.out; omega)).2
    clear hbl B5
    have hp := HP.out
    have hk := HK.out
    have hk' := HK'.out
    have hkd : k < d.size := by have := HDS.out; omega
    by_cases hEq : d[k] = c
    · rw [hEq] at hck
      clear hEq
      go_wp2_with fail
      go_ret
      exact ⟨rfl, hbb.out⟩
    · have t1 : (((d[k].toNat : Nat) : Int) == ((c.toNat : Nat) : Int)) = false := by
        rw [beq_eq_false_iff_ne]
        intro e
        exact hEq (UInt8.toNat_inj.1 (by omega))
      obtain ⟨r', e', hpe, hres⟩ := HOT.out k (by omega) (by
        have hk2 : k < d.data.toList.length := by simpa using hkd
        rw [List.getElem?_eq_getElem hk2]
        intro e
        exact hEq (Option.some.inj e))
      obtain ⟨s', hs'⟩ : ∃ s' : ByteArray, (⟨(d.data.toList.set k c).toArray⟩ : ByteArray) = s' := ⟨_, rfl⟩
      have hs71 : s'.size = 71 := by
        have := HDS.out
        rw [← hs']; show (List.toArray _).size = 71
        simp; exact this
      have hcb := run_convert_bytes_back (P := Tryd.prog) (w6.setCell ⟨w5.heap.size, k, none⟩ (.int .u8 c.toNat)) 39 9 5 ⟨w5.heap.size, 0, none⟩ cp (d.data.toList.set k c) Tryd.underlying39 Tryd.underlying5 Tryd.underlying9 (fun i hi => by
        have hid : i < d.size := by simpa using hi
        rw [addr0_add]
        by_cases hik : i = k
        · subst hik
          rw [World.cell?_setCell_same _ _ _ hck]
          simp
        · rw [World.cell?_setCell_other _ _ _ _ (by intro e; injection e with _ e; exact hik e.symm), (HBL.out i hid).1]
          congr 2
          rw [List.getElem_set_ne (fun e => hik e.symm)]
          rfl)
      have hl : (d.data.toList.set k c).length = d.size := by simp
      rw [hl, hs'] at hcb
      have C7 := Lib.hid (fun w he => parse_any aD aS aZ s' w he (by omega))
      rw [hs'] at hpe
      rw [hpe] at C7
      have HB7 := Lib.hid (hbb.out.setCell (p := ⟨w5.heap.size, k, none⟩) (show w.heap.size ≤ w5.heap.size from hW5) (.int .u8 c.toNat))
      have HE7 := Lib.hid (HE5.out.keep (HB56.out.setCell (p := ⟨w5.heap.size, k, none⟩) (Nat.le_refl _) (.int .u8 c.toNat)))
      clear hs' hl hs71 hEq HPO HOT hpe HBL
      rcases hres with ⟨rfl, rfl⟩ | ⟨rfl, hne, hk7⟩
      · go_wp2_with fail
        refine (C7.out _ HE7.out).mono ?_
        rintro e w8 ⟨rfl, hb8⟩
        have HB8 := Lib.hid (HB7.out.trans (hb8.mono HB7.out.size))
        clear hb8
        go_wp2_with fail
        go_ret
        exact ⟨rfl, HB8.out⟩
      · have t2 : (r'.toList == r.toList) = false := by rw [toList_beq]; exact decide_eq_false hne
        have t3 : decide ((7 : Int) ≤ (k : Int)) = true := by rw [decide_eq_true_eq]; omega
        clear hne
        go_wp2_with fail
        refine (C7.out _ HE7.out).mono ?_
        rintro e w8 ⟨rfl, hb8⟩
        have HB8 := Lib.hid (HB7.out.trans (hb8.mono HB7.out.size))
        clear hb8
        go_wp2_with fail
        go_ret
        exact ⟨rfl, HB8.out⟩
end Go.Proofs.YtiebdmamjlgeoaaDoor
