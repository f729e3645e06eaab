/-
  The document's 'quote' and 'number', by contracts. Conditions: texts of at most 2^30 bytes; the package-level variables as TEnv says.
-/
import Derived.Test.YtepcaglekgeamaaGreatDoorYTxt3
import Derived.Test.YtepcaglekgeamaaGreatDoorYTxt0
import Derived.Deep.DeepCutAuto
import Derived.Deep.RegionHeld
namespace Go.Proofs.YtepcaglekgeamaaGreatDoor
open Go.RowKit

def At6 (w : World) (B : Nat) (a b c d e f : Value) : Prop := w.heap[B]? = some (.cells #[a, b, c, d, e, f] 87 (0, 0))

theorem At6.lt {w : World} {B : Nat} {a b c d e f : Value} (h : At6 w B a b c d e f) : B < w.heap.size := (Array.getElem?_eq_some_iff.1 h).1

theorem At6.keep {w w' : World} {B : Nat} {a b c d e f : Value} (h : At6 w B a b c d e f) (hb : Below w.heap.size w w') : At6 w' B a b c d e f := (hb.block B h.lt).trans h

theorem At6.cells {w : World} {B : Nat} {a b c d e f : Value} (h : At6 w B a b c d e f) :
    w.cell? ⟨B, 0, none⟩ = some a ∧ w.cell? ⟨B, 1, none⟩ = some b ∧ w.cell? ⟨B, 2, none⟩ = some c ∧ w.cell? ⟨B, 3, none⟩ = some d ∧ w.cell? ⟨B, 4, none⟩ = some e ∧ w.cell? ⟨B, 5, none⟩ = some f := by
  unfold At6 at h
  simp [World.cell?, h]

theorem At6.frozen {w : World} {B : Nat} {a b c d e f : Value} (h : At6 w B a b c d e f) (j : Nat) : w.frozen? ⟨B, j, none⟩ = false := by
  unfold At6 at h; simp [World.frozen?, h]

theorem At6.new (w : World) (a b c d e f : Value) : At6 (w.alloc (.cells #[a, b, c, d, e, f] 87)) w.heap.size a b c d e f := heap_alloc_new w _

theorem tSize : (Tryz.prog.info? 87).map (·.size) = some 6 := by kernel_rfl

def set6 (w : World) (g : Nat) (c0 c1 c2 c3 c4 c5 : Value) : World :=
  (((((w.setCell ⟨g, 0, none⟩ c0).setCell ⟨g, 1, none⟩ c1).setCell ⟨g, 2, none⟩ c2).setCell ⟨g, 3, none⟩ c3).setCell ⟨g, 4, none⟩ c4).setCell ⟨g, 5, none⟩ c5

theorem set6_block (w : World) (g : Nat) (c0 c1 c2 c3 c4 c5 : Value) (k : Nat) (h : k ≠ g) : (set6 w g c0 c1 c2 c3 c4 c5).heap[k]? = w.heap[k]? := by
  unfold set6
  rw [Below.heap_setCell _ _ _ _ h, Below.heap_setCell _ _ _ _ h, Below.heap_setCell _ _ _ _ h, Below.heap_setCell _ _ _ _ h, Below.heap_setCell _ _ _ _ h, Below.heap_setCell _ _ _ _ h]

theorem set6_size (w : World) (g : Nat) (c0 c1 c2 c3 c4 c5 : Value) : (set6 w g c0 c1 c2 c3 c4 c5).heap.size = w.heap.size := by simp [set6, World.setCell]

theorem set6_rest (w : World) (g : Nat) (c0 c1 c2 c3 c4 c5 : Value) : (set6 w g c0 c1 c2 c3 c4 c5).os = w.os ∧ (set6 w g c0 c1 c2 c3 c4 c5).tape = w.tape ∧ (set6 w g c0 c1 c2 c3 c4 c5).output = w.output := by
  unfold set6
  simp only [setCell_rest, and_self]

theorem set6_six {w : World} {Z : Nat} {a b c d e f : Value} (h : At6 w Z a b c d e f) (c0 c1 c2 c3 c4 c5 : Value) : At6 (set6 w Z c0 c1 c2 c3 c4 c5) Z c0 c1 c2 c3 c4 c5 := by
  have st : ∀ {w : World} {cs : Array Value} {j : Nat} {u : Value}, w.heap[Z]? = some (.cells cs 87 (0, 0)) → (w.setCell ⟨Z, j, none⟩ u).heap[Z]? = some (.cells (cs.setIfInBounds j u) 87 (0, 0)) := by
    intro w cs j u h
    show (w.heap.modify Z _)[Z]? = _
    rw [Array.getElem?_modify, if_pos rfl, h]
    rfl
  exact st (st (st (st (st (st h)))))

theorem set6_below {w w2 : World} {B : Nat} (h : Below w.heap.size w w2) (hB : B = w.heap.size) (c0 c1 c2 c3 c4 c5 : Value) : Below w.heap.size w (set6 w2 B c0 c1 c2 c3 c4 c5) := by
  obtain ⟨s1, s2, s3⟩ := set6_rest w2 B c0 c1 c2 c3 c4 c5
  exact ⟨s1.trans h.os, s2.trans h.tape, s3.trans h.output, by rw [set6_size]; exact h.size, fun k hk => (set6_block _ _ _ _ _ _ _ _ k (by omega)).trans (h.block k hk)⟩

def noT : Value := .agg #[.int .i64 0, .int .i64 0, .string ⟨#[]⟩, .slice none 0 0, .slice none 0 0, .int .i64 (-1)]

def quoteT (s : ByteArray) (k : Nat) : Value :=
  match quoteL (s.data.toList.drop k) with
  | some p => .agg #[.int .i64 2, .int .i64 0, .string ⟨p.1.toArray⟩, .slice none 0 0, .slice none 0 0, .int .i64 ((s.size - p.2.length : Nat) : Int)]
  | none => noT

theorem drop_cons (s : ByteArray) (k : Nat) (h : k < s.size) : s.data.toList.drop k = s[k] :: s.data.toList.drop (k + 1) := by
  have hl : k < s.data.toList.length := by rw [← Lib.size_eq]; exact h
  rw [List.drop_eq_getElem_cons hl, get_list s k h hl]

theorem drop_end (s : ByteArray) (k : Nat) (h : s.size ≤ k) : s.data.toList.drop k = [] := List.drop_eq_nil_of_le (by rw [← Lib.size_eq]; exact h)

theorem extract_snoc (s : ByteArray) (i j : Nat) (hij : i ≤ j) (h : j < s.size) : (s.extract i (j + 1)).data.toList = (s.extract i j).data.toList ++ [s[j]] := by
  have hl : j < s.data.toList.length := by rw [← Lib.size_eq]; exact h
  rw [ByteArray.data_extract, ByteArray.data_extract, Array.toList_extract, Array.toList_extract]
  simp only [List.extract]
  rw [show j + 1 - i = (j - i) + 1 by omega, List.take_succ_eq_append_getElem (by rw [List.length_drop]; omega), List.getElem_drop]
  congr 2
  rw [← get_list s j h hl]
  congr 1
  omega

theorem extract_none (s : ByteArray) (i : Nat) : (s.extract i i).data.toList = [] := by
  rw [ByteArray.data_extract, Array.toList_extract]
  simp [List.extract]

set_option maxRecDepth 100000 in
theorem quote_t (s : ByteArray) (k : Nat) (hs : s.size ≤ 1073741824) (hk : k ≤ s.size) (w : World) :
    Calls Tryz.prog 79 #[.string s, .int .i64 k] w fun e w' => e = .returned (quoteT s k) ∧ Below w.heap.size w w' := by
  have HB := Lib.hid (fun (c0 c1 c2 c3 c4 c5 : Value) => below_new w (.cells #[c0, c1, c2, c3, c4, c5] 87))
  have HN := Lib.hid (fun (c0 c1 c2 c3 c4 c5 : Value) => At6.new w c0 c1 c2 c3 c4 c5)
  by_cases hlt : k < s.size
  rotate_left
  · have HO := Lib.hid (show quoteT s k = noT by unfold quoteT; rw [drop_end s k (by omega)]; rfl)
    go_enter Tryz.func79, Tryz.ntmps79
    go_wp2_with fail
    exact bodyPost_ret (results_cell_row (p := 4) rfl _ _ w.heap.size 87 _ (0, 0) _ rfl (HN.out _ _ _ _ _ _) Tryz.underlying87 rfl tSize) rfl ⟨by rw [HO.out]; rfl, HB.out _ _ _ _ _ _⟩
  have hd := drop_cons s k hlt
  obtain ⟨c, hc⟩ : ∃ c, s[k] = c := ⟨_, rfl⟩
  rw [hc] at hd
  have hc8 := c.toNat_lt
  by_cases h34 : c = 34
  rotate_left
  · have HO := Lib.hid (show quoteT s k = noT by unfold quoteT; rw [hd, quoteL, if_neg h34])
    have h34' : c.toNat ≠ 34 := fun e => h34 (UInt8.toNat_inj.1 e)
    have e1 : ((c.toNat : Int) == 34) = false := beq_eq_false_iff_ne.2 (by omega)
    have e2 : ((c.toNat : Int) != 34) = true := bne_iff_ne.2 (by omega)
    clear hd h34 h34'
    go_enter Tryz.func79, Tryz.ntmps79
    go_wp2_with fail
    exact bodyPost_ret (results_cell_row (p := 4) rfl _ _ w.heap.size 87 _ (0, 0) _ rfl (HN.out _ _ _ _ _ _) Tryz.underlying87 rfl tSize) rfl ⟨by rw [HO.out]; rfl, HB.out _ _ _ _ _ _⟩
  have HQ := Lib.hid (show quoteL (s.data.toList.drop k) = wordEnd (s.data.toList.drop (k + 1)) by rw [hd, quoteL, if_pos h34])
  subst h34
  clear hd hc8
  go_enter Tryz.func79, Tryz.ntmps79
  go_wp2_with fail
  go_loop [5] (fun i => ∃ j : Nat, k + 1 ≤ j ∧ j ≤ s.size ∧ i = .int .i64 j ∧ wordEnd (s.data.toList.drop (k + 1)) = (wordEnd (s.data.toList.drop j)).map fun p => ((s.extract (k + 1) j).data.toList ++ p.1, p.2)) (fun i => s.size - (intOf i).toNat)
  case atStart => exact ⟨k + 1, Nat.le_refl _, by omega, by go_num, by rw [extract_none]; cases wordEnd (s.data.toList.drop (k + 1)) <;> rfl⟩
  case round =>
    obtain ⟨j, hkj, hj, rfl, hw⟩ := hrel
    have HW := Lib.hid hw
    clear hw
    by_cases hjl : j < s.size
    · have hd := drop_cons s j hjl
      have hx := extract_snoc s (k + 1) j hkj hjl
      obtain ⟨c, hc⟩ : ∃ c, s[j] = c := ⟨_, rfl⟩
      rw [hc] at hd hx
      have hc8 := c.toNat_lt
      by_cases h34 : c = 34
      · have HO := Lib.hid (show quoteT s k = .agg #[.int .i64 2, .int .i64 0, .string (s.extract (k + 1) j), .slice none 0 0, .slice none 0 0, .int .i64 ((j + 1 : Nat) : Int)] by
          unfold quoteT
          rw [HQ.out, HW.out, hd, wordEnd, if_pos h34]
          simp only [Option.map_some, List.append_nil, List.length_drop]
          rw [show s.size - (s.data.toList.length - (j + 1)) = j + 1 by rw [← Lib.size_eq]; omega])
        subst h34
        clear hd hx hc8
        go_wp2_with fail
        refine bodyPost_ret (results_cell_row (p := 4) rfl _ _ w.heap.size 87 _ (0, 0) _ rfl (HN.out _ _ _ _ _ _) Tryz.underlying87 rfl tSize) rfl ⟨?_, HB.out _ _ _ _ _ _⟩
        rw [HO.out]
        go_num
      · have h34' : c.toNat ≠ 34 := fun e => h34 (UInt8.toNat_inj.1 e)
        have HN1 := Lib.hid (show wordEnd (s.data.toList.drop (k + 1)) = (wordEnd (s.data.toList.drop (j + 1))).map fun p => ((s.extract (k + 1) (j + 1)).data.toList ++ p.1, p.2) by
          rw [HW.out, hd, wordEnd, if_neg h34, Option.map_map, hx]
          congr 1
          funext p
          simp)
        have e1 : ((c.toNat : Int) == 34) = false := beq_eq_false_iff_ne.2 (by omega)
        clear hd hx h34 h34'
        go_wp2_with fail
        go_round
        case rel => exact ⟨j + 1, by omega, by omega, by go_num, HN1.out⟩
        case measure => simp [intOf]; omega
    · have HO := Lib.hid (show quoteT s k = noT by
        unfold quoteT
        rw [HQ.out, HW.out, drop_end s j (by omega)]; rfl)
      go_wp2_with fail
      exact bodyPost_ret (results_cell_row (p := 4) rfl _ _ w.heap.size 87 _ (0, 0) _ rfl (HN.out _ _ _ _ _ _) Tryz.underlying87 rfl tSize) rfl ⟨by rw [HO.out]; rfl, HB.out _ _ _ _ _ _⟩

def numberT (s : ByteArray) (k : Nat) : Value :=
  match numberL (s.data.toList.drop k) with
  | some (.mk _ n _ _ _, r) => .agg #[.int .i64 1, .int .i64 n, .string ⟨#[]⟩, .slice none 0 0, .slice none 0 0, .int .i64 ((s.size - r.length : Nat) : Int)]
  | none => noT

theorem digitsL_yes (m : Nat) (c : UInt8) (l : List UInt8) (h : digitC c = true) (hm : ¬ m > 1099511627776) : digitsL m (c :: l) = digitsL (10 * m + (c.toNat - 48)) l := by
  rw [digitsL, if_pos h, if_neg hm]

theorem digitsL_no (m : Nat) (c : UInt8) (l : List UInt8) (h : digitC c = false) : digitsL m (c :: l) = some (m, c :: l) := by
  rw [digitsL, if_neg (by rw [h]; decide)]

theorem digitsL_big (m : Nat) (c : UInt8) (l : List UInt8) (h : digitC c = true) (hm : m > 1099511627776) : digitsL m (c :: l) = none := by
  rw [digitsL, if_pos h, if_pos hm]

theorem take_extract (s : ByteArray) (k j : Nat) (hkj : k ≤ j) (hj : j ≤ s.size) : (s.data.toList.drop k).take ((s.data.toList.drop k).length - (s.data.toList.drop j).length) = (s.extract k j).data.toList := by
  have hl := Lib.size_eq s
  rw [ByteArray.data_extract, Array.toList_extract, List.length_drop, List.length_drop]
  simp only [List.extract]
  congr 1
  omega

structure NumEnd (s : ByteArray) (k j m : Nat) : Prop where
  low : k ≤ j
  high : j ≤ s.size
  small : m ≤ 10995116277769
  is : numberL (s.data.toList.drop k) = if j = k ∨ ¬ Lib.itoa m = (s.extract k j).data.toList then none else some (.mk 1 m ⟨#[]⟩ [] [], s.data.toList.drop j)

theorem NumEnd.of (s : ByteArray) (k j m : Nat) (hkj : k ≤ j) (hj : j ≤ s.size) (hm : m ≤ 10995116277769) (h : digitsL 0 (s.data.toList.drop k) = some (m, s.data.toList.drop j)) : NumEnd s k j m := by
  refine ⟨hkj, hj, hm, ?_⟩
  have hl := Lib.size_eq s
  unfold numberL
  rw [h]
  simp only
  rw [take_extract s k j hkj hj]
  congr 1
  rw [List.length_drop, List.length_drop]
  exact propext ⟨fun h => h.imp (fun e => by omega) id, fun h => h.imp (fun e => by omega) id⟩

set_option maxRecDepth 100000 in
set_option maxHeartbeats 4000000 in
theorem number_t (s : ByteArray) (k : Nat) (hs : s.size ≤ 1073741824) (hk : k ≤ s.size) (w : World) (he : TEnv w) :
    Calls Tryz.prog 80 #[.string s, .int .i64 k] w fun e w' => e = .returned (numberT s k) ∧ Below w.heap.size w w' := by
  have HB := Lib.hid (fun (c0 c1 c2 c3 c4 c5 : Value) => below_new w (.cells #[c0, c1, c2, c3, c4, c5] 87))
  have HN := Lib.hid (fun (c0 c1 c2 c3 c4 c5 : Value) => At6.new w c0 c1 c2 c3 c4 c5)
  have HE := Lib.hid he
  clear he
  go_enter Tryz.func80, Tryz.ntmps80
  go_wp2_with fail
  go_loop [1, 5] (fun i n => ∃ j m : Nat, k ≤ j ∧ j ≤ s.size ∧ i = .int .i64 j ∧ n = .int .i64 m ∧ m ≤ 10995116277769 ∧ digitsL 0 (s.data.toList.drop k) = digitsL m (s.data.toList.drop j)) (fun i _ => s.size - (intOf i).toNat)
  case atStart => exact ⟨k, 0, Nat.le_refl _, hk, rfl, rfl, by decide, rfl⟩
  case round =>
    obtain ⟨j, m, hkj, hj, rfl, rfl, hm, hw⟩ := hrel
    have HW := Lib.hid hw
    clear hw
    by_cases hdig : ∃ hjl : j < s.size, digitC s[j] = true
    · obtain ⟨hjl, hdc⟩ := hdig
      have hd := drop_cons s j hjl
      obtain ⟨c, hc⟩ : ∃ c, s[j] = c := ⟨_, rfl⟩
      rw [hc] at hd hdc
      have hc8 := c.toNat_lt
      obtain ⟨d0, d1⟩ := (digitC_iff c).1 hdc
      by_cases hbig : 1099511627776 < m
      · have HO := Lib.hid (show numberT s k = noT by
          unfold numberT numberL
          rw [HW.out, hd, digitsL_big m c _ hdc hbig])
        clear hd hdc
        go_wp2_with fail
        exact bodyPost_ret (results_cell_row (p := 4) rfl _ _ w.heap.size 87 _ (0, 0) _ rfl (HN.out _ _ _ _ _ _) Tryz.underlying87 rfl tSize) rfl ⟨by rw [HO.out]; rfl, HB.out _ _ _ _ _ _⟩
      · have HN1 := Lib.hid (show digitsL 0 (s.data.toList.drop k) = digitsL (10 * m + (c.toNat - 48)) (s.data.toList.drop (j + 1)) by rw [HW.out, hd, digitsL_yes m c _ hdc hbig])
        have hw8 : IntKind.u8.wrap ((c.toNat : Int) - 48) = ((c.toNat - 48 : Nat) : Int) := by rw [IntKind.wrap_u8]; omega
        clear hd hdc

        go_wp2_with fail
        go_round
        case rel => exact ⟨j + 1, 10 * m + (c.toNat - 48), by omega, by omega, by go_num, by go_num, by omega, HN1.out⟩
        case measure => simp [intOf]; omega
    · by_cases hjl : j < s.size
      · have hd := drop_cons s j hjl
        obtain ⟨c, hc⟩ : ∃ c, s[j] = c := ⟨_, rfl⟩
        have hdc : digitC c = false := by
          cases h : digitC c with
          | false => rfl
          | true => exact absurd ⟨hjl, by rw [hc]; exact h⟩ hdig
        rw [hc] at hd
        have HD := Lib.hid (NumEnd.of s k j m hkj hj hm (by rw [HW.out, hd, digitsL_no m c _ hdc]))
        have hc8 := c.toNat_lt
        have hcc : c.toNat < 48 ∨ (¬ c.toNat < 48 ∧ 57 < c.toNat) := by
          by_cases h : c.toNat < 48
          · exact Or.inl h
          · refine Or.inr ⟨h, ?_⟩
            rcases Nat.lt_or_ge 57 c.toNat with h2 | h2
            · exact h2
            · rw [(digitC_iff c).2 ⟨by omega, h2⟩] at hdc; cases hdc
        clear hdig hd hdc
        rcases hcc with hcc | ⟨hcc, hcd⟩
        · by_cases hjk : j = k
          · have HO := Lib.hid (show numberT s k = noT by unfold numberT; rw [HD.out.is, if_pos (Or.inl hjk)])
            subst hjk
            have e1 : ((j : Int) == (j : Int)) = true := beq_self_eq_true _
            go_upto_region 8 with fail
            go_region
            all_goals
              go_wp2_with fail
              exact bodyPost_ret (results_cell_row (p := 4) rfl _ _ w.heap.size 87 _ (0, 0) _ rfl (HN.out _ _ _ _ _ _) Tryz.underlying87 rfl tSize) rfl ⟨by rw [HO.out]; rfl, (HB.out _ _ _ _ _ _).drew⟩
          · have e1 : ((j : Int) == (k : Int)) = false := beq_eq_false_iff_ne.2 (by omega)
            have hY := Lib.itoa_length_le m (by omega) (by omega)
            obtain ⟨Y, hYe⟩ : ∃ Y : ByteArray, (⟨(Lib.itoa m).toArray⟩ : ByteArray) = Y := ⟨_, rfl⟩
            have CI := Lib.hid (show ∀ w', Below (w.alloc (.cells #[.int .i64 0, .int .i64 0, .string ⟨#[]⟩, .slice none 0 0, .slice none 0 0, .int .i64 0] 87)).heap.size (w.alloc (.cells #[.int .i64 0, .int .i64 0, .string ⟨#[]⟩, .slice none 0 0, .slice none 0 0, .int .i64 0] 87)) w' → Calls Tryz.prog 55 #[.int .i64 m] w' fun e w2 => e = .returned (.string Y) ∧ At6 w2 w.heap.size (.int .i64 0) (.int .i64 0) (.string ⟨#[]⟩) (.slice none 0 0) (.slice none 0 0) (.int .i64 0) ∧ Below w.heap.size w w2 from fun w' h => by
              refine (itoa_any m (by omega) (by omega) w' (HE.out.below (Below.then (below_new w (.cells #[.int .i64 0, .int .i64 0, .string ⟨#[]⟩, .slice none 0 0, .slice none 0 0, .int .i64 0] 87)) h))).mono fun e w2 h2 => ⟨by rw [h2.1, hYe], (At6.new w _ _ _ _ _ _).keep (Below.then h h2.2), Below.then (below_new w (.cells #[.int .i64 0, .int .i64 0, .string ⟨#[]⟩, .slice none 0 0, .slice none 0 0, .int .i64 0] 87)) (Below.then h h2.2)⟩)
            have hbw := Below.refl (w.alloc (.cells #[.int .i64 0, .int .i64 0, .string ⟨#[]⟩, .slice none 0 0, .slice none 0 0, .int .i64 0] 87)).heap.size (w.alloc (.cells #[.int .i64 0, .int .i64 0, .string ⟨#[]⟩, .slice none 0 0, .slice none 0 0, .int .i64 0] 87))
            have HYL := Lib.hid (show Y.data.toList = Lib.itoa m by rw [← hYe])
            have HJK := Lib.hid hjk
            clear hY hYe hjk
            by_cases hq : Lib.itoa m = (s.extract k j).data.toList
            · have HO := Lib.hid (show numberT s k = .agg #[.int .i64 1, .int .i64 m, .string ⟨#[]⟩, .slice none 0 0, .slice none 0 0, .int .i64 j] by
                unfold numberT
                rw [HD.out.is, if_neg (fun h => h.elim HJK.out (fun h => h hq))]
                simp only [List.length_drop]
                rw [show s.size - (s.data.toList.length - j) = j by rw [← Lib.size_eq]; omega])
              have hne : (Y.toList == (s.extract k j).toList) = true := by rw [beqB, decide_eq_true_eq]; exact ByteArray.ext (Array.ext' (by rw [HYL.out, hq]))
              clear hq
              go_upto_region 8 with fail
              go_region_held (fun _ => True) (exact trivial) (first | (go_simp; go_at_call 55; refine (CI.out _ (by first | exact hbw | exact hbw.drew)).mono ?_; rintro e w2 ⟨rfl, hz2, hb2⟩))
              all_goals
                have HZ := Lib.hid hz2
                have HB2 := Lib.hid hb2
                obtain ⟨z0, z1, z2, z3, z4, z5⟩ := hz2.cells
                have f0 := hz2.frozen 0
                have f1 := hz2.frozen 1
                have f2 := hz2.frozen 2
                have f3 := hz2.frozen 3
                have f4 := hz2.frozen 4
                have f5 := hz2.frozen 5
                clear hz2 hb2
                go_wp2_with fail
                refine bodyPost_ret (results_cell_row (p := 4) rfl _ _ w.heap.size 87 _ (0, 0) _ rfl (set6_six HZ.out _ _ _ _ _ _) Tryz.underlying87 rfl tSize) rfl ?_
                exact ⟨by rw [HO.out], set6_below HB2.out rfl _ _ _ _ _ _⟩
            · have HO := Lib.hid (show numberT s k = noT by
                unfold numberT
                rw [HD.out.is, if_pos (Or.inr hq)])
              have hne : (Y.toList == (s.extract k j).toList) = false := by
                rw [beqB, decide_eq_false_iff_not]
                intro h
                exact hq (by rw [← HYL.out, h])
              clear hq
              go_upto_region 8 with fail
              go_region_held (fun _ => True) (exact trivial) (first | (go_simp; go_at_call 55; refine (CI.out _ (by first | exact hbw | exact hbw.drew)).mono ?_; rintro e w2 ⟨rfl, hz2, hb2⟩))
              all_goals
                have HZ := Lib.hid hz2
                have HB2 := Lib.hid hb2
                obtain ⟨z0, z1, z2, z3, z4, z5⟩ := hz2.cells
                have f0 := hz2.frozen 0
                have f1 := hz2.frozen 1
                have f2 := hz2.frozen 2
                have f3 := hz2.frozen 3
                have f4 := hz2.frozen 4
                have f5 := hz2.frozen 5
                clear hz2 hb2
                go_wp2_with fail
                refine bodyPost_ret (results_cell_row (p := 4) rfl _ _ w.heap.size 87 _ (0, 0) _ rfl (set6_six HZ.out _ _ _ _ _ _) Tryz.underlying87 rfl tSize) rfl ?_
                exact ⟨by rw [HO.out]; rfl, set6_below HB2.out rfl _ _ _ _ _ _⟩
        · by_cases hjk : j = k
          · have HO := Lib.hid (show numberT s k = noT by unfold numberT; rw [HD.out.is, if_pos (Or.inl hjk)])
            subst hjk
            have e1 : ((j : Int) == (j : Int)) = true := beq_self_eq_true _
            go_upto_region 8 with fail
            go_region
            all_goals
              go_wp2_with fail
              exact bodyPost_ret (results_cell_row (p := 4) rfl _ _ w.heap.size 87 _ (0, 0) _ rfl (HN.out _ _ _ _ _ _) Tryz.underlying87 rfl tSize) rfl ⟨by rw [HO.out]; rfl, (HB.out _ _ _ _ _ _).drew⟩
          · have e1 : ((j : Int) == (k : Int)) = false := beq_eq_false_iff_ne.2 (by omega)
            have hY := Lib.itoa_length_le m (by omega) (by omega)
            obtain ⟨Y, hYe⟩ : ∃ Y : ByteArray, (⟨(Lib.itoa m).toArray⟩ : ByteArray) = Y := ⟨_, rfl⟩
            have CI := Lib.hid (show ∀ w', Below (w.alloc (.cells #[.int .i64 0, .int .i64 0, .string ⟨#[]⟩, .slice none 0 0, .slice none 0 0, .int .i64 0] 87)).heap.size (w.alloc (.cells #[.int .i64 0, .int .i64 0, .string ⟨#[]⟩, .slice none 0 0, .slice none 0 0, .int .i64 0] 87)) w' → Calls Tryz.prog 55 #[.int .i64 m] w' fun e w2 => e = .returned (.string Y) ∧ At6 w2 w.heap.size (.int .i64 0) (.int .i64 0) (.string ⟨#[]⟩) (.slice none 0 0) (.slice none 0 0) (.int .i64 0) ∧ Below w.heap.size w w2 from fun w' h => by
              refine (itoa_any m (by omega) (by omega) w' (HE.out.below (Below.then (below_new w (.cells #[.int .i64 0, .int .i64 0, .string ⟨#[]⟩, .slice none 0 0, .slice none 0 0, .int .i64 0] 87)) h))).mono fun e w2 h2 => ⟨by rw [h2.1, hYe], (At6.new w _ _ _ _ _ _).keep (Below.then h h2.2), Below.then (below_new w (.cells #[.int .i64 0, .int .i64 0, .string ⟨#[]⟩, .slice none 0 0, .slice none 0 0, .int .i64 0] 87)) (Below.then h h2.2)⟩)
            have hbw := Below.refl (w.alloc (.cells #[.int .i64 0, .int .i64 0, .string ⟨#[]⟩, .slice none 0 0, .slice none 0 0, .int .i64 0] 87)).heap.size (w.alloc (.cells #[.int .i64 0, .int .i64 0, .string ⟨#[]⟩, .slice none 0 0, .slice none 0 0, .int .i64 0] 87))
            have HYL := Lib.hid (show Y.data.toList = Lib.itoa m by rw [← hYe])
            have HJK := Lib.hid hjk
            clear hY hYe hjk
            by_cases hq : Lib.itoa m = (s.extract k j).data.toList
            · have HO := Lib.hid (show numberT s k = .agg #[.int .i64 1, .int .i64 m, .string ⟨#[]⟩, .slice none 0 0, .slice none 0 0, .int .i64 j] by
                unfold numberT
                rw [HD.out.is, if_neg (fun h => h.elim HJK.out (fun h => h hq))]
                simp only [List.length_drop]
                rw [show s.size - (s.data.toList.length - j) = j by rw [← Lib.size_eq]; omega])
              have hne : (Y.toList == (s.extract k j).toList) = true := by rw [beqB, decide_eq_true_eq]; exact ByteArray.ext (Array.ext' (by rw [HYL.out, hq]))
              clear hq
              go_upto_region 8 with fail
              go_region_held (fun _ => True) (exact trivial) (first | (go_simp; go_at_call 55; refine (CI.out _ (by first | exact hbw | exact hbw.drew)).mono ?_; rintro e w2 ⟨rfl, hz2, hb2⟩))
              all_goals
                have HZ := Lib.hid hz2
                have HB2 := Lib.hid hb2
                obtain ⟨z0, z1, z2, z3, z4, z5⟩ := hz2.cells
                have f0 := hz2.frozen 0
                have f1 := hz2.frozen 1
                have f2 := hz2.frozen 2
                have f3 := hz2.frozen 3
                have f4 := hz2.frozen 4
                have f5 := hz2.frozen 5
                clear hz2 hb2
                go_wp2_with fail
                refine bodyPost_ret (results_cell_row (p := 4) rfl _ _ w.heap.size 87 _ (0, 0) _ rfl (set6_six HZ.out _ _ _ _ _ _) Tryz.underlying87 rfl tSize) rfl ?_
                exact ⟨by rw [HO.out], set6_below HB2.out rfl _ _ _ _ _ _⟩
            · have HO := Lib.hid (show numberT s k = noT by
                unfold numberT
                rw [HD.out.is, if_pos (Or.inr hq)])
              have hne : (Y.toList == (s.extract k j).toList) = false := by
                rw [beqB, decide_eq_false_iff_not]
                intro h
                exact hq (by rw [← HYL.out, h])
              clear hq
              go_upto_region 8 with fail
              go_region_held (fun _ => True) (exact trivial) (first | (go_simp; go_at_call 55; refine (CI.out _ (by first | exact hbw | exact hbw.drew)).mono ?_; rintro e w2 ⟨rfl, hz2, hb2⟩))
              all_goals
                have HZ := Lib.hid hz2
                have HB2 := Lib.hid hb2
                obtain ⟨z0, z1, z2, z3, z4, z5⟩ := hz2.cells
                have f0 := hz2.frozen 0
                have f1 := hz2.frozen 1
                have f2 := hz2.frozen 2
                have f3 := hz2.frozen 3
                have f4 := hz2.frozen 4
                have f5 := hz2.frozen 5
                clear hz2 hb2
                go_wp2_with fail
                refine bodyPost_ret (results_cell_row (p := 4) rfl _ _ w.heap.size 87 _ (0, 0) _ rfl (set6_six HZ.out _ _ _ _ _ _) Tryz.underlying87 rfl tSize) rfl ?_
                exact ⟨by rw [HO.out]; rfl, set6_below HB2.out rfl _ _ _ _ _ _⟩
      · have HD := Lib.hid (NumEnd.of s k j m hkj hj hm (by rw [HW.out, drop_end s j (by omega)]; rfl))
        clear hdig
        by_cases hjk : j = k
        · have HO := Lib.hid (show numberT s k = noT by unfold numberT; rw [HD.out.is, if_pos (Or.inl hjk)])
          subst hjk
          have e1 : ((j : Int) == (j : Int)) = true := beq_self_eq_true _
          go_upto_region 8 with fail
          go_region
          all_goals
            go_wp2_with fail
            exact bodyPost_ret (results_cell_row (p := 4) rfl _ _ w.heap.size 87 _ (0, 0) _ rfl (HN.out _ _ _ _ _ _) Tryz.underlying87 rfl tSize) rfl ⟨by rw [HO.out]; rfl, (HB.out _ _ _ _ _ _).drew⟩
        · have e1 : ((j : Int) == (k : Int)) = false := beq_eq_false_iff_ne.2 (by omega)
          have hY := Lib.itoa_length_le m (by omega) (by omega)
          obtain ⟨Y, hYe⟩ : ∃ Y : ByteArray, (⟨(Lib.itoa m).toArray⟩ : ByteArray) = Y := ⟨_, rfl⟩
          have CI := Lib.hid (show ∀ w', Below (w.alloc (.cells #[.int .i64 0, .int .i64 0, .string ⟨#[]⟩, .slice none 0 0, .slice none 0 0, .int .i64 0] 87)).heap.size (w.alloc (.cells #[.int .i64 0, .int .i64 0, .string ⟨#[]⟩, .slice none 0 0, .slice none 0 0, .int .i64 0] 87)) w' → Calls Tryz.prog 55 #[.int .i64 m] w' fun e w2 => e = .returned (.string Y) ∧ At6 w2 w.heap.size (.int .i64 0) (.int .i64 0) (.string ⟨#[]⟩) (.slice none 0 0) (.slice none 0 0) (.int .i64 0) ∧ Below w.heap.size w w2 from fun w' h => by
            refine (itoa_any m (by omega) (by omega) w' (HE.out.below (Below.then (below_new w (.cells #[.int .i64 0, .int .i64 0, .string ⟨#[]⟩, .slice none 0 0, .slice none 0 0, .int .i64 0] 87)) h))).mono fun e w2 h2 => ⟨by rw [h2.1, hYe], (At6.new w _ _ _ _ _ _).keep (Below.then h h2.2), Below.then (below_new w (.cells #[.int .i64 0, .int .i64 0, .string ⟨#[]⟩, .slice none 0 0, .slice none 0 0, .int .i64 0] 87)) (Below.then h h2.2)⟩)
          have hbw := Below.refl (w.alloc (.cells #[.int .i64 0, .int .i64 0, .string ⟨#[]⟩, .slice none 0 0, .slice none 0 0, .int .i64 0] 87)).heap.size (w.alloc (.cells #[.int .i64 0, .int .i64 0, .string ⟨#[]⟩, .slice none 0 0, .slice none 0 0, .int .i64 0] 87))
          have HYL := Lib.hid (show Y.data.toList = Lib.itoa m by rw [← hYe])
          have HJK := Lib.hid hjk
          clear hY hYe hjk
          by_cases hq : Lib.itoa m = (s.extract k j).data.toList
          · have HO := Lib.hid (show numberT s k = .agg #[.int .i64 1, .int .i64 m, .string ⟨#[]⟩, .slice none 0 0, .slice none 0 0, .int .i64 j] by
              unfold numberT
              rw [HD.out.is, if_neg (fun h => h.elim HJK.out (fun h => h hq))]
              simp only [List.length_drop]
              rw [show s.size - (s.data.toList.length - j) = j by rw [← Lib.size_eq]; omega])
            have hne : (Y.toList == (s.extract k j).toList) = true := by rw [beqB, decide_eq_true_eq]; exact ByteArray.ext (Array.ext' (by rw [HYL.out, hq]))
            clear hq
            go_upto_region 8 with fail
            go_region_held (fun _ => True) (exact trivial) (first | (go_simp; go_at_call 55; refine (CI.out _ (by first | exact hbw | exact hbw.drew)).mono ?_; rintro e w2 ⟨rfl, hz2, hb2⟩))
            all_goals
              have HZ := Lib.hid hz2
              have HB2 := Lib.hid hb2
              obtain ⟨z0, z1, z2, z3, z4, z5⟩ := hz2.cells
              have f0 := hz2.frozen 0
              have f1 := hz2.frozen 1
              have f2 := hz2.frozen 2
              have f3 := hz2.frozen 3
              have f4 := hz2.frozen 4
              have f5 := hz2.frozen 5
              clear hz2 hb2
              go_wp2_with fail
              refine bodyPost_ret (results_cell_row (p := 4) rfl _ _ w.heap.size 87 _ (0, 0) _ rfl (set6_six HZ.out _ _ _ _ _ _) Tryz.underlying87 rfl tSize) rfl ?_
              exact ⟨by rw [HO.out], set6_below HB2.out rfl _ _ _ _ _ _⟩
          · have HO := Lib.hid (show numberT s k = noT by
              unfold numberT
              rw [HD.out.is, if_pos (Or.inr hq)])
            have hne : (Y.toList == (s.extract k j).toList) = false := by
              rw [beqB, decide_eq_false_iff_not]
              intro h
              exact hq (by rw [← HYL.out, h])
            clear hq
            go_upto_region 8 with fail
            go_region_held (fun _ => True) (exact trivial) (first | (go_simp; go_at_call 55; refine (CI.out _ (by first | exact hbw | exact hbw.drew)).mono ?_; rintro e w2 ⟨rfl, hz2, hb2⟩))
            all_goals
              have HZ := Lib.hid hz2
              have HB2 := Lib.hid hb2
              obtain ⟨z0, z1, z2, z3, z4, z5⟩ := hz2.cells
              have f0 := hz2.frozen 0
              have f1 := hz2.frozen 1
              have f2 := hz2.frozen 2
              have f3 := hz2.frozen 3
              have f4 := hz2.frozen 4
              have f5 := hz2.frozen 5
              clear hz2 hb2
              go_wp2_with fail
              refine bodyPost_ret (results_cell_row (p := 4) rfl _ _ w.heap.size 87 _ (0, 0) _ rfl (set6_six HZ.out _ _ _ _ _ _) Tryz.underlying87 rfl tSize) rfl ?_
              exact ⟨by rw [HO.out]; rfl, set6_below HB2.out rfl _ _ _ _ _ _⟩
end Go.Proofs.YtepcaglekgeamaaGreatDoor
