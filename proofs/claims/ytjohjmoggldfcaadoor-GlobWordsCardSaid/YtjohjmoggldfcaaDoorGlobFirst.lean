/-
  The piece that a pattern begins with, by contracts. Conditions: a pattern of at most 128 bytes, all ASCII.
-/
import Derived.Test.YtjohjmoggldfcaaDoorGlobFits
namespace Go.Proofs.YtjohjmoggldfcaaDoor
open Go.RowKit

/-- What the walks want of the package-level variables that are not listed: an int where the library keeps one. -/
def SomeMax (w : World) : Prop := ∃ m, w.cell? ⟨0, 0, none⟩ = some (.int .i64 m)
theorem SomeMax.keep {w w' : World} (h : SomeMax w) (hb : Below w.heap.size w w') : SomeMax w' := by
  obtain ⟨m, hm⟩ := h
  exact ⟨m, (hb.cell (World.block_lt_of_cell? _ _ hm)).trans hm⟩

theorem pre_stars (l : List UInt8) : Lib.hasPrefix l [42, 42] = (l.head? == some 42 && l.tail.head? == some 42) := by
  unfold Lib.hasPrefix
  match l with
  | [] => rfl
  | [a] =>
    simp [List.isPrefixOf]
  | a :: b :: r =>
    simp only [List.isPrefixOf, List.head?_cons, List.tail_cons, Bool.and_true]
    rw [Bool.eq_iff_iff]
    simp only [Bool.and_eq_true, beq_iff_eq, Option.some.injEq]
    exact ⟨fun h => ⟨h.1.symm, h.2.symm⟩, fun h => ⟨h.1.symm, h.2.symm⟩⟩
theorem head_at (p : ByteArray) (h : 0 < p.size) : p.data.toList.head? = some p[0] := by
  rw [List.head?_eq_getElem?, List.getElem?_eq_getElem (by rw [← Lib.size_eq]; exact h), getElem_listG p 0 h]
theorem index_mark : ∀ l : List UInt8, Lib.indexAny l [42, 63, 123] = if (l.dropWhile noMark).isEmpty then -1 else ((l.takeWhile noMark).length : Int)
  | [] => rfl
  | c :: l => by
    have ih := index_mark l
    rw [Lib.indexAny]
    have hc : ([42, 63, 123] : List UInt8).contains c = !noMark c := by
      unfold noMark
      rw [Bool.eq_iff_iff]
      simp [List.contains_eq_mem]
      by_cases h1 : c = 42 <;> by_cases h2 : c = 63 <;> by_cases h3 : c = 123 <;> simp [h1, h2, h3]
    cases hn : noMark c with
    | false =>
      rw [hc, hn]
      simp [hn]
    | true =>
      rw [hc, hn, ih]
      simp only [List.dropWhile_cons, List.takeWhile_cons, hn, if_true, Bool.not_true, Bool.false_eq_true, if_false, List.length_cons]
      cases (l.dropWhile noMark).isEmpty with
      | true => rfl
      | false =>
        simp only [Bool.false_eq_true, if_false]
        rw [if_neg (by rw [beq_iff_eq]; omega)]
        omega
theorem cut_brace (l : List UInt8) : (Lib.cut l [125]).1 = l.takeWhile (· != 125) ∧ (Lib.cut l [125]).2.1 = (l.dropWhile (· != 125)).drop 1 := by
  induction l with
  | nil => exact ⟨rfl, rfl⟩
  | cons c l ih =>
    unfold Lib.cut at ih ⊢
    have hge := Lib.index_ge l [125]
    by_cases h : c = 125
    · subst h
      rw [index_eq]
      simp
    · rw [index_ne c 125 l h]
      have hb : (c != 125) = true := by simpa using h
      simp only [List.takeWhile_cons, List.dropWhile_cons, hb, if_true]
      by_cases hm : Lib.index l [125] = -1
      · rw [hm] at ih ⊢
        simp only [show ¬ (0 : Int) ≤ -1 by decide, if_false, beq_self_eq_true, if_true] at ih ⊢
        exact ⟨by rw [← ih.1], ih.2⟩
      · have h0 : 0 ≤ Lib.index l [125] := by omega
        rw [if_pos h0] at ih
        rw [if_neg (show ¬ (Lib.index l [125] == -1) = true by simpa using hm), if_pos (by omega)]
        obtain ⟨i, hi⟩ : ∃ i : Nat, Lib.index l [125] = i := ⟨(Lib.index l [125]).toNat, by omega⟩
        rw [hi] at ih ⊢
        have e1 : ((i : Int) + 1).toNat = i + 1 := by omega
        rw [e1]
        rw [Int.toNat_natCast] at ih
        simp only [List.length_singleton] at ih ⊢
        refine ⟨by rw [List.take_succ_cons, ih.1], ?_⟩
        rw [show i + 1 + 1 = (i + 1) + 1 from rfl, List.drop_succ_cons, ih.2]
theorem drop_takeWhile (f : UInt8 → Bool) : ∀ l : List UInt8, l.drop (l.takeWhile f).length = l.dropWhile f
  | [] => rfl
  | a :: l => by cases h : f a <;> simp [h, drop_takeWhile f l]
theorem ext_list {a b : ByteArray} (h : a.data.toList = b.data.toList) : a = b := by
  apply ByteArray.ext; apply Array.ext'; exact h
theorem mk_listG (l : List UInt8) : (⟨l.toArray⟩ : ByteArray).data.toList = l := rfl
theorem words_split (s : ByteArray) : Lib.splitB ⟨#[44]⟩ 0 (Lib.countB s ⟨#[44]⟩) s = (goC 44 [] s.data.toList).map fun l => ⟨l.toArray⟩ := by
  have h := Lib.splitB_data ⟨#[44]⟩ 0 (Lib.countB s ⟨#[44]⟩) s
  have hc : Lib.countB s ⟨#[44]⟩ = s.data.toList.count 44 := Lib.count_one 44 s.data.toList
  have h2 : (Lib.splitB ⟨#[44]⟩ 0 (Lib.countB s ⟨#[44]⟩) s).map (·.data.toList) = goC 44 [] s.data.toList := by
    rw [h, hc]; exact split_goC 44 s.data.toList
  rw [← h2, List.map_map]
  have e : ((fun l => (⟨l.toArray⟩ : ByteArray)) ∘ fun x : ByteArray => x.data.toList) = id := funext fun x => ext_list rfl
  rw [e, List.map_id]
theorem goC_length (b : UInt8) : ∀ (l now : List UInt8), (goC b now l).length ≤ l.length + 1
  | [], _ => by simp [goC]
  | c :: l, now => by
    unfold goC
    split
    · have := goC_length b l []
      simp only [List.length_cons]; omega
    · have := goC_length b l (now ++ [c])
      simp only [List.length_cons]; omega

/-- What first answers. -/
def FirstEnd (p : ByteArray) (w : World) (e : Ending) (w' : World) : Prop :=
  ∃ v r, e = .returned (.tuple #[v, .string r]) ∧ PcV w' v (firstF p.data.toList).1 ∧ r.data.toList = (firstF p.data.toList).2 ∧ Below w.heap.size w w' ∧ (∀ T b o n c, v = .iface T (.slice (some ⟨b, o, none⟩) n c) → b = w.heap.size ∧ b < w'.heap.size)

set_option maxRecDepth 100000 in
set_option maxHeartbeats 4000000 in
theorem first_any (p : ByteArray) (w : World) (h0 : 0 < p.size) (hs : p.size ≤ 128) (hasc : ∀ b ∈ p.data.toList, b.toNat < 128) (hM : SomeMax w) :
    Calls Tryd.prog 33 #[.string p] w (FirstEnd p w) := by
  have C := Lib.hid (Tryd.strings_CutPrefix p ⟨#[42, 42]⟩ w)
  have hd := head_at p h0
  have hpl : p.data.toList.length = p.size := by simp
  rw [show (⟨#[42, 42]⟩ : ByteArray).data.toList = [42, 42] from rfl] at C
  have hpre := pre_stars p.data.toList
  have hx1 : (p.extract 1 p.size).data.toList = p.data.toList.drop 1 := extract_list p 1
  cases hq : Lib.hasPrefix p.data.toList [42, 42] with
  | true =>
    rw [hq] at C hpre
    have hh := hpre.symm
    rw [Bool.and_eq_true, beq_iff_eq, beq_iff_eq] at hh
    have HO := Lib.hid (show FirstEnd p w (.returned (.tuple #[.iface 73 (.agg #[]), .string ⟨(Lib.trimPrefix p.data.toList [42, 42]).toArray⟩])) w from by
      have hf : firstF p.data.toList = (.deep, p.data.toList.drop 2) := by unfold firstF; rw [if_pos hh.1, if_pos hh.2]
      refine ⟨_, _, rfl, ?_, ?_, Below.refl _ _, fun _ _ _ _ _ h => by cases h⟩
      · rw [hf]; rfl
      · rw [hf, mk_listG]; unfold Lib.trimPrefix; rw [if_pos hq]; rfl)
    obtain ⟨d, hd2⟩ : ∃ d : ByteArray, (⟨(Lib.trimPrefix p.data.toList [42, 42]).toArray⟩ : ByteArray) = d := ⟨_, rfl⟩
    rw [hd2] at C HO
    clear hd2 hq hpre hh hd hx1 hM
    go_enter Tryd.func33, Tryd.ntmps33
    go_wp2_with fail
    refine C.out.mono ?_
    rintro e w1 ⟨rfl, rfl⟩
    go_wp2_with fail
    go_ret2
    exact HO.out
  | false =>
    rw [hq] at C hpre
    obtain ⟨d, hd2⟩ : ∃ d : ByteArray, (⟨(Lib.trimPrefix p.data.toList [42, 42]).toArray⟩ : ByteArray) = d := ⟨_, rfl⟩
    rw [hd2] at C
    clear hd2 hq
    rcases noMark_cases p[0] with h | h | h | h
    · have k1 : ((p[0].toNat : Int) == 42) = true := by rw [h]; rfl
      have HO := Lib.hid (show ∀ n, FirstEnd p w (.returned (.tuple #[.iface 74 (.agg #[]), .string (p.extract 1 p.size)])) (w.drewN n) from fun n => by
        have hf : firstF p.data.toList = (.flat, p.data.toList.drop 1) := by
          rw [hd, h] at hpre
          unfold firstF; rw [hd, h, if_pos rfl, if_neg]
          intro e
          rw [e] at hpre; simp at hpre
        refine ⟨_, _, rfl, ?_, ?_, ⟨rfl, rfl, rfl, Nat.le_refl _, fun _ _ => rfl⟩, fun _ _ _ _ _ h => by cases h⟩
        · rw [hf]; rfl
        · rw [hf]; exact hx1)
      clear h hpre hd hx1 hM
      go_enter Tryd.func33, Tryd.ntmps33
      go_wp2_with fail
      refine C.out.mono ?_
      rintro e w1 ⟨rfl, rfl⟩
      go_wp2_with fail
      go_quiet (fail)
      go_wp2_with fail
      go_ret2
      exact HO.out _
    · have k1 : ((p[0].toNat : Int) == 42) = false := by rw [h]; rfl
      have k2 : ((p[0].toNat : Int) == 63) = true := by rw [h]; rfl
      have HO := Lib.hid (show ∀ n, FirstEnd p w (.returned (.tuple #[.iface 75 (.agg #[]), .string (p.extract 1 p.size)])) (w.drewN n) from fun n => by
        have hf : firstF p.data.toList = (.one, p.data.toList.drop 1) := by
          unfold firstF; rw [hd, h]; rfl
        refine ⟨_, _, rfl, ?_, ?_, ⟨rfl, rfl, rfl, Nat.le_refl _, fun _ _ => rfl⟩, fun _ _ _ _ _ h => by cases h⟩
        · rw [hf]; rfl
        · rw [hf]; exact hx1)
      clear h hpre hd hx1 hM
      go_enter Tryd.func33, Tryd.ntmps33
      go_wp2_with fail
      refine C.out.mono ?_
      rintro e w1 ⟨rfl, rfl⟩
      go_wp2_with fail
      go_quiet (fail)
      go_wp2_with fail
      go_ret2
      exact HO.out _
    · have k1 : ((p[0].toNat : Int) == 42) = false := by rw [h]; rfl
      have k2 : ((p[0].toNat : Int) == 63) = false := by rw [h]; rfl
      have k3 : ((p[0].toNat : Int) == 123) = true := by rw [h]; rfl
      obtain ⟨m, hm⟩ := hM
      have hcb := cut_brace (p.data.toList.drop 1)
      have U := Lib.hid (Tryd.strings_Cut (p.extract 1 p.size) ⟨#[125]⟩ m w (by rw [size_listB, hx1]; simp; omega) hm)
      rw [hx1, show (⟨#[125]⟩ : ByteArray).data.toList = [125] from rfl, hcb.1, hcb.2] at U
      obtain ⟨bb, hbb⟩ : ∃ b, (Lib.cut (p.data.toList.drop 1) [125]).2.2 = b := ⟨_, rfl⟩
      rw [hbb] at U
      have hf : firstF p.data.toList = (.words ((goC 44 [] ((p.data.toList.drop 1).takeWhile (· != 125))).map fun l => ⟨l.toArray⟩), ((p.data.toList.drop 1).dropWhile (· != 125)).drop 1) := by
        unfold firstF; rw [hd, h]; rfl
      obtain ⟨x, hx⟩ : ∃ x : ByteArray, (⟨((p.data.toList.drop 1).takeWhile (· != 125)).toArray⟩ : ByteArray) = x := ⟨_, rfl⟩
      obtain ⟨r, hr⟩ : ∃ r : ByteArray, (⟨(((p.data.toList.drop 1).dropWhile (· != 125)).drop 1).toArray⟩ : ByteArray) = r := ⟨_, rfl⟩
      rw [hx, hr] at U
      have hxl : x.data.toList = (p.data.toList.drop 1).takeWhile (· != 125) := by rw [← hx]
      have hrl : r.data.toList = ((p.data.toList.drop 1).dropWhile (· != 125)).drop 1 := by rw [← hr]
      have hxs : x.size ≤ 128 := by
        rw [size_listB, hxl]
        have := (List.takeWhile_prefix (· != 125) (l := p.data.toList.drop 1)).length_le
        rw [List.length_drop] at this; omega
      rw [← hxl, ← hrl] at hf
      have V := Lib.hid (fun n => Tryd.strings_Split x ⟨#[44]⟩ m (w.drewN n) (by omega) hm (by decide))
      have hws := words_split x
      have hwl := goC_length 44 x.data.toList []
      have hcount : Lib.countB x ⟨#[44]⟩ + 1 = ((goC 44 [] x.data.toList).map fun l => (⟨l.toArray⟩ : ByteArray)).length := by
        rw [← hws, Lib.splitB_all ⟨#[44]⟩ (by decide) 0 _ x rfl]
      obtain ⟨l, hl⟩ : ∃ l, ((goC 44 [] x.data.toList).map fun l => (⟨l.toArray⟩ : ByteArray)) = l := ⟨_, rfl⟩
      have hll : l.length ≤ 129 := by rw [← hl, List.length_map]; rw [size_listB] at hxs; omega
      rw [hws, hl] at V
      rw [hl] at hf hcount
      rw [hcount] at V
      have HO := Lib.hid (show ∀ n, FirstEnd p w (.returned (.tuple #[.iface 78 (.slice (some ⟨w.heap.size, 0, none⟩) l.length l.length), .string r])) ((w.drewN n).alloc (.cells ((l.map Value.string).toArray) 9)) from fun n => by
        refine ⟨_, _, rfl, ?_, by rw [hf], (Below.mk rfl rfl rfl (Nat.le_refl _) (fun _ _ => rfl) : Below w.heap.size w (w.drewN n)).alloc (Nat.le_refl _) _, fun _ _ _ _ _ h => by cases h; exact ⟨rfl, by rw [World.size_alloc]; exact Nat.lt_succ_self _⟩⟩
        rw [hf]
        refine ⟨_, rfl, _, _, _, rfl, by omega, fun i hi => ?_⟩
        rw [World.cell?_alloc_at _ _ _ _ (show w.heap.size = (w.drewN n).heap.size from rfl)]
        simp [hi])
      have hsw : ∀ n, (w.drewN n).heap.size = w.heap.size := fun _ => rfl
      clear h hpre hd hx1 hm hcb hbb hf hx hr hxl hrl hws hwl hcount hl
      go_enter Tryd.func33, Tryd.ntmps33
      go_wp2_with fail
      refine C.out.mono ?_
      rintro e w1 ⟨rfl, rfl⟩
      go_wp2_with fail
      refine U.out.mono ?_
      rintro e w1 ⟨rfl, n, rfl⟩
      go_wp2_with fail
      refine (V.out n).mono ?_
      rintro e w1 ⟨rfl, rfl⟩
      go_wp2_with fail
      go_ret2
      exact HO.out n
    · have hnm := h
      unfold noMark at h
      rw [Bool.and_eq_true, Bool.and_eq_true] at h
      have k : ∀ d : UInt8, (p[0] != d) = true → ((p[0].toNat : Int) == (d.toNat : Int)) = false := fun d hd => by
        rw [beq_eq_false_iff_ne]; intro e
        rw [bne_iff_ne] at hd
        exact hd (UInt8.toNat_inj.1 (by omega))
      have k1 : ((p[0].toNat : Int) == 42) = false := k 42 h.1.1
      have k2 : ((p[0].toNat : Int) == 63) = false := k 63 h.1.2
      have k3 : ((p[0].toNat : Int) == 123) = false := k 123 h.2
      have hf := firstF_plain p.data.toList (fun c hc => by rw [hd, Option.some.injEq] at hc; subst hc; exact hnm)
      have I := Lib.hid (Tryd.strings_IndexAny_laid p ⟨#[42, 63, 123]⟩ w (by omega) (by decide) (fun j b hb => hasc b (List.mem_of_getElem? hb)) (fun j b hb => by
        have hm : b ∈ ([42, 63, 123] : List UInt8) := List.mem_of_getElem? hb
        simp only [List.mem_cons, List.not_mem_nil, or_false] at hm
        rcases hm with rfl | rfl | rfl <;> decide))
      rw [show (⟨#[42, 63, 123]⟩ : ByteArray).data.toList = [42, 63, 123] from rfl, index_mark] at I
      have htd := List.takeWhile_append_dropWhile (p := noMark) (l := p.data.toList)
      have hlen : (p.data.toList.takeWhile noMark).length ≤ p.size := by
        have := congrArg List.length htd
        rw [List.length_append] at this; omega
      have HO := Lib.hid (show ∀ w1, Below w.heap.size w w1 → ∀ n k : Nat, (p.data.toList.takeWhile noMark).length = k → FirstEnd p w (.returned (.tuple #[.iface 80 (.string (p.extract 0 k)), .string (p.extract k p.size)])) (w1.drewN n) from fun w1 hb n k hk => by
        have e1 : (p.extract 0 k).data.toList = p.data.toList.takeWhile noMark := by
          have : (p.extract 0 k).data.toList = p.data.toList.take k := by simp
          rw [this, ← hk]
          exact (List.prefix_iff_eq_take.1 (List.takeWhile_prefix _)).symm
        have e2 : (p.extract k p.size).data.toList = p.data.toList.dropWhile noMark := by
          rw [extract_list, ← hk]
          exact drop_takeWhile _ _
        refine ⟨_, _, rfl, ?_, by rw [hf, e2], hb.trans ⟨rfl, rfl, rfl, Nat.le_refl _, fun _ _ => rfl⟩, fun _ _ _ _ _ h => by cases h⟩
        rw [hf]
        show Value.iface _ _ = Value.iface _ _
        congr 2
        exact ext_list (by rw [e1]))
      cases he : (p.data.toList.dropWhile noMark).isEmpty with
      | true =>
        rw [he] at I
        have hfull : (p.data.toList.takeWhile noMark).length = p.size := by
          have := congrArg List.length htd
          rw [List.length_append, List.isEmpty_iff.1 he, List.length_nil] at this; omega
        have HF := Lib.hid (show ∀ w1, Below w.heap.size w w1 → ∀ n, FirstEnd p w (.returned (.tuple #[.iface 80 (.string p), .string ByteArray.empty])) (w1.drewN n) from fun w1 hb n => by
          have h := HO.out w1 hb n p.size hfull
          rw [show p.extract 0 p.size = p from ext_list (by simp), show p.extract p.size p.size = ByteArray.empty from ext_list (by simp)] at h
          exact h)
        clear h hpre hd hx1 hM hf htd hlen he hfull hnm k hasc
        go_enter Tryd.func33, Tryd.ntmps33
        go_wp2_with fail
        refine C.out.mono ?_
        rintro e w1 ⟨rfl, rfl⟩
        go_wp2_with fail
        refine I.out.mono ?_
        rintro e w1 ⟨rfl, hb⟩
        have HB := Lib.hid hb
        clear hb
        go_wp2_with fail
        go_quiet (fail)
        go_wp2_with fail
        go_ret2
        exact HF.out _ HB.out _
      | false =>
        rw [he] at I
        obtain ⟨t, ht⟩ : ∃ t, (p.data.toList.takeWhile noMark).length = t := ⟨_, rfl⟩
        have HF := Lib.hid ht
        rw [ht] at I hlen
        clear h hpre hd hx1 hM hf htd he ht hnm k hasc
        go_enter Tryd.func33, Tryd.ntmps33
        go_wp2_with fail
        refine C.out.mono ?_
        rintro e w1 ⟨rfl, rfl⟩
        go_wp2_with fail
        refine I.out.mono ?_
        rintro e w1 ⟨rfl, hb⟩
        have HB := Lib.hid hb
        clear hb
        go_wp2_with fail
        go_quiet (fail)
        go_wp2_with fail
        go_ret2
        exact HO.out _ HB.out _ _ HF.out
end Go.Proofs.YtjohjmoggldfcaaDoor
