/-
  A variable of blobs: a block of four cells that reads as some; stores into it; what stays beside. Conditions: none.
  Blobs with one upload, or none: what the calls come to. Conditions: they may be.
  The laws' alive of blobs, by a contract. Conditions: the digest's tables and octet's errors lie where they were laid.
-/
import Derived.Test.YtodjhmphneoifaaGreatDoorZPrg4
import Derived.Test.YtodjhmphneoifaaGreatDoorZBlb2
import Derived.Test.YtodjhmphneoifaaGreatDoorZDig1
/-! A variable of blobs: a block of four cells that reads as some; stores into it; what stays beside. Conditions: none. -/
namespace Go.Proofs.YtodjhmphneoifaaGreatDoor
open Go.RowKit Go.WideShapes

/-- A block of four cells none of which is a string. -/
def NoStr (t : TypeId) (w : World) (g : Nat) : Prop := ∃ (a a' : Option Addr) (n c n' c' : Nat) (q l : Int), At4 t w g (.slice a n c) (.int .i64 q) (.slice a' n' c') (.int .i64 l)
theorem PairsAt.away4 {t : TypeId} {w w' : World} {v : Value} {l : List (Value × Value)} {g : Nat} (h : PairsAt w v l) (hs : ∀ p ∈ l, ∃ s, p.2 = .string s) (hg : NoStr t w g)
    (hk : ∀ k, k ≠ g → w'.heap[k]? = w.heap[k]?) : PairsAt w' v l := by
  rcases h with h | ⟨b, o, cap, rfl, h2, h3, h4, h5⟩
  · exact Or.inl h
  · have hb : b ≠ g := by
      rintro rfl
      obtain ⟨-, e⟩ := h5 0 h2
      obtain ⟨s, hs⟩ := hs _ (List.getElem_mem h2)
      rw [hs] at e
      obtain ⟨x1, x2, x3, x4, x5, x6, x7, x8, hg⟩ := hg
      unfold At4 at hg
      generalize o + 0 * 2 + 1 = i at e
      simp only [World.cell?, hg] at e
      match i, e with
      | 0, e => simp at e
      | 1, e => simp at e
      | 2, e => simp at e
      | 3, e => simp at e
      | i + 4, e => simp at e
    exact Or.inr ⟨b, o, cap, rfl, h2, h3, h4, fun i hi => by
      have e : ∀ x, w'.cell? ⟨b, x, none⟩ = w.cell? ⟨b, x, none⟩ := fun x => World.cell?_of_block (w := w) (hk b hb)
      rw [e, e]
      exact h5 i hi⟩
theorem BlbAt.away4 {t : TypeId} {w w' : World} {v : Value} {b : Blb} {g : Nat} (h : BlbAt w v b) (hg : NoStr t w g) (hk : ∀ k, k ≠ g → w'.heap[k]? = w.heap[k]?) : BlbAt w' v b := by
  obtain ⟨⟨o, u, e, h1, h2⟩, h3, h4, h5, h6⟩ := h
  refine ⟨⟨o, u, e, h1.away4 ?_ hg hk, h2.away4 ?_ hg hk⟩, h3, h4, h5, h6⟩
  · intro p hp; obtain ⟨x, -, rfl⟩ := List.mem_map.1 hp; exact ⟨_, rfl⟩
  · intro p hp; obtain ⟨x, -, rfl⟩ := List.mem_map.1 hp; exact ⟨_, rfl⟩
/-- The variable at block B holds the blobs b. -/
structure VarB (w : World) (B : Nat) (b : Blb) : Prop where
  is : ∃ a n c q a' n' c' l, At4 25 w B (.slice a n c) (.int .i64 q) (.slice a' n' c') (.int .i64 l) ∧ BlbAt w (.agg #[.slice a n c, .int .i64 q, .slice a' n' c', .int .i64 l]) b
theorem VarB.keep {w w' : World} {B : Nat} {b : Blb} (h : VarB w B b) (hb : Below w.heap.size w w') : VarB w' B b := by
  obtain ⟨a, n, c, q, a', n', c', l, h1, h2⟩ := h.is
  exact ⟨a, n, c, q, a', n', c', l, h1.keep hb, h2.keep hb⟩
theorem VarB.lt {w : World} {B : Nat} {b : Blb} (h : VarB w B b) : B < w.heap.size := by
  obtain ⟨a, n, c, q, a', n', c', l, h1, h2⟩ := h.is
  exact h1.lt
theorem VarB.noStr {w : World} {B : Nat} {b : Blb} (h : VarB w B b) : NoStr 25 w B := by
  obtain ⟨a, n, c, q, a', n', c', l, h1, -⟩ := h.is
  exact ⟨a, a', n, c, n', c', q, l, h1⟩
theorem VarB.new {w : World} {a a' : Option Addr} {n c n' c' : Nat} {q l : Int} {b : Blb} (h : BlbAt w (.agg #[.slice a n c, .int .i64 q, .slice a' n' c', .int .i64 l]) b) :
    VarB (w.alloc (.cells #[.slice a n c, .int .i64 q, .slice a' n' c', .int .i64 l] 25)) w.heap.size b :=
  ⟨a, n, c, q, a', n', c', l, At4.new _ _ _ _ _ _, h.keep (below_new _ _)⟩
theorem VarB.set {w : World} {B : Nat} {b b' : Blb} {a a' : Option Addr} {n c n' c' : Nat} {q l : Int} (h : VarB w B b') (hv : BlbAt w (.agg #[.slice a n c, .int .i64 q, .slice a' n' c', .int .i64 l]) b) :
    VarB (set4 w B (.slice a n c) (.int .i64 q) (.slice a' n' c') (.int .i64 l)) B b := by
  have hn := h.noStr
  obtain ⟨x1, x2, x3, x4, x5, x6, x7, x8, h1, -⟩ := h.is
  exact ⟨a, n, c, q, a', n', c', l, h1.set _ _ _ _, hv.away4 hn fun k hk => set4_block _ _ _ _ _ _ _ hk⟩
theorem VarB.other {w : World} {B B' : Nat} {b b' : Blb} {x0 x1 x2 x3 : Value} (h : VarB w B b) (h' : VarB w B' b') (hne : B ≠ B') : VarB (set4 w B' x0 x1 x2 x3) B b := by
  obtain ⟨a, n, c, q, a', n', c', l, h1, h2⟩ := h.is
  exact ⟨a, n, c, q, a', n', c', l, (set4_block w B' B x0 x1 x2 x3 hne).trans h1, h2.away4 h'.noStr fun k hk => set4_block _ _ _ _ _ _ _ hk⟩
theorem VarB.open {w : World} {B : Nat} {b : Blb} (h : VarB w B b) : ∃ a c a' c', At4 25 w B (.slice a b.objs.length c) (.int .i64 b.quota) (.slice a' b.ups.length c') (.int .i64 b.last) ∧ BlbAt w (.agg #[.slice a b.objs.length c, .int .i64 b.quota, .slice a' b.ups.length c', .int .i64 b.last]) b := by
  obtain ⟨a, n, c, q, a', n', c', l, h1, h2⟩ := h.is
  obtain ⟨a2, c2, a2', c2', e, -, -⟩ := h2.shape
  simp only [Value.agg.injEq, Array.mk.injEq, List.cons.injEq, Value.slice.injEq, Value.int.injEq, and_true, true_and] at e
  obtain ⟨⟨rfl, rfl, rfl⟩, rfl, ⟨rfl, rfl, rfl⟩, rfl⟩ := e
  exact ⟨a, c, a', c', h1, h2⟩
end Go.Proofs.YtodjhmphneoifaaGreatDoor
/-! Blobs with one upload, or none: what the calls come to. Conditions: they may be. -/
namespace Go.Proofs.YtodjhmphneoifaaGreatDoor

theorem new_right {q : Int} (h : 0 ≤ q ∧ q ≤ 1048576) : RightP ⟨[], q, [], 0⟩ :=
  ⟨Nat.zero_le _, Nat.zero_le _, fun o ho => (by cases ho), List.Pairwise.nil, List.Pairwise.nil, fun u hu => (by cases hu), ⟨by show (0 : Int) ≤ 0; decide, by show (0 : Int) ≤ _; decide⟩, h, by show ((0 : Nat) : Int) ≤ q; omega⟩
theorem new_ok {q : Int} (h : 0 ≤ q ∧ q ≤ 1048576) : newB q = (⟨[], q, [], 0⟩, 0) := by unfold newB; rw [if_pos h]
theorem one_begin {os : List (ByteArray × ByteArray)} {q l : Int} (h : RightP ⟨os, q, [], l⟩) (hl : l ≠ 1099511627776) :
    beginB ⟨os, q, [], l⟩ = (⟨os, q, [(l + 1, ⟨#[]⟩)], l + 1⟩, l + 1, 0) ∧ RightP ⟨os, q, [(l + 1, ⟨#[]⟩)], l + 1⟩ := by
  refine ⟨?_, h.begun (by show (0 : Nat) ≠ 16; decide) hl⟩
  unfold beginB
  rw [if_pos ((right_iff _).2 h), if_neg]
  · rfl
  · rintro (e | e)
    · cases e
    · exact hl e
theorem one_up (i : Int) (d : ByteArray) : upL [(i, d)] i = 0 := by
  unfold upL findL findF
  rw [if_pos (by simp)]; rfl
theorem one_place {os : List (ByteArray × ByteArray)} {q i l : Int} {d : ByteArray} (h : RightP ⟨os, q, [(i, d)], l⟩) : placeB ⟨os, q, [(i, d)], l⟩ i = (0, 0) := by
  unfold placeB
  rw [if_pos ((right_iff _).2 h)]
  show (if upL [(i, d)] i < 0 then ((0 : Int), (9 : Int)) else (upL [(i, d)] i, 0)) = _
  rw [one_up]; rfl
theorem one_push {os : List (ByteArray × ByteArray)} {q i l off : Int} {d s : ByteArray} (h : RightP ⟨os, q, [(i, d)], l⟩) (ho : off = (d.size : Nat)) (hs : d.size + s.size ≤ 4096) :
    pushB ⟨os, q, [(i, d)], l⟩ i off s = (⟨os, q, [(i, d ++ s)], l⟩, 0) ∧ RightP ⟨os, q, [(i, d ++ s)], l⟩ := by
  refine ⟨?_, ?_⟩
  · unfold pushB
    rw [one_place h, if_neg (by simp)]
    show (if off ≠ ((d.size : Nat) : Int) then (nilBlb, (11 : Int)) else if 4096 < d.size + s.size then (nilBlb, 2) else (setUp ⟨os, q, [(i, d)], l⟩ 0 (d ++ s), 0)) = _
    rw [if_neg (by simpa using ho), if_neg (by omega)]
    rfl
  · have := h.pushed (j := 0) (by show 0 < 1; decide) (s := d ++ s) (by rw [ByteArray.size_append]; exact hs)
    exact this
theorem one_wrong {os : List (ByteArray × ByteArray)} {q i l off : Int} {d s : ByteArray} (h : RightP ⟨os, q, [(i, d)], l⟩) (ho : off ≠ (d.size : Nat)) :
    pushB ⟨os, q, [(i, d)], l⟩ i off s = (nilBlb, 11) := by
  unfold pushB
  rw [one_place h, if_neg (by simp)]
  show (if off ≠ ((d.size : Nat) : Int) then (nilBlb, (11 : Int)) else if 4096 < d.size + s.size then (nilBlb, 2) else (setUp ⟨os, q, [(i, d)], l⟩ 0 (d ++ s), 0)) = _
  rw [if_pos ho]
theorem one_off {os : List (ByteArray × ByteArray)} {q i l : Int} {d : ByteArray} (h : RightP ⟨os, q, [(i, d)], l⟩) : offB ⟨os, q, [(i, d)], l⟩ i = (((d.size : Nat) : Int), 0) := by
  unfold offB
  rw [one_place h, if_neg (by simp)]
  rfl
theorem one_end {os : List (ByteArray × ByteArray)} {q i l : Int} {d dg : ByteArray} (h : RightP ⟨os, q, [(i, d)], l⟩) (hf : fitsD dg d = 0) :
    endB ⟨os, q, [(i, d)], l⟩ i dg = if 0 ≤ atL os dg then (⟨os, q, [], l⟩, 0) else if os.length = 64 then (nilBlb, 13) else if q < (usedL os : Int) + (d.size : Nat) then (nilBlb, 12) else (⟨os ++ [(dg, d)], q, [], l⟩, 0) := by
  unfold endB endL
  rw [if_pos ((right_iff _).2 h)]
  have hp : (parseD dg).2 = 0 := by
    rcases Decidable.em ((parseD dg).2 = 0) with h | h
    · exact h
    · exfalso; unfold fitsD at hf; rw [if_neg h] at hf; exact h hf
  show (if upL [(i, d)] i < 0 then (nilBlb, (9 : Int)) else if (parseD dg).2 ≠ 0 then (nilBlb, 6) else if fitsD dg ([(i, d)].getD (upL [(i, d)] i).toNat (0, ⟨#[]⟩)).2 ≠ 0 then (nilBlb, 10) else if 0 ≤ atL os dg then (withoutB ⟨os, q, [(i, d)], l⟩ (upL [(i, d)] i).toNat, 0)
    else if os.length = 64 then (nilBlb, 13) else if q < (usedL os : Int) + (([(i, d)].getD (upL [(i, d)] i).toNat (0, ⟨#[]⟩)).2.size : Nat) then (nilBlb, 12) else (withoutB ⟨os ++ [(dg, ([(i, d)].getD (upL [(i, d)] i).toNat (0, ⟨#[]⟩)).2)], q, [(i, d)], l⟩ (upL [(i, d)] i).toNat, 0)) = _
  rw [one_up, if_neg (by decide), if_neg (by simpa using hp)]
  show (if fitsD dg d ≠ 0 then (nilBlb, (10 : Int)) else if 0 ≤ atL os dg then (⟨os, q, [], l⟩, 0) else if os.length = 64 then (nilBlb, 13) else if q < (usedL os : Int) + (d.size : Nat) then (nilBlb, 12) else (⟨os ++ [(dg, d)], q, [], l⟩, 0)) = _
  rw [if_neg (by simpa using hf)]
theorem one_data {dg d : ByteArray} {q l : Int} {us : List (Int × ByteArray)} (h : RightP ⟨[(dg, d)], q, us, l⟩) : dataB ⟨[(dg, d)], q, us, l⟩ dg = (d, 0) := by
  unfold dataB
  rw [if_pos ((right_iff _).2 h)]
  have : atL [(dg, d)] dg = 0 := by
    unfold atL findL findF
    rw [if_pos (by simp)]; rfl
  show (if atL [(dg, d)] dg < 0 then (⟨#[]⟩, (9 : Int)) else (([(dg, d)].getD (atL [(dg, d)] dg).toNat (⟨#[]⟩, ⟨#[]⟩)).2, 0)) = _
  rw [this]; rfl
theorem no_data {dg : ByteArray} {q l : Int} {us : List (Int × ByteArray)} (h : RightP ⟨[], q, us, l⟩) : dataB ⟨[], q, us, l⟩ dg = (⟨#[]⟩, 9) := by
  unfold dataB
  rw [if_pos ((right_iff _).2 h)]
  rfl
theorem fits_of (x : ByteArray) : fitsD (ofB x) x = 0 := by rw [fitsD_of, if_pos rfl]
theorem one_done {q i l : Int} {d : ByteArray} (h : RightP ⟨[], q, [(i, d)], l⟩) (hq : (d.size : Int) ≤ q) :
    endB ⟨[], q, [(i, d)], l⟩ i (ofB d) = (⟨[(ofB d, d)], q, [], l⟩, 0) ∧ RightP ⟨[(ofB d, d)], q, [], l⟩ := by
  have h1 := one_end (dg := ofB d) h (fits_of d)
  have h2 : endB ⟨[], q, [(i, d)], l⟩ i (ofB d) = (⟨[(ofB d, d)], q, [], l⟩, 0) := by
    rw [h1]
    show (if (0 : Int) ≤ -1 then ((⟨[], q, [], l⟩ : Blb), (0 : Int)) else if (0 : Nat) = 64 then (nilBlb, 13) else if q < ((0 : Nat) : Int) + (d.size : Nat) then (nilBlb, 12) else (⟨[(ofB d, d)], q, [], l⟩, 0)) = _
    rw [if_neg (by decide), if_neg (by decide), if_neg (by omega)]
  refine ⟨h2, ?_⟩
  have := (end_stays (b := ⟨[], q, [(i, d)], l⟩) (id := i) (d := ofB d) (by rw [h2])).1
  rwa [h2] at this
end Go.Proofs.YtodjhmphneoifaaGreatDoor
/-! The laws' alive of blobs, by a contract. Conditions: the digest's tables and octet's errors lie where they were laid. -/
namespace Go.Proofs.YtodjhmphneoifaaGreatDoor
open Go.RowKit Go.WideShapes

abbrev abB : ByteArray := ⟨#[97, 98]⟩
abbrev cB : ByteArray := ⟨#[99]⟩
abbrev abcB : ByteArray := ⟨#[97, 98, 99]⟩
theorem ab_c : ((⟨#[]⟩ : ByteArray) ++ abB) ++ cB = abcB := by rfl
abbrev bA0 : Blb := ⟨[], 100, [], 0⟩
abbrev bA1 : Blb := ⟨[], 100, [(1, ⟨#[]⟩)], 1⟩
abbrev bA2 : Blb := ⟨[], 100, [(1, (⟨#[]⟩ : ByteArray) ++ abB)], 1⟩
abbrev bA3 : Blb := ⟨[], 100, [(1, abcB)], 1⟩
abbrev bA4 : Blb := ⟨[(ofB abcB, abcB)], 100, [], 1⟩
theorem aRight0 : RightP bA0 := new_right ⟨by decide, by decide⟩
theorem aNew : newB 100 = (bA0, 0) := new_ok ⟨by decide, by decide⟩
theorem aBegin : beginB bA0 = (bA1, 1, 0) := (one_begin aRight0 (by decide)).1
theorem aRight1 : RightP bA1 := (one_begin aRight0 (by decide)).2
theorem aPush1 : pushB bA1 1 0 abB = (bA2, 0) := (one_push aRight1 rfl (by decide)).1
theorem aRight2 : RightP bA2 := (one_push aRight1 (off := 0) rfl (by decide)).2
theorem aPush2 : pushB bA2 1 2 cB = (bA3, 0) := by
  have h := (one_push (off := 2) (s := cB) aRight2 rfl (by decide)).1
  rw [ab_c] at h; exact h
theorem aRight3 : RightP bA3 := by
  have h := (one_push (off := 2) (s := cB) aRight2 rfl (by decide)).2
  rw [ab_c] at h; exact h
theorem aEnd : endB bA3 1 (ofB abcB) = (bA4, 0) := (one_done aRight3 (by decide)).1
theorem aRight4 : RightP bA4 := (one_done aRight3 (by decide)).2
theorem aSize : sizeB bA4 (ofB abcB) = (3, 0) := by unfold sizeB; rw [one_data aRight4]; rfl
set_option maxRecDepth 100000 in
set_option maxHeartbeats 4000000 in
theorem alive_b (w : World) (aD aS aZ : Addr) (he : DEnv w aD aS aZ) : Calls Tryz.prog 14 #[] w fun e w' => e = .returned (.bool true) ∧ Below w.heap.size w w' := by
  have HE := Lib.hid he
  have HB := Lib.hid (Below.refl w.heap.size w)
  clear he
  go_enter Tryz.func14, Tryz.ntmps14
  have C0 := New_t 100 w
  rw [aNew] at C0
  have C := Lib.hid C0
  clear C0
  go_wp2_with fail
  refine C.out.mono ?_
  rintro e w1 ⟨v1, rfl, hv1, hb1⟩
  obtain ⟨ya, yn, yc, yq, ya', yn', yc', yl, rfl⟩ := hv1.four
  have HV1 := Lib.hid hv1
  replace HB := Lib.hid (Below.then HB.out hb1)
  clear C hb1 hv1
  obtain ⟨w2, hw2⟩ : ∃ x, w1.alloc (.cells #[.slice ya yn yc, .int .i64 yq, .slice ya' yn' yc', .int .i64 yl] 25) = x := ⟨_, rfl⟩
  obtain ⟨Bb, hBb⟩ : ∃ x, w1.heap.size = x := ⟨_, rfl⟩
  have Hb := Lib.hid (show VarB w2 Bb bA0 by rw [← hw2, ← hBb]; exact VarB.new HV1.out)
  have hb2 : Below w1.heap.size w1 w2 := by rw [← hw2]; exact below_new _ _
  have HLb := Lib.hid (show w.heap.size ≤ Bb by rw [← hBb]; exact HB.out.size)
  replace HB := Lib.hid (Below.then HB.out hb2)
  have HW2 := Lib.hid hw2
  clear hw2 hb2 HV1
  go_upto_region 2 with fail
  rw [HW2.out]
  clear hBb HW2
  obtain ⟨xa, xn, xc, xq, xa', xn', xc', xl, hA, hV⟩ := Hb.out.is
  have C0 := Begin_t _ bA0  w2 aD aS aZ hV (HE.out.keep HB.out)
  rw [aBegin] at C0
  have C := Lib.hid C0
  clear C0
  obtain ⟨a0, a1, a2, a3⟩ := hA.cells
  clear hA hV
  go_wp2_with fail
  refine C.out.mono ?_
  rintro e w3 ⟨v1, rfl, hv1, hb1⟩
  obtain ⟨ya, yn, yc, yq, ya', yn', yc', yl, rfl⟩ := hv1.four
  have HV1 := Lib.hid hv1
  replace HB := Lib.hid (Below.then HB.out hb1)
  replace Hb := Lib.hid (Hb.out.keep hb1)
  clear C hb1 a0 a1 a2 a3 hv1
  obtain ⟨za, zn, zc, zq, za', zn', zc', zl, hA, hV⟩ := Hb.out.is
  obtain ⟨a0, a1, a2, a3⟩ := hA.cells
  obtain ⟨f0, f1, f2, f3⟩ := hA.free
  clear hA hV
  go_upto_region 3 with fail
  obtain ⟨w4, hw2⟩ : ∃ x, (((w3.setCell ⟨Bb, 0, none⟩ (.slice ya yn yc)).setCell ⟨Bb, 1, none⟩ (.int .i64 yq)).setCell ⟨Bb, 2, none⟩ (.slice ya' yn' yc')).setCell ⟨Bb, 3, none⟩ (.int .i64 yl) = x := ⟨_, rfl⟩
  rw [hw2]
  replace Hb := Lib.hid (show VarB w4 Bb bA1 by rw [← hw2]; exact Hb.out.set HV1.out)
  replace HB := Lib.hid (show Below w.heap.size w w4 by rw [← hw2]; exact set4_below HB.out HLb.out (.slice ya yn yc) (.int .i64 yq) (.slice ya' yn' yc') (.int .i64 yl))
  clear hw2 a0 a1 a2 a3 f0 f1 f2 f3 HV1
  obtain ⟨xa, xn, xc, xq, xa', xn', xc', xl, hA, hV⟩ := Hb.out.is
  have C0 := Push_t _ bA1 1 0 abB w4 aD aS aZ hV (HE.out.keep HB.out) (by decide)
  rw [aPush1] at C0
  have C := Lib.hid C0
  clear C0
  obtain ⟨a0, a1, a2, a3⟩ := hA.cells
  clear hA hV
  go_wp2_with fail
  refine C.out.mono ?_
  rintro e w5 ⟨v1, rfl, hv1, hb1⟩
  obtain ⟨ya, yn, yc, yq, ya', yn', yc', yl, rfl⟩ := hv1.four
  have HV1 := Lib.hid hv1
  replace HB := Lib.hid (Below.then HB.out hb1)
  replace Hb := Lib.hid (Hb.out.keep hb1)
  clear C hb1 a0 a1 a2 a3 hv1
  obtain ⟨za, zn, zc, zq, za', zn', zc', zl, hA, hV⟩ := Hb.out.is
  obtain ⟨a0, a1, a2, a3⟩ := hA.cells
  obtain ⟨f0, f1, f2, f3⟩ := hA.free
  clear hA hV
  go_upto_region 4 with fail
  obtain ⟨w6, hw2⟩ : ∃ x, (((w5.setCell ⟨Bb, 0, none⟩ (.slice ya yn yc)).setCell ⟨Bb, 1, none⟩ (.int .i64 yq)).setCell ⟨Bb, 2, none⟩ (.slice ya' yn' yc')).setCell ⟨Bb, 3, none⟩ (.int .i64 yl) = x := ⟨_, rfl⟩
  rw [hw2]
  replace Hb := Lib.hid (show VarB w6 Bb bA2 by rw [← hw2]; exact Hb.out.set HV1.out)
  replace HB := Lib.hid (show Below w.heap.size w w6 by rw [← hw2]; exact set4_below HB.out HLb.out (.slice ya yn yc) (.int .i64 yq) (.slice ya' yn' yc') (.int .i64 yl))
  clear hw2 a0 a1 a2 a3 f0 f1 f2 f3 HV1
  obtain ⟨xa, xn, xc, xq, xa', xn', xc', xl, hA, hV⟩ := Hb.out.is
  have C0 := Push_t _ bA2 1 2 cB w6 aD aS aZ hV (HE.out.keep HB.out) (by decide)
  rw [aPush2] at C0
  have C := Lib.hid C0
  clear C0
  obtain ⟨a0, a1, a2, a3⟩ := hA.cells
  clear hA hV
  go_wp2_with fail
  refine C.out.mono ?_
  rintro e w7 ⟨v1, rfl, hv1, hb1⟩
  obtain ⟨ya, yn, yc, yq, ya', yn', yc', yl, rfl⟩ := hv1.four
  have HV1 := Lib.hid hv1
  replace HB := Lib.hid (Below.then HB.out hb1)
  replace Hb := Lib.hid (Hb.out.keep hb1)
  clear C hb1 a0 a1 a2 a3 hv1
  obtain ⟨za, zn, zc, zq, za', zn', zc', zl, hA, hV⟩ := Hb.out.is
  obtain ⟨a0, a1, a2, a3⟩ := hA.cells
  obtain ⟨f0, f1, f2, f3⟩ := hA.free
  clear hA hV
  go_upto_region 5 with fail
  obtain ⟨w8, hw2⟩ : ∃ x, (((w7.setCell ⟨Bb, 0, none⟩ (.slice ya yn yc)).setCell ⟨Bb, 1, none⟩ (.int .i64 yq)).setCell ⟨Bb, 2, none⟩ (.slice ya' yn' yc')).setCell ⟨Bb, 3, none⟩ (.int .i64 yl) = x := ⟨_, rfl⟩
  rw [hw2]
  replace Hb := Lib.hid (show VarB w8 Bb bA3 by rw [← hw2]; exact Hb.out.set HV1.out)
  replace HB := Lib.hid (show Below w.heap.size w w8 by rw [← hw2]; exact set4_below HB.out HLb.out (.slice ya yn yc) (.int .i64 yq) (.slice ya' yn' yc') (.int .i64 yl))
  clear hw2 a0 a1 a2 a3 f0 f1 f2 f3 HV1
  obtain ⟨xa, xn, xc, xq, xa', xn', xc', xl, hA, hV⟩ := Hb.out.is
  have HA := Lib.hid hA
  have HV := Lib.hid hV
  obtain ⟨a0, a1, a2, a3⟩ := hA.cells
  clear hA hV
  have OF := Lib.hid (fun w' (hb : Below w8.heap.size w8 w') => of_any abcB w' (HE.out.keep (Below.then HB.out hb)).tabs (by decide))
  have EN := Lib.hid (show ∀ w', Below w8.heap.size w8 w' → Calls Tryz.prog 19 #[.agg #[.slice xa xn xc, .int .i64 xq, .slice xa' xn' xc', .int .i64 xl], .int .i64 1, .string (ofB abcB)] w' (BlbOut (bA4, 0) w') from fun w' hb => by have h := End_t _ bA3 1 (ofB abcB) w' aD aS aZ (HV.out.keep hb) (HE.out.keep (Below.then HB.out hb)) (by rw [ofB_size]; decide); rwa [aEnd] at h)
  have hbA := Below.refl w8.heap.size w8
  go_region_law (first
    | (go_simp; go_at_call 32; refine (OF.out _ (by first | exact hbA | exact hbA.drew)).mono ?_; rintro e wO ⟨rfl, hbO⟩; have hbA : Below w8.heap.size w8 wO := (by first | exact Below.then hbA hbO | exact Below.then hbA.drew hbO); obtain ⟨a0, a1, a2, a3⟩ := (HA.out.keep hbA).cells)
    | (go_simp; go_at_call 19; refine (EN.out _ (by first | exact hbA | exact hbA.drew)).mono ?_; rintro e wE ⟨v1, rfl, hv1, hbE⟩; obtain ⟨ya, yn, yc, yq, ya', yn', yc', yl, rfl⟩ := hv1.four; have hbA : Below w8.heap.size w8 wE := (by first | exact Below.then hbA hbE | exact Below.then hbA.drew hbE); obtain ⟨a0, a1, a2, a3⟩ := (HA.out.keep hbA).cells; obtain ⟨f0, f1, f2, f3⟩ := (HA.out.keep hbA).free))
  all_goals
    have HV1 := Lib.hid hv1
    replace Hb := Lib.hid (Hb.out.keep hbA)
    replace HB := Lib.hid (Below.then HB.out hbA)
    clear OF EN HA HV hv1 hbE hbA a0 a1 a2 a3 f0 f1 f2 f3
    obtain ⟨za, zn, zc, zq, za', zn', zc', zl, hA, hV⟩ := Hb.out.is
    obtain ⟨a0, a1, a2, a3⟩ := hA.cells
    obtain ⟨f0, f1, f2, f3⟩ := hA.free
    clear hA hV
    go_upto_region 6 with fail
    obtain ⟨w21, hw2⟩ : ∃ x, (((wE.setCell ⟨Bb, 0, none⟩ (.slice ya yn yc)).setCell ⟨Bb, 1, none⟩ (.int .i64 yq)).setCell ⟨Bb, 2, none⟩ (.slice ya' yn' yc')).setCell ⟨Bb, 3, none⟩ (.int .i64 yl) = x := ⟨_, rfl⟩
    rw [hw2]
    replace Hb := Lib.hid (show VarB w21 Bb bA4 by rw [← hw2]; exact Hb.out.set HV1.out)
    replace HB := Lib.hid (show Below w.heap.size w w21 by rw [← hw2]; exact set4_below HB.out HLb.out (.slice ya yn yc) (.int .i64 yq) (.slice ya' yn' yc') (.int .i64 yl))
    clear hw2 a0 a1 a2 a3 f0 f1 f2 f3 HV1
    obtain ⟨xa, xn, xc, xq, xa', xn', xc', xl, hA, hV⟩ := Hb.out.is
    have HA := Lib.hid hA
    have HV := Lib.hid hV
    obtain ⟨a0, a1, a2, a3⟩ := hA.cells
    clear hA hV
    have OF := Lib.hid (fun w' (hb : Below w21.heap.size w21 w') => of_any abcB w' (HE.out.keep (Below.then HB.out hb)).tabs (by decide))
    have SZ := Lib.hid (show ∀ w', Below w21.heap.size w21 w' → Calls Tryz.prog 8 #[.agg #[.slice xa xn xc, .int .i64 xq, .slice xa' xn' xc', .int .i64 xl], .string (ofB abcB)] w' (fun e w'' => e = .returned (.tuple #[.int .i64 3, .int .i64 0]) ∧ Below w'.heap.size w' w'') from fun w' hb => by have h := Size_t _ bA4 (ofB abcB) w' aD aS aZ (HV.out.keep hb) (HE.out.keep (Below.then HB.out hb)); rwa [aSize] at h)
    have hbA := Below.refl w21.heap.size w21
    go_region_held3 (fun w' => w'.cell? ⟨Bb, 0, none⟩ = some (.slice xa xn xc) ∧ w'.cell? ⟨Bb, 1, none⟩ = some (.int .i64 xq) ∧ w'.cell? ⟨Bb, 2, none⟩ = some (.slice xa' xn' xc') ∧ w'.cell? ⟨Bb, 3, none⟩ = some (.int .i64 xl)) (exact ⟨a0, a1, a2, a3⟩)
      (first
        | (go_simp; go_at_call 32; refine (OF.out _ (by first | exact hbA | exact hbA.drew)).mono ?_; rintro e wO ⟨rfl, hbO⟩; have hbA : Below w21.heap.size w21 wO := (by first | exact Below.then hbA hbO | exact Below.then hbA.drew hbO); obtain ⟨a0, a1, a2, a3⟩ := (HA.out.keep hbA).cells)
        | (go_simp; go_at_call 8; refine (SZ.out _ (by first | exact hbA | exact hbA.drew)).mono ?_; rintro e wS ⟨rfl, hbS⟩; have hbA : Below w21.heap.size w21 wS := (by first | exact Below.then hbA hbS | exact Below.then hbA.drew hbS); obtain ⟨a0, a1, a2, a3⟩ := (HA.out.keep hbA).cells))
    all_goals
      replace HB := Lib.hid (Below.then HB.out hbA)
      have OF2 := Lib.hid (of_any abcB wS (HE.out.keep HB.out).tabs (by decide))
      have hsz : (ofB abcB).size = 71 := ofB_size _
      go_wp2_with fail
      refine OF2.out.mono ?_
      rintro e wZ ⟨rfl, hbZ⟩
      replace HB := Lib.hid (Below.then HB.out hbZ)
      go_wp2_with fail
      go_ret
      exact ⟨rfl, HB.out⟩
end Go.Proofs.YtodjhmphneoifaaGreatDoor
