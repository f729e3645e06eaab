/-
  The document's own Left of a disk, by a contract: a sector behind a crash. Conditions: the disk may be.
-/
import Derived.Test.YtcjngaapiomkbaaRefDskW
namespace Go.Proofs.Ytcjngaapiomkbaa
open Go.RowKit Go.WideShapes

/-- The value v reads as the numbers fs. -/
def IntsAt (w : World) (v : Value) (fs : List Int) : Prop :=
  (fs = [] ∧ (v = .slice none 0 0 ∨ ∃ a cap, v = .slice (some a) 0 cap ∧ cap ≤ maxLen)) ∨
  ∃ b o cap, v = .slice (some ⟨b, o, none⟩) fs.length cap ∧ 0 < fs.length ∧ fs.length ≤ cap ∧ cap ≤ maxLen ∧ ∀ i (h : i < fs.length), w.cell? ⟨b, o + i, none⟩ = some (.int .i64 fs[i])
theorem IntsAt.keep {w w' : World} {v : Value} {fs : List Int} (h : IntsAt w v fs) (hb : Below w.heap.size w w') : IntsAt w' v fs := by
  rcases h with h | ⟨b, o, cap, h1, h2, h3, h4, h5⟩
  · exact Or.inl h
  · exact Or.inr ⟨b, o, cap, h1, h2, h3, h4, fun i hi => (hb.cell (World.block_lt_of_cell? _ _ (h5 i hi))).trans (h5 i hi)⟩
theorem IntsAt.shape {w : World} {v : Value} {l : List Int} (h : IntsAt w v l) : ∃ a cap, v = .slice a l.length cap ∧ cap ≤ maxLen ∧ l.length ≤ maxLen := by
  rcases h with ⟨rfl, rfl | ⟨a, cap, rfl, hc⟩⟩ | ⟨b, o, cap, rfl, h2, h3, h4, -⟩
  · exact ⟨none, 0, rfl, by decide, by decide⟩
  · exact ⟨_, _, rfl, hc, by decide⟩
  · exact ⟨_, _, rfl, h4, by omega⟩
theorem IntsAt.at {w : World} {a : Option Addr} {n cap : Nat} {l : List Int} (h : IntsAt w (.slice a n cap) l) (i : Nat) (hi : i < l.length) : ∃ b o, a = some ⟨b, o, none⟩ ∧ w.cell? ⟨b, o + i, none⟩ = some (.int .i64 l[i]) := by
  rcases h with ⟨h0, -⟩ | ⟨b, o, c, e, -, -, -, hc⟩
  · rw [h0] at hi; simp at hi
  · simp only [Value.slice.injEq] at e
    exact ⟨b, o, e.1, hc i hi⟩

/-- A slice of numbers that was read. -/
theorem ints_read {H : Type} {enc : TypeId × Value → H} {W : World} {fuel : Nat} {v : Value} {x : DataW H × List MemPlace}
    (h : DataW.trod enc Try.prog W 0 (fun _ => true) true fuel 26 [v] = some x) : ∃ fs, IntsAt W v fs ∧ ∀ x ∈ fs, -9223372036854775808 ≤ x ∧ x ≤ 9223372036854775807 := by
  rcases slice_cells Try.underlying26 (show Try.prog.cellsOf 3 = 1 by kernel_rfl) (by decide) h with h | ⟨b, o, len, cap, rfl, h1, h2, h3, h4⟩
  · exact ⟨[], Or.inl ⟨rfl, h⟩, by simp⟩
  · obtain ⟨l, hl, hp⟩ := exists_list (P := fun i (x : Int) => W.cell? ⟨b, o + i, none⟩ = some (.int .i64 x) ∧ -9223372036854775808 ≤ x ∧ x ≤ 9223372036854775807) len fun i hi => by
      obtain ⟨cs, n', y, -, hcl, hca, hr⟩ := h4 i hi
      obtain ⟨c0, rfl⟩ : ∃ c0, cs = [c0] := by
        match cs, hcl with
        | [a], _ => exact ⟨a, rfl⟩
      obtain ⟨num, e0, -, b1⟩ := DataW.trod_int Try.underlying3 hr
      obtain rfl : c0 = .int .i64 num := by simpa using e0
      have := hca 0 (by decide)
      simp only [Nat.mul_one, Nat.add_zero] at this
      exact ⟨num, by rw [this]; rfl, bounds_i64 b1⟩
    refine ⟨l, Or.inr ⟨b, o, cap, by rw [hl], by omega, by omega, h3, fun i hi => (hp i hi).1⟩, fun x hx => ?_⟩
    obtain ⟨i, hi, rfl⟩ := List.getElem_of_mem hx
    exact (hp i hi).2
set_option maxRecDepth 100000 in
/-- Numbers that came in. -/
theorem open_ints {H : Type} {enc : TypeId × Value → H} {W : World} {b0 : Nat} {v : Value} {d : DataW H} {p : List MemPlace}
    (hval : Value.okWide Try.prog W .any b0 26 v) (hj : DataW.Trod enc Try.prog W 0 (fun _ => true) true 26 v d p) : ∃ fs, IntsAt W v fs ∧ ∀ x ∈ fs, -9223372036854775808 ≤ x ∧ x ≤ 9223372036854775807 := by
  obtain ⟨a0, len, cap, rfl⟩ := okWide_slice Try.underlying26 hval
  obtain ⟨fuel, hf⟩ := hj
  exact ints_read hf

/-- What one write makes of a sector behind a crash. -/
def stepL (k : Nat) (s : ByteArray) (w : Int × ByteArray) (f : Int) : ByteArray := if w.1 = (k : Int) then (if f = 1 then w.2 else if f = 2 then tornB s w.2 else s) else s
theorem leftL_snoc (k : Nat) (w : Int × ByteArray) : ∀ (l : List (Int × ByteArray)) (s : ByteArray) (fs : List Int), leftL k s (l ++ [w]) fs = if h : l.length < fs.length then stepL k (leftL k s l fs) w fs[l.length] else leftL k s l fs
  | [], s, [] => rfl
  | [], s, f :: fs => rfl
  | x :: l, s, [] => rfl
  | x :: l, s, f :: fs => by
    show leftL k _ (l ++ [w]) fs = _
    rw [leftL_snoc k w l _ fs]
    by_cases h : l.length < fs.length
    · rw [dif_pos h, dif_pos (by simpa using h)]; rfl
    · rw [dif_neg h, dif_neg (by simpa using h)]; rfl
theorem torn_size {s x : ByteArray} (h : s.size = 128) (hx : x.size = 128) : (tornB s x).size = 128 := by
  simp [tornB, ByteArray.size_append, ByteArray.size_extract, h, hx]
theorem left_size (k : Nat) : ∀ (l : List (Int × ByteArray)) (s : ByteArray) (fs : List Int), s.size = 128 → (∀ w ∈ l, w.2.size = 128) → (leftL k s l fs).size = 128
  | [], s, fs, h, _ => h
  | _ :: _, s, [], h, _ => h
  | w :: l, s, f :: fs, h, hw => by
    refine left_size k l _ fs ?_ fun x hx => hw x (List.mem_cons_of_mem _ hx)
    have := hw w (List.mem_cons_self ..)
    split
    · split
      · exact this
      · split
        · exact torn_size h this
        · exact h
    · exact h
theorem left_most (k : Nat) (s : ByteArray) (l : List (Int × ByteArray)) (fs : List Int) : ∀ j, fs.length ≤ j → leftL k s (l.take j) fs = leftL k s l fs := by
  induction l generalizing s fs with
  | nil => intro j _; simp
  | cons w l ih =>
    intro j hj
    cases fs with
    | nil => cases j <;> rfl
    | cons f fs =>
      obtain ⟨j, rfl⟩ : ∃ i, j = i + 1 := ⟨j - 1, by simp at hj; omega⟩
      exact ih _ fs j (by simpa using hj)

set_option maxRecDepth 100000 in
set_option maxHeartbeats 4000000 in
theorem refLeft_t (v fv : Value) (d : Dsk) (fs : List Int) (at' : Nat) (w : World) (h : DskAt w v d) (hf : IntsAt w fv fs) (ha : at' < d.secs.length) (hr : (∀ s ∈ d.secs, s.size = 128) ∧ ∀ x ∈ d.dirty, x.2.size = 128) :
    Calls Try.prog 19 #[v, .int .i64 at', fv] w fun e w' => e = .returned (.string (d.left at' fs)) ∧ Below w.heap.size w w' := by
  obtain ⟨ss, ls⟩ := d
  obtain ⟨⟨sv, dv, rfl, hs, hd⟩, hz, hy⟩ := h
  simp only at hs hd ha hz hy hr
  obtain ⟨sb, so, sc, rfl, s1, s2, s3, s4⟩ := hs.rows (by omega)
  obtain ⟨da, dc, rfl, -, hl⟩ := hd.shape
  obtain ⟨fa, fc, rfl, -, hfl⟩ := hf.shape
  unfold maxLen at hl hfl
  rw [List.length_map] at hl hd ⊢
  obtain ⟨W, hW⟩ : ∃ W, w.alloc (.cells #[.slice (some ⟨sb, so, none⟩) ss.length sc, .slice da ls.length dc] 25) = W := ⟨_, rfl⟩
  have hb0 : Below w.heap.size w W := by rw [← hW]; exact below_new _ _
  have hA : At2 25 W w.heap.size (.slice (some ⟨sb, so, none⟩) ss.length sc) (.slice da ls.length dc) := by rw [← hW]; exact At2.new _ _ _ _
  have hsl : ss.length ≤ 9223372036854775807 := by unfold maxLen at s3; omega
  obtain ⟨s0, hs0⟩ : ∃ s, ss[at'] = s := ⟨_, rfl⟩
  have hg : ss.getD at' ⟨#[]⟩ = s0 := by rw [← hs0]; simp [List.getD, ha]
  have hz0 : s0.size = 128 := hr.1 _ (by rw [← hs0]; exact List.getElem_mem ha)
  have HE := Lib.hid (show (Dsk.mk ss ls).left at' fs = leftL at' s0 ls fs by rw [Dsk.left, hg])
  have HZ0 := Lib.hid hz0
  have HZL := Lib.hid hr.2
  have c0 : W.cell? ⟨sb, so + at', none⟩ = some (.string s0) := by
    have := s4 at' ha
    rw [hs0] at this
    exact (hb0.cell (World.block_lt_of_cell? _ _ this)).trans this
  obtain ⟨a0, a1⟩ := hA.cells
  have HB0 := Lib.hid hb0
  have HA := Lib.hid hA
  have HW := Lib.hid hW
  have HD := Lib.hid hd
  have HF := Lib.hid hf
  clear s4 hb0 hA hW hs0 hg hs hd hz hy hr hf hz0
  go_enter Try.func19, Try.ntmps19
  go_upto_region 1 with fail
  rw [HW.out]
  go_wp2_with fail
  go_loopw [7, 18] (fun sv iv wr => ∃ k : Nat, k ≤ ls.length ∧ iv = .int .i64 k ∧ sv = .string (leftL at' s0 (ls.take k) fs) ∧ Below W.heap.size W wr) (fun _ i _ => ls.length - (intOf i).toNat)
  case atStart => exact ⟨0, Nat.zero_le _, rfl, rfl, Below.refl _ _⟩
  case round =>
    obtain ⟨k, hk, rfl, rfl, hb⟩ := hrel
    have hzk : (leftL at' s0 (ls.take k) fs).size = 128 := left_size at' _ _ fs HZ0.out fun x hx => HZL.out x (List.mem_of_mem_take hx)
    obtain ⟨sk, hsk⟩ : ∃ s, leftL at' s0 (ls.take k) fs = s := ⟨_, rfl⟩
    rw [hsk] at hzk ⊢
    have HK := Lib.hid hsk
    have HB := Lib.hid hb
    have HWR := Lib.hid (Below.then HB0.out hb)
    obtain ⟨r0, r1⟩ := (HA.out.keep hb).cells
    clear hb hsk
    by_cases hlt : k < ls.length
    · obtain ⟨b, o, rfl, e0, e1⟩ := HD.out.at k (by rw [List.length_map]; exact hlt)
      rw [write_getElem ls k hlt] at e0 e1
      have hts := Lib.hid (List.take_succ_eq_append_getElem hlt)
      have hxz := HZL.out _ (List.getElem_mem hlt)
      obtain ⟨⟨ax, x⟩, hx⟩ : ∃ x, ls[k] = x := ⟨_, rfl⟩
      rw [hx] at e0 e1 hts hxz
      have kc : ∀ {p : Addr} {v : Value}, w.cell? p = some v → wr.cell? p = some v := fun h => HWR.out.cell (World.block_lt_of_cell? _ _ h) |>.trans h
      have v0 := kc e0
      have v1 := kc e1
      have hkl : (ls.take k).length = k := by rw [List.length_take]; omega
      have HN := Lib.hid (show leftL at' s0 (ls.take (k + 1)) fs = if h : k < fs.length then stepL at' sk (ax, x) fs[k] else sk by rw [hts.out, leftL_snoc, HK.out]; simp only [hkl])
      obtain ⟨W1, hW1⟩ : ∃ W1, wr.alloc (.cells #[.int .i64 ax, .string x] 45) = W1 := ⟨_, rfl⟩
      have hb1 : Below wr.heap.size wr W1 := by rw [← hW1]; exact below_new _ _
      have hA1 : At2 45 W1 wr.heap.size (.int .i64 ax) (.string x) := by rw [← hW1]; exact At2.new _ _ _ _
      have HB1 := Lib.hid (Below.then HB.out hb1)
      have HB2 := Lib.hid (Below.then HWR.out hb1)
      have HW1 := Lib.hid hW1
      obtain ⟨x0, x1⟩ := hA1.cells
      clear hA1 hb1 hW1 e0 e1 kc hx hkl
      go_upto_region 5 with fail
      rw [HW1.out]
      by_cases he : ax = (at' : Int)
      rotate_left
      · have HN' := Lib.hid (show leftL at' s0 (ls.take (k + 1)) fs = sk by rw [HN.out]; split <;> simp [stepL, he])
        have q : (ax != (at' : Int)) = true := bne_iff_ne.2 he
        clear he
        go_wp2_with fail
        go_roundw
        case rel => exact ⟨k + 1, by omega, by go_num, by rw [HN'.out], HB1.out⟩
        case measure => simp [intOf]; omega
      have q : (ax != (at' : Int)) = false := by rw [he, bne_self_eq_false]
      by_cases hfk : k < fs.length
      rotate_left
      · have HN' := Lib.hid (show leftL at' s0 (ls.take (k + 1)) fs = sk by rw [HN.out, dif_neg hfk])
        clear he
        go_wp2_with fail
        go_roundw
        case rel => exact ⟨k + 1, by omega, by go_num, by rw [HN'.out], HB1.out⟩
        case measure => simp [intOf]; omega
      obtain ⟨fb, fo, rfl, f0⟩ := HF.out.at k hfk
      have y0 := (HB2.out.cell (World.block_lt_of_cell? _ _ f0)).trans f0
      have HN1 := Lib.hid (show leftL at' s0 (ls.take (k + 1)) fs = stepL at' sk (ax, x) fs[k] by rw [HN.out, dif_pos hfk])
      obtain ⟨f, hff⟩ : ∃ f, fs[k] = f := ⟨_, rfl⟩
      rw [hff] at y0 HN1
      clear f0 hff
      by_cases hf1 : f = 1
      · have HN' := Lib.hid (show leftL at' s0 (ls.take (k + 1)) fs = x by rw [HN1.out]; simp [stepL, he, hf1])
        subst hf1
        clear he
        go_wp2_with fail
        go_roundw
        case rel => exact ⟨k + 1, by omega, by go_num, by rw [HN'.out], HB1.out⟩
        case measure => simp [intOf]; omega
      have q1 : (f == 1) = false := beq_eq_false_iff_ne.2 hf1
      by_cases hf2 : f = 2
      rotate_left
      · have HN' := Lib.hid (show leftL at' s0 (ls.take (k + 1)) fs = sk by rw [HN1.out]; simp [stepL, he, hf1, hf2])
        have q2 : (f == 2) = false := beq_eq_false_iff_ne.2 hf2
        clear he hf1 hf2
        go_wp2_with fail
        go_roundw
        case rel => exact ⟨k + 1, by omega, by go_num, by rw [HN'.out], HB1.out⟩
        case measure => simp [intOf]; omega
      have HN' := Lib.hid (show leftL at' s0 (ls.take (k + 1)) fs = tornB sk x by rw [HN1.out]; simp [stepL, he, hf2])
      subst hf2
      clear he hf1
      go_upto_region 9 with fail
      have HX := Lib.hid (show tornB sk x = x.extract 0 64 ++ sk.extract 64 128 by rw [tornB, hzk])
      go_quiet (fail)
      go_wp2_with fail
      go_roundw
      case rel => exact ⟨k + 1, by omega, by go_num, by rw [HN'.out, HX.out], below_drewN HB1.out _⟩
      case measure => simp [intOf]; omega
    · have HO := Lib.hid (show leftL at' s0 ls fs = sk by
        have := HK.out
        rwa [List.take_of_length_le (by omega)] at this)
      go_wp2_with fail
      go_ret
      exact ⟨by rw [HE.out, HO.out]; rfl, HWR.out⟩
end Go.Proofs.Ytcjngaapiomkbaa
