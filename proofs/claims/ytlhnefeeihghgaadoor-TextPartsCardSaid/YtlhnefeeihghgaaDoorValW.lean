/-
  The program's writer: a value, by induction on its depth. Conditions: the package-level variables as TEnv says.
-/
import Derived.Test.YtlhnefeeihghgaaDoorItems
namespace Go.Proofs.YtlhnefeeihghgaaDoor
open Go.RowKit

theorem textL_ne (T : Val) (d : Nat) (h : mayV d T = true) : textL T ≠ [] := by
  cases d with
  | zero => rw [mayV] at h; cases h
  | succ d =>
    cases T with
    | mk k n s items names =>
      rw [mayV, Bool.and_eq_true, oneV_iff] at h
      obtain ⟨c, t, e, -, -⟩ := textL_head k n s items names h.1
      rw [e]; simp
theorem IsVal.within {w : World} : ∀ {v : Value} {T : Val}, IsVal w v T → ValIn (fun b => b < w.heap.size) w v T := by
  intro v T h
  induction h with
  | mk kind n s iv nv items names ev hk hn hs hN hz hI hsub ih =>
    refine .mk kind n s iv nv items names ev hk hn hs hN (fun h0 => ?_) hz hI (fun h0 => ?_) ih
    · rcases hN with ⟨rfl, _⟩ | ⟨b, o, cap, rfl, h1, h2, h3, h4⟩
      · simp at h0
      · exact ⟨b, o, _, cap, rfl, World.block_lt_of_cell? _ _ (h4 0 h1)⟩
    · rcases hI with ⟨h1, _⟩ | ⟨b, o, cap, rfl, h1, h2, h3, h4⟩
      · omega
      · obtain ⟨c0, c1, c2, c3, c4, e, k0, _⟩ := h4 0 h1
        exact ⟨b, o, _, cap, rfl, World.block_lt_of_cell? _ _ k0⟩

set_option maxRecDepth 100000 in
set_option maxHeartbeats 8000000 in
theorem value_w (B b : Nat) (hNG : 8 ≤ B) : ∀ (d : Nat) (T : Val), mayV d T = true → WritesOf B b T := by
  intro d
  induction d with
  | zero => intro T h; rw [mayV] at h; cases h
  | succ d ih =>
    intro T hm v w l hv hw hl he hB
    cases hv with
    | mk k n s iv nv items names ev hk hn hs hN hNS hz hI hIS hsub =>
    rw [mayV, Bool.and_eq_true, oneV_iff] at hm
    obtain ⟨h1, h2⟩ := hm
    have hm2 : ∀ x ∈ items, mayV d x = true := List.all_eq_true.1 h2
    clear h2
    obtain ⟨na, nc, rfl, hnc⟩ := hN.shape
    obtain ⟨ia, ic, rfl, hic, hil⟩ := hI.shape
    obtain ⟨nn, hnn⟩ : ∃ x, names.length = x := ⟨_, rfl⟩
    obtain ⟨li, hli⟩ : ∃ x, items.length = x := ⟨_, rfl⟩
    rw [hnn] at hN hNS ⊢
    rw [hli] at hI hil hIS ⊢
    have hS0 := (WrSt.start hw hB).alloc (.cells #[.int .i64 k, .int .i64 n, .string s, .slice ia li ic, .slice na nn nc] 25)
    have hV0 := At5.new w (.int .i64 k) (.int .i64 n) (.string s) (.slice ia li ic) (.slice na nn nc)
    have hbl := hw.lt
    obtain ⟨W0, hW0⟩ : ∃ W0, w.alloc (.cells #[.int .i64 k, .int .i64 n, .string s, .slice ia li ic, .slice na nn nc] 25) = W0 := ⟨_, rfl⟩
    rw [hW0] at hS0 hV0
    have he0 : TEnv W0 := he.low hS0.below hNG
    have HW0 := Lib.hid hW0
    have S0 := Lib.hid hS0
    have HL := Lib.hid hl
    have HV0 := Lib.hid hV0
    have hbW : Below w.heap.size w W0 := by rw [← hW0]; exact below_new _ _
    have HWS := Lib.hid (WrSt.start hS0.wr hS0.low)
    have CP := Lib.hid (fun l w hw hl s hs hB => put_t B b l s w hw hl hs hB)
    have hkk : k = 1 ∨ k = 2 ∨ k = 3 ∨ k = 4 := by have := h1.kind; omega
    rcases hkk with rfl | rfl | rfl | rfl
    · have HO := Lib.hid (show textL (.mk 1 n s items names) = Lib.itoa n by rw [textL_eq, if_pos rfl])
      have C := Lib.hid (itoa_any n hn.1 hn.2 W0 he0)
      have hY := Lib.itoa_length_le n hn.1 hn.2
      obtain ⟨Y, hYe⟩ : ∃ Y : ByteArray, (⟨(Lib.itoa n).toArray⟩ : ByteArray) = Y := ⟨_, rfl⟩
      have HYL := Lib.hid (show Y.data.toList = Lib.itoa n by rw [← hYe])
      have HYZ := Lib.hid (show Y.size ≤ 4096 by rw [Lib.size_eq, HYL.out]; omega)
      rw [hYe] at C
      clear h1 hm2 hN hNS hI hIS hsub hz hk hn hs ih hw hB hl he he0 hV0 hS0 hbl hbW hW0 hY hYe hli hnn hnc hic hil
      rw [HO.out]
      go_enter Tryd.func25, Tryd.ntmps25
      go_wp2_with fail
      rw [HW0.out]
      refine C.out.mono ?_
      rintro e w1 ⟨rfl, hb⟩
      have S1 := Lib.hid (S0.out.next hb)
      clear hb
      go_wp2_with fail
      refine (CP.out _ _ S1.out.wr HL.out Y HYZ.out S1.out.low).mono ?_
      intro e w2 p
      rw [HYL.out] at p
      by_cases h2 : (l ++ Lib.itoa n).length ≤ 4096
      · obtain ⟨rfl, s2⟩ := S1.out.call p h2
        have P := Lib.hid (s2.ends h2)
        clear p s2 h2
        go_wp2_with fail
        go_end0
        exact P.out
      · obtain ⟨h0, s3⟩ := S1.out.stops p h2 (Nat.le_refl _)
        obtain rfl : e = .panicked [{ v := .iface 26 (.int .i64 2), recovered := false }] := h0
        have P3 := Lib.hid s3
        clear p s3 h2
        go_wp2_with fail
        exact ⟨rfl, P3.out⟩
    · have HO := Lib.hid (show l ++ textL (.mk 2 n s items names) = l ++ 34 :: s.data.toList ++ [34] by
        rw [textL_eq, if_neg (by decide), if_pos rfl]; simp)
      have C := Lib.hid (word_w B b l s W0 hS0.wr hl (Nat.le_trans (wordB_size s h1.isWord) (by decide)) hS0.low)
      clear h1 hm2 hN hNS hI hIS hsub hz hk hn hs ih hw hB hl he he0 hV0 hS0 hbl hbW hW0 hli hnn hnc hic hil
      rw [HO.out]
      go_enter Tryd.func25, Tryd.ntmps25
      go_wp2_with fail
      rw [HW0.out]
      refine C.out.mono ?_
      intro e w2 p
      by_cases h2 : (l ++ 34 :: s.data.toList ++ [34]).length ≤ 4096
      · obtain ⟨rfl, s2⟩ := S0.out.call p h2
        have P := Lib.hid (s2.ends h2)
        clear p s2 h2
        go_wp2_with fail
        go_end0
        exact P.out
      · obtain ⟨h0, s3⟩ := S0.out.stops p h2 (Nat.le_refl _)
        obtain rfl : e = .panicked [{ v := .iface 26 (.int .i64 2), recovered := false }] := h0
        have P3 := Lib.hid s3
        clear p s3 h2
        go_wp2_with fail
        exact ⟨rfl, P3.out⟩
    · have HO := Lib.hid (show l ++ textL (.mk 3 n s items names) = l ++ [91] ++ bodyL false true items names ++ [93] by
        rw [textL_eq, if_neg (by decide), if_neg (by decide), if_neg (by decide)]; simp)
      have hwz : ∀ x ∈ names, x.size ≤ 200 := fun x hx => wordB_size x (risesL_words _ _ h1.rises x hx)
      have CI := Lib.hid (fun (w' : World) (l : List UInt8) (hbw : Below B W0 w') (hw : WrAt B b l w') (hl : l.length ≤ 4096) (hB' : B ≤ w'.heap.size) =>
        items3_t B b n s ia na li ic nn nc items names ev l w' hw hl hB' (hN.keepB fun b' o' k' c' e h0 hlt => ((hS0.below.trans hbw).block b' (by obtain ⟨b2, o2, k2, c2, e2, hS⟩ := hNS (by omega); rw [e2] at e; simp only [Value.slice.injEq, Option.some.injEq, Addr.mk.injEq] at e; rw [← e.1.1]; exact hS))) (by rw [hnn]; exact hNS) (hI.keepB fun b' o' k' c' e h0 hlt => ((hS0.below.trans hbw).block b' (by obtain ⟨b2, o2, k2, c2, e2, hS⟩ := hIS h0; rw [e2] at e; simp only [Value.slice.injEq, Option.some.injEq, Addr.mk.injEq] at e; rw [← e.1.1]; exact hS))) hIS
          (fun i h => (hsub i h).keep fun k hS hl => ⟨(hS0.below.trans hbw).block k hS, hS⟩) hli hnn hwz (fun T hT => ih T (hm2 T hT)) (he0.low hbw hNG) hNG hil)
      have HVK := Lib.hid (fun w' (h : Lib.OthersKept 5 (some b) W0 w') => hV0.others h (show w.heap.size ≠ b by omega))
      clear h1 hm2 hN hNS hI hIS hsub hz hk hn hs ih hw hB hl he he0 hV0 hS0 hbl hbW hW0 hli hnn hnc hic hil hwz
      rw [HO.out]
      go_enter Tryd.func25, Tryd.ntmps25
      go_wp2_with fail
      rw [HW0.out]
      refine (CP.out _ _ S0.out.wr HL.out ⟨#[91]⟩ (by decide) S0.out.low).mono ?_
      intro e w1 p
      have p : PutEnds B b (l ++ [91]) W0 e w1 := p
      by_cases h1 : (l ++ [91]).length ≤ 4096
      · obtain ⟨-, t1⟩ := HWS.out.call p h1
        obtain ⟨rfl, s1⟩ := S0.out.call p h1
        have S1 := Lib.hid s1
        have T1 := Lib.hid t1
        have H1 := Lib.hid h1
        obtain ⟨a0, a1, a2, a3, a4⟩ := (HVK.out _ t1.kept).cells
        clear p s1 h1 t1
        go_wp2_with fail
        refine (CI.out _ _ T1.out.below S1.out.wr H1.out S1.out.low).mono ?_
        intro e w2 p
        by_cases h2 : (l ++ [91] ++ bodyL false true items names).length ≤ 4096
        · obtain ⟨rfl, s2⟩ := S1.out.call p h2
          have S2 := Lib.hid s2
          have H2 := Lib.hid h2
          clear p s2 h2 a0 a1 a2 a3 a4
          go_wp2_with fail
          refine (CP.out _ _ S2.out.wr H2.out ⟨#[93]⟩ (by decide) S2.out.low).mono ?_
          intro e w3 p
          have p : PutEnds B b (l ++ [91] ++ bodyL false true items names ++ [93]) w2 e w3 := p
          by_cases h3 : (l ++ [91] ++ bodyL false true items names ++ [93]).length ≤ 4096
          · obtain ⟨rfl, s3⟩ := S2.out.call p h3
            have P := Lib.hid (s3.ends h3)
            clear p s3 h3
            go_wp2_with fail
            go_end0
            exact P.out
          · obtain ⟨h0, s3⟩ := S2.out.stops p h3 (Nat.le_refl _)
            obtain rfl : e = .panicked [{ v := .iface 26 (.int .i64 2), recovered := false }] := h0
            have P3 := Lib.hid s3
            clear p s3 h3
            go_wp2_with fail
            exact ⟨rfl, P3.out⟩
        · obtain ⟨h0, s3⟩ := S1.out.stops (t := l ++ [91] ++ bodyL false true items names ++ [93]) p h2 (by simp)
          obtain rfl : e = .panicked [{ v := .iface 26 (.int .i64 2), recovered := false }] := h0
          have P3 := Lib.hid s3
          clear p s3 h2
          go_wp2_with fail
          exact ⟨rfl, P3.out⟩
      · obtain ⟨h0, s3⟩ := S0.out.stops (t := l ++ [91] ++ bodyL false true items names ++ [93]) p h1 (by simp)
        obtain rfl : e = .panicked [{ v := .iface 26 (.int .i64 2), recovered := false }] := h0
        have P3 := Lib.hid s3
        clear p s3 h1
        go_wp2_with fail
        exact ⟨rfl, P3.out⟩
    · have HO := Lib.hid (show l ++ textL (.mk 4 n s items names) = l ++ [123] ++ bodyL true true items names ++ [125] by
        rw [textL_eq, if_neg (by decide), if_neg (by decide), if_pos rfl]; simp)
      have hwz : ∀ x ∈ names, x.size ≤ 200 := fun x hx => wordB_size x (risesL_words _ _ h1.rises x hx)
      have hsame : li = nn := by rw [← hnn, ← hli]; exact (h1.same rfl).symm
      have CI := Lib.hid (fun (w' : World) (l : List UInt8) (hbw : Below B W0 w') (hw : WrAt B b l w') (hl : l.length ≤ 4096) (hB' : B ≤ w'.heap.size) =>
        items4_t B b n s ia na li ic nn nc items names ev l w' hw hl hB' (hN.keepB fun b' o' k' c' e h0 hlt => ((hS0.below.trans hbw).block b' (by obtain ⟨b2, o2, k2, c2, e2, hS⟩ := hNS (by omega); rw [e2] at e; simp only [Value.slice.injEq, Option.some.injEq, Addr.mk.injEq] at e; rw [← e.1.1]; exact hS))) (by rw [hnn]; exact hNS) (hI.keepB fun b' o' k' c' e h0 hlt => ((hS0.below.trans hbw).block b' (by obtain ⟨b2, o2, k2, c2, e2, hS⟩ := hIS h0; rw [e2] at e; simp only [Value.slice.injEq, Option.some.injEq, Addr.mk.injEq] at e; rw [← e.1.1]; exact hS))) hIS
          (fun i h => (hsub i h).keep fun k hS hl => ⟨(hS0.below.trans hbw).block k hS, hS⟩) hli hnn hwz hsame (fun T hT => ih T (hm2 T hT)) (he0.low hbw hNG) hNG hil)
      have HVK := Lib.hid (fun w' (h : Lib.OthersKept 5 (some b) W0 w') => hV0.others h (show w.heap.size ≠ b by omega))
      clear h1 hm2 hN hNS hI hIS hsub hz hk hn hs ih hw hB hl he he0 hV0 hS0 hbl hbW hW0 hli hnn hnc hic hil hwz hsame
      rw [HO.out]
      go_enter Tryd.func25, Tryd.ntmps25
      go_wp2_with fail
      rw [HW0.out]
      refine (CP.out _ _ S0.out.wr HL.out ⟨#[123]⟩ (by decide) S0.out.low).mono ?_
      intro e w1 p
      have p : PutEnds B b (l ++ [123]) W0 e w1 := p
      by_cases h1 : (l ++ [123]).length ≤ 4096
      · obtain ⟨-, t1⟩ := HWS.out.call p h1
        obtain ⟨rfl, s1⟩ := S0.out.call p h1
        have S1 := Lib.hid s1
        have T1 := Lib.hid t1
        have H1 := Lib.hid h1
        obtain ⟨a0, a1, a2, a3, a4⟩ := (HVK.out _ t1.kept).cells
        clear p s1 h1 t1
        go_wp2_with fail
        refine (CI.out _ _ T1.out.below S1.out.wr H1.out S1.out.low).mono ?_
        intro e w2 p
        by_cases h2 : (l ++ [123] ++ bodyL true true items names).length ≤ 4096
        · obtain ⟨rfl, s2⟩ := S1.out.call p h2
          have S2 := Lib.hid s2
          have H2 := Lib.hid h2
          clear p s2 h2 a0 a1 a2 a3 a4
          go_wp2_with fail
          refine (CP.out _ _ S2.out.wr H2.out ⟨#[125]⟩ (by decide) S2.out.low).mono ?_
          intro e w3 p
          have p : PutEnds B b (l ++ [123] ++ bodyL true true items names ++ [125]) w2 e w3 := p
          by_cases h3 : (l ++ [123] ++ bodyL true true items names ++ [125]).length ≤ 4096
          · obtain ⟨rfl, s3⟩ := S2.out.call p h3
            have P := Lib.hid (s3.ends h3)
            clear p s3 h3
            go_wp2_with fail
            go_end0
            exact P.out
          · obtain ⟨h0, s3⟩ := S2.out.stops p h3 (Nat.le_refl _)
            obtain rfl : e = .panicked [{ v := .iface 26 (.int .i64 2), recovered := false }] := h0
            have P3 := Lib.hid s3
            clear p s3 h3
            go_wp2_with fail
            exact ⟨rfl, P3.out⟩
        · obtain ⟨h0, s3⟩ := S1.out.stops (t := l ++ [123] ++ bodyL true true items names ++ [125]) p h2 (by simp)
          obtain rfl : e = .panicked [{ v := .iface 26 (.int .i64 2), recovered := false }] := h0
          have P3 := Lib.hid s3
          clear p s3 h2
          go_wp2_with fail
          exact ⟨rfl, P3.out⟩
      · obtain ⟨h0, s3⟩ := S0.out.stops (t := l ++ [123] ++ bodyL true true items names ++ [125]) p h1 (by simp)
        obtain rfl : e = .panicked [{ v := .iface 26 (.int .i64 2), recovered := false }] := h0
        have P3 := Lib.hid s3
        clear p s3 h1
        go_wp2_with fail
        exact ⟨rfl, P3.out⟩
end Go.Proofs.YtlhnefeeihghgaaDoor
