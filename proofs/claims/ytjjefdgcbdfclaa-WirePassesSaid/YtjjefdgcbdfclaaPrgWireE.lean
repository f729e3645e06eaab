/-
  The program's Take and Lose, by contracts. Conditions: none.
-/
import Derived.Test.YtjjefdgcbdfclaaPrgWireD
namespace Go.Proofs.Ytjjefdgcbdfclaa
open Go.RowKit Go.WideShapes

/-- Three blocks: a net, a net, a message. -/
theorem three_ntm (w : World) (a b c x y z d e f g : Value) (t u : TypeId) :
    At3 t (((w.alloc (.cells #[a, b, c] t)).alloc (.cells #[x, y, z] t)).alloc (.cells #[d, e, f, g] u)) w.heap.size a b c ∧
    At3 t (((w.alloc (.cells #[a, b, c] t)).alloc (.cells #[x, y, z] t)).alloc (.cells #[d, e, f, g] u)) (w.heap.size + 1) x y z ∧
    At4 u (((w.alloc (.cells #[a, b, c] t)).alloc (.cells #[x, y, z] t)).alloc (.cells #[d, e, f, g] u)) (w.heap.size + 1 + 1) d e f g ∧
    Below w.heap.size w (((w.alloc (.cells #[a, b, c] t)).alloc (.cells #[x, y, z] t)).alloc (.cells #[d, e, f, g] u)) := by
  have e1 := At3.new t (w.alloc (.cells #[a, b, c] t)) x y z
  have e2 := At4.new u ((w.alloc (.cells #[a, b, c] t)).alloc (.cells #[x, y, z] t)) d e f g
  rw [World.size_alloc] at e1
  rw [World.size_alloc, World.size_alloc] at e2
  exact ⟨((At3.new t w a b c).keep (below_new _ _)).keep (below_new _ _), e1.keep (below_new _ _), e2, Below.then (Below.then (below_new _ _) (below_new _ _)) (below_new _ _)⟩
theorem nt_none (w : World) : NtAt w (.agg #[nilV, .int .i64 0, .int .i64 0]) noN := ⟨⟨_, rfl, Or.inl ⟨rfl, Or.inl rfl⟩⟩, fun m hm => (by cases hm), by decide, by decide⟩
theorem place_zero {n : Nt} {p : Int} (h : placeE n p = 0) : n.right = true ∧ 0 ≤ p ∧ p < n.fl.length := by
  unfold placeE at h
  split at h
  · cases h
  · split at h
    · cases h
    · rename_i h1 h2
      exact ⟨by simpa using h1, by omega, by omega⟩
theorem take_not {n : Nt} {p : Int} (h : placeE n p ≠ 0) : takeA n p = (noN, noM, placeE n p) := by unfold takeA; rw [if_neg h]

/-- What Take leaves at its end. -/
theorem take_end {w w4 : World} {B Bm base kk t : Nat} {s : Option Addr} {L : List Ms} {q l : Int} (hN : At3 24 w4 (B + 1) nilV (.int .i64 0) (.int .i64 0)) (hM : At4 30 w4 (B + 1 + 1) (.int .i64 0) (.int .i64 0) (.string ⟨#[]⟩) (.int .i64 0))
    (hO : w4.ownsRow base 30 4 (.slice s kk t) kk (cellsN L)) (hB : Below B w w4) (hk : L.length = kk) (hm : Bm < base) (hlt : B + 1 + 1 < Bm) (hf : ∀ x ∈ L, x.fits) (hq : i64 q) (hl : i64 l) (x1 x2 x4 : Int) (x3 : ByteArray) :
    At3 24 (setM4 (set3 w4 (B + 1) (.slice s kk t) (.int .i64 q) (.int .i64 l)) (B + 1 + 1) (.int .i64 x1) (.int .i64 x2) (.string x3) (.int .i64 x4)).drew (B + 1) (.slice s kk t) (.int .i64 q) (.int .i64 l) ∧
    At4 30 (setM4 (set3 w4 (B + 1) (.slice s kk t) (.int .i64 q) (.int .i64 l)) (B + 1 + 1) (.int .i64 x1) (.int .i64 x2) (.string x3) (.int .i64 x4)).drew (B + 1 + 1) (.int .i64 x1) (.int .i64 x2) (.string x3) (.int .i64 x4) ∧
    NtAt (setM4 (set3 w4 (B + 1) (.slice s kk t) (.int .i64 q) (.int .i64 l)) (B + 1 + 1) (.int .i64 x1) (.int .i64 x2) (.string x3) (.int .i64 x4)).drew (.agg #[.slice s kk t, .int .i64 q, .int .i64 l]) ⟨L, q, l⟩ ∧
    Below B w (setM4 (set3 w4 (B + 1) (.slice s kk t) (.int .i64 q) (.int .i64 l)) (B + 1 + 1) (.int .i64 x1) (.int .i64 x2) (.string x3) (.int .i64 x4)).drew := by
  have h1 : At3 24 (setM4 (set3 w4 (B + 1) (.slice s kk t) (.int .i64 q) (.int .i64 l)) (B + 1 + 1) (.int .i64 x1) (.int .i64 x2) (.string x3) (.int .i64 x4)) (B + 1) (.slice s kk t) (.int .i64 q) (.int .i64 l) :=
    (setM4_block _ _ _ _ _ _ _ (Nat.ne_of_lt (Nat.lt_succ_self _))).trans (hN.set _ _ _)
  have h2 : At4 30 (setM4 (set3 w4 (B + 1) (.slice s kk t) (.int .i64 q) (.int .i64 l)) (B + 1 + 1) (.int .i64 x1) (.int .i64 x2) (.string x3) (.int .i64 x4)) (B + 1 + 1) (.int .i64 x1) (.int .i64 x2) (.string x3) (.int .i64 x4) :=
    At4.setM ((set3_block _ _ _ _ _ _ (Nat.ne_of_gt (Nat.lt_succ_self _))).trans hM) _ _ _ _
  have h3 : (setM4 (set3 w4 (B + 1) (.slice s kk t) (.int .i64 q) (.int .i64 l)) (B + 1 + 1) (.int .i64 x1) (.int .i64 x2) (.string x3) (.int .i64 x4)).ownsRow base 30 4 (.slice s kk t) kk (cellsN L) :=
    own_same hO fun g hg => (setM4_block _ _ _ _ _ _ _ (by omega)).trans (set3_block _ _ _ _ _ _ (by omega))
  have h4 : Below B w (setM4 (set3 w4 (B + 1) (.slice s kk t) (.int .i64 q) (.int .i64 l)) (B + 1 + 1) (.int .i64 x1) (.int .i64 x2) (.string x3) (.int .i64 x4)) := setM4_below (set3_below hB (Nat.le_succ _) _ _ _) (by omega) _ _ _ _
  obtain ⟨w5, hw5⟩ : ∃ x, setM4 (set3 w4 (B + 1) (.slice s kk t) (.int .i64 q) (.int .i64 l)) (B + 1 + 1) (.int .i64 x1) (.int .i64 x2) (.string x3) (.int .i64 x4) = x := ⟨_, rfl⟩
  rw [hw5] at h1 h2 h3 h4 ⊢
  have hd : Below w5.heap.size w5 w5.drew := (Below.refl _ _).drew
  exact ⟨h1.keep hd, h2.keep hd, ⟨⟨_, rfl, (RwAt.of_own h3 (msWide _) (by rw [List.length_map]; exact hk)).keep hd⟩, hf, hq, hl⟩, h4.drew⟩

set_option maxRecDepth 100000 in
set_option maxHeartbeats 8000000 in
theorem Take_t (v : Value) (n : Nt) (p : Int) (w : World) (h : NtAt w v n) (hp : i64 p) :
    Calls Try.prog 9 #[v, .int .i64 p] w fun e w' => ∃ v', e = .returned (.tuple #[v', msV (takeA n p).2.1, .int .i64 (takeA n p).2.2]) ∧ NtAt w' v' (takeA n p).1 ∧ Below w.heap.size w w' := by
  have HS := Lib.hid (fun w' (hb : Below w.heap.size w w') => stands_t v n p w' (h.keep hb))
  have HV := Lib.hid h
  obtain ⟨a, k, c, q, l, rfl⟩ := h.three
  obtain ⟨W, hW⟩ : ∃ W, ((w.alloc (.cells #[.slice a k c, .int .i64 q, .int .i64 l] 24)).alloc (.cells #[nilV, .int .i64 0, .int .i64 0] 24)).alloc (.cells #[.int .i64 0, .int .i64 0, .string ⟨#[]⟩, .int .i64 0] 30) = W := ⟨_, rfl⟩
  have h3 := three_ntm w (.slice a k c) (.int .i64 q) (.int .i64 l) nilV (.int .i64 0) (.int .i64 0) (.int .i64 0) (.int .i64 0) (.string ⟨#[]⟩) (.int .i64 0) 24 30
  rw [hW] at h3
  have HW := Lib.hid hW
  have HB := Lib.hid h3.2.2.2
  have HA := Lib.hid h3.1
  have HN := Lib.hid h3.2.1
  have HM := Lib.hid h3.2.2.1
  have HSW := Lib.hid (HS.out W h3.2.2.2)
  obtain ⟨a0, a1, a2⟩ := h3.1.cells
  obtain ⟨pe, hpe⟩ : ∃ x, placeE n p = x := ⟨_, rfl⟩
  rw [hpe] at HSW
  have HPE := Lib.hid hpe
  clear h3 hW h hpe HS
  go_enter Try.func9, Try.ntmps9
  go_upto_region 1 with fail
  rw [HW.out]
  go_wp2_with fail
  refine HSW.out.mono ?_
  rintro e w1 ⟨rfl, hb1⟩
  have HB1 := Lib.hid (Below.then HB.out hb1)
  have HA1 := Lib.hid (HA.out.keep hb1)
  have HN1 := Lib.hid (HN.out.keep hb1)
  have HM1 := Lib.hid (HM.out.keep hb1)
  clear hb1 a0 a1 a2
  by_cases he : pe = 0
  rotate_left
  · have HTK := Lib.hid (take_not (n := n) (p := p) (by rw [HPE.out]; exact he))
    obtain ⟨b0, b1, b2⟩ := HN1.out.cells
    obtain ⟨f0, f1, f2⟩ := HN1.out.free
    obtain ⟨c0, c1, c2, c3⟩ := HM1.out.cells
    obtain ⟨g0, g1, g2, g3⟩ := HM1.out.free
    go_wp2_with fail
    exact bodyPost_ret (results_ntm (p := 4) (u := 5) rfl _ _ (w.heap.size + 1) (w.heap.size + 1 + 1) nilV (.int .i64 0) (.int .i64 0) (.int .i64 0) (.int .i64 0) (.string ⟨#[]⟩) (.int .i64 0) rfl rfl
      ((setM4_block _ _ _ _ _ _ _ (Nat.ne_of_lt (Nat.lt_succ_self _))).trans (HN1.out.set _ _ _)) (At4.setM ((set3_block _ _ _ _ _ _ (Nat.ne_of_gt (Nat.lt_succ_self _))).trans HM1.out) _ _ _ _)) rfl
      ⟨_, by rw [HTK.out, HPE.out]; rfl, by rw [HTK.out]; exact nt_none _, setM4_below (set3_below HB1.out (Nat.le_succ _) _ _ _) (by omega) _ _ _ _⟩
  · subst he
    obtain ⟨hr, hp0, hpl⟩ := place_zero HPE.out
    obtain ⟨pn, rfl⟩ := Int.eq_ofNat_of_zero_le hp0
    obtain ⟨e1, e2, e3, hc, hcm, hra⟩ := HV.out.parts
    have hpn : pn < n.fl.length := by omega
    have HTK := Lib.hid (take_some hr hpn)
    have HMAY := (Nt.right_iff n).1 hr
    obtain ⟨m, hm⟩ : ∃ x, n.fl[pn] = x := ⟨_, rfl⟩
    rw [hm] at HTK
    have hgm : n.fl[pn]? = some m := by rw [List.getElem?_eq_getElem hpn, hm]
    obtain ⟨w2, hw2⟩ : ∃ x, w1.alloc (.cells #[.int .i64 0, .int .i64 0, .string ⟨#[]⟩, .int .i64 0] 30) = x := ⟨_, rfl⟩
    have hb2 : Below w1.heap.size w1 w2 := by rw [← hw2]; exact below_new _ _
    obtain ⟨Bm, hBm⟩ : ∃ x, w1.heap.size = x := ⟨_, rfl⟩
    have HX2 := Lib.hid (show At4 30 w2 Bm (.int .i64 0) (.int .i64 0) (.string ⟨#[]⟩) (.int .i64 0) by rw [← hw2, ← hBm]; exact At4.new _ _ _ _ _ _)
    have HWO := Lib.hid (without_t a k c pn n.fl m w2 (hra.keep (Below.then HB1.out hb2)) e1.symm hgm (by have := HMAY.few; omega) hc hcm)
    have HB2 := Lib.hid (Below.then HB1.out hb2)
    have HA2 := Lib.hid (HA1.out.keep hb2)
    have HN2 := Lib.hid (HN1.out.keep hb2)
    have HM2 := Lib.hid (HM1.out.keep hb2)
    have hlB : w.heap.size + 1 + 1 < Bm := by rw [← hBm]; exact HM1.out.lt
    have HFT := Lib.hid (show ∀ x ∈ n.fl.take pn ++ n.fl.drop (pn + 1), x.fits from fun x hx => by
      rcases List.mem_append.1 hx with hx | hx
      · exact HV.out.fits x (List.mem_of_mem_take hx)
      · exact HV.out.fits x (List.mem_of_mem_drop hx))
    have HQ := Lib.hid (show i64 q by rw [e2]; exact HV.out.last)
    have HL := Lib.hid (show i64 l by rw [e3]; exact HV.out.now)
    have HTK2 := Lib.hid (show takeA n pn = (⟨n.fl.take pn ++ n.fl.drop (pn + 1), q, l⟩, m, 0) by rw [HTK.out, e2, e3])
    have HW2 := Lib.hid hw2
    obtain ⟨L, hL⟩ : ∃ x, n.fl.take pn ++ n.fl.drop (pn + 1) = x := ⟨_, rfl⟩
    unfold OffIs at HWO
    rw [hL] at HWO HFT HTK2
    obtain ⟨x1, x2, x3, x4⟩ := m
    unfold msV at HWO
    simp only at HWO
    have hmsv : msV (⟨x1, x2, x3, x4⟩ : Ms) = .agg #[.int .i64 x1, .int .i64 x2, .string x3, .int .i64 x4] := rfl
    have HMS := Lib.hid hmsv
    obtain ⟨a0, a1, a2⟩ := HA1.out.cells
    clear e1 e2 e3 hra hm hgm hw2 hb2 HTK hL hmsv hr hp0 hpl hp HMAY hc
    go_upto_region 5 with fail
    rw [HW2.out]
    clear hBm a0 a1 a2
    obtain ⟨a0, a1, a2⟩ := HA2.out.cells
    go_wp2_with fail
    refine HWO.out.mono ?_
    rintro e w3 ⟨s, kk, t, base, rfl, hbase, hkk, ho3, hb3⟩
    have HO3 := Lib.hid ho3
    have HB3 := Lib.hid hb3
    have HKK := Lib.hid hkk
    have HBS := Lib.hid (Nat.lt_of_lt_of_le HX2.out.lt hbase)
    clear ho3 hb3 hkk hbase a0 a1 a2
    obtain ⟨a0, a1, a2⟩ := (HA2.out.keep HB3.out).cells
    obtain ⟨f0, f1, f2⟩ := (HA2.out.keep HB3.out).free
    obtain ⟨c0, c1, c2, c3⟩ := (HX2.out.keep HB3.out).cells
    obtain ⟨g0, g1, g2, g3⟩ := (HX2.out.keep HB3.out).free
    have hne : w.heap.size ≠ Bm := by omega
    have hne2 : Bm ≠ w.heap.size := by omega
    go_upto_region 6 with fail
    obtain ⟨w4, hw4⟩ : ∃ x, setM4 (w3.setCell ⟨w.heap.size, 0, none⟩ (.slice s kk t)) Bm (.int .i64 x1) (.int .i64 x2) (.string x3) (.int .i64 x4) = x := ⟨_, rfl⟩
    have hk4 : ∀ g, g ≠ w.heap.size → g ≠ Bm → w4.heap[g]? = w3.heap[g]? := fun g h1 h2 => by
      rw [← hw4, setM4_block _ _ _ _ _ _ _ h2]; exact Below.heap_setCell _ _ _ _ h1
    have HA4 := Lib.hid (show At3 24 w4 w.heap.size (.slice s kk t) (.int .i64 q) (.int .i64 l) by
      rw [← hw4]; exact (setM4_block _ _ _ _ _ _ _ hne).trans ((HA2.out.keep HB3.out).at0 _))
    have HX4 := Lib.hid (show At4 30 w4 Bm (.int .i64 x1) (.int .i64 x2) (.string x3) (.int .i64 x4) by
      rw [← hw4]; exact At4.setM ((Below.heap_setCell _ _ _ _ hne2).trans (HX2.out.keep HB3.out)) _ _ _ _)
    have HN4 := Lib.hid (show At3 24 w4 (w.heap.size + 1) nilV (.int .i64 0) (.int .i64 0) from (hk4 _ (by omega) (by omega)).trans (HN2.out.keep HB3.out))
    have HM4 := Lib.hid (show At4 30 w4 (w.heap.size + 1 + 1) (.int .i64 0) (.int .i64 0) (.string ⟨#[]⟩) (.int .i64 0) from (hk4 _ (by omega) (by omega)).trans (HM2.out.keep HB3.out))
    have HO4 := Lib.hid (show w4.ownsRow base 30 4 (.slice s kk t) kk (cellsN L) from own_same HO3.out fun g hg => hk4 g (by have := HBS.out; omega) (by have := HBS.out; omega))
    have HB4 := Lib.hid (show Below w.heap.size w w4 by
      rw [← hw4]; exact setM4_below ((Below.then HB2.out HB3.out).setCell (p := ⟨w.heap.size, 0, none⟩) (Nat.le_refl _) _) (by omega) _ _ _ _)
    unfold setM4 at hw4
    rw [hw4]
    clear hw4 hk4 a0 a1 a2 f0 f1 f2 c0 c1 c2 c3 g0 g1 g2 g3
    obtain ⟨a0, a1, a2⟩ := HA4.out.cells
    obtain ⟨x0, x1', x2', x3'⟩ := HX4.out.cells
    obtain ⟨b0, b1, b2⟩ := HN4.out.cells
    obtain ⟨f0, f1, f2⟩ := HN4.out.free
    obtain ⟨c0, c1, c2, c3⟩ := HM4.out.cells
    obtain ⟨g0, g1, g2, g3⟩ := HM4.out.free
    have hneA : w.heap.size + 1 ≠ Bm := by omega
    have hneB : w.heap.size + 1 + 1 ≠ Bm := by omega
    go_region
    have HE := Lib.hid (take_end HN4.out HM4.out HO4.out HB4.out HKK.out HBS.out hlB HFT.out HQ.out HL.out x1 x2 x4 x3)
    go_wp2_with fail
    exact bodyPost_ret (results_ntm (p := 4) (u := 5) rfl _ _ (w.heap.size + 1) (w.heap.size + 1 + 1) _ _ _ _ _ _ _ rfl rfl HE.out.1 HE.out.2.1) rfl
      ⟨_, by rw [HTK2.out, HMS.out]; rfl, by rw [HTK2.out]; exact HE.out.2.2.1, HE.out.2.2.2⟩
end Go.Proofs.Ytjjefdgcbdfclaa
