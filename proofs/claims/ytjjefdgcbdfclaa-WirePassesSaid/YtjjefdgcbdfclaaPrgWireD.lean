/-
  The program's without, by a contract; results that lie in rows, beside others. Conditions: few messages.
-/
import Derived.Test.YtjjefdgcbdfclaaPrgWireC
import Derived.Deep.RegionHeld3
namespace Go.Proofs.Ytjjefdgcbdfclaa
open Go.RowKit Go.WideShapes

/-! ### A row of four that is stored anew -/
def setM4 (w : World) (B : Nat) (a b c d : Value) : World := (((w.setCell ⟨B, 0, none⟩ a).setCell ⟨B, 1, none⟩ b).setCell ⟨B, 2, none⟩ c).setCell ⟨B, 3, none⟩ d
theorem At4.setM {t : TypeId} {w : World} {B : Nat} {a b c d : Value} (h : At4 t w B a b c d) (a' b' c' d' : Value) : At4 t (setM4 w B a' b' c' d') B a' b' c' d' := by
  have h0 : (w.setCell ⟨B, 0, none⟩ a').heap[B]? = some (.cells #[a', b, c, d] t (0, 0)) := by rw [heap_setCell_same _ _ _ _ _ _ h]; rfl
  have h1 : ((w.setCell ⟨B, 0, none⟩ a').setCell ⟨B, 1, none⟩ b').heap[B]? = some (.cells #[a', b', c, d] t (0, 0)) := by rw [heap_setCell_same _ _ _ _ _ _ h0]; rfl
  have h2 : (((w.setCell ⟨B, 0, none⟩ a').setCell ⟨B, 1, none⟩ b').setCell ⟨B, 2, none⟩ c').heap[B]? = some (.cells #[a', b', c', d] t (0, 0)) := by rw [heap_setCell_same _ _ _ _ _ _ h1]; rfl
  unfold setM4 At4
  rw [heap_setCell_same _ _ _ _ _ _ h2]; rfl
theorem setM4_below {B B0 : Nat} {w0 w : World} (h : Below B0 w0 w) (hB : B0 ≤ B) (a b c d : Value) : Below B0 w0 (setM4 w B a b c d) :=
  (((h.setCell (p := ⟨B, 0, none⟩) hB _).setCell (p := ⟨B, 1, none⟩) hB _).setCell (p := ⟨B, 2, none⟩) hB _).setCell (p := ⟨B, 3, none⟩) hB _
theorem setM4_block (w : World) (B k : Nat) (a b c d : Value) (hne : k ≠ B) : (setM4 w B a b c d).heap[k]? = w.heap[k]? := by
  unfold setM4
  rw [Below.heap_setCell _ _ _ _ hne, Below.heap_setCell _ _ _ _ hne, Below.heap_setCell _ _ _ _ hne, Below.heap_setCell _ _ _ _ hne]

/-! ### Results -/
theorem infoMsg4 : (Try.prog.info? 30).map (·.size) = some 4 := by kernel_rfl
theorem results_ms {fn : Func} {u p : Tmp} (h : fn.results = #[.tmp u, .cell p 30]) (tmps : Array Value) (w : World) (g : Nat) (a b c d : Value)
    (hp : tmps.getD p undef = .pointer (some ⟨g, 0, none⟩)) (hg : At4 30 w g a b c d) :
    (results fn tmps).run Try.prog w = .ok (.tuple #[tmps.getD u undef, .agg #[a, b, c, d]]) w := by
  have hr := run_loadVar_row w g 30 30 _ (0, 0) _ hg Try.underlying30 rfl infoMsg4
  have hp' : tmps[p]?.getD undef = .pointer (some ⟨g, 0, none⟩) := by simpa using hp
  unfold results
  simp [h, hp', asAddr, hr]
theorem results_nt {fn : Func} {p u : Tmp} (h : fn.results = #[.cell p 24, .tmp u]) (tmps : Array Value) (w : World) (g : Nat) (a b c : Value)
    (hp : tmps.getD p undef = .pointer (some ⟨g, 0, none⟩)) (hg : At3 24 w g a b c) :
    (results fn tmps).run Try.prog w = .ok (.tuple #[.agg #[a, b, c], tmps.getD u undef]) w := by
  have hr := run_loadVar_row w g 24 24 _ (0, 0) _ hg Try.underlying24 rfl infoNet
  have hp' : tmps[p]?.getD undef = .pointer (some ⟨g, 0, none⟩) := by simpa using hp
  unfold results
  simp [h, hp', asAddr, hr]
theorem results_nt3 {fn : Func} {p u x : Tmp} (h : fn.results = #[.cell p 24, .tmp u, .tmp x]) (tmps : Array Value) (w : World) (g : Nat) (a b c : Value)
    (hp : tmps.getD p undef = .pointer (some ⟨g, 0, none⟩)) (hg : At3 24 w g a b c) :
    (results fn tmps).run Try.prog w = .ok (.tuple #[.agg #[a, b, c], tmps.getD u undef, tmps.getD x undef]) w := by
  have hr := run_loadVar_row w g 24 24 _ (0, 0) _ hg Try.underlying24 rfl infoNet
  have hp' : tmps[p]?.getD undef = .pointer (some ⟨g, 0, none⟩) := by simpa using hp
  unfold results
  simp [h, hp', asAddr, hr]
theorem results_ntm {fn : Func} {p u x : Tmp} (h : fn.results = #[.cell p 24, .cell u 30, .tmp x]) (tmps : Array Value) (w : World) (g g' : Nat) (a b c a' b' c' d' : Value)
    (hp : tmps.getD p undef = .pointer (some ⟨g, 0, none⟩)) (hu : tmps.getD u undef = .pointer (some ⟨g', 0, none⟩)) (hg : At3 24 w g a b c) (hg' : At4 30 w g' a' b' c' d') :
    (results fn tmps).run Try.prog w = .ok (.tuple #[.agg #[a, b, c], .agg #[a', b', c', d'], tmps.getD x undef]) w := by
  have hr := run_loadVar_row w g 24 24 _ (0, 0) _ hg Try.underlying24 rfl infoNet
  have hr' := run_loadVar_row w g' 30 30 _ (0, 0) _ hg' Try.underlying30 rfl infoMsg4
  have hp' : tmps[p]?.getD undef = .pointer (some ⟨g, 0, none⟩) := by simpa using hp
  have hu' : tmps[u]?.getD undef = .pointer (some ⟨g', 0, none⟩) := by simpa using hu
  unfold results
  simp [h, hp', hu', asAddr, hr, hr']

theorem far4 {w : World} {B b i : Nat} {x v0 v1 v2 v3 : Value} (h : w.cell? ⟨b, i, none⟩ = some x) (hne : B ≠ b) :
    ((((w.setCell ⟨B, 0, none⟩ v0).setCell ⟨B, 1, none⟩ v1).setCell ⟨B, 2, none⟩ v2).setCell ⟨B, 3, none⟩ v3).cell? ⟨b, i, none⟩ = some x :=
  far_cell (far_cell (far_cell (far_cell h hne) hne) hne) hne
/-- What without answers. -/
def OffIs (l : List Ms) (p : Nat) (m : Ms) (w : World) (e : Ending) (w' : World) : Prop :=
  ∃ (s : Option Addr) (kk t base : Nat), e = .returned (.tuple #[.slice s kk t, msV m]) ∧ w.heap.size ≤ base ∧ (l.take p ++ l.drop (p + 1)).length = kk ∧ w'.ownsRow base 30 4 (.slice s kk t) kk (cellsN (l.take p ++ l.drop (p + 1))) ∧ Below w.heap.size w w'

set_option maxRecDepth 100000 in
set_option maxHeartbeats 4000000 in
theorem without_t (a : Option Addr) (k c p : Nat) (l : List Ms) (m : Ms) (w : World) (h : RwAt 4 w (.slice a k c) (l.map msCell)) (hk : l.length = k) (hp : l[p]? = some m) (hk3 : k ≤ 300) (hc : k ≤ c) (hcm : c ≤ 9223372036854775807) :
    Calls Try.prog 23 #[.slice a k c, .int .i64 p] w (OffIs l p m w) := by
  have hpl : p < l.length := (List.getElem?_eq_some_iff.1 hp).1
  have hpk : p < k := by omega
  obtain ⟨pp, hpp⟩ : ∃ x, p + 1 = x := ⟨_, rfl⟩
  obtain ⟨b, o, rfl, e0, e1, e2, e3⟩ := ms_at h p hpl
  have hx : l[p] = m := (List.getElem?_eq_some_iff.1 hp).2
  rw [hx] at e0 e1 e2 e3
  obtain ⟨x1, x2, x3, x4⟩ := m
  simp only at e0 e1 e2 e3
  obtain ⟨W, hW⟩ : ∃ W, w.alloc (.cells #[.int .i64 0, .int .i64 0, .string ⟨#[]⟩, .int .i64 0] 30) = W := ⟨_, rfl⟩
  have hbw : Below w.heap.size w W := by rw [← hW]; exact below_new _ _
  have HCON := Lib.hid (fun (a2 : Option Addr) (k2 c2 : Nat) (w' : World) (hw' : (W.alloc (.cells #[.slice (some ⟨b, o, none⟩) p c, .slice a2 k2 c2] 22)).drew = w') (h2 : RwAt 4 W (.slice a2 k2 c2) ((l.drop (p + 1)).map msCell)) =>
    have hb : Below W.heap.size W w' := by rw [← hw']; exact (below_new _ _).drew
    have hc2 : w'.cell? ⟨W.heap.size, 0, none⟩ = some (.slice (some ⟨b, o, none⟩) p c) ∧ w'.cell? ⟨W.heap.size, 1, none⟩ = some (.slice a2 k2 c2) := by rw [← hw']; exact two_at (heap_alloc_new W _)
    msConcat_t W.heap.size 0 2 (.slice (some ⟨b, o, none⟩) p c) (.slice a2 k2 c2) (l.take p) (l.drop (p + 1)) w' (by rw [List.map_take]; exact ((h.keep hbw).keep hb).take (by rw [List.length_map]; exact hk) p (by omega)) (h2.keep hb) (by rw [List.length_take, List.length_drop]; omega) hc2.1 hc2.2)
  have HRW := Lib.hid (h.keep hbw)
  have HB := Lib.hid hbw
  have HR := Lib.hid (show At4 30 W w.heap.size (.int .i64 0) (.int .i64 0) (.string ⟨#[]⟩) (.int .i64 0) by rw [← hW]; exact At4.new _ _ _ _ _ _)
  have hsz : w.heap.size < W.heap.size := HR.out.lt
  have HW := Lib.hid hW
  have hne : w.heap.size ≠ b := Nat.ne_of_gt (World.block_lt_of_cell? _ _ e0)
  have KS := Lib.hid (fun w' (hb : Below w.heap.size w w') => And.intro (Below.keepc hb e0) (And.intro (Below.keepc hb e1) (And.intro (Below.keepc hb e2) (Below.keepc hb e3))))
  obtain ⟨L, hL⟩ : ∃ L, l.take p ++ l.drop (p + 1) = L := ⟨_, rfl⟩
  unfold OffIs
  have HLD := Lib.hid (show k = p + 1 → l.drop (p + 1) = [] from fun h => List.drop_of_length_le (by omega))
  have HDR := Lib.hid (fun hck => (HRW.out.drop (by rw [List.length_map]; exact hk) (p + 1) (by omega) hck))
  rw [hL] at HCON ⊢
  clear hW hx h hp e0 e1 e2 e3 hL
  obtain ⟨e0, e1, e2, e3⟩ := KS.out W hbw
  rw [hpp] at HLD HDR
  obtain ⟨a2, k2, c2, hv2, h2⟩ : ∃ a2 k2 c2, (if c = pp then (a2, k2, c2) = (some ⟨b, o, none⟩, 0, 0) else (a2, k2, c2) = (some ⟨b, o + pp * 4, none⟩, k - pp, c - pp)) ∧ RwAt 4 W (.slice a2 k2 c2) ((l.drop (p + 1)).map msCell) := by
    by_cases hck : c = pp
    · exact ⟨_, _, _, by rw [if_pos hck], by rw [hpp, HLD.out (by omega)]; exact Or.inl ⟨rfl, Or.inr ⟨_, 0, rfl, by decide⟩⟩⟩
    · exact ⟨_, _, _, by rw [if_neg hck], by rw [hpp, List.map_drop]; have := HDR.out hck; rwa [add_plain] at this⟩
  obtain ⟨W2, hW2⟩ : ∃ W2, (W.alloc (.cells #[.slice (some ⟨b, o, none⟩) p c, .slice a2 k2 c2] 22)).drew = W2 := ⟨_, rfl⟩
  have HC := Lib.hid (HCON.out a2 k2 c2 W2 hW2 h2)
  have hb2 : Below W.heap.size W W2 := by rw [← hW2]; exact (below_new _ _).drew
  have HB2 := Lib.hid hb2
  have HW2 := Lib.hid hW2
  obtain ⟨kk, hkk⟩ : ∃ x, L.length = x := ⟨_, rfl⟩
  rw [hkk] at HC ⊢
  clear hW2 h2 hkk hb2
  by_cases hck : c = pp
  · rw [if_pos hck] at hv2
    simp only [Prod.mk.injEq] at hv2
    obtain ⟨rfl, rfl, rfl⟩ := hv2
    obtain rfl : pp = k := by omega
    obtain rfl : pp = c := by omega
    have u6 : pp - pp = 0 := Nat.sub_self pp
    have u0 : (0 : Int) ≤ (p : Int) := by omega
    have u1 : (p : Int) ≤ (pp : Int) := by omega
    have u2 : (p : Int) < (pp : Int) := by omega
    have u3 : p ≤ pp := by omega
    have u4 : (p : Int) + 1 = (pp : Int) := by omega
    have u5 : (0 : Int) ≤ (pp : Int) := by omega
    have u8 : IntKind.i64.wrap (pp : Int) = (pp : Int) := by rw [IntKind.wrap_i64]; omega
    go_enter Try.func23, Try.ntmps23
    go_upto_region 1 with fail
    rw [HW.out]
    go_region_held3 (fun w' => w'.cell? ⟨b, o + p * 4, none⟩ = some (.int .i64 x1) ∧ w'.cell? ⟨b, o + p * 4 + 1, none⟩ = some (.int .i64 x2) ∧ w'.cell? ⟨b, o + p * 4 + 2, none⟩ = some (.string x3) ∧ w'.cell? ⟨b, o + p * 4 + 3, none⟩ = some (.int .i64 x4))
      (first | exact ⟨e0, e1, e2, e3⟩ | exact KS.out _ (Below.then HB.out (below_new _ _).drew) | exact ⟨far4 e0 hne, far4 e1 hne, far4 e2 hne, far4 e3 hne⟩)
      (first | (go_simp; go_at_call 27
                rw [HW2.out]
                refine HC.out.mono ?_
                rintro e wS ⟨v, rfl, hoS, hbS⟩
                have hbA : Below W.heap.size W wS := Below.then HB2.out hbS
                obtain ⟨z0, z1, z2, z3⟩ := (HR.out.keep hbA).cells
                obtain ⟨f0, f1, f2, f3⟩ := (HR.out.keep hbA).free
                obtain ⟨e0, e1, e2, e3⟩ := KS.out wS (Below.then HB.out hbA)))
    obtain ⟨s1, t1, rfl, -, -⟩ := own_shape hoS
    have HRS := Lib.hid (HR.out.keep hbA)
    have HOS := Lib.hid hoS
    have HBA := Lib.hid (Below.then HB.out hbA)
    have HSZ := Lib.hid (Nat.le_trans HB.out.size HB2.out.size)
    have HLT := Lib.hid (show w.heap.size < W2.heap.size from Nat.lt_of_lt_of_le hsz HB2.out.size)
    clear e0 e1 e2 e3 z0 z1 z2 z3 f0 f1 f2 f3 hoS hbA hbS
    go_wp2_with fail
    exact bodyPost_ret (results_ms (u := 4) (p := 5) rfl _ _ w.heap.size _ _ _ _ rfl (HRS.out.setM _ _ _ _)) rfl ⟨s1, kk, t1, W2.heap.size, rfl, HSZ.out, rfl, own_same HOS.out (fun g hg => setM4_block _ _ _ _ _ _ _ (Nat.ne_of_gt (Nat.lt_of_lt_of_le HLT.out hg))), setM4_below HBA.out (Nat.le_refl _) _ _ _ _⟩
  · rw [if_neg hck] at hv2
    simp only [Prod.mk.injEq] at hv2
    obtain ⟨rfl, rfl, rfl⟩ := hv2
    have u0 : (0 : Int) ≤ (p : Int) := by omega
    have u1 : (p : Int) ≤ (k : Int) := by omega
    have u2 : (p : Int) < (k : Int) := by omega
    have u3 : p ≤ c := by omega
    have u4 : (p : Int) + 1 = (pp : Int) := by omega
    have u5 : (0 : Int) ≤ (pp : Int) := by omega
    have u8 : IntKind.i64.wrap (pp : Int) = (pp : Int) := by rw [IntKind.wrap_i64]; omega
    have u6 : (pp : Int) ≤ (k : Int) := by omega
    have u7 : pp ≤ k := by omega
    go_enter Try.func23, Try.ntmps23
    go_upto_region 1 with fail
    rw [HW.out]
    go_region_held3 (fun w' => w'.cell? ⟨b, o + p * 4, none⟩ = some (.int .i64 x1) ∧ w'.cell? ⟨b, o + p * 4 + 1, none⟩ = some (.int .i64 x2) ∧ w'.cell? ⟨b, o + p * 4 + 2, none⟩ = some (.string x3) ∧ w'.cell? ⟨b, o + p * 4 + 3, none⟩ = some (.int .i64 x4))
      (first | exact ⟨e0, e1, e2, e3⟩ | exact KS.out _ (Below.then HB.out (below_new _ _).drew) | exact ⟨far4 e0 hne, far4 e1 hne, far4 e2 hne, far4 e3 hne⟩)
      (first | (go_simp; go_at_call 27
                rw [HW2.out]
                refine HC.out.mono ?_
                rintro e wS ⟨v, rfl, hoS, hbS⟩
                have hbA : Below W.heap.size W wS := Below.then HB2.out hbS
                obtain ⟨z0, z1, z2, z3⟩ := (HR.out.keep hbA).cells
                obtain ⟨f0, f1, f2, f3⟩ := (HR.out.keep hbA).free
                obtain ⟨e0, e1, e2, e3⟩ := KS.out wS (Below.then HB.out hbA)))
    obtain ⟨s1, t1, rfl, -, -⟩ := own_shape hoS
    have HRS := Lib.hid (HR.out.keep hbA)
    have HOS := Lib.hid hoS
    have HBA := Lib.hid (Below.then HB.out hbA)
    have HSZ := Lib.hid (Nat.le_trans HB.out.size HB2.out.size)
    have HLT := Lib.hid (show w.heap.size < W2.heap.size from Nat.lt_of_lt_of_le hsz HB2.out.size)
    clear e0 e1 e2 e3 z0 z1 z2 z3 f0 f1 f2 f3 hoS hbA hbS
    go_wp2_with fail
    exact bodyPost_ret (results_ms (u := 4) (p := 5) rfl _ _ w.heap.size _ _ _ _ rfl (HRS.out.setM _ _ _ _)) rfl ⟨s1, kk, t1, W2.heap.size, rfl, HSZ.out, rfl, own_same HOS.out (fun g hg => setM4_block _ _ _ _ _ _ _ (Nat.ne_of_gt (Nat.lt_of_lt_of_le HLT.out hg))), setM4_below HBA.out (Nat.le_refl _) _ _ _ _⟩
end Go.Proofs.Ytjjefdgcbdfclaa
