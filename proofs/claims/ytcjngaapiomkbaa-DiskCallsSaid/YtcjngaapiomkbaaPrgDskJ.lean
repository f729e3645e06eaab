/-
  The program's Save of a disk, by a contract. Conditions: at most 100 writes are saved at once (or the disk may not be, or they do not fit).
-/
import Derived.Test.YtcjngaapiomkbaaPrgDskI
import Derived.Test.YtcjngaapiomkbaaPrgDskD
import Derived.Deep.RegionLaw
import Derived.Deep.RegionHeld3
import Derived.BigRegion
namespace Go.Proofs.Ytcjngaapiomkbaa
open Go.RowKit Go.WideShapes

def saveD (d : Dsk) (l : List (Int × ByteArray)) : Dsk × Int := if d.right && wellB d.secs.length l then (if d.dirty.length + l.length ≤ 200 then (⟨d.secs, d.dirty ++ l⟩, 0) else (emptyD, 13)) else (emptyD, 1)
set_option maxRecDepth 100000 in
set_option maxHeartbeats 4000000 in
theorem Below.keepc {w w' : World} {p : Addr} {v : Value} (h : Below w.heap.size w w') (hc : w.cell? p = some v) : w'.cell? p = some v := (h.cell (World.block_lt_of_cell? _ _ hc)).trans hc
/-- slices.Clone of a disk's sectors. -/
theorem Clone_t (a : Option Addr) (c : Nat) (ss : List ByteArray) (w : World) (h : StrsAt w (.slice a ss.length c) ss) (h0 : 0 < ss.length) (h64 : ss.length ≤ 64) :
    Calls Try.prog 27 #[.slice a ss.length c] w fun e w' => ∃ g c', e = .returned (.slice (some ⟨g, 0, none⟩) ss.length c') ∧ w'.ownsRow w.heap.size 9 1 (.slice (some ⟨g, 0, none⟩) ss.length c') ss.length (ss.map Value.string) ∧ Below w.heap.size w w' := by
  obtain ⟨b, o, cap, e, -, -, -, hc⟩ := h.rows h0
  simp only [Value.slice.injEq] at e
  obtain ⟨rfl, -, rfl⟩ := e
  refine (Try.slices_Clone_string b o ss.length c ss w (Nat.le_refl _) (by omega) (fun j hj => by rw [hc j hj]; simp [List.getD, hj])).mono ?_
  rintro e w' ⟨v', rfl, hown, hne, hb⟩
  rw [List.take_length] at hown
  obtain ⟨g, c', rfl⟩ := Joins.ownsRow_form hown h0
  exact ⟨g, c', rfl, hown, hb⟩
set_option maxRecDepth 100000 in
set_option maxHeartbeats 4000000 in
theorem Save_t (v lv : Value) (d : Dsk) (l : List (Int × ByteArray)) (w : World) (h : DskAt w v d) (hl : PairsAt w lv (l.map writeCell)) (hlz : ∀ x ∈ l, x.2.size ≤ maxLen ∧ -9223372036854775808 ≤ x.1 ∧ x.1 ≤ 9223372036854775807) (hl100 : l.length ≤ 100) : Calls Try.prog 10 #[v, lv] w (DskOut (saveD d l) w) := by
  have HV := Lib.hid h
  have HL := Lib.hid hl
  have HZ := Lib.hid (And.intro h.secs (And.intro h.sizes hlz))
  obtain ⟨a, c, a', c', rfl, -, -⟩ := h.shape
  obtain ⟨la, lc, rfl, -, hll⟩ := hl.shape
  unfold maxLen at hll
  rw [List.length_map] at hll HL ⊢
  have R := Lib.hid (fun w (h : DskAt w (.agg #[.slice a d.secs.length c, .slice a' d.dirty.length c']) d) => Right_t _ d w h)
  have F := Lib.hid (fun w (h : DskAt w (.agg #[.slice a d.secs.length c, .slice a' d.dirty.length c']) d) (hl : PairsAt w (.slice la l.length lc) (l.map writeCell)) => allFit_t _ _ d l w h hl)
  have HE := Lib.hid (show saveD d l = if d.right && wellB d.secs.length l then (if d.dirty.length + l.length ≤ 200 then (⟨d.secs, d.dirty ++ l⟩, 0) else (emptyD, 13)) else (emptyD, 1) from rfl)
  have HR := Lib.hid (right_iff d)
  obtain ⟨r, hr⟩ : ∃ r, d.right = r := ⟨_, rfl⟩
  obtain ⟨n, hn⟩ : ∃ r, d.secs.length = r := ⟨_, rfl⟩
  obtain ⟨n', hn'⟩ : ∃ r, d.dirty.length = r := ⟨_, rfl⟩
  obtain ⟨m, hm⟩ : ∃ r, l.length = r := ⟨_, rfl⟩
  rw [hr] at HE R HR
  rw [hn] at R F HV HE ⊢
  rw [hn'] at R F HV HE ⊢
  rw [hm] at F HL HE hll hl100 ⊢
  obtain ⟨p, hp⟩ : ∃ r, wellB n l = r := ⟨_, rfl⟩
  rw [hp] at F HE
  have HN := Lib.hid (And.intro hn (And.intro hn' hm))
  obtain ⟨W, hW⟩ : ∃ W, (w.alloc (.cells #[.slice a n c, .slice a' n' c'] 25)).alloc (.cells #[nilV, nilV] 25) = W := ⟨_, rfl⟩
  have hsz : W.heap.size = w.heap.size + 1 + 1 := by rw [← hW]; simp
  have HB := Lib.hid (show Below w.heap.size w W by rw [← hW]; exact Below.then (below_new _ _) (below_new _ _))
  have HA := Lib.hid (show At2 25 W w.heap.size (.slice a n c) (.slice a' n' c') by rw [← hW]; exact (At2.new _ _ _ _).keep (below_new _ _))
  have HC := Lib.hid (show At2 25 W (w.heap.size + 1) nilV nilV by
    rw [← hW]
    have e := At2.new 25 (w.alloc (.cells #[.slice a n c, .slice a' n' c'] 25)) nilV nilV
    rwa [World.size_alloc] at e)
  have HW := Lib.hid hW
  have R1 := Lib.hid (R.out W (HV.out.keep HB.out))
  clear hW h hl hlz hr hn hn' hm hp R
  go_enter Try.func10, Try.ntmps10
  go_upto_region 1 with fail
  rw [HW.out]
  obtain ⟨a0, a1⟩ := HA.out.cells
  go_wp2_with fail
  refine R1.out.mono ?_
  rintro e w1 ⟨rfl, hb1⟩
  have HB1 := Lib.hid hb1
  have HA1 := Lib.hid (HA.out.keep hb1)
  have HC1 := Lib.hid (HC.out.keep hb1)
  clear hb1 a0 a1 R1
  cases r with
  | false =>
    have HO := Lib.hid (show saveD d l = (emptyD, 1) by rw [HE.out]; rfl)
    obtain ⟨b0, b1⟩ := HC1.out.cells
    obtain ⟨f0, f1⟩ := HC1.out.free
    go_wp2_with fail
    exact bodyPost_ret (results_dsk (p := 4) (u := 5) rfl _ _ (w.heap.size + 1) _ _ rfl (HC1.out.set _ _)) rfl ⟨_, by rw [HO.out]; rfl, by rw [HO.out]; exact emptyD_at _, set2_below (Below.then HB.out HB1.out) (by omega) _ _⟩
  | true =>
    have HRI := Lib.hid (HR.out.1 rfl)
    have F1 := Lib.hid (F.out w1 (HV.out.keep (Below.then HB.out HB1.out)) (HL.out.keep (Below.then HB.out HB1.out)))
    obtain ⟨a0, a1⟩ := HA1.out.cells
    clear F HR
    go_wp2_with fail
    refine F1.out.mono ?_
    rintro e w2 ⟨rfl, hb2⟩
    have HB2 := Lib.hid (Below.then HB1.out hb2)
    have HA2 := Lib.hid (HA1.out.keep hb2)
    have HC2 := Lib.hid (HC1.out.keep hb2)
    clear hb2 a0 a1 F1
    cases p with
    | false =>
      have HO := Lib.hid (show saveD d l = (emptyD, 1) by rw [HE.out]; rfl)
      obtain ⟨b0, b1⟩ := HC2.out.cells
      obtain ⟨f0, f1⟩ := HC2.out.free
      go_wp2_with fail
      exact bodyPost_ret (results_dsk (p := 4) (u := 5) rfl _ _ (w.heap.size + 1) _ _ rfl (HC2.out.set _ _)) rfl ⟨_, by rw [HO.out]; rfl, by rw [HO.out]; exact emptyD_at _, set2_below (Below.then HB.out HB2.out) (by omega) _ _⟩
    | true =>
      have hn : 4 ≤ n ∧ n ≤ 64 ∧ n' ≤ 200 := by rw [← HN.out.1, ← HN.out.2.1]; exact ⟨HRI.out.least, HRI.out.most, HRI.out.few⟩
      by_cases hf : n' + m ≤ 200
      rotate_left
      · have HO := Lib.hid (show saveD d l = (emptyD, 13) by rw [HE.out, Bool.and_self, if_pos rfl, if_neg hf])
        obtain ⟨b0, b1⟩ := HC2.out.cells
        obtain ⟨f0, f1⟩ := HC2.out.free
        obtain ⟨a0, a1⟩ := HA2.out.cells
        have hf1 : (200 : Int) < (n' : Int) + (m : Int) := by omega
        go_wp2_with fail
        exact bodyPost_ret (results_dsk (p := 4) (u := 5) rfl _ _ (w.heap.size + 1) _ _ rfl (HC2.out.set _ _)) rfl ⟨_, by rw [HO.out]; rfl, by rw [HO.out]; exact emptyD_at _, set2_below (Below.then HB.out HB2.out) (by omega) _ _⟩
      · have HO := Lib.hid (show saveD d l = (⟨d.secs, d.dirty ++ l⟩, 0) by rw [HE.out, Bool.and_self, if_pos rfl, if_pos hf])
        have CL := Lib.hid (show ∀ w3, Below W.heap.size W w3 → Calls Try.prog 27 #[.slice a n c] w3 fun e w4 => ∃ g c2, e = .returned (.slice (some ⟨g, 0, none⟩) n c2) ∧ StrsAt w4 (.slice (some ⟨g, 0, none⟩) n c2) d.secs ∧ Below w3.heap.size w3 w4 ∧ Below W.heap.size W w4 ∧ At2 25 w4 (w.heap.size + 1) nilV nilV ∧ w4.cell? ⟨w.heap.size, 0, none⟩ = some (.slice a n c) ∧ w4.cell? ⟨w.heap.size, 1, none⟩ = some (.slice a' n' c') from fun w3 h3 => by
          have hs : StrsAt w3 (.slice a n c) d.secs := by
            obtain ⟨⟨sv, dv, e, h1, -⟩, -, -⟩ := HV.out.keep (Below.then HB.out h3)
            simp only [Value.agg.injEq, Array.mk.injEq, List.cons.injEq, and_true] at e
            exact e.1 ▸ h1
          have := Clone_t a c d.secs w3 (by rw [HN.out.1]; exact hs) (by rw [HN.out.1]; omega) (by rw [HN.out.1]; omega)
          rw [HN.out.1] at this
          refine this.mono ?_
          rintro e w4 ⟨g, c2, rfl, hown, hb⟩
          have hb4 := Below.then h3 hb
          exact ⟨g, c2, rfl, StrsAt.of_own hown HN.out.1, hb, hb4, HC.out.keep hb4, (HA.out.keep hb4).cells.1, (HA.out.keep hb4).cells.2⟩)
        have CC := Lib.hid (show ∀ w3 b k, Below W.heap.size W w3 → w3.cell? ⟨b, 0, none⟩ = some (.slice a' n' c') → w3.cell? ⟨b, 0 + 1, none⟩ = some (.slice la m lc) → Calls Try.prog 28 #[.slice (some ⟨b, 0, none⟩) 2 k] w3 fun e w4 => ∃ g c2, e = .returned (.slice g (n' + m) c2) ∧ PairsAt w4 (.slice g (n' + m) c2) ((d.dirty ++ l).map writeCell) ∧ Below w3.heap.size w3 w4 ∧ Below W.heap.size W w4 ∧ At2 25 w4 (w.heap.size + 1) nilV nilV ∧ w4.cell? ⟨w.heap.size, 0, none⟩ = some (.slice a n c) ∧ w4.cell? ⟨w.heap.size, 1, none⟩ = some (.slice a' n' c') from fun w3 b k h3 k1 k2 => by
          have hd : PairsAt w3 (.slice a' n' c') (d.dirty.map writeCell) := by
            obtain ⟨⟨sv, dv, e, -, h1⟩, -, -⟩ := HV.out.keep (Below.then HB.out h3)
            simp only [Value.agg.injEq, Array.mk.injEq, List.cons.injEq, and_true] at e
            exact e.2 ▸ h1
          refine (Concat_t b 0 k _ _ d.dirty l w3 hd (HL.out.keep (Below.then HB.out h3)) (by rw [HN.out.2.1, HN.out.2.2]; omega) k1 k2).mono ?_
          rintro e w4 ⟨v, rfl, hp, hb⟩
          obtain ⟨g, c2, rfl, -, -⟩ := hp.shape
          have hlen : ((d.dirty ++ l).map writeCell).length = n' + m := by rw [List.length_map, List.length_append, HN.out.2.1, HN.out.2.2]
          rw [hlen] at hp ⊢
          have hb4 := Below.then h3 hb
          exact ⟨g, c2, rfl, hp, hb, hb4, HC.out.keep hb4, (HA.out.keep hb4).cells.1, (HA.out.keep hb4).cells.2⟩)
        have FIN := Lib.hid (show ∀ (g : Nat) (c2 : Nat) (gd : Option Addr) (c3 : Nat) (w5 : World), At2 25 w5 (w.heap.size + 1) nilV nilV → StrsAt w5 (.slice (some ⟨g, 0, none⟩) n c2) d.secs → PairsAt w5 (.slice gd (n' + m) c3) ((d.dirty ++ l).map writeCell) →
            DskAt (set2 w5 (w.heap.size + 1) (.slice (some ⟨g, 0, none⟩) n c2) (.slice gd (n' + m) c3)) (.agg #[.slice (some ⟨g, 0, none⟩) n c2, .slice gd (n' + m) c3]) ⟨d.secs, d.dirty ++ l⟩ from fun g c2 gd c3 w5 h1 h2 h3 => by
          have hns := set2_ns h1 isSl_nil isSl_nil (.slice (some ⟨g, 0, none⟩) n c2) (.slice gd (n' + m) c3)
          exact ⟨⟨_, _, rfl, h2.ns hns, WritesAt.ns h3 hns⟩, HZ.out.1, fun x hx => (List.mem_append.1 hx).elim (HZ.out.2.1 x) (HZ.out.2.2 x)⟩)
        have hbr := HB2.out
        obtain ⟨a0, a1⟩ := HA2.out.cells
        have hal : Below w2.heap.size w2 (w2.alloc (.cells #[.slice a' n' c', .slice la m lc] 23)) := below_new _ _
        have a0n : (w2.alloc (.cells #[.slice a' n' c', .slice la m lc] 23)).cell? ⟨w.heap.size, 0, none⟩ = some (.slice a n c) := Below.keepc hal a0
        have a1n : (w2.alloc (.cells #[.slice a' n' c', .slice la m lc] 23)).cell? ⟨w.heap.size, 1, none⟩ = some (.slice a' n' c') := Below.keepc hal a1
        have hf1 : (n' : Int) + (m : Int) ≤ 200 := by omega
        clear hal
        go_upto_region 5 with fail
        go_region_law (first
          | (go_simp; go_at_call 27; refine (CL.out _ (by first | exact hBD | exact hbr.drew | exact (hbr.alloc hbr.size _).drew | exact hbr.drew.alloc hbr.size _)).mono ?_; rintro e wC ⟨gC, cC, rfl, hst, hbC, hBC, hres, a0C, a1C⟩; have b0 := hres.cells.1; have b1 := hres.cells.2; have f0 := hres.free.1; have f1 := hres.free.2)
          | (go_simp; go_at_call 28; refine (CC.out _ _ _ (by first | exact hBC | exact (hbr.alloc hbr.size _).drew | exact hBC.alloc hBC.size _ | exact hbr.drew.alloc hbr.size _) (by first | exact (At2.new _ _ _ _).cells.1 | exact Below.keepc hbC (At2.new _ _ _ _).cells.1) (by first | exact (At2.new _ _ _ _).cells.2 | exact Below.keepc hbC (At2.new _ _ _ _).cells.2)).mono ?_; rintro e wD ⟨gD, cD, rfl, hpa, hbD, hBD, hres, a0D, a1D⟩; have b0 := hres.cells.1; have b1 := hres.cells.2; have f0 := hres.free.1; have f1 := hres.free.2))
        all_goals
          go_wp2_with fail
          first
            | exact bodyPost_ret (results_dsk (p := 4) (u := 5) rfl _ _ (w.heap.size + 1) _ _ rfl (hres.set _ _)) rfl ⟨_, by rw [HO.out]; rfl, by rw [HO.out]; exact FIN.out _ _ _ _ _ hres (hst.keep hbD) hpa, set2_below (Below.then HB.out hBD) (by omega) _ _⟩
            | exact bodyPost_ret (results_dsk (p := 4) (u := 5) rfl _ _ (w.heap.size + 1) _ _ rfl (hres.set _ _)) rfl ⟨_, by rw [HO.out]; rfl, by rw [HO.out]; exact FIN.out _ _ _ _ _ hres (hst.keep (Below.then (below_new _ _) hbD)) hpa, set2_below (Below.then HB.out hBD) (by omega) _ _⟩
            | exact bodyPost_ret (results_dsk (p := 4) (u := 5) rfl _ _ (w.heap.size + 1) _ _ rfl (hres.set _ _)) rfl ⟨_, by rw [HO.out]; rfl, by rw [HO.out]; exact FIN.out _ _ _ _ _ hres hst (hpa.keep hbC), set2_below (Below.then HB.out hBC) (by omega) _ _⟩
end Go.Proofs.Ytcjngaapiomkbaa
