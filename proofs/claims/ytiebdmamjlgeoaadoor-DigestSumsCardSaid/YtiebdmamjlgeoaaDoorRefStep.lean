/-
  The document's own step, by a contract. Conditions: eight words of 32 bits lie in the row.
-/
import Derived.Test.YtiebdmamjlgeoaaDoorRefTurn
import Derived.Deep.QuietTactic
namespace Go.Proofs.YtiebdmamjlgeoaaDoor
open Go.RowKit

/-- A row of words lies at g. -/
def RowU (w : World) (g : Nat) (l : List Int) : Prop := g < w.heap.size ∧ ∀ i, i < l.length → w.cell? ⟨g, i, none⟩ = some (.int .u32 (l.getD i 0))
theorem RowU.keep {w w' : World} {g n : Nat} {l : List Int} (h : RowU w g l) (hn : g < n) (hb : Below n w w') : RowU w' g l :=
  ⟨Nat.lt_of_lt_of_le h.1 hb.size, fun i hi => by
    have := hb.block g hn
    rw [← h.2 i hi]
    unfold World.cell?
    simp only [this]⟩
theorem RowU.alloc (w : World) (l : List Int) (t : TypeId) (cs : Array Value) (hc : cs = (l.map (Value.int .u32)).toArray) : RowU (w.alloc (.cells cs t)) w.heap.size l := by
  subst hc
  refine ⟨by simp, fun i hi => ?_⟩
  rw [World.cell?_alloc_at _ _ _ _ rfl]
  simp [hi]
theorem xor_all (x : Nat) (h : x < 4294967296) : 4294967295 ^^^ x = 4294967295 - x := by
  have := congrArg BitVec.toNat (BitVec.allOnes_xor (x := BitVec.ofNat 32 x))
  simp only [BitVec.toNat_xor, BitVec.toNat_allOnes, BitVec.toNat_not, BitVec.toNat_ofNat] at this
  rw [Nat.mod_eq_of_lt (show x < 2 ^ 32 from h)] at this
  exact this
theorem x32_all (e : Int) (h : U32 e) : x32 4294967295 e = 4294967295 - e := by
  obtain ⟨h0, h1⟩ := h
  obtain ⟨x, rfl⟩ := Int.eq_ofNat_of_zero_le h0
  show bits .xor .u32 ((4294967295 : Nat) : Int) (x : Int) = _
  rw [u32_xor_nat _ _ (by decide) (by omega), xor_all x (by omega)]
  omega

theorem two_eq {A B : Type} (f : A → A → B) {a a' b b' : A} (h1 : a = a') (h2 : b = b') : f a b = f a' b' := by rw [h1, h2]
theorem step_e0 (t a b : Int) : (t + a + b) % 4294967296 = (t % 4294967296 + (a + b) % 4294967296) % 4294967296 := by omega
theorem step_e4 (t a : Int) : (a + t) % 4294967296 = (a + t % 4294967296) % 4294967296 := by omega
theorem cells8 {w : World} {g : Nat} {a0 a1 a2 a3 a4 a5 a6 a7 : Int} (h : RowU w g (St.toL ⟨a0, a1, a2, a3, a4, a5, a6, a7⟩)) :
    w.cell? ⟨g, 0, none⟩ = some (.int .u32 a0) ∧ w.cell? ⟨g, 1, none⟩ = some (.int .u32 a1) ∧ w.cell? ⟨g, 2, none⟩ = some (.int .u32 a2) ∧ w.cell? ⟨g, 3, none⟩ = some (.int .u32 a3) ∧ w.cell? ⟨g, 4, none⟩ = some (.int .u32 a4) ∧ w.cell? ⟨g, 5, none⟩ = some (.int .u32 a5) ∧ w.cell? ⟨g, 6, none⟩ = some (.int .u32 a6) ∧ w.cell? ⟨g, 7, none⟩ = some (.int .u32 a7) :=
  ⟨h.2 0 (by simp [St.toL]), h.2 1 (by simp [St.toL]), h.2 2 (by simp [St.toL]), h.2 3 (by simp [St.toL]), h.2 4 (by simp [St.toL]), h.2 5 (by simp [St.toL]), h.2 6 (by simp [St.toL]), h.2 7 (by simp [St.toL])⟩

set_option maxRecDepth 100000 in
set_option maxHeartbeats 2000000 in
theorem step_any (s : St) (g c : Nat) (k x : Int) (w : World) (hs : s.Ok) (hr : RowU w g s.toL) :
    Calls Tryd.prog 39 #[.slice (some ⟨g, 0, none⟩) 8 c, .int .u32 k, .int .u32 x] w fun e w' => (∃ g', e = .returned (.slice (some ⟨g', 0, none⟩) 8 8) ∧ RowU w' g' (s.step k x).toL ∧ w.heap.size ≤ g') ∧ Below w.heap.size w w' := by
  obtain ⟨a0, a1, a2, a3, a4, a5, a6, a7⟩ := s
  have HR := Lib.hid hr
  have C0 := cells8 hr
  obtain ⟨hlt, -⟩ := hr
  obtain ⟨c0, c1, c2, c3, c4, c5, c6, c7⟩ := C0
  have TE := Lib.hid (fun n w h1 h2 => turn_any a4 n w hs.e h1 h2)
  have TA := Lib.hid (fun n w h1 h2 => turn_any a0 n w hs.a h1 h2)
  have HS := Lib.hid hs
  clear hs
  go_enter Tryd.func39, Tryd.ntmps39
  go_wp2_with fail
  clear c0 c1 c2 c3 c4 c5 c6 c7
  refine (TE.out 6 _ (by decide) (by decide)).mono ?_
  rintro e w1 ⟨rfl, hb1⟩
  have HR1 := Lib.hid (HR.out.keep hlt hb1)
  have B1 := Lib.hid hb1
  clear hb1 HR
  go_wp2_with fail
  refine (TE.out 11 _ (by decide) (by decide)).mono ?_
  rintro e w2 ⟨rfl, hb2⟩
  have hlt2 := HR1.out.1
  have HR2 := Lib.hid (HR1.out.keep hlt2 hb2)
  have B2 := Lib.hid (B1.out.trans (hb2.mono B1.out.size))
  clear hb2 HR1 hlt2 B1
  go_wp2_with fail
  refine (TE.out 25 _ (by decide) (by decide)).mono ?_
  rintro e w3 ⟨rfl, hb3⟩
  have hlt3 := HR2.out.1
  have hr3 := HR2.out.keep hlt3 hb3
  have HR3 := Lib.hid hr3
  have B3 := Lib.hid (B2.out.trans (hb3.mono B2.out.size))
  obtain ⟨c0, c1, c2, c3, c4, c5, c6, c7⟩ := cells8 hr3
  have u4 := HS.out.e
  obtain ⟨u40, u41⟩ := u4
  clear hb3 HR2 hlt3 hr3 B2 TE
  go_wp2_with fail
  go_quiet (fail)
  generalize nq = n1
  go_wp2_with fail
  have R4 := Lib.hid (show RowU (w3.drewN n1) g (St.toL ⟨a0, a1, a2, a3, a4, a5, a6, a7⟩) from HR3.out)
  have B4 := Lib.hid (show Below w.heap.size w (w3.drewN n1) from B3.out.trans ⟨rfl, rfl, rfl, Nat.le_refl _, fun _ _ => rfl⟩)
  clear c0 c1 c2 c3 c4 c5 c6 c7 HR3 B3
  refine (TA.out 2 _ (by decide) (by decide)).mono ?_
  rintro e w5 ⟨rfl, hb1⟩
  have hlt2 := R4.out.1
  have R5 := Lib.hid (R4.out.keep hlt2 hb1)
  have B5 := Lib.hid (B4.out.trans (hb1.mono B4.out.size))
  clear hb1 R4 B4 hlt2
  go_wp2_with fail
  refine (TA.out 13 _ (by decide) (by decide)).mono ?_
  rintro e w6 ⟨rfl, hb1⟩
  have hlt2 := R5.out.1
  have R6 := Lib.hid (R5.out.keep hlt2 hb1)
  have B6 := Lib.hid (B5.out.trans (hb1.mono B5.out.size))
  clear hb1 R5 B5 hlt2
  go_wp2_with fail
  refine (TA.out 22 _ (by decide) (by decide)).mono ?_
  rintro e w7 ⟨rfl, hb1⟩
  have hlt2 := R6.out.1
  have hr7 := R6.out.keep hlt2 hb1
  obtain ⟨c0, c1, c2, c3, c4, c5, c6, c7⟩ := cells8 hr7
  have B7 := Lib.hid (B6.out.trans (hb1.mono B6.out.size))
  clear hb1 R6 B6 hlt2 hr7 TA
  go_wp2_with fail
  go_quiet (fail)
  generalize nq = n2
  go_wp2_with fail
  go_region
  go_wp2_with fail
  go_ret
  refine ⟨⟨w7.heap.size, rfl, RowU.alloc (w7.drewN (n2 + 1)) _ _ _ ?_, B7.out.size⟩, ?_⟩
  · rw [← x32_all a4 ⟨u40, u41⟩]
    simp only [St.toL, St.step, List.map]
    exact two_eq (fun p q => #[Value.int .u32 p, .int .u32 a0, .int .u32 a1, .int .u32 a2, .int .u32 q, .int .u32 a4, .int .u32 a5, .int .u32 a6]) (step_e0 _ _ _) (step_e4 _ _)
  · have hb8 : Below w.heap.size w (w7.drewN (n2 + 1)) := B7.out.trans ⟨rfl, rfl, rfl, Nat.le_refl _, fun _ _ => rfl⟩
    exact hb8.alloc B7.out.size _
end Go.Proofs.YtiebdmamjlgeoaaDoor
