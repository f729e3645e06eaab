/-
  The program's Print: a value's text, its panics recovered. Conditions: the package-level variables as TLow says; what comes in reads as a tree.
-/
import Derived.Test.YtepcaglekgeamaaGreatDoorYWrt
import Derived.Test.YtepcaglekgeamaaGreatDoorYTxt7
namespace Go.Proofs.YtepcaglekgeamaaGreatDoor
open Go.RowKit

def printOut (T : Val) : ByteArray × Int := if mayV 6 T = true then if (textL T).length ≤ 4096 then (⟨(textL T).toArray⟩, 0) else (⟨#[]⟩, 2) else (⟨#[]⟩, 1)

set_option maxRecDepth 100000 in
theorem print1_t (B b V : Nat) (c0 c1 c2 c3 c4 : Value) (T : Val) (w : World) (hNG : 13 ≤ B) (hm : mayV 6 T = true) (hV : At5 w V c0 c1 c2 c3 c4) (hv : ValIn (fun k => k < B) w (.agg #[c0, c1, c2, c3, c4]) T) (hw : WrAt B b [] w) (he : TLow w) (hB : B ≤ w.heap.size) :
    Calls Tryz.prog 61 #[.pointer (some ⟨b, 0, none⟩), .pointer (some ⟨V, 0, none⟩)] w fun e w' => PutEnds B b (textL T) w e w' := by
  have S0 := Lib.hid (WrSt.start hw hB)
  have C := Lib.hid (value_w B b hNG 6 T hm _ w [] hv hw (by simp) he hB)
  rw [List.nil_append] at C
  obtain ⟨xk, xn, xs, xia, xna, xli, xic, xnn, xnc, hsh⟩ := hv.isVal.shape
  simp only [Value.agg.injEq, Array.mk.injEq, List.cons.injEq, and_true] at hsh
  obtain ⟨rfl, rfl, rfl, rfl, rfl⟩ := hsh
  obtain ⟨d0, d1, d2, d3, d4⟩ := hV.cells
  clear hm hV hv hw he hB
  go_enter Tryz.func61, Tryz.ntmps61
  go_wp2_with fail
  refine C.out.mono ?_
  intro e w2 p
  by_cases h2 : (textL T).length ≤ 4096
  · obtain ⟨rfl, s2⟩ := S0.out.call p h2
    have P := Lib.hid (s2.ends h2)
    clear p s2 h2
    go_wp2_with fail
    go_end0
    exact P.out
  · obtain ⟨h0, s3⟩ := S0.out.stops p h2 (Nat.le_refl _)
    obtain rfl : e = .panicked [{ v := .iface 24 (.int .i64 2), recovered := false }] := h0
    have P3 := Lib.hid s3
    clear p s3 h2
    go_wp2_with fail
    exact ⟨rfl, P3.out⟩

theorem wr_set {B b E : Nat} {l : List UInt8} {w : World} {k m : Int} (h : WrAt B b l w) (hE : NoAt w E k) (hne : E ≠ b) : WrAt B b l (w.setCell ⟨E, 0, none⟩ (.int .i64 m)) := by
  have go : ∀ p, Lib.BuilderAtF 98 5 B b p (Lib.byteCells l) w → Lib.BuilderAtF 98 5 B b p (Lib.byteCells l) (w.setCell ⟨E, 0, none⟩ (.int .i64 m)) := fun p hp => by
    obtain ⟨hB, v, hv, hown, hn⟩ := hp
    have hEn := Lib.ownBlock_neF hown hE (by decide)
    exact ⟨hB, v, (Below.heap_setCell _ _ _ _ (fun e => hne e.symm)).trans hv, hown.kept (row := some E) ⟨rfl, rfl, rfl, by simp [World.setCell], fun k _ hk => Below.heap_setCell _ _ _ _ (fun e => hk (by simp [e]))⟩ (Or.inr hEn), hn⟩
  exact h.elim (fun x => Or.inl (go _ x)) (fun x => Or.inr (go _ x))

theorem NoAt.others {w w' : World} {E b : Nat} {k : Int} (h : NoAt w E k) (hk : Lib.OthersKept 5 (some b) w w') (hne : E ≠ b) : NoAt w' E k :=
  hk E _ h (fun e => hne (Option.some.inj e)) (fun c fz e => by simp only [Obj.cells.injEq] at e; exact absurd e.2.1 (by decide))

structure RefusedPr (B b : Nat) (l : List UInt8) (w : World) (e : Ending) (w' : World) : Prop where
  below : Below B w w'
  is : if l.length ≤ 4096 then e = .returned (.int .i64 0) ∧ WrAt B b l w' else e = .returned (.int .i64 2)

set_option maxRecDepth 100000 in
set_option maxHeartbeats 4000000 in
theorem refused_print (B b V : Nat) (c0 c1 c2 c3 c4 : Value) (T : Val) (w : World) (hNG : 13 ≤ B) (hm : mayV 6 T = true) (hV : At5 w V c0 c1 c2 c3 c4) (hv : ValIn (fun k => k < B) w (.agg #[c0, c1, c2, c3, c4]) T) (hw : WrAt B b [] w) (he : TLow w) (hB : B ≤ w.heap.size) :
    Calls Tryz.prog 60 #[.func (.func 61) #[] #[.pointer (some ⟨b, 0, none⟩), .pointer (some ⟨V, 0, none⟩)]] w fun e w' => RefusedPr B b (textL T) w e w' := by
  have hmf : ∀ (fn : Fn) (first cap : Array Value) (w : World), (Instr.makeFunc fn first cap).run Tryz.prog w = .ok (.func fn first cap) w := fun _ _ _ _ => rfl
  have hb0 := below_new w (.cells #[.int .i64 0] 24)
  have hs0 := (WrSt.start hw hB).next hb0
  have C := Lib.hid (print1_t B b V c0 c1 c2 c3 c4 T (w.alloc (.cells #[.int .i64 0] 24)) hNG hm (hV.keep hb0) (hv.keep fun k hS hl => ⟨hb0.block k hl, hS⟩) hs0.wr (he.below hb0) hs0.low)
  have HE0 := Lib.hid (show NoAt (w.alloc (.cells #[.int .i64 0] 24)) w.heap.size 0 from heap_alloc_new w _)
  have HS0 := Lib.hid hs0
  have HBL := Lib.hid hw.lt
  have HB := Lib.hid hB
  clear hm hV hv hw he hB hb0 hs0
  go_enter_defers Tryz.func60, Tryz.ntmps60
  go_wp2_with fail
  refine C.out.mono ?_
  intro e w2 hx
  have hE2 : NoAt w2 w.heap.size 0 := HE0.out.others hx.kept (by have := HBL.out; omega)
  have HE2 := Lib.hid hE2
  have ec := hE2.cell
  have ez := hE2.frozen
  have HF := Lib.hid (show ∀ m, Below B w (w2.setCell ⟨w.heap.size, 0, none⟩ (.int .i64 m)) from fun m =>
    (HS0.out.below.trans hx.below).setCell (p := ⟨w.heap.size, 0, none⟩) HB.out _)
  have hi := hx.is
  clear hx
  by_cases hl : (textL T).length ≤ 4096
  · rw [if_pos hl] at hi
    obtain ⟨rfl, hwr⟩ := hi
    have HL := Lib.hid hl
    have HWR := Lib.hid hwr
    have e3 := (HE2.out.set 0).cell
    clear hl hE2 hwr
    go_wp2_with fail
    refine leaves_cons (f := 84) (args := #[.pointer (some ⟨w.heap.size, 0, none⟩)]) (by simp) (by simp [go_sem]) ?_
    refine (idle w.heap.size _).mono ?_
    rintro e u' w'' ⟨rfl, rfl, rfl⟩
    refine ⟨.int .i64 0, by simp [results, Tryz.results60, go_sem, e3], HF.out 0, ?_⟩
    rw [if_pos HL.out]
    exact ⟨rfl, wr_set HWR.out HE2.out (by have := HBL.out; omega)⟩
  · rw [if_neg hl] at hi
    obtain rfl : e = .panicked [{ v := .iface 24 (.int .i64 2), recovered := false }] := hi
    have HL := Lib.hid hl
    have e3 := (HE2.out.set 2).cell
    clear hl hE2
    go_wp2_with fail
    refine leaves_cons (f := 84) (args := #[.pointer (some ⟨w.heap.size, 0, none⟩)]) (by simp) (by simp [go_sem]) ?_
    refine (caught w.heap.size 2 0 [] w2 HE2.out).mono ?_
    rintro e u' w'' ⟨rfl, rfl, rfl⟩
    refine ⟨.int .i64 2, by simp [results, Tryz.results60, go_sem, e3], HF.out 2, ?_⟩
    rw [if_neg HL.out]

set_option maxRecDepth 100000 in
set_option maxHeartbeats 4000000 in
theorem Print_l (T : Val) (v : Value) (w : World) (hv : IsVal w v T) (he : TLow w) :
    Calls Tryz.prog 42 #[v] w fun e w' => e = .returned (.tuple #[.string (printOut T).1, .int .i64 (printOut T).2]) ∧ Below w.heap.size w w' := by
  obtain ⟨xk, xn, xs, xia, xna, xli, xic, xnn, xnc, rfl⟩ := hv.shape
  obtain ⟨W0, hW0⟩ : ∃ W0, w.alloc (.cells #[.int .i64 xk, .int .i64 xn, .string xs, .slice xia xli xic, .slice xna xnn xnc] 71) = W0 := ⟨_, rfl⟩
  have hb0 : Below w.heap.size w W0 := by rw [← hW0]; exact below_new _ _
  have hV0 : At5 W0 w.heap.size (.int .i64 xk) (.int .i64 xn) (.string xs) (.slice xia xli xic) (.slice xna xnn xnc) := by rw [← hW0]; exact At5.new _ _ _ _ _ _
  have R := Lib.hid (rightT_any T _ W0 (hv.keep hb0))
  have HV := Lib.hid (hv.within.keep (S' := fun k => k < W0.heap.size) fun k hS hl => ⟨hb0.block k hl, Nat.lt_of_lt_of_le hS hb0.size⟩)
  have HV0 := Lib.hid hV0
  have HB0 := Lib.hid hb0
  have HE := Lib.hid he
  have HW0 := Lib.hid hW0
  have hs0 : W0.heap.size = w.heap.size + 1 := by rw [← hW0]; simp
  have HS0 := Lib.hid hs0
  clear hv he hb0 hV0 hW0 hs0
  cases hm : mayV 6 T with
  | false =>
    rw [hm] at R
    have HO := Lib.hid (show printOut T = (⟨#[]⟩, 1) by unfold printOut; rw [hm]; rfl)
    clear hm
    go_enter Tryz.func42, Tryz.ntmps42
    go_wp2_with fail
    rw [HW0.out]
    refine R.out.mono ?_
    rintro e w1 ⟨rfl, hb1⟩
    have HB1 := Lib.hid (Below.then HB0.out hb1)
    clear hb1
    go_wp2_with fail
    go_ret2
    exact ⟨by rw [HO.out]; rfl, HB1.out⟩
  | true =>
    rw [hm] at R
    have HM := Lib.hid hm
    clear hm
    go_enter Tryz.func42, Tryz.ntmps42
    go_wp2_with fail
    rw [HW0.out]
    refine R.out.mono ?_
    rintro e w1 ⟨rfl, hb1⟩
    have hmf : ∀ (fn : Fn) (first cap : Array Value) (w : World), (Instr.makeFunc fn first cap).run Tryz.prog w = .ok (.func fn first cap) w := fun _ _ _ _ => rfl
    obtain ⟨W2, hW2⟩ : ∃ W2, w1.alloc (.cells #[.pointer none, .slice none 0 0] 98) = W2 := ⟨_, rfl⟩
    have hb2 : Below w1.heap.size w1 W2 := by rw [← hW2]; exact below_new _ _
    have hwr : WrAt w1.heap.size w1.heap.size [] W2 := by rw [← hW2]; exact Lib.IsBuilderF.of (Lib.fresh_isBuilder 98 5 w1)
    have hsz : 13 ≤ w1.heap.size := by have := HE.out.size; have := hb1.size; have := HS0.out; omega
    have C := Lib.hid (refused_print w1.heap.size w1.heap.size w.heap.size _ _ _ _ _ T W2 hsz HM.out ((HV0.out.keep hb1).keep hb2) (HV.out.keep fun k hS hl => ⟨((hb2.block k (Nat.lt_of_lt_of_le hl hb1.size)).trans (hb1.block k hl)), Nat.lt_of_lt_of_le hS hb1.size⟩) hwr ((HE.out.below (Below.then HB0.out hb1)).below hb2) hb2.size)
    have HW2 := Lib.hid hW2
    have HBW := Lib.hid (show ∀ w3, Below w1.heap.size W2 w3 → Below w.heap.size w w3 from fun w3 h => HB0.out.trans ((hb1.trans ((hb2.trans h).mono hb1.size)).mono (by have := HS0.out; omega)))
    have HSZ := Lib.hid (show w1.heap.size ≤ W2.heap.size from hb2.size)
    clear hb1 hb2 hwr hsz hW2
    go_wp2_with fail
    rw [HW2.out]
    refine C.out.mono ?_
    intro e w3 hx
    have hi := hx.is
    have HX := Lib.hid hx.below
    clear hx
    by_cases hl : (textL T).length ≤ 4096
    · rw [if_pos hl] at hi
      obtain ⟨rfl, hwr⟩ := hi
      have D := Lib.hid (string_w w1.heap.size w1.heap.size _ w3 hwr (textL_ne T 6 HM.out))
      have HO := Lib.hid (show printOut T = (⟨(textL T).toArray⟩, 0) by unfold printOut; rw [if_pos HM.out, if_pos hl])
      obtain ⟨Y, hY⟩ : ∃ Y : ByteArray, (⟨(textL T).toArray⟩ : ByteArray) = Y := ⟨_, rfl⟩
      rw [hY] at D HO
      clear hwr hl hY
      go_wp2_with fail
      refine D.out.mono ?_
      rintro e w4 ⟨rfl, hb4⟩
      have HB4 := Lib.hid (HBW.out w4 (HX.out.trans hb4))
      clear hb4
      go_wp2_with fail
      go_ret2
      exact ⟨by rw [HO.out]; rfl, HB4.out⟩
    · rw [if_neg hl] at hi
      subst hi
      have HO := Lib.hid (show printOut T = (⟨#[]⟩, 2) by unfold printOut; rw [if_pos HM.out, if_neg hl])
      clear hl
      go_wp2_with fail
      go_ret2
      exact ⟨by rw [HO.out]; rfl, HBW.out _ HX.out⟩
end Go.Proofs.YtepcaglekgeamaaGreatDoor
