/-
  A pattern taken apart; is a text one of a pattern: by contracts. Conditions: none but sizes.
-/
import Derived.Test.YtjohjmoggldfcaaDoorGlobFirst
import Derived.Deep.AppendLies
namespace Go.Proofs.YtjohjmoggldfcaaDoor
open Go.RowKit

theorem grownBy_of_below {w w' : World} (h : Below w.heap.size w w') : w.grownBy w' none := ⟨h.os, h.tape, h.output, h.size, fun k hk _ => h.block k hk⟩
theorem firstF_suffix (p : List UInt8) : (firstF p).2 <:+ p := by
  unfold firstF
  split
  · split
    · exact List.drop_suffix _ _
    · exact List.drop_suffix _ _
  · split
    · exact List.drop_suffix _ _
    · split
      · exact ((List.drop_suffix _ _).trans (List.dropWhile_suffix _)).trans (List.drop_suffix _ _)
      · exact List.dropWhile_suffix _
/-- A piece's words, if any, lie in a block that is there, and is not that one. -/
def PcFar (w : World) (o : Option Nat) (v : Value) : Prop := ∀ T b off n c, v = .iface T (.slice (some ⟨b, off, none⟩) n c) → b < w.heap.size ∧ some b ≠ o
theorem PcV.grown {w w' : World} {v : Value} {x : Pc} {o : Option Nat} (h : PcV w v x) (hf : PcFar w o v) (hg : w.grownBy w' o) : PcV w' v x := by
  cases x with
  | deep => exact h
  | flat => exact h
  | one => exact h
  | words l =>
    obtain ⟨u, rfl, b, off, cap, rfl, h2, h3⟩ := h
    obtain ⟨k1, k2⟩ := hf _ _ _ _ _ rfl
    exact ⟨_, rfl, b, off, cap, rfl, h2, fun i hi => (hg.cell_far ⟨b, off + i, none⟩ k1 k2).trans (h3 i hi)⟩
  | plain t => exact h
/-- The values xs are the pieces ps, apart from a block. -/
def PcsAre (w : World) (o : Option Nat) (xs : List Value) (ps : List Pc) : Prop :=
  xs.length = ps.length ∧ ∀ i (h : i < xs.length) (h' : i < ps.length), PcV w xs[i] ps[i] ∧ PcFar w o xs[i]
theorem PcsAre.keep {w w' : World} {o : Option Nat} {xs : List Value} {ps : List Pc} (h : PcsAre w o xs ps) (hb : Below w.heap.size w w') : PcsAre w' o xs ps :=
  ⟨h.1, fun i h1 h2 => ⟨(h.2 i h1 h2).1.keep hb, fun T b off n c e => ⟨by have := ((h.2 i h1 h2).2 T b off n c e).1; have := hb.size; omega, ((h.2 i h1 h2).2 T b off n c e).2⟩⟩⟩
theorem PcsAre.push {w w' : World} {o : Option Nat} {xs : List Value} {ps : List Pc} {u : Value} {x : Pc} {g : Nat} (h : PcsAre w o xs ps) (hu : PcV w u x) (hf : PcFar w o u) (hg : w.grownBy w' o) (hgg : o = some g ∨ g = w.heap.size) : PcsAre w' (some g) (xs ++ [u]) (ps ++ [x]) := by
  have far : ∀ v, PcFar w o v → PcFar w' (some g) v := fun v hv T b off n c e => by
    obtain ⟨k1, k2⟩ := hv T b off n c e
    refine ⟨by have := hg.size; omega, ?_⟩
    rcases hgg with rfl | rfl
    · exact k2
    · intro e2; rw [Option.some.injEq] at e2; omega
  refine ⟨by rw [List.length_append, List.length_append, h.1]; rfl, fun i h1 h2 => ?_⟩
  by_cases hi : i < xs.length
  · have hi2 : i < ps.length := by rw [← h.1]; exact hi
    rw [List.getElem_append_left hi, List.getElem_append_left hi2]
    exact ⟨(h.2 i hi hi2).1.grown (h.2 i hi hi2).2 hg, far _ (h.2 i hi hi2).2⟩
  · have e : i = xs.length := by rw [List.length_append, List.length_singleton] at h1; omega
    have e2 : i = ps.length := by rw [e, h.1]
    have x1 : (xs ++ [u])[i] = u := by rw [List.getElem_append_right (by omega)]; simp [e]
    have x2 : (ps ++ [x])[i] = x := by rw [List.getElem_append_right (by omega)]; simp [e2]
    rw [x1, x2]
    exact ⟨hu.grown hf hg, far _ hf⟩

theorem infoPiece : (Tryd.prog.info? 58).map (fun i => (i.zero, i.size, i.bytes)) = some (some .nilIface, 1, 16) := by kernel_rfl
def strSize : Value → Nat | .string x => x.size | _ => 0
theorem addr0_addG (g j : Nat) : (⟨g, 0, none⟩ : Addr).add j = ⟨g, j, none⟩ := by unfold Addr.add; split <;> simp_all

set_option maxRecDepth 100000 in
set_option maxHeartbeats 4000000 in
theorem cut_any (p : ByteArray) (w : World) (h0 : 0 < p.size) (hs : p.size ≤ 128) (hasc : ∀ b ∈ p.data.toList, b.toNat < 128) (hM : SomeMax w) :
    Calls Tryd.prog 18 #[.string p] w fun e w' => ∃ v, e = .returned v ∧ PcRow w' v (cutL p.data.toList) ∧ Below w.heap.size w w' := by
  obtain ⟨i0, hi, hz0, hz1, hz2⟩ := info_parts infoPiece
  have HM := Lib.hid hM
  have HASC := Lib.hid hasc
  clear hM hasc
  go_enter Tryd.func18, Tryd.ntmps18
  go_wp2_with fail
  go_loopw [0, 3] (fun pv sv wr => ∃ (q : ByteArray) (done : List Pc) (xs : List Value) (n : Nat), pv = .string q ∧ (∃ a c, sv = .slice a n c) ∧ n + q.size ≤ 128 ∧ (∀ b ∈ q.data.toList, b.toNat < 128) ∧ done ++ cutL q.data.toList = cutL p.data.toList ∧ done.length = n ∧ wr.ownsRow w.heap.size 58 1 sv n xs ∧ PcsAre wr sv.ownBlock xs done ∧ Below w.heap.size w wr) (fun pv _ _ => strSize pv)
  case atStart => exact ⟨p, [], [], 0, rfl, ⟨_, _, rfl⟩, by omega, HASC.out, rfl, rfl, World.ownsRow_nil _ _ _ _, ⟨rfl, fun i h => absurd h (by simp)⟩, Below.refl _ _⟩
  case round =>
    obtain ⟨q, done, xs, n, rfl, ⟨a, c, rfl⟩, hnq, hasc, hcut, hdn, ho, hps, hb⟩ := hrel
    have HA := Lib.hid hasc
    have HC := Lib.hid hcut
    have HD := Lib.hid hdn
    have HP := Lib.hid hps
    have HB := Lib.hid hb
    have HO := Lib.hid ho
    clear hasc hcut hdn hps
    by_cases hq : 0 < q.size
    · have hne : q.data.toList ≠ [] := by intro e; rw [size_listB, e] at hq; simp at hq
      have x1 : (q.toList == []) = false := by
        rw [Lib.toList_data]
        cases hx : q.data.toList with
        | nil => exact absurd hx hne
        | cons _ _ => rfl
      have x2 : q.toList.isEmpty = false := by
        rw [Lib.toList_data]
        cases hx : q.data.toList with
        | nil => exact absurd hx hne
        | cons _ _ => rfl
      have hlt := firstF_lt q.data.toList hne
      have hcc := cutL_cons q.data.toList hne
      have hsf := firstF_suffix q.data.toList
      have F := Lib.hid (first_any q wr hq (by omega) HA.out (HM.out.keep hb))
      have HNE := Lib.hid hne
      have HCC := Lib.hid hcc
      have HSF := Lib.hid hsf
      have HLT := Lib.hid hlt
      clear hne hcc hsf hlt ho hb
      go_wp2_with fail
      refine F.out.mono ?_
      rintro e w1 ⟨u, r, rfl, hu, hr, hb1, hfar⟩
      have ho1 : w1.ownsRow w.heap.size 58 1 (.slice a n c) n xs := HO.out.kept (grownBy_of_below hb1) (by cases (Value.slice a n c).ownBlock <;> simp)
      have hbb1 := HB.out.trans (hb1.mono HB.out.size)
      have hbs1 := hbb1.size
      have HU := Lib.hid hu
      have HR := Lib.hid hr
      have hrs : r.size < q.size := by
        have := HLT.out
        rw [← hr] at this
        rw [size_listB, size_listB]; exact this
      have HF := Lib.hid (show PcFar w1 (Value.slice a n c).ownBlock u from fun T b off m c' e => by
        obtain ⟨k1, k2⟩ := hfar T b off m c' e
        refine ⟨k2, fun e2 => ?_⟩
        have := (HO.out.lt b e2.symm).2
        omega)
      have HP1 := Lib.hid (HP.out.keep hb1)
      have HX := Lib.hid (show ∃ T z, u = .iface T z from by
        cases hx : (firstF q.data.toList).1 with
        | deep => rw [hx] at hu; exact ⟨_, _, hu⟩
        | flat => rw [hx] at hu; exact ⟨_, _, hu⟩
        | one => rw [hx] at hu; exact ⟨_, _, hu⟩
        | words l => rw [hx] at hu; obtain ⟨z, h, _⟩ := hu; exact ⟨_, _, h⟩
        | plain t => rw [hx] at hu; exact ⟨_, _, hu⟩)
      have HB1 := Lib.hid hbb1
      clear hu hr hfar hb1
      obtain ⟨T0, z0, rfl⟩ := HX.out
      clear HX
      go_wp2_with (at_builtin; refine wpList_append_lies _ rfl _ _ 38 rfl w.heap.size 58 i0 .nilIface 1 16 Tryd.underlying38 hi hz0 hz1 hz2 rfl (by decide) _ n xs rfl (ho1.alloc _) ⟨w1.heap.size, 0, none⟩ 1 1 [.iface T0 z0] rfl rfl ?c1 ?c2 ?c3 ?c4 ?c5 ?c6 (w1.alloc (.cells #[.iface T0 z0] 58)).heap.size rfl ?_)
      case c1 =>
        intro i v hi'
        match i, hi' with
        | 0, hi' => simp at hi'; subst hi'; rw [addr0_addG, World.cell?_alloc_at _ _ _ _ rfl]; rfl
        | i + 1, hi' => simp at hi'
      case c2 => intro v hv; simp at hv; subst hv; rfl
      case c3 => decide
      case c4 => unfold maxLen; omega
      case c5 => omega
      case c6 => simp; omega
      intro g cap w3 hown3 hgrow3 hg3 hlt3
      have HOWN := Lib.hid hown3
      have hbb3 : Below w.heap.size w w3 := (hbb1.alloc hbs1 _).grown hgrow3 (by simp; omega) (fun k hk => (ho1.lt k hk).1)
      have HB3 := Lib.hid hbb3
      have b4 : Below w1.heap.size w1 (w1.alloc (.cells #[.iface T0 z0] 58)) := (Below.refl _ _).alloc (Nat.le_refl _) _
      have HPP := Lib.hid ((HP1.out.keep b4).push (HU.out.keep b4) (fun T b off m c' e => ⟨by have := (HF.out T b off m c' e).1; rw [World.size_alloc]; omega, (HF.out T b off m c' e).2⟩) hgrow3 (by rw [World.size_alloc]; exact hg3))
      clear hown3 hgrow3 hg3 hlt3 hbb3 b4 ho1 hbb1 hbs1
      go_wp2_with fail
      go_roundw
      case rel =>
        refine ⟨r, done ++ [(firstF q.data.toList).1], xs ++ [Value.iface T0 z0], n + 1, rfl, ⟨_, _, rfl⟩, by omega, fun b hb => HA.out b (HSF.out.subset (by rw [← HR.out]; exact hb)), ?_, by rw [List.length_append, HD.out]; rfl, HOWN.out, (show PcsAre w3 (Value.slice (some ⟨g, 0, none⟩) (n + 1) cap).ownBlock _ _ from HPP.out), HB3.out⟩
        rw [HR.out, ← HC.out, HCC.out, List.append_assoc]; rfl
      case measure => simpa [strSize] using hrs
    · have hq0 : q.data.toList = [] := List.length_eq_zero_iff.1 (by rw [← size_listB]; omega)
      obtain rfl : q = ⟨#[]⟩ := ext_list hq0
      have hdone : done = cutL p.data.toList := by rw [← HC.out, hq0, cutL_nil, List.append_nil]
      have hn0 : 0 < n := by
        rw [← HD.out, hdone, cutL_cons p.data.toList (by intro e; rw [size_listB, e] at h0; simp at h0)]
        exact Nat.zero_lt_succ _
      obtain ⟨g, cap, hform, -, -⟩ := ho.form hn0
      have HR := Lib.hid (show PcRow wr (.slice a n c) (cutL p.data.toList) from by
        rw [hform]
        refine ⟨g, 0, cap, by rw [← hdone, HD.out], by rw [← hdone, HD.out]; omega, fun i hi => ?_⟩
        have hi2 : i < done.length := by rw [hdone]; exact hi
        have hi3 : i < xs.length := by rw [HP.out.1]; exact hi2
        refine ⟨xs[i], ?_, ?_⟩
        · have := ho.cells (g := g) (by rw [hform]; rfl) i xs[i] (List.getElem?_eq_getElem hi3)
          rw [addr0_addG] at this
          rw [Nat.zero_add]; exact this
        · have := (HP.out.2 i hi3 hi2).1
          have e : done[i] = (cutL p.data.toList)[i] := by simp only [hdone]
          rw [← e]; exact this)
      clear hq0 hdone ho hb hform HP HC HA HD HO hq
      go_wp2_with fail
      go_ret
      exact ⟨_, rfl, HR.out, HB.out⟩
end Go.Proofs.YtjohjmoggldfcaaDoor
