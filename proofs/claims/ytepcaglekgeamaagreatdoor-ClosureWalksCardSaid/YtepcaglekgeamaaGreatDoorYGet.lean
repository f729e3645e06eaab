/-
  The program's Get: the first member of a name, if it is of a kind. Conditions: what comes in reads as a tree.
-/
import Derived.Test.YtepcaglekgeamaaGreatDoorYTxt7
import Derived.Test.YtepcaglekgeamaaGreatDoorYWrt
import Derived.Shelf.Slices.Turned
import Derived.Deep.DeepCutAuto
namespace Go.Proofs.YtepcaglekgeamaaGreatDoor
open Go.RowKit

def firstIdx : List ByteArray → ByteArray → Option Nat
  | [], _ => none
  | a :: l, x => if a = x then some 0 else (firstIdx l x).map (· + 1)

theorem firstIdx_some : ∀ (l : List ByteArray) (x : ByteArray) (k : Nat), firstIdx l x = some k → ∃ h : k < l.length, l[k] = x ∧ ∀ (j : Nat) (hj : j < k), l[j]'(by omega) ≠ x
  | [], _, _, h => by cases h
  | a :: l, x, k, h => by
    rw [firstIdx] at h
    split at h
    · rename_i e
      obtain rfl := Option.some.inj h
      exact ⟨by simp, e, fun j hj => absurd hj (Nat.not_lt_zero _)⟩
    · rename_i e
      cases hf : firstIdx l x with
      | none => rw [hf] at h; cases h
      | some m =>
        rw [hf] at h
        obtain rfl : m + 1 = k := Option.some.inj h
        obtain ⟨hm, h1, h2⟩ := firstIdx_some l x m hf
        refine ⟨by simp; omega, by simpa using h1, fun j hj => ?_⟩
        cases j with
        | zero => exact e
        | succ j => simpa using h2 j (by omega)

theorem firstIdx_none : ∀ (l : List ByteArray) (x : ByteArray), firstIdx l x = none → ∀ (j : Nat) (hj : j < l.length), l[j] ≠ x
  | [], _, _, j, hj => absurd hj (by simp)
  | a :: l, x, h, j, hj => by
    rw [firstIdx] at h
    split at h
    · cases h
    · rename_i e
      have hf : firstIdx l x = none := by cases hf : firstIdx l x with
        | none => rfl
        | some m => rw [hf] at h; cases h
      cases j with
      | zero => exact e
      | succ j => simpa using firstIdx_none l x hf j (by simpa using hj)

def getV (T : Val) (name : ByteArray) (kind : Int) : Option Val :=
  if T.kind = 4 ∧ T.names.length = T.items.length then
    match firstIdx T.names name with
    | some i => match T.items[i]? with
      | some X => if X.kind = kind then some X else none
      | none => none
    | none => none
  else none

structure GetIn (S : Nat → Prop) (T : Val) (name : ByteArray) (kind : Int) (w : World) (e : Ending) (w' : World) : Prop where
  below : Below w.heap.size w w'
  is : match getV T name kind with
    | some X => ∃ x, e = .returned (.tuple #[x, .int .i64 0]) ∧ ValIn S w' x X
    | none => e = .returned (.tuple #[noVal, .int .i64 8])

theorem index_t (x : Value) (names : List ByteArray) (name : ByteArray) (w : World) (h : StrsAt w x names) :
    Calls Tryz.prog 47 #[x, .string name] w fun e w' => e = .returned (.int .i64 (match firstIdx names name with | some k => (k : Int) | none => -1)) ∧ w' = w := by
  have hl := h.len
  unfold maxLen at hl
  rcases h with ⟨rfl, h⟩ | ⟨b, o, cap, rfl, -, -, -, hc⟩
  · obtain ⟨a, c, rfl⟩ : ∃ a c, x = .slice a 0 c := by
      rcases h with rfl | ⟨a, c, rfl, -⟩
      · exact ⟨_, _, rfl⟩
      · exact ⟨_, _, rfl⟩
    refine (Tryz.slices_Index_string_empty a c name w).mono ?_
    rintro e w' ⟨rfl, rfl⟩
    exact ⟨rfl, rfl⟩
  · refine (Tryz.slices_Index_string b o names.length cap names name w (Nat.le_refl _) (by omega) fun j hj => by
      rw [hc j hj, List.getD_eq_getElem?_getD, List.getElem?_eq_getElem hj]; rfl).mono ?_
    rintro e w' ⟨rfl, rfl⟩
    refine ⟨?_, rfl⟩
    congr 2
    have hg : ∀ (j : Nat) (hj : j < names.length), names.getD j ByteArray.empty = names[j] := fun j hj => by
      rw [List.getD_eq_getElem?_getD, List.getElem?_eq_getElem hj]; rfl
    cases hf : firstIdx names name with
    | some k =>
      obtain ⟨hk, h1, h2⟩ := firstIdx_some names name k hf
      exact Lib.idxOfS_hit names names.length k name hk (Nat.le_refl _) (by rw [hg k hk]; exact h1) fun j hj => by rw [hg j (by omega)]; exact h2 j hj
    | none =>
      exact Lib.idxOfS_miss names names.length name fun j hj => by rw [hg j hj]; exact firstIdx_none names name hf j hj

set_option maxRecDepth 100000 in
set_option maxHeartbeats 4000000 in
theorem Get_in (S : Nat → Prop) (T : Val) (v : Value) (name : ByteArray) (kind : Int) (w : World) (hv : ValIn S w v T) :
    Calls Tryz.prog 146 #[v, .string name, .int .i64 kind] w fun e w' => GetIn S T name kind w e w' := by
  cases hv with
  | mk k n s iv nv items names ev hk hn hs hN hNS hz hI hIS hsub =>
  have hNl := hN.len
  obtain ⟨na, nc, rfl, hnc⟩ := hN.shape
  obtain ⟨ia, ic, rfl, hic, hil⟩ := hI.shape
  obtain ⟨nn, hnn⟩ : ∃ x, names.length = x := ⟨_, rfl⟩
  obtain ⟨li, hli⟩ : ∃ x, items.length = x := ⟨_, rfl⟩
  rw [hnn] at hN hNl ⊢
  rw [hli] at hI hil ⊢
  unfold maxLen at hNl hil
  obtain ⟨W2, hW2⟩ : ∃ W2, (w.alloc (.cells #[.int .i64 k, .int .i64 n, .string s, .slice ia li ic, .slice na nn nc] 71)).alloc (.cells #[.int .i64 0, .int .i64 0, .string ⟨#[]⟩, .slice none 0 0, .slice none 0 0] 71) = W2 := ⟨_, rfl⟩
  have hb2 : Below w.heap.size w W2 := by rw [← hW2]; exact Below.then (below_new _ _) (below_new _ _)
  have hA : At5 W2 w.heap.size (.int .i64 k) (.int .i64 n) (.string s) (.slice ia li ic) (.slice na nn nc) := by rw [← hW2]; exact (At5.new _ _ _ _ _ _).keep (below_new _ _)
  have hZ : At5 W2 (w.heap.size + 1) (.int .i64 0) (.int .i64 0) (.string ⟨#[]⟩) (.slice none 0 0) (.slice none 0 0) := by
    rw [← hW2]
    have e := At5.new (w.alloc (.cells #[.int .i64 k, .int .i64 n, .string s, .slice ia li ic, .slice na nn nc] 71)) (.int .i64 0) (.int .i64 0) (.string ⟨#[]⟩) (.slice none 0 0) (.slice none 0 0)
    rwa [show (w.alloc (.cells #[.int .i64 k, .int .i64 n, .string s, .slice ia li ic, .slice na nn nc] 71)).heap.size = w.heap.size + 1 by simp] at e
  have IX := Lib.hid (index_t _ names name W2 (hN.keep hb2))
  have HBZ := Lib.hid (show ∀ c0 c1 c2 c3 c4, Below w.heap.size w (set5 W2 (w.heap.size + 1) 0 c0 c1 c2 c3 c4) from fun c0 c1 c2 c3 c4 => by
    obtain ⟨s1, s2, s3⟩ := set5_rest W2 (w.heap.size + 1) 0 c0 c1 c2 c3 c4
    exact ⟨s1.trans hb2.os, s2.trans hb2.tape, s3.trans hb2.output, by rw [set5_size]; exact hb2.size, fun j hj => (set5_block _ _ _ _ _ _ _ _ j (by omega)).trans (hb2.block j hj)⟩)
  have HZ := Lib.hid hZ
  have HW2 := Lib.hid hW2
  have HLI := Lib.hid hli
  have HNN := Lib.hid hnn
  obtain ⟨a0, a1, a2, a3, a4⟩ := hA.cells
  obtain ⟨z0, z1, z2, z3, z4⟩ := hZ.cells
  have f0 := hZ.frozen 0
  have f1 := hZ.frozen 1
  have f2 := hZ.frozen 2
  have f3 := hZ.frozen 3
  have f4 := hZ.frozen 4
  have HG := Lib.hid (show getV (.mk k n s items names) name kind = if k = 4 ∧ names.length = items.length then
      match firstIdx names name with
      | some i => match items[i]? with
        | some X => if X.kind = kind then some X else none
        | none => none
      | none => none
    else none from rfl)
  by_cases h4 : k = 4
  rotate_left
  · have HO := Lib.hid (show getV (.mk k n s items names) name kind = none by rw [HG.out, if_neg (fun h => h4 h.1)])
    have q1 : (k != 4) = true := bne_iff_ne.2 h4
    clear hA hZ hW2 hb2 hN hI hsub hz hk hn hs hli hnn hnc hic h4
    go_enter Tryz.func146, Tryz.ntmps146
    go_upto_region 1 with fail
    rw [HW2.out]
    go_wp2_with fail
    refine bodyPost_ret (results_two (p := 6) (u := 7) rfl _ _ (w.heap.size + 1) 71 _ (0, 0) _ rfl (set5_five0 HZ.out _ _ _ _ _) Tryz.underlying71 rfl valSize) rfl ?_
    exact ⟨HBZ.out _ _ _ _ _, by rw [HO.out]; rfl⟩
  subst h4
  by_cases hlen : nn = li
  rotate_left
  · have HO := Lib.hid (show getV (.mk 4 n s items names) name kind = none by rw [HG.out, if_neg (fun h => hlen (by rw [← hnn, ← hli]; exact h.2))])
    have q1 : ((nn : Int) != (li : Int)) = true := bne_iff_ne.2 (by omega)
    clear hA hZ hW2 hb2 hN hI hsub hz hk hn hs hli hnn hnc hic hlen
    go_enter Tryz.func146, Tryz.ntmps146
    go_upto_region 1 with fail
    rw [HW2.out]
    go_wp2_with fail
    refine bodyPost_ret (results_two (p := 6) (u := 7) rfl _ _ (w.heap.size + 1) 71 _ (0, 0) _ rfl (set5_five0 HZ.out _ _ _ _ _) Tryz.underlying71 rfl valSize) rfl ?_
    exact ⟨HBZ.out _ _ _ _ _, by rw [HO.out]; rfl⟩
  subst hlen
  cases hf : firstIdx names name with
  | none =>
    rw [hf] at IX
    have HO := Lib.hid (show getV (.mk 4 n s items names) name kind = none by rw [HG.out, if_pos ⟨rfl, by rw [hnn, hli]⟩, hf])
    clear hA hZ hW2 hb2 hN hI hsub hz hk hn hs hli hnn hnc hic hf
    go_enter Tryz.func146, Tryz.ntmps146
    go_upto_region 1 with fail
    rw [HW2.out]
    go_wp2_with fail
    refine IX.out.mono ?_
    rintro e w3 ⟨rfl, rfl⟩
    go_wp2_with fail
    refine bodyPost_ret (results_two (p := 6) (u := 7) rfl _ _ (w.heap.size + 1) 71 _ (0, 0) _ rfl (set5_five0 HZ.out _ _ _ _ _) Tryz.underlying71 rfl valSize) rfl ?_
    exact ⟨HBZ.out _ _ _ _ _, by rw [HO.out]; rfl⟩
  | some i =>
    rw [hf] at IX
    obtain ⟨hi, -, -⟩ := firstIdx_some names name i hf
    have hil2 : i < items.length := by omega
    have hi2 : i < nn := by omega
    rcases hI with ⟨h0, -⟩ | ⟨pb, po, cap, he, hpos, -, -, hcs⟩
    · omega
    simp only [Value.slice.injEq] at he
    obtain ⟨rfl, -, rfl⟩ := he
    obtain ⟨c0, c1, c2, c3, c4, hev, e0, e1, e2, e3, e4⟩ := hcs i hi2
    have hs1 := hsub i hil2
    rw [hev] at hs1
    have kc : ∀ {p : Addr} {v : Value}, w.cell? p = some v → W2.cell? p = some v := fun h => (hb2.cell (World.block_lt_of_cell? _ _ h)).trans h
    have hs2 := hs1
    obtain ⟨X, hX⟩ : ∃ X, items[i]'hil2 = X := ⟨_, rfl⟩
    rw [hX] at hs1 hs2
    cases hs1 with
    | mk yk yn ys yiv ynv yitems ynames yev hyk hyn hys hyN hyNS hyz hyI hyIS hysub =>
    obtain ⟨yna, ync, rfl, -⟩ := hyN.shape
    obtain ⟨yia, yic, rfl, -, -⟩ := hyI.shape
    obtain ⟨yli, hyli⟩ : ∃ x, yitems.length = x := ⟨_, rfl⟩
    obtain ⟨ynn, hynn⟩ : ∃ x, ynames.length = x := ⟨_, rfl⟩
    rw [hyli] at hs2 e3
    rw [hynn] at hs2 e4
    have v0 := kc e0
    have v1 := kc e1
    have v2 := kc e2
    have v3 := kc e3
    have v4 := kc e4
    have HV := Lib.hid (hs2.keep (S' := S) (w' := set5 W2 (w.heap.size + 1) 0 (.int .i64 yk) (.int .i64 yn) (.string ys) (.slice yia yli yic) (.slice yna ynn ync)) fun j hS hl => ⟨(set5_block _ _ _ _ _ _ _ _ j (by omega)).trans (hb2.block j hl), hS⟩)
    have HGI := Lib.hid (show getV (.mk 4 n s items names) name kind = if yk = kind then some (.mk yk yn ys yitems ynames) else none by
      rw [HG.out, if_pos ⟨rfl, by rw [hnn, hli]⟩, hf]
      simp only
      rw [List.getElem?_eq_getElem hil2, hX]
      rfl)
    clear hA hZ hW2 hb2 hN hsub hz hk hn hs hli hnn hnc hic hf hcs e0 e1 e2 e3 e4 hev hs2 kc hX hyk hyn hys hyN hyNS hyz hyI hyIS hysub hyli hynn
    have u0 : W2.cell? ⟨pb, po + i * 5 + 0, none⟩ = some (.int .i64 yk) := v0
    by_cases hkk : yk = kind
    · have q1 : (yk != kind) = false := by rw [bne, beq_iff_eq.2 hkk]; rfl
      have HO := Lib.hid (show getV (.mk 4 n s items names) name kind = some (.mk yk yn ys yitems ynames) by rw [HGI.out, if_pos hkk])
      clear hkk
      go_enter Tryz.func146, Tryz.ntmps146
      go_upto_region 1 with fail
      rw [HW2.out]
      go_wp2_with fail
      refine IX.out.mono ?_
      rintro e w3 ⟨rfl, rfl⟩
      go_wp2_with fail
      refine bodyPost_ret (results_two (p := 6) (u := 7) rfl _ _ (w.heap.size + 1) 71 _ (0, 0) _ rfl (set5_five0 HZ.out _ _ _ _ _) Tryz.underlying71 rfl valSize) rfl ?_
      refine ⟨HBZ.out _ _ _ _ _, ?_⟩
      rw [HO.out]
      exact ⟨_, rfl, HV.out⟩
    · have q1 : (yk != kind) = true := bne_iff_ne.2 hkk
      have HO := Lib.hid (show getV (.mk 4 n s items names) name kind = none by rw [HGI.out, if_neg hkk])
      clear hkk
      go_enter Tryz.func146, Tryz.ntmps146
      go_upto_region 1 with fail
      rw [HW2.out]
      go_wp2_with fail
      refine IX.out.mono ?_
      rintro e w3 ⟨rfl, rfl⟩
      go_wp2_with fail
      refine bodyPost_ret (results_two (p := 6) (u := 7) rfl _ _ (w.heap.size + 1) 71 _ (0, 0) _ rfl (set5_five0 HZ.out _ _ _ _ _) Tryz.underlying71 rfl valSize) rfl ?_
      exact ⟨HBZ.out _ _ _ _ _, by rw [HO.out]; rfl⟩
end Go.Proofs.YtepcaglekgeamaaGreatDoor
