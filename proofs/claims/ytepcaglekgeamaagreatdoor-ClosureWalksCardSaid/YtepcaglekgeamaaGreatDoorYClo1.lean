/-
  Objects in memory: rows of pairs of words; what comes in reads as one. Conditions: none.
  The program's Find, by contracts: which object is the first of a digest, whether its data fit. Conditions: the package-level variables as MLow says; objects as ObjsFew says.
  The program's walker asks for a manifest: the closure's find, manifest, by contracts. Conditions: the package-level variables as MEnv says; objects as ObjsFew says.
-/
import Derived.Test.YtepcaglekgeamaaGreatDoorYManR
import Derived.Test.YtepcaglekgeamaaGreatDoorYCloP
import Derived.Test.YtepcaglekgeamaaGreatDoorYMan0
import Derived.Test.YtepcaglekgeamaaGreatDoorYMan1
import Derived.Test.YtepcaglekgeamaaGreatDoorYMan5
namespace Go.Proofs.YtepcaglekgeamaaGreatDoor
open Go.ChangeShapes Go.WideShapes Go.RowKit Go.Deep

def objCell (o : Obj) : Value × Value := (.string o.1, .string o.2)

theorem obj_getElem (l : List Obj) (k : Nat) (h : k < l.length) : (l.map objCell)[k]'(by rw [List.length_map]; exact h) = (.string l[k].1, .string l[k].2) := by
  rw [List.getElem_map]; rfl

structure ObjsFew (l : List Obj) : Prop where
  len : l.length ≤ 1048576
  size : ∀ o ∈ l, o.1.size ≤ 1048576 ∧ o.2.size ≤ 1048576

structure ObjsAt (w : World) (v : Value) (l : List Obj) : Prop where
  is : PairsAt w v (l.map objCell)
  size : ∀ o ∈ l, o.1.size ≤ maxLen ∧ o.2.size ≤ maxLen

theorem ObjsAt.keep {w w' : World} {v : Value} {l : List Obj} (h : ObjsAt w v l) (hb : Below w.heap.size w w') : ObjsAt w' v l := ⟨h.is.keep hb, h.size⟩

theorem ObjsAt.shape {w : World} {v : Value} {l : List Obj} (h : ObjsAt w v l) : ∃ a cap, v = .slice a l.length cap ∧ l.length ≤ cap ∧ cap ≤ maxLen := by
  have h1 := h.is.cap
  rwa [List.length_map] at h1

theorem ObjsAt.cells {w : World} {a : Option Addr} {n cap : Nat} {l : List Obj} (h : ObjsAt w (.slice a n cap) l) (k : Nat) (hk : k < l.length) : ∃ b o, a = some ⟨b, o, none⟩ ∧ w.cell? ⟨b, o + k * 2, none⟩ = some (.string l[k].1) ∧ w.cell? ⟨b, o + k * 2 + 1, none⟩ = some (.string l[k].2) := by
  rcases h.is with ⟨h0, -⟩ | ⟨b, o, c, e, -, -, -, hc⟩
  · rw [List.map_eq_nil_iff] at h0; rw [h0] at hk; simp at hk
  · simp only [Value.slice.injEq] at e
    have h2 := hc k (by rw [List.length_map]; exact hk)
    rw [obj_getElem l k hk] at h2
    exact ⟨b, o, e.1, h2⟩

theorem objFields : ∃ f0 f1 : Field, Tryz.prog.underlying 40 = some (.struct #[f0, f1]) ∧ f0.type = 9 ∧ f1.type = 9 ∧ oneCellFields Tryz.prog #[f0, f1] = true :=
  ⟨_, _, Tryz.underlying40, rfl, rfl, by kernel_rfl⟩

theorem objCells : Tryz.prog.cellsOf 40 = 2 := by kernel_rfl

theorem objInfo : (Tryz.prog.info? 40).map (fun i => (i.zero, i.size, i.bytes)) = some (some (.agg #[.string ⟨#[]⟩, .string ⟨#[]⟩]), 2, 32) := by kernel_rfl

theorem objs_read {H : Type} {enc : TypeId × Value → H} {W : World} {fuel : Nat} {v : Value} {x : DataW H × List MemPlace}
    (h : DataW.trod enc Tryz.prog W 0 (fun _ => true) true fuel 22 [v] = some x) : ∃ l : List Obj, ObjsAt W v l := by
  obtain ⟨f0, f1, hu, t0, t1, hone⟩ := objFields
  obtain ⟨o0, k0⟩ := hone_of hone 0 f0 rfl
  obtain ⟨o1, k1⟩ := hone_of hone 1 f1 rfl
  rcases slice_cells Tryz.underlying22 objCells (by decide) h with h | ⟨b, o, len, cap, rfl, h1, h2, h3, h4⟩
  · exact ⟨[], Or.inl ⟨rfl, h⟩, by simp⟩
  · obtain ⟨l, hl, hp⟩ := exists_list (P := fun i (x : Obj) => W.cell? ⟨b, o + i * 2, none⟩ = some (.string x.1) ∧ W.cell? ⟨b, o + i * 2 + 1, none⟩ = some (.string x.2) ∧ x.1.size ≤ maxLen ∧ x.2.size ≤ maxLen) len fun i hi => by
      obtain ⟨cs, n', y, -, hcl, hca, hr⟩ := h4 i hi
      obtain ⟨c0, c1, rfl⟩ : ∃ c0 c1, cs = [c0, c1] := by
        match cs, hcl with
        | [a, b], _ => exact ⟨a, b, rfl⟩
      obtain ⟨xs, n, -, -, -, hxl, hg⟩ := DataW.trod_struct hu hr
      have g0 := hg 0 f0 rfl
      have g1 := hg 1 f1 rfl
      obtain ⟨y0, y1, rfl⟩ : ∃ y0 y1, xs = [y0, y1] := by
        match xs, (show xs.length = 2 from hxl) with
        | [a, b], _ => exact ⟨a, b, rfl⟩
      rw [o0, k0, t0] at g0
      rw [o1, k1, t1] at g1
      have g0 : DataW.trod enc Tryz.prog W 0 (fun _ => true) true n 9 [c0] = some y0 := g0
      have g1 : DataW.trod enc Tryz.prog W 0 (fun _ => true) true n 9 [c1] = some y1 := g1
      obtain ⟨s, e0, -, hs⟩ := DataW.trod_string Tryz.underlying9 g0
      obtain ⟨r, e1, -, hz⟩ := DataW.trod_string Tryz.underlying9 g1
      obtain rfl : c0 = .string s := by simpa using e0
      obtain rfl : c1 = .string r := by simpa using e1
      exact ⟨(s, r), hca 0 (by decide), hca 1 (by decide), hs, hz⟩
    refine ⟨l, Or.inr ⟨b, o, cap, by rw [List.length_map, hl], by rw [List.length_map]; omega, by rw [List.length_map]; omega, h3, fun i hi => ?_⟩, fun x hx => ?_⟩
    · rw [List.length_map] at hi
      rw [List.getElem_map]
      exact ⟨(hp i hi).1, (hp i hi).2.1⟩
    · obtain ⟨i, hi, rfl⟩ := List.getElem_of_mem hx
      exact (hp i hi).2.2

set_option maxRecDepth 100000 in
/-- Objects that came in. -/
theorem open_objs {H : Type} {enc : TypeId × Value → H} {W : World} {b0 : Nat} {v : Value} {d : DataW H} {p : List MemPlace}
    (hval : Value.okWide Tryz.prog W .any b0 22 v) (hj : DataW.Trod enc Tryz.prog W 0 (fun _ => true) true 22 v d p) : ∃ l, ObjsAt W v l := by
  obtain ⟨a0, len, cap, rfl⟩ := okWide_slice Tryz.underlying22 hval
  obtain ⟨fuel, hf⟩ := hj
  exact objs_read hf
end Go.Proofs.YtepcaglekgeamaaGreatDoor
namespace Go.Proofs.YtepcaglekgeamaaGreatDoor
open Go.RowKit

theorem findO_at : ∀ (l : List Obj) (d : ByteArray) (k : Nat) (h : k < l.length), l[k].1 = d → (∀ j (hj : j < l.length), j < k → l[j].1 ≠ d) → findO l d = if fitsD l[k].1 l[k].2 = 0 then (l[k].2, 0) else (⟨#[]⟩, 10)
  | o :: l, d, 0, _, e, _ => by
    rw [findO, if_pos (show o.1 = d from e)]
    rfl
  | o :: l, d, k + 1, h, e, hn => by
    rw [findO, if_neg (show ¬ o.1 = d from hn 0 (by simp) (by simp)), findO_at l d k (by simpa using h) e fun j hj hk => hn (j + 1) (by simpa using hj) (by omega)]
    rfl

set_option maxRecDepth 100000 in
theorem find1_t (a b d : ByteArray) (D : Nat) (w : World) (hD : w.cell? ⟨D, 0, none⟩ = some (.string d)) :
    Calls Tryz.prog 14 #[.agg #[.string a, .string b], .pointer (some ⟨D, 0, none⟩)] w fun e w' => e = .returned (.bool (decide (a = d))) ∧ Below w.heap.size w w' := by
  obtain ⟨W, hW⟩ : ∃ W, w.alloc (.cells #[.string a, .string b] 40) = W := ⟨_, rfl⟩
  have hb0 : Below w.heap.size w W := by rw [← hW]; exact below_new _ _
  obtain ⟨a0, a1⟩ := At2.cells (show At2 40 W w.heap.size (.string a) (.string b) by rw [← hW]; exact At2.new _ _ _ _)
  have hd := (hb0.cell (World.block_lt_of_cell? _ _ hD)).trans hD
  have HW := Lib.hid hW
  have HB := Lib.hid hb0
  have HO := Lib.hid (toList_beq a d)
  clear hW hb0 hD
  go_enter Tryz.func14, Tryz.ntmps14
  go_upto_region 1 with fail
  rw [HW.out]
  go_wp2_with fail
  go_ret
  exact ⟨by rw [← HO.out]; rfl, HB.out⟩

def IdxEnds (l : List Obj) (d : ByteArray) (w : World) (e : Ending) (w' : World) : Prop :=
  Below w.heap.size w w' ∧ ((∃ (k : Nat) (h : k < l.length), e = .returned (.int .i64 k) ∧ l[k].1 = d ∧ ∀ j (hj : j < l.length), j < k → l[j].1 ≠ d) ∨ (e = .returned (.int .i64 (-1)) ∧ ∀ o ∈ l, o.1 ≠ d))

set_option maxRecDepth 100000 in
set_option maxHeartbeats 2000000 in
theorem objIdx_t (v : Value) (l : List Obj) (d : ByteArray) (D : Nat) (w : World) (hv : ObjsAt w v l) (hD : w.cell? ⟨D, 0, none⟩ = some (.string d)) :
    Calls Tryz.prog 13 #[v, .func (.func 14) #[] #[.pointer (some ⟨D, 0, none⟩)]] w (IdxEnds l d w) := by
  obtain ⟨a, cap, rfl, -, hcap⟩ := hv.shape
  have hl : l.length ≤ maxLen := by have := hv.is.shape; rw [List.length_map] at this; obtain ⟨_, _, e, _, h⟩ := this; exact h
  unfold maxLen at hl
  obtain ⟨n, hn⟩ : ∃ n, l.length = n := ⟨_, rfl⟩
  have HP := Lib.hid hv
  rw [hn] at hl HP ⊢
  have HN := Lib.hid hn
  have F := Lib.hid (fun a b w' (h : Below w.heap.size w w') => find1_t a b d D w' ((h.cell (World.block_lt_of_cell? _ _ hD)).trans hD))
  clear hv hn hD
  go_enter Tryz.func13, Tryz.ntmps13
  go_wp2_with fail
  go_loopw [8] (fun iv wr => ∃ k : Nat, k ≤ n ∧ iv = .int .i64 k ∧ (∀ j (hj : j < l.length), j < k → l[j].1 ≠ d) ∧ Below w.heap.size w wr) (fun i _ => n - (intOf i).toNat)
  case atStart => exact ⟨0, Nat.zero_le _, rfl, fun j _ h => absurd h (Nat.not_lt_zero j), Below.refl _ _⟩
  case round =>
    obtain ⟨k, hk, rfl, hno, hb⟩ := hrel
    have HNO := Lib.hid hno
    have HB := Lib.hid hb
    by_cases hlt : k < n
    · have h1 : k < l.length := by rw [HN.out]; exact hlt
      obtain ⟨lb, lo, rfl, e0, e1⟩ := HP.out.cells k h1
      have v0 := (hb.cell (World.block_lt_of_cell? _ _ e0)).trans e0
      have v1 := (hb.cell (World.block_lt_of_cell? _ _ e1)).trans e1
      obtain ⟨⟨x, y⟩, hx⟩ : ∃ x, l[k] = x := ⟨_, rfl⟩
      rw [hx] at v0 v1
      have C := Lib.hid (F.out x y wr hb)
      have HX := Lib.hid (show l[k].1 = x by rw [hx])
      clear hno hb e0 e1 hx
      by_cases hxd : x = d
      · rw [decide_eq_true hxd] at C
        have HE := Lib.hid (show ∀ w', Below w.heap.size w w' → IdxEnds l d w (.returned (.int .i64 k)) w' from fun w' h => ⟨h, Or.inl ⟨k, h1, rfl, HX.out.trans hxd, HNO.out⟩⟩)
        clear hxd
        rcases Nat.eq_zero_or_pos k with rfl | hk0
        · have v0' : wr.cell? ⟨lb, lo, none⟩ = some (.string x) := by simpa using v0
          have v1' : wr.cell? ⟨lb, lo + 1, none⟩ = some (.string y) := by simpa using v1
          go_wp2_with (go_at_call 14; refine C.out.mono ?_; rintro e w2 ⟨rfl, hb2⟩; have HB2 := Lib.hid (Below.then HB.out hb2); clear hb2)
          go_ret
          exact HE.out _ HB2.out
        · go_wp2_with (go_at_call 14; refine C.out.mono ?_; rintro e w2 ⟨rfl, hb2⟩; have HB2 := Lib.hid (Below.then HB.out hb2); clear hb2)
          go_ret
          exact HE.out _ HB2.out
      · rw [decide_eq_false hxd] at C
        have HNN := Lib.hid (show ∀ j (hj : j < l.length), j < k + 1 → l[j].1 ≠ d from fun j hj h => by
          rcases Nat.lt_succ_iff_lt_or_eq.1 h with h | rfl
          · exact HNO.out j hj h
          · rw [HX.out]; exact hxd)
        clear hxd
        rcases Nat.eq_zero_or_pos k with rfl | hk0
        · have v0' : wr.cell? ⟨lb, lo, none⟩ = some (.string x) := by simpa using v0
          have v1' : wr.cell? ⟨lb, lo + 1, none⟩ = some (.string y) := by simpa using v1
          go_wp2_with (go_at_call 14; refine C.out.mono ?_; rintro e w2 ⟨rfl, hb2⟩; have HB2 := Lib.hid (Below.then HB.out hb2); clear hb2)
          go_roundw
          case rel => exact ⟨1, by omega, by go_num, HNN.out, HB2.out⟩
          case measure => simp [intOf]; omega
        · go_wp2_with (go_at_call 14; refine C.out.mono ?_; rintro e w2 ⟨rfl, hb2⟩; have HB2 := Lib.hid (Below.then HB.out hb2); clear hb2)
          go_roundw
          case rel => exact ⟨k + 1, by omega, by go_num, HNN.out, HB2.out⟩
          case measure => simp [intOf]; omega
    · have HE := Lib.hid (show IdxEnds l d w (.returned (.int .i64 (-1))) wr from ⟨hb, Or.inr ⟨rfl, fun o ho => by
        obtain ⟨j, hj, rfl⟩ := List.getElem_of_mem ho
        exact hno j hj (by have := HN.out; omega)⟩⟩)
      clear hno hb
      go_wp2_with fail
      go_ret
      exact HE.out

def dataO (a b : ByteArray) : ByteArray × Int := if fitsD a b = 0 then (b, 0) else (⟨#[]⟩, 10)

set_option maxRecDepth 100000 in
set_option maxHeartbeats 1000000 in
theorem data_t (a b : ByteArray) (w : World) (he : MLow w) (ha : a.size ≤ 1048576) (hb : b.size ≤ 1048576) :
    Calls Tryz.prog 15 #[.agg #[.string a, .string b]] w fun e w' => e = .returned (.tuple #[.string (dataO a b).1, .int .i64 (dataO a b).2]) ∧ Below w.heap.size w w' := by
  obtain ⟨W, hW⟩ : ∃ W, w.alloc (.cells #[.string a, .string b] 40) = W := ⟨_, rfl⟩
  have hb0 : Below w.heap.size w W := by rw [← hW]; exact below_new _ _
  have hA : At2 40 W w.heap.size (.string a) (.string b) := by rw [← hW]; exact At2.new _ _ _ _
  obtain ⟨a0, a1⟩ := hA.cells
  have he2 := he.below hb0
  obtain ⟨aD, aS, aZ, hd⟩ := he2.d
  have F := Lib.hid (fits_any aD aS aZ a b W hd he2.tabs (by omega) (by omega))
  have HW := Lib.hid hW
  have HB := Lib.hid hb0
  have HA := Lib.hid hA
  obtain ⟨k, hk⟩ : ∃ k, fitsD a b = k := ⟨_, rfl⟩
  rw [hk] at F
  have HK := Lib.hid (show dataO a b = if k = 0 then (b, 0) else (⟨#[]⟩, 10) by unfold dataO; rw [hk])
  clear hW hb0 hA he he2 hd hk
  by_cases h0 : k = 0
  · subst h0
    have HO := Lib.hid (show dataO a b = (b, 0) from HK.out)
    go_enter Tryz.func15, Tryz.ntmps15
    go_upto_region 1 with fail
    rw [HW.out]
    go_wp2_with (go_at_call 27; refine F.out.mono ?_; rintro e w2 ⟨rfl, hb2⟩; have HB2 := Lib.hid (Below.then HB.out hb2); obtain ⟨b0, b1⟩ := (HA.out.keep hb2).cells; clear hb2 a0 a1)
    go_ret2
    exact ⟨by rw [HO.out]; rfl, HB2.out⟩
  · have q : (k != 0) = true := bne_iff_ne.2 h0
    have HO := Lib.hid (show dataO a b = (⟨#[]⟩, 10) by rw [HK.out, if_neg h0])
    clear h0
    go_enter Tryz.func15, Tryz.ntmps15
    go_upto_region 1 with fail
    rw [HW.out]
    go_wp2_with (go_at_call 27; refine F.out.mono ?_; rintro e w2 ⟨rfl, hb2⟩; have HB2 := Lib.hid (Below.then HB.out hb2); obtain ⟨b0, b1⟩ := (HA.out.keep hb2).cells; clear hb2 a0 a1)
    go_ret2
    exact ⟨by rw [HO.out]; rfl, HB2.out⟩

theorem findO_size (l : List Obj) (d : ByteArray) (n : Nat) (h : ∀ o ∈ l, o.2.size ≤ n) : (findO l d).1.size ≤ n := by
  induction l with
  | nil => exact Nat.zero_le _
  | cons o l ih =>
    rw [findO]
    split
    · split
      · exact h o (List.mem_cons_self ..)
      · exact Nat.zero_le _
    · exact ih fun o ho => h o (List.mem_cons_of_mem _ ho)

set_option maxRecDepth 100000 in
set_option maxHeartbeats 2000000 in
theorem find_t (v : Value) (l : List Obj) (d : ByteArray) (w : World) (he : MLow w) (hv : ObjsAt w v l) (hf : ObjsFew l) :
    Calls Tryz.prog 5 #[v, .string d] w fun e w' => e = .returned (.tuple #[.string (findO l d).1, .int .i64 (findO l d).2]) ∧ Below w.heap.size w w' := by
  obtain ⟨D, hDs⟩ : ∃ D, w.heap.size = D := ⟨_, rfl⟩
  obtain ⟨W, hW⟩ : ∃ W, w.alloc (.cells #[.string d] 9) = W := ⟨_, rfl⟩
  have hb0 : Below w.heap.size w W := by rw [← hW]; exact below_new _ _
  have hd : W.cell? ⟨D, 0, none⟩ = some (.string d) := by rw [← hW, World.cell?_alloc_at _ _ _ _ hDs.symm]; rfl
  have I := Lib.hid (objIdx_t v l d D W (hv.keep hb0) hd)
  have DT := Lib.hid (fun o (ho : o ∈ l) w' (h : Below w.heap.size w w') => data_t o.1 o.2 w' (he.below h) (hf.size o ho).1 (hf.size o ho).2)
  obtain ⟨a, cap, rfl, -, -⟩ := hv.shape
  have hl := hf.len
  obtain ⟨n, hn⟩ : ∃ n, l.length = n := ⟨_, rfl⟩
  have HP := Lib.hid hv
  rw [hn] at hl HP I ⊢
  have HN := Lib.hid hn
  have HW := Lib.hid hW
  have HD := Lib.hid hDs
  have HB := Lib.hid hb0
  have hmf : ∀ (fn : Fn) (first cap : Array Value) (w : World), (Instr.makeFunc fn first cap).run Tryz.prog w = .ok (.func fn first cap) w := fun _ _ _ _ => rfl
  clear hv hf hW hb0 hd hn he hDs
  go_enter Tryz.func5, Tryz.ntmps5
  go_upto_region 1 with fail
  rw [HW.out, HD.out]
  go_wp2_with fail
  refine I.out.mono ?_
  rintro e w2 ⟨hb2, hk | ⟨rfl, hno⟩⟩
  · obtain ⟨k, h1, rfl, hk, hno⟩ := hk
    have HB2 := Lib.hid (Below.then HB.out hb2)
    have hlt : k < n := by have := HN.out; omega
    obtain ⟨lb, lo, rfl, e0, e1⟩ := HP.out.cells k h1
    have v0 := (HB2.out.cell (World.block_lt_of_cell? _ _ e0)).trans e0
    have v1 := (HB2.out.cell (World.block_lt_of_cell? _ _ e1)).trans e1
    have C := Lib.hid (DT.out l[k] (List.getElem_mem h1) w2 HB2.out)
    have HF := Lib.hid (show findO l d = dataO l[k].1 l[k].2 from findO_at l d k h1 hk hno)
    obtain ⟨⟨x, y⟩, hx⟩ : ∃ x, l[k] = x := ⟨_, rfl⟩
    rw [hx] at v0 v1 C HF
    have q : decide ((k : Int) < 0) = false := decide_eq_false (by omega)
    clear hb2 e0 e1 hx hk hno
    rcases Nat.eq_zero_or_pos k with rfl | hk0
    · have v0' : w2.cell? ⟨lb, lo, none⟩ = some (.string x) := by simpa using v0
      have v1' : w2.cell? ⟨lb, lo + 1, none⟩ = some (.string y) := by simpa using v1
      go_wp2_with fail
      refine C.out.mono ?_
      rintro e w3 ⟨rfl, hb3⟩
      have HB3 := Lib.hid (Below.then HB2.out hb3)
      clear hb3
      go_wp2_with fail
      go_ret2
      exact ⟨by rw [HF.out]; rfl, HB3.out⟩
    · go_wp2_with fail
      refine C.out.mono ?_
      rintro e w3 ⟨rfl, hb3⟩
      have HB3 := Lib.hid (Below.then HB2.out hb3)
      clear hb3
      go_wp2_with fail
      go_ret2
      exact ⟨by rw [HF.out]; rfl, HB3.out⟩
  · have HB2 := Lib.hid (Below.then HB.out hb2)
    have HF := Lib.hid (findO_none' hno)
    clear hb2 hno
    go_wp2_with fail
    go_ret2
    exact ⟨by rw [HF.out]; rfl, HB2.out⟩
end Go.Proofs.YtepcaglekgeamaaGreatDoor
namespace Go.Proofs.YtepcaglekgeamaaGreatDoor
open Go.RowKit

set_option maxRecDepth 100000 in
theorem of1_t (v : Value) (l : List Obj) (d : ByteArray) (R : Nat) (w : World) (he : MLow w) (hv : ObjsAt w v l) (hf : ObjsFew l) (hR : w.cell? ⟨R, 0, none⟩ = some v) :
    Calls Tryz.prog 16 #[.string d, .pointer (some ⟨R, 0, none⟩)] w fun e w' => e = .returned (.tuple #[.string (findO l d).1, .int .i64 (findO l d).2]) ∧ Below w.heap.size w w' := by
  have F := Lib.hid (find_t v l d w he hv hf)
  obtain ⟨a, cap, rfl, -, -⟩ := hv.shape
  obtain ⟨n, hn⟩ : ∃ n, l.length = n := ⟨_, rfl⟩
  rw [hn] at F hR
  clear hv hn he hf
  go_enter Tryz.func16, Tryz.ntmps16
  go_wp2_with fail
  refine F.out.mono ?_
  rintro e w2 ⟨rfl, hb2⟩
  have HB2 := Lib.hid hb2
  clear hb2
  go_wp2_with fail
  go_ret2
  exact ⟨rfl, HB2.out⟩

def WalkerAt (w : World) (B R : Nat) (dep : Int) (mv bv : Value) : Prop := w.heap[B]? = some (.cells #[.func (.func 16) #[] #[.pointer (some ⟨R, 0, none⟩)], .int .i64 dep, mv, bv] 46 (0, 0))

theorem WalkerAt.lt {w : World} {B R : Nat} {dep : Int} {mv bv : Value} (h : WalkerAt w B R dep mv bv) : B < w.heap.size := (Array.getElem?_eq_some_iff.1 h).1

theorem WalkerAt.cells {w : World} {B R : Nat} {dep : Int} {mv bv : Value} (h : WalkerAt w B R dep mv bv) :
    w.cell? ⟨B, 0, none⟩ = some (.func (.func 16) #[] #[.pointer (some ⟨R, 0, none⟩)]) ∧ w.cell? ⟨B, 1, none⟩ = some (.int .i64 dep) ∧ w.cell? ⟨B, 2, none⟩ = some mv ∧ w.cell? ⟨B, 3, none⟩ = some bv := by
  unfold WalkerAt at h
  refine ⟨?_, ?_, ?_, ?_⟩ <;> simp [World.cell?, h]

theorem WalkerAt.frozen {w : World} {B R : Nat} {dep : Int} {mv bv : Value} (h : WalkerAt w B R dep mv bv) (j : Nat) : w.frozen? ⟨B, j, none⟩ = false := by
  unfold WalkerAt at h; simp [World.frozen?, h]

theorem WalkerAt.block {w w' : World} {B R : Nat} {dep : Int} {mv bv : Value} (h : WalkerAt w B R dep mv bv) (hb : w'.heap[B]? = w.heap[B]?) : WalkerAt w' B R dep mv bv := hb.trans h

theorem WalkerAt.keep {w w' : World} {B R : Nat} {dep : Int} {mv bv : Value} (h : WalkerAt w B R dep mv bv) (hb : Below w.heap.size w w') : WalkerAt w' B R dep mv bv := h.block (hb.block B h.lt)

theorem WalkerAt.put1 {w : World} {B R : Nat} {dep : Int} {mv bv : Value} (h : WalkerAt w B R dep mv bv) (x : Int) : WalkerAt (w.setCell ⟨B, 1, none⟩ (.int .i64 x)) B R x mv bv := by unfold WalkerAt; rw [heap_setCell_same _ _ _ _ _ _ h]; rfl

theorem WalkerAt.put2 {w : World} {B R : Nat} {dep : Int} {mv bv : Value} (h : WalkerAt w B R dep mv bv) (u : Value) : WalkerAt (w.setCell ⟨B, 2, none⟩ u) B R dep u bv := by unfold WalkerAt; rw [heap_setCell_same _ _ _ _ _ _ h]; rfl

theorem WalkerAt.put3 {w : World} {B R : Nat} {dep : Int} {mv bv : Value} (h : WalkerAt w B R dep mv bv) (u : Value) : WalkerAt (w.setCell ⟨B, 3, none⟩ u) B R dep mv u := by unfold WalkerAt; rw [heap_setCell_same _ _ _ _ _ _ h]; rfl

def AskEnds (l : List Obj) (d : ByteArray) (w : World) (e : Ending) (w' : World) : Prop :=
  ∃ m r, e = .returned (.tuple #[r, .int .i64 (errO l d)]) ∧ ManMade w m r w' ∧ (errO l d = 0 → m = manO l d)

theorem findO_no {l : List Obj} {d : ByteArray} (h : (findO l d).2 ≠ 0) : errO l d = (findO l d).2 := by unfold errO; rw [if_neg h]

theorem findO_yes {l : List Obj} {d : ByteArray} (h : (findO l d).2 = 0) : errO l d = (parseM (findO l d).1).2 := by unfold errO; rw [if_pos h]

set_option maxRecDepth 100000 in
set_option maxHeartbeats 4000000 in
theorem ask_t (v : Value) (l : List Obj) (d : ByteArray) (B R : Nat) (dep : Int) (mv bv : Value) (w : World) (he : MEnv w) (hv : ObjsAt w v l) (hf : ObjsFew l) (hW : WalkerAt w B R dep mv bv) (hR : w.cell? ⟨R, 0, none⟩ = some v) :
    Calls Tryz.prog 29 #[.pointer (some ⟨B, 0, none⟩), .string d] w (AskEnds l d w) := by
  obtain ⟨W, hWW⟩ : ∃ W, w.alloc (.cells #[.bool false, .string ⟨#[]⟩, .slice none 0 0, .slice none 0 0] 53) = W := ⟨_, rfl⟩
  have hb0 : Below w.heap.size w W := by rw [← hWW]; exact below_new _ _
  have hZ : At4 W w.heap.size (.bool false) (.string ⟨#[]⟩) (.slice none 0 0) (.slice none 0 0) := by rw [← hWW]; exact At4.new _ _ _ _ _
  have F := Lib.hid (of1_t v l d R W (he.lo.below hb0) (hv.keep hb0) hf ((hb0.cell (World.block_lt_of_cell? _ _ hR)).trans hR))
  have P := Lib.hid (fun w' (h : Below w.heap.size w w') => ParseM_t (findO l d).1 w' (Nat.le_trans (findO_size l d 1048576 fun o ho => (hf.size o ho).2) (by decide)) (he.below h))
  obtain ⟨c0, c1, c2, c3⟩ := (hW.keep hb0).cells
  have HZ := Lib.hid hZ
  have HB0 := Lib.hid hb0
  have HW := Lib.hid hWW
  have HSZ := Lib.hid (show W.heap.size = w.heap.size + 1 by rw [← hWW]; simp)
  obtain ⟨⟨s, k⟩, hs⟩ : ∃ s, findO l d = s := ⟨_, rfl⟩
  rw [hs] at F P
  simp only at F P
  have HNO := Lib.hid (show k ≠ 0 → errO l d = k from fun h => by rw [findO_no (by rw [hs]; exact h), hs])
  have HYES := Lib.hid (show k = 0 → errO l d = (parseM s).2 ∧ (parseM s).1 = manO l d from fun h => by
    refine ⟨by rw [findO_yes (by rw [hs]; exact h), hs], ?_⟩
    unfold manO; rw [hs])
  clear hb0 hZ hWW he hv hf hW hR hs
  by_cases h0 : k = 0
  · subst h0
    have HO := Lib.hid (HYES.out rfl)
    clear HNO HYES
    go_enter Tryz.func29, Tryz.ntmps29
    go_upto_region 1 with fail
    rw [HW.out]
    go_wp2_with (go_at_call 16; refine F.out.mono ?_; rintro e w2 ⟨rfl, hb2⟩; have HB2 := Lib.hid (Below.then HB0.out hb2); have HZ2 := Lib.hid (HZ.out.keep hb2); have HS2 := Lib.hid hb2.size; clear hb2 c0 c1 c2 c3)
    refine (P.out _ HB2.out).mono ?_
    rintro e w3 ⟨r, rfl, hm⟩
    obtain ⟨i, c, la, nl, lc, ka, nk, kc, rfl, -, -, -, -⟩ := hm.man.shape
    have HM := Lib.hid hm
    have hZ3 := HZ2.out.keep hm.below
    have HZ3 := Lib.hid hZ3
    obtain ⟨z0, z1, z2, z3⟩ := hZ3.cells
    have f0 := hZ3.frozen 0
    have f1 := hZ3.frozen 1
    have f2 := hZ3.frozen 2
    have f3 := hZ3.frozen 3
    have HEND := Lib.hid (show AskEnds l d w (.returned (.tuple #[.agg #[.bool i, .string c, .slice la nl lc, .slice ka nk kc], .int .i64 (parseM s).2])) (set4 w3 w.heap.size (.bool i) (.string c) (.slice la nl lc) (.slice ka nk kc)) from by
      refine ⟨_, _, by rw [HO.out.1], ⟨below_four (Below.then HB2.out hm.below) (Nat.le_refl _) _ _ _ _, fun w'' hfar => hm.far w'' fun b h1 h2 => ?_⟩, fun _ => HO.out.2⟩
      have hz := HSZ.out
      have hs2 := HS2.out
      rw [hfar b (by omega) (by rw [set4_size]; exact h2), set4_block _ _ _ _ _ _ b (by omega)])
    clear hZ3 hm
    go_wp2_with fail
    refine bodyPost_ret (results_two (p := 4) (u := 5) rfl _ _ w.heap.size 53 _ (0, 0) _ rfl (set4_four HZ3.out _ _ _ _) Tryz.underlying53 rfl manSize) rfl ?_
    exact HEND.out
  · have HO := Lib.hid (HNO.out h0)
    have q : (k != 0) = true := bne_iff_ne.2 h0
    clear HNO HYES
    have HEND := Lib.hid (show ∀ w', Below w.heap.size w w' → AskEnds l d w (.returned (.tuple #[.agg #[.bool false, .string ⟨#[]⟩, .slice none 0 0, .slice none 0 0], .int .i64 k])) (set4 w' w.heap.size (.bool false) (.string ⟨#[]⟩) (.slice none 0 0) (.slice none 0 0)) from fun w' hb =>
      ⟨noMan, _, by rw [HO.out], ⟨below_four hb (Nat.le_refl _) _ _ _ _, fun w'' _ => noMan_at w''⟩, fun h => absurd (HO.out.symm.trans h) h0⟩)
    clear h0
    go_enter Tryz.func29, Tryz.ntmps29
    go_upto_region 1 with fail
    rw [HW.out]
    go_wp2_with (go_at_call 16; refine F.out.mono ?_; rintro e w2 ⟨rfl, hb2⟩; have HB2 := Lib.hid (Below.then HB0.out hb2); have HZ2 := Lib.hid (HZ.out.keep hb2); obtain ⟨z0, z1, z2, z3⟩ := HZ2.out.cells; have f0 := HZ2.out.frozen 0; have f1 := HZ2.out.frozen 1; have f2 := HZ2.out.frozen 2; have f3 := HZ2.out.frozen 3; clear hb2 c0 c1 c2 c3)
    refine bodyPost_ret (results_two (p := 4) (u := 5) rfl _ _ w.heap.size 53 _ (0, 0) _ rfl (set4_four HZ2.out _ _ _ _) Tryz.underlying53 rfl manSize) rfl ?_
    exact HEND.out _ HB2.out
end Go.Proofs.YtepcaglekgeamaaGreatDoor
