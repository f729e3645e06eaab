/-
  What stays when a disk's own two cells are written anew; a disk as a result; the program's New and Load of a disk, by contracts. Conditions: none.
-/
import Derived.Test.YtcjngaapiomkbaaPrgDskE
import Derived.Test.YtcjngaapiomkbaaPrgDskG
import Derived.Test.YtcjngaapiomkbaaPrgDskS
import Derived.Laws.ResultCell
namespace Go.Proofs.Ytcjngaapiomkbaa
open Go.RowKit Go.WideShapes

/-! ### Cells that are no slices stay -/
def IsSl (u : Value) : Prop := ∃ a n c, u = .slice a n c
def NS (w w' : World) : Prop := ∀ p u, ¬ IsSl u → w.cell? p = some u → w'.cell? p = some u
theorem Below.ns {w w' : World} (h : Below w.heap.size w w') : NS w w' := fun _ _ _ hc => (h.cell (World.block_lt_of_cell? _ _ hc)).trans hc
theorem NS.then {w w1 w2 : World} (h : NS w w1) (h2 : NS w1 w2) : NS w w2 := fun p u hu hc => h2 p u hu (h p u hu hc)
theorem NS.refl (w : World) : NS w w := fun _ _ _ h => h
theorem isSl_no_str (s : ByteArray) : ¬ IsSl (.string s) := by rintro ⟨a, n, c, h⟩; cases h
theorem isSl_no_int (k : IntKind) (s : Int) : ¬ IsSl (.int k s) := by rintro ⟨a, n, c, h⟩; cases h
theorem StrsAt.ns {w w' : World} {v : Value} {l : List ByteArray} (h : StrsAt w v l) (hn : NS w w') : StrsAt w' v l := by
  rcases h with h | ⟨b, o, cap, h1, h2, h3, h4, h5⟩
  · exact Or.inl h
  · exact Or.inr ⟨b, o, cap, h1, h2, h3, h4, fun i hi => hn _ _ (isSl_no_str _) (h5 i hi)⟩
theorem WritesAt.ns {w w' : World} {v : Value} {l : List (Int × ByteArray)} (h : PairsAt w v (l.map writeCell)) (hn : NS w w') : PairsAt w' v (l.map writeCell) := by
  rcases h with h | ⟨b, o, cap, h1, h2, h3, h4, h5⟩
  · exact Or.inl h
  · refine Or.inr ⟨b, o, cap, h1, h2, h3, h4, fun i hi => ?_⟩
    have hi' : i < l.length := by rwa [List.length_map] at hi
    have := h5 i hi
    rw [write_getElem l i hi'] at this ⊢
    exact ⟨hn _ _ (isSl_no_int _ _) this.1, hn _ _ (isSl_no_str _) this.2⟩
theorem IntsAt.ns {w w' : World} {v : Value} {l : List Int} (h : IntsAt w v l) (hn : NS w w') : IntsAt w' v l := by
  rcases h with h | ⟨b, o, cap, h1, h2, h3, h4, h5⟩
  · exact Or.inl h
  · exact Or.inr ⟨b, o, cap, h1, h2, h3, h4, fun i hi => hn _ _ (isSl_no_int _ _) (h5 i hi)⟩
theorem DskAt.ns {w w' : World} {v : Value} {d : Dsk} (h : DskAt w v d) (hn : NS w w') : DskAt w' v d := by
  obtain ⟨⟨sv, dv, e, h1, h2⟩, h3, h4⟩ := h
  exact ⟨⟨sv, dv, e, h1.ns hn, WritesAt.ns h2 hn⟩, h3, h4⟩

/-- Two stores into a block of two. -/
def set2 (w : World) (B : Nat) (v0 v1 : Value) : World := (w.setCell ⟨B, 0, none⟩ v0).setCell ⟨B, 1, none⟩ v1
theorem At2.set {t : TypeId} {w : World} {B : Nat} {a b : Value} (h : At2 t w B a b) (v0 v1 : Value) : At2 t (set2 w B v0 v1) B v0 v1 := by
  have h0 : (w.setCell ⟨B, 0, none⟩ v0).heap[B]? = some (.cells #[v0, b] t (0, 0)) := by rw [heap_setCell_same _ _ _ _ _ _ h]; rfl
  unfold set2 At2
  rw [heap_setCell_same _ _ _ _ _ _ h0]; rfl
theorem set2_below {B B0 : Nat} {w0 w : World} (h : Below B0 w0 w) (hB : B0 ≤ B) (v0 v1 : Value) : Below B0 w0 (set2 w B v0 v1) := (h.setCell (p := ⟨B, 0, none⟩) hB _).setCell (p := ⟨B, 1, none⟩) hB _
theorem set2_ns {t : TypeId} {w : World} {B : Nat} {a b : Value} (h : At2 t w B a b) (ha : IsSl a) (hb : IsSl b) (v0 v1 : Value) : NS w (set2 w B v0 v1) := by
  intro p u hu hc
  by_cases e : p.block = B
  · exfalso
    obtain ⟨pb, po, ps⟩ := p
    simp only at e
    subst e
    cases ps with
    | some q => simp [World.cell?, show w.heap[pb]? = _ from h] at hc
    | none =>
      have hc' : (#[a, b] : Array Value)[po]? = some u := by simpa [World.cell?, show w.heap[pb]? = _ from h] using hc
      match po, hc' with
      | 0, hc' => exact hu (by simp at hc'; exact hc' ▸ ha)
      | 1, hc' => exact hu (by simp at hc'; exact hc' ▸ hb)
      | n + 2, hc' => simp at hc'
  · unfold set2
    have e1 : (w.setCell ⟨B, 0, none⟩ v0).cell? p = w.cell? p := World.cell?_of_block (Below.heap_setCell _ _ _ _ e)
    have e2 : ((w.setCell ⟨B, 0, none⟩ v0).setCell ⟨B, 1, none⟩ v1).cell? p = (w.setCell ⟨B, 0, none⟩ v0).cell? p := World.cell?_of_block (Below.heap_setCell _ _ _ _ e)
    rw [e2, e1, hc]
theorem At2.other {t : TypeId} {w : World} {B B' : Nat} {a b : Value} (h : At2 t w B a b) (hne : B ≠ B') (v0 v1 : Value) : At2 t (set2 w B' v0 v1) B a b := by
  unfold set2 At2
  rw [Below.heap_setCell _ _ _ _ hne, Below.heap_setCell _ _ _ _ hne]
  exact h

theorem At2.free {t : TypeId} {w : World} {B : Nat} {a b : Value} (h : At2 t w B a b) : w.frozen? ⟨B, 0, none⟩ = false ∧ w.frozen? ⟨B, 1, none⟩ = false := by
  unfold At2 at h
  refine ⟨?_, ?_⟩ <;> simp [World.frozen?, h]

/-! ### A disk -/
abbrev nilV : Value := .slice none 0 0
theorem isSl_nil : IsSl nilV := ⟨_, _, _, rfl⟩
theorem isSl_mk (a : Option Addr) (n c : Nat) : IsSl (.slice a n c) := ⟨_, _, _, rfl⟩
def emptyD : Dsk := ⟨[], []⟩
theorem emptyD_at (w : World) : DskAt w (.agg #[nilV, nilV]) emptyD := ⟨⟨nilV, nilV, rfl, Or.inl ⟨rfl, Or.inl rfl⟩, Or.inl ⟨rfl, Or.inl rfl⟩⟩, fun s hs => (by cases hs), fun l hl => (by cases hl)⟩
theorem DskAt.shape {w : World} {v : Value} {d : Dsk} (h : DskAt w v d) : ∃ a c a' c', v = .agg #[.slice a d.secs.length c, .slice a' d.dirty.length c'] ∧ d.secs.length ≤ 9223372036854775807 ∧ d.dirty.length ≤ 9223372036854775807 := by
  obtain ⟨⟨sv, dv, rfl, h1, h2⟩, -, -⟩ := h
  obtain ⟨a, c, rfl, -, h3⟩ := h1.shape
  obtain ⟨a', c', rfl, -, h4⟩ := h2.shape
  rw [List.length_map] at h4 ⊢
  exact ⟨a, c, a', c', rfl, h3, h4⟩
theorem infoDsk : (Try.prog.info? 25).map (·.size) = some 2 := by kernel_rfl
/-- A disk that lies in a cell as the first result, and a number beside it. -/
theorem results_dsk {fn : Func} {p u : Tmp} (h : fn.results = #[.cell p 25, .tmp u]) (tmps : Array Value) (w : World) (g : Nat) (a b : Value)
    (hp : tmps.getD p undef = .pointer (some ⟨g, 0, none⟩)) (hg : At2 25 w g a b) :
    (results fn tmps).run Try.prog w = .ok (.tuple #[.agg #[a, b], tmps.getD u undef]) w := by
  rw [results_cell_tmp h, hp]
  simp [asAddr, run_loadVar_row w g 25 25 _ (0, 0) _ hg Try.underlying25 rfl infoDsk]

/-- What New answers. -/
def newD (n : Int) : Dsk × Int := if haveB n then (⟨List.replicate n.toNat (secB 0), []⟩, 0) else (emptyD, 1)
/-- A disk and a number, as a call answers them. -/
def DskOut (r : Dsk × Int) (w : World) (e : Ending) (w' : World) : Prop := ∃ v, e = .returned (.tuple #[v, .int .i64 r.2]) ∧ DskAt w' v r.1 ∧ Below w.heap.size w w'

set_option maxRecDepth 100000 in
set_option maxHeartbeats 2000000 in
theorem New_t (n : Int) (w : World) : Calls Try.prog 8 #[.int .i64 n] w (DskOut (newD n) w) := by
  obtain ⟨W, hW⟩ : ∃ W, w.alloc (.cells #[nilV, nilV] 25) = W := ⟨_, rfl⟩
  have hsz : W.heap.size = w.heap.size + 1 := by rw [← hW]; simp
  have HB := Lib.hid (show Below w.heap.size w W by rw [← hW]; exact below_new _ _)
  have HA := Lib.hid (show At2 25 W w.heap.size nilV nilV by rw [← hW]; exact At2.new _ _ _ _)
  have M := Lib.hid (mayHave_t n W)
  obtain ⟨m, hm⟩ : ∃ m, haveB n = m := ⟨_, rfl⟩
  rw [hm] at M
  have HM := Lib.hid hm
  have HW := Lib.hid hW
  clear hm hW
  cases m with
  | false =>
    have HO := Lib.hid (show newD n = (emptyD, 1) by rw [newD, HM.out]; rfl)
    go_enter Try.func8, Try.ntmps8
    go_upto_region 1 with fail
    rw [HW.out]
    obtain ⟨a0, a1⟩ := HA.out.cells
    obtain ⟨f0, f1⟩ := HA.out.free
    go_wp2_with (go_at_call 21; refine M.out.mono ?_; rintro e w1 ⟨rfl, rfl⟩)
    exact bodyPost_ret (results_dsk (p := 2) (u := 3) rfl _ _ w.heap.size _ _ rfl (HA.out.set _ _)) rfl ⟨_, by rw [HO.out]; rfl, by rw [HO.out]; exact emptyD_at _, set2_below HB.out (Nat.le_refl _) _ _⟩
  | true =>
    have hn : 4 ≤ n ∧ n ≤ 64 := by
      have := HM.out
      simpa [haveB] using this
    obtain ⟨k, rfl⟩ : ∃ k : Nat, n = (k : Int) := ⟨n.toNat, by omega⟩
    have HO := Lib.hid (show newD (k : Int) = (⟨List.replicate k (secB 0), []⟩, 0) by rw [newD, HM.out]; rfl)
    have R := Lib.hid (fun (b c : Nat) (w : World) (h : w.cell? ⟨b, 0, none⟩ = some (.string (secB 0))) => Repeat_t b 0 c k (secB 0) w (by omega) (by omega) h)
    have BL := Lib.hid (blank_t W)
    clear hn
    go_enter Try.func8, Try.ntmps8
    go_upto_region 1 with fail
    rw [HW.out]
    go_wp2_with (first | (go_at_call 21; refine M.out.mono ?_; rintro e w1 ⟨rfl, hw⟩; subst hw) | (go_at_call 22; refine BL.out.mono ?_; rintro e w2 ⟨rfl, hb2⟩))
    have HB2 := Lib.hid hb2
    clear hb2
    obtain ⟨W3, hW3⟩ : ∃ W3, w2.alloc (.cells #[.string (secB 0)] 9) = W3 := ⟨_, rfl⟩
    have c0 := Lib.hid (show W3.cell? ⟨w2.heap.size, 0, none⟩ = some (.string (secB 0)) by rw [← hW3, World.cell?_alloc_at _ _ _ _ rfl]; rfl)
    have HB3 := Lib.hid (show Below w2.heap.size w2 W3 by rw [← hW3]; exact below_new _ _)
    have HW3 := Lib.hid hW3
    clear hW3
    rw [HW3.out]
    refine (R.out _ _ _ c0.out).mono ?_
    rintro e w4 ⟨v, rfl, hst, hb4⟩
    obtain ⟨a, c, rfl, -, -⟩ := hst.shape
    rw [List.length_replicate] at hst ⊢
    have HB4 := Lib.hid (Below.then HB2.out (Below.then HB3.out hb4))
    have HA4 := Lib.hid (HA.out.keep HB4.out)
    have HS := Lib.hid hst
    obtain ⟨a0, a1⟩ := HA4.out.cells
    obtain ⟨f0, f1⟩ := HA4.out.free
    clear hst hb4
    go_wp2_with fail
    exact bodyPost_ret (results_dsk (p := 2) (u := 3) rfl _ _ w.heap.size _ _ rfl (HA4.out.set _ _)) rfl ⟨_, by rw [HO.out]; rfl, by
      rw [HO.out]
      refine ⟨⟨_, _, rfl, HS.out.ns (set2_ns HA4.out isSl_nil isSl_nil _ _), Or.inl ⟨rfl, Or.inl rfl⟩⟩, fun s hs => ?_, fun l hl => (by cases hl)⟩
      rw [List.eq_of_mem_replicate hs, secB_size]; unfold maxLen; decide, set2_below (Below.then HB.out HB4.out) (Nat.le_refl _) _ _⟩

/-- What Load answers. -/
def loadD (d : Dsk) (at' : Int) : ByteArray × Int := if d.right && placeB d.secs.length at' then (d.stands at'.toNat, 0) else (⟨#[]⟩, 1)
set_option maxRecDepth 100000 in
set_option maxHeartbeats 2000000 in
theorem Load_t (v : Value) (d : Dsk) (at' : Int) (w : World) (h : DskAt w v d) :
    Calls Try.prog 9 #[v, .int .i64 at'] w fun e w' => e = .returned (.tuple #[.string (loadD d at').1, .int .i64 (loadD d at').2]) ∧ Below w.heap.size w w' := by
  have HV := Lib.hid h
  obtain ⟨a, c, a', c', rfl, -, -⟩ := h.shape
  have P := Lib.hid (fun w => isPlace_t a a' d.secs.length c d.dirty.length c' at' w)
  have R := Lib.hid (fun w (h : DskAt w (.agg #[.slice a d.secs.length c, .slice a' d.dirty.length c']) d) => Right_t _ d w h)
  have S := Lib.hid (fun (k : Nat) w (h : DskAt w (.agg #[.slice a d.secs.length c, .slice a' d.dirty.length c']) d) (hk : k < d.secs.length) => standing_t _ d k w h hk)
  have HE := Lib.hid (show loadD d at' = if d.right && placeB d.secs.length at' then (d.stands at'.toNat, 0) else (⟨#[]⟩, 1) from rfl)
  have HP := Lib.hid (show placeB d.secs.length at' = true → ∃ k : Nat, at' = (k : Int) ∧ k < d.secs.length from fun h => by
    simp only [placeB, Bool.and_eq_true, decide_eq_true_eq] at h
    exact ⟨at'.toNat, by omega, by omega⟩)
  obtain ⟨r, hr⟩ : ∃ r, d.right = r := ⟨_, rfl⟩
  obtain ⟨p, hp⟩ : ∃ r, placeB d.secs.length at' = r := ⟨_, rfl⟩
  obtain ⟨n, hn⟩ : ∃ r, d.secs.length = r := ⟨_, rfl⟩
  obtain ⟨n', hn'⟩ : ∃ r, d.dirty.length = r := ⟨_, rfl⟩
  rw [hr, hp] at HE
  rw [hr] at R
  rw [hp] at HP
  rw [hn] at P R S HV HP hp ⊢
  rw [hn'] at P R S HV ⊢
  rw [hp] at P
  obtain ⟨W, hW⟩ : ∃ W, w.alloc (.cells #[.slice a n c, .slice a' n' c'] 25) = W := ⟨_, rfl⟩
  have HB := Lib.hid (show Below w.heap.size w W by rw [← hW]; exact below_new _ _)
  have HA := Lib.hid (show At2 25 W w.heap.size (.slice a n c) (.slice a' n' c') by rw [← hW]; exact At2.new _ _ _ _)
  have HW := Lib.hid hW
  have R1 := Lib.hid (R.out W (HV.out.keep HB.out))
  clear hW h hr hp hn hn' R
  go_enter Try.func9, Try.ntmps9
  go_upto_region 1 with fail
  rw [HW.out]
  obtain ⟨a0, a1⟩ := HA.out.cells
  go_wp2_with fail
  refine R1.out.mono ?_
  rintro e w1 ⟨rfl, hb1⟩
  have HB1 := Lib.hid (Below.then HB.out hb1)
  have HA1 := Lib.hid (HA.out.keep hb1)
  obtain ⟨b0, b1⟩ := HA1.out.cells
  clear hb1 a0 a1
  cases r with
  | false =>
    have HO := Lib.hid (show loadD d at' = (⟨#[]⟩, 1) by rw [HE.out]; rfl)
    go_wp2_with fail
    go_ret2
    exact ⟨by rw [HO.out]; rfl, HB1.out⟩
  | true =>
    have P1 := Lib.hid (P.out w1)
    go_wp2_with fail
    refine P1.out.mono ?_
    rintro e w2 ⟨rfl, hb2⟩
    have HB2 := Lib.hid (Below.then HB1.out hb2)
    have HA2 := Lib.hid (HA1.out.keep hb2)
    obtain ⟨c0, c1⟩ := HA2.out.cells
    clear hb2 b0 b1 P1 P R1
    cases p with
    | false =>
      have HO := Lib.hid (show loadD d at' = (⟨#[]⟩, 1) by rw [HE.out]; rfl)
      go_wp2_with fail
      go_ret2
      exact ⟨by rw [HO.out]; rfl, HB2.out⟩
    | true =>
      obtain ⟨k, rfl, hk⟩ := HP.out rfl
      have HO := Lib.hid (show loadD d (k : Int) = (d.stands k, 0) by rw [HE.out]; rfl)
      have S1 := Lib.hid (S.out k w2 (HV.out.keep HB2.out) hk)
      clear S
      go_wp2_with fail
      refine S1.out.mono ?_
      rintro e w3 ⟨rfl, hb3⟩
      have HB3 := Lib.hid (Below.then HB2.out hb3)
      clear hb3
      go_wp2_with fail
      go_ret2
      exact ⟨by rw [HO.out]; rfl, HB3.out⟩
end Go.Proofs.Ytcjngaapiomkbaa
