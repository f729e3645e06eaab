/-
  The program's kept of blobs, by a contract. Conditions: the blobs' rows are the caller's own; few objects, of few bytes.
  The program's Drop and End of blobs, by contracts. Conditions: the digest's tables and octet's errors lie where they were laid; digests of a size.
  The program's Begin and Push of blobs, by contracts. Conditions: the digest's tables and octet's errors lie where they were laid; texts of a size.
  The program's Push of blobs, by a contract. Conditions: the digest's tables and octet's errors lie where they were laid; texts of a size.
-/
import Derived.Test.YtodjhmphneoifaaGreatDoorZPrg3
import Derived.Test.YtodjhmphneoifaaGreatDoorZPrg2
/-! The program's kept of blobs, by a contract. Conditions: the blobs' rows are the caller's own; few objects, of few bytes. -/
namespace Go.Proofs.YtodjhmphneoifaaGreatDoor
open Go.RowKit Go.WideShapes

/-- What kept comes to. -/
def keptB (b : Blb) (d s : ByteArray) : Blb × Int :=
  if fitsD d s ≠ 0 then (nilBlb, fitsD d s) else if 0 ≤ atL b.objs d then (b, 0) else if b.objs.length = 64 then (nilBlb, 13)
  else if b.quota < (usedL b.objs : Int) + (s.size : Nat) then (nilBlb, 12) else (⟨b.objs ++ [(d, s)], b.quota, b.ups, b.last⟩, 0)
theorem own_ne4 {w : World} {base : Nat} {e t : TypeId} {size n : Nat} {v : Value} {xs : List Value} (h : w.ownsRow base e size v n xs) {B : Nat} {a b c d : Value} (h4 : At4 t w B a b c d) (hne : e ≠ t) : ∀ g, v.ownBlock = some g → g ≠ B := by
  rintro g hg rfl
  rcases h.2 with ⟨rfl, -⟩ | ⟨g1, c1, cur1, rfl, -, h1, -⟩
  · cases hg
  · cases hg
    unfold At4 at h4
    rw [h1] at h4
    simp only [Option.some.injEq, Obj.cells.injEq] at h4
    exact hne h4.2.1
theorem objNeBlb : 43 ≠ 25 := by decide
theorem OwnBlb.all_lt {w : World} {base : Nat} {v : Value} {b : Blb} (h : OwnBlb w base v b) {w' : World} (hs : ∀ g, g < w.heap.size → w'.heap[g]? = w.heap[g]?) : BlbAt w' v b := by
  obtain ⟨⟨ov, uv, e, h1, h2⟩, h3, h4, h5, h6⟩ := h
  exact ⟨⟨ov, uv, e, PairsAt.of_own (own_block h1 fun g hg => hs g (own_lt h1 hg).2) (by rw [List.length_map]), PairsAt.of_own (own_block h2 fun g hg => hs g (own_lt h2 hg).2) (by rw [List.length_map])⟩, h3, h4, h5, h6⟩
theorem kept_end {w W w8 w9 w10 : World} {b : Blb} {base n : Nat} {vO v9 vU : Value} {d s : ByteArray} {x0 x1 x2 x3 : Value}
    (hv : OwnBlb w base (.agg #[vO, .int .i64 b.quota, vU, .int .i64 b.last]) b) (hn : b.objs.length = n) (hbase : base ≤ w.heap.size) (hW : W.heap.size = w.heap.size + 3) (hB : Below w.heap.size w W) (h8 : Below W.heap.size W w8)
    (hown9 : w9.ownsRow base 43 2 v9 (n + 1) (cellsL (b.objs.map objCell) ++ cellsL [objCell (d, s)])) (hg9 : w8.grownBy w9 vO.ownBlock)
    (hA9 : At4 25 w9 w.heap.size x0 x1 x2 x3) (hR9 : At4 25 w9 (w.heap.size + 2) nilV zeroV nilV zeroV)
    (h10 : w9.setCell ⟨w.heap.size, 0, none⟩ v9 = w10) (hd : d.size ≤ maxLen) (hs : s.size ≤ maxLen) :
    BlbAt (set4 w10 (w.heap.size + 2) v9 (.int .i64 b.quota) vU (.int .i64 b.last)) (.agg #[v9, .int .i64 b.quota, vU, .int .i64 b.last]) ⟨b.objs ++ [(d, s)], b.quota, b.ups, b.last⟩ ∧
    Below base w (set4 w10 (w.heap.size + 2) v9 (.int .i64 b.quota) vU (.int .i64 b.last)) := by
  subst h10
  obtain ⟨⟨o', u', e, ho, hu⟩, hz1, hz2, hz3, hz4⟩ := hv
  simp only [Value.agg.injEq, Array.mk.injEq, List.cons.injEq, and_true, true_and] at e
  obtain ⟨rfl, rfl⟩ := e
  have hb8 : Below w.heap.size w w8 := Below.then hB h8
  have hu8 := own_keep hu hb8
  have ho8 := own_keep ho hb8
  have hu9 := own_grown hu8 ho8 (fun e => objNeUp e.symm) hg9
  have hB9 : Below base w w9 := own_grown_lt ho8 hg9 w base (hb8.mono hbase) (Nat.le_refl _) (by have := hb8.size; omega)
  have hsame : ∀ g, g ≠ w.heap.size → g ≠ w.heap.size + 2 → (set4 (w9.setCell ⟨w.heap.size, 0, none⟩ v9) (w.heap.size + 2) v9 (.int .i64 b.quota) vU (.int .i64 b.last)).heap[g]? = w9.heap[g]? := fun g h1 h2 => by
    rw [set4_block _ _ _ _ _ _ _ h2, Below.heap_setCell _ _ _ _ h1]
  have hu10 := own_block (w' := set4 (w9.setCell ⟨w.heap.size, 0, none⟩ v9) (w.heap.size + 2) v9 (.int .i64 b.quota) vU (.int .i64 b.last)) hu9 fun g hg => hsame g (by have := (own_lt hu hg).2; omega) (by have := (own_lt hu hg).2; omega)
  have ho10 := own_block (w' := set4 (w9.setCell ⟨w.heap.size, 0, none⟩ v9) (w.heap.size + 2) v9 (.int .i64 b.quota) vU (.int .i64 b.last)) hown9 fun g hg => hsame g (own_ne4 hown9 hA9 objNeBlb g hg) (own_ne4 hown9 hR9 objNeBlb g hg)
  rw [← cellsL_append, show b.objs.map objCell ++ [objCell (d, s)] = (b.objs ++ [(d, s)]).map objCell by simp] at ho10
  refine ⟨⟨⟨_, _, rfl, PairsAt.of_own ho10 (by rw [List.length_map, List.length_append, hn]; rfl), PairsAt.of_own hu10 (by rw [List.length_map])⟩, fun x hx => ?_, hz2, hz3, hz4⟩, ?_⟩
  · rcases List.mem_append.1 hx with hx | hx
    · exact hz1 x hx
    · obtain rfl := List.mem_singleton.1 hx
      exact ⟨hd, hs⟩
  · exact set4_below (hB9.setCell (p := ⟨w.heap.size, 0, none⟩) hbase _) (by omega) _ _ _ _

set_option maxRecDepth 100000 in
set_option maxHeartbeats 8000000 in
theorem kept_t (v : Value) (b : Blb) (d s : ByteArray) (base : Nat) (w : World) (aD aS aZ : Addr) (h : OwnBlb w base v b) (hbase : base ≤ w.heap.size) (he : DEnv w aD aS aZ) (hf : FewIs ⟨b.objs, 0, [], 0⟩) (hn64 : b.objs.length ≤ 64) (hd : d.size ≤ 9223372036854775807) (hs : s.size ≤ 4096) :
    Calls Tryz.prog 34 #[v, .agg #[.string d, .string s]] w fun e w' => ∃ v', e = .returned (.tuple #[v', .int .i64 (keptB b d s).2]) ∧ BlbAt w' v' (keptB b d s).1 ∧ Below base w w' := by
  obtain ⟨i0, hi, hz0, hz1, hz2⟩ := info_parts infoObj
  have HV := Lib.hid h
  obtain ⟨sO, kO, sU, kU, rfl, ho, hu⟩ := h.shape
  have HE := Lib.hid (show keptB b d s = if fitsD d s ≠ 0 then (nilBlb, fitsD d s) else if 0 ≤ atL b.objs d then (b, 0) else if b.objs.length = 64 then (nilBlb, 13)
    else if b.quota < (usedL b.objs : Int) + (s.size : Nat) then (nilBlb, 12) else (⟨b.objs ++ [(d, s)], b.quota, b.ups, b.last⟩, 0) from rfl)
  have husd := hf.used b.objs.length
  simp only [List.take_length] at husd
  have hpo := h.blb.parts.1
  have FT := Lib.hid (fun w' (hb : Below w.heap.size w w') => fits_any aD aS aZ d s w' (he.keep hb).env (he.keep hb).tabs hd (by omega))
  have HT := Lib.hid (fun w' (hb : Below w.heap.size w w') => has_t _ b.objs d w' (hpo.keep hb))
  have SZ := Lib.hid (fun w' (hb : Below w.heap.size w w') => size_t _ b.objs w' (hpo.keep hb) hf)
  obtain ⟨n, hn⟩ : ∃ x, b.objs.length = x := ⟨_, rfl⟩
  obtain ⟨m, hm⟩ : ∃ x, b.ups.length = x := ⟨_, rfl⟩
  obtain ⟨q, hq⟩ : ∃ x, b.quota = x := ⟨_, rfl⟩
  obtain ⟨l, hl⟩ : ∃ x, b.last = x := ⟨_, rfl⟩
  obtain ⟨us, hus⟩ : ∃ x, usedL b.objs = x := ⟨_, rfl⟩
  obtain ⟨fe, hfe⟩ : ∃ x, fitsD d s = x := ⟨_, rfl⟩
  rw [hfe] at FT HE
  rw [hus] at SZ HE husd
  rw [hn, hq] at HE
  rw [hn] at HT SZ ho hn64
  rw [hn, hm, hq, hl] at HV ⊢
  have HQ := Lib.hid (And.intro hn (And.intro hm (And.intro hq hl)))
  obtain ⟨W, hW⟩ : ∃ W, ((w.alloc (.cells #[.slice sO n kO, .int .i64 q, .slice sU m kU, .int .i64 l] 25)).alloc (.cells #[.string d, .string s] 43)).alloc (.cells #[nilV, zeroV, nilV, zeroV] 25) = W := ⟨_, rfl⟩
  have HB := Lib.hid (show Below w.heap.size w W by rw [← hW]; exact Below.then (Below.then (below_new _ _) (below_new _ _)) (below_new _ _))
  have HA := Lib.hid (show At4 25 W w.heap.size (.slice sO n kO) (.int .i64 q) (.slice sU m kU) (.int .i64 l) by rw [← hW]; exact ((At4.new _ _ _ _ _ _).keep (below_new _ _)).keep (below_new _ _))
  have HX := Lib.hid (show At2 43 W (w.heap.size + 1) (.string d) (.string s) by
    rw [← hW]
    have e := (At2.new 43 (w.alloc (.cells #[.slice sO n kO, .int .i64 q, .slice sU m kU, .int .i64 l] 25)) (.string d) (.string s)).keep (below_new _ (.cells #[nilV, zeroV, nilV, zeroV] 25))
    rwa [World.size_alloc] at e)
  have HR := Lib.hid (show At4 25 W (w.heap.size + 2) nilV zeroV nilV zeroV by
    rw [← hW]
    have e := At4.new 25 ((w.alloc (.cells #[.slice sO n kO, .int .i64 q, .slice sU m kU, .int .i64 l] 25)).alloc (.cells #[.string d, .string s] 43)) nilV zeroV nilV zeroV
    rwa [World.size_alloc, World.size_alloc] at e)
  have HSZ := Lib.hid (show W.heap.size = w.heap.size + 3 by rw [← hW]; simp)
  have HOW := Lib.hid ho
  have HBS := Lib.hid (And.intro hbase (And.intro hd hs))
  have HW := Lib.hid hW
  have F1 := Lib.hid (FT.out W HB.out)
  clear hW h ho hu he hf hn hm hq hl hus hfe hpo FT hbase hd
  go_enter Tryz.func34, Tryz.ntmps34
  go_upto_region 1 with fail
  rw [HW.out]
  obtain ⟨a0, a1, a2, a3⟩ := HA.out.cells
  obtain ⟨x0, x1⟩ := HX.out.cells
  go_wp2_with fail
  refine F1.out.mono ?_
  rintro e w1 ⟨rfl, hb1⟩
  have HB1 := Lib.hid hb1
  have HR1 := Lib.hid (HR.out.keep hb1)
  have HA1 := Lib.hid (HA.out.keep hb1)
  have HX1 := Lib.hid (HX.out.keep hb1)
  clear hb1 a0 a1 a2 a3 x0 x1 F1
  by_cases hfe : fe = 0
  rotate_left
  · have HO := Lib.hid (HE.out.trans (if_pos hfe))
    have q0 : (fe != 0) = true := bne_iff_ne.2 hfe
    obtain ⟨r0, r1, r2, r3⟩ := HR1.out.cells
    obtain ⟨f0, f1, f2, f3⟩ := HR1.out.free
    clear hfe
    go_wp2_with fail
    exact bodyPost_ret (results_blb (p := 4) (u := 5) rfl _ _ (w.heap.size + 2) _ _ _ _ rfl (HR1.out.set _ _ _ _)) rfl (by
      rw [HO.out]
      exact ⟨_, rfl, nilBlb_at _, set4_below ((Below.then HB.out HB1.out).mono HBS.out.1) (by have := HBS.out.1; omega) _ _ _ _⟩)
  subst hfe
  have HE1 := Lib.hid (HE.out.trans (if_neg (by decide)))
  have H1 := Lib.hid (HT.out w1 (Below.then HB.out HB1.out))
  clear HT
  obtain ⟨a0, a1, a2, a3⟩ := HA1.out.cells
  obtain ⟨x0, x1⟩ := HX1.out.cells
  obtain ⟨hb, hhb⟩ : ∃ hb, decide (0 ≤ atL b.objs d) = hb := ⟨_, rfl⟩
  rw [hhb] at H1
  have HHB := Lib.hid hhb
  clear hhb
  go_upto_region 4 with fail
  go_wp2_with fail
  refine H1.out.mono ?_
  rintro e w2 ⟨rfl, hb2⟩
  have HB2 := Lib.hid (Below.then HB1.out hb2)
  have HR2 := Lib.hid (HR1.out.keep hb2)
  have HA2 := Lib.hid (HA1.out.keep hb2)
  have HX2 := Lib.hid (HX1.out.keep hb2)
  clear hb2 a0 a1 a2 a3 x0 x1 H1
  obtain ⟨a0, a1, a2, a3⟩ := HA2.out.cells
  obtain ⟨x0, x1⟩ := HX2.out.cells
  cases hb with
  | true =>
    have HO := Lib.hid (HE1.out.trans (if_pos (of_decide_eq_true HHB.out)))
    obtain ⟨r0, r1, r2, r3⟩ := HR2.out.cells
    obtain ⟨f0, f1, f2, f3⟩ := HR2.out.free
    go_wp2_with fail
    exact bodyPost_ret (results_blb (p := 4) (u := 5) rfl _ _ (w.heap.size + 2) _ _ _ _ rfl (HR2.out.set _ _ _ _)) rfl (by
      rw [HO.out]
      refine ⟨_, rfl, HV.out.all_lt fun g hg => ?_, set4_below ((Below.then HB.out HB2.out).mono HBS.out.1) (by have := HBS.out.1; omega) _ _ _ _⟩
      exact (set4_block w2 (w.heap.size + 2) g _ _ _ _ (by omega)).trans ((Below.then HB.out HB2.out).block g hg))
  | false =>
    have HE2 := Lib.hid (HE1.out.trans (if_neg (of_decide_eq_false HHB.out)))
    have ST := Lib.hid (fun w' (hb : Below w2.heap.size w2 w') => SZ.out w' (Below.then (Below.then HB.out HB2.out) hb))
    clear SZ
    by_cases h64 : n = 64
    · have HO := Lib.hid (HE2.out.trans (if_pos h64))
      have q0 : ((n : Int) == 64) = true := by rw [h64]; rfl
      obtain ⟨r0, r1, r2, r3⟩ := HR2.out.cells
      obtain ⟨f0, f1, f2, f3⟩ := HR2.out.free
      clear h64
      go_wp2_with fail
      exact bodyPost_ret (results_blb (p := 4) (u := 5) rfl _ _ (w.heap.size + 2) _ _ _ _ rfl (HR2.out.set _ _ _ _)) rfl (by
        rw [HO.out]
        exact ⟨_, rfl, nilBlb_at _, set4_below ((Below.then HB.out HB2.out).mono HBS.out.1) (by have := HBS.out.1; omega) _ _ _ _⟩)
    · have HE3 := Lib.hid (HE2.out.trans (if_neg h64))
      have q0 : ((n : Int) == 64) = false := by rw [beq_eq_false_iff_ne]; omega
      have q1 : IntKind.i64.wrap ((us : Int) + (s.size : Int)) = (us : Int) + (s.size : Int) := by rw [IntKind.wrap_i64]; omega
      have hbA := Below.refl w2.heap.size w2
      go_upto_region 8 with fail
      by_cases hqs : q < (us : Int) + ((s.size : Nat) : Int)
      · have HO := Lib.hid (HE3.out.trans (if_pos hqs))
        have E0 := decide_eq_true hqs
        clear hqs
        refine wp_region_held_drew (S := fun w' => w'.cell? ⟨w.heap.size, 0, none⟩ = some (.slice sO n kO) ∧ w'.cell? ⟨w.heap.size, 1, none⟩ = some (.int .i64 q) ∧ w'.cell? ⟨w.heap.size + 1, 1, none⟩ = some (.string s)) (by kernel_rfl) ?hSa (fun hHeld => ?hRa)
        case hSa => exact ⟨a0, a1, x1⟩
        refine wpAnyH_take (i := 0) (oi := { dst := some 29, op := Op.fieldAddr 25 (Operand.tmp 2) 0, type := 0, pos := "keep.go:20", after := #[], guard := none }) (v := ?gva0) rfl (by kernel_rfl) (by kernel_rfl) (by kernel_rfl) (fun _ _ _ h => h) (Or.inl ⟨by rfl, ?gya0⟩) (by assumption) ?gra0
        case gya0 => (intro w hSw; (try dsimp only at hSw); go_simp; try with_reducible rfl)
        try simp only [Act.put, List.setIfInBounds_toArray, List.set_cons_zero, List.set_cons_succ]
        refine wpAnyH_take (i := 1) (oi := { dst := some 30, op := Op.load 22 (Operand.tmp 29), type := 22, pos := "keep.go:20", after := #[{ on := 0, ground := Ground.data }], guard := none }) (v := ?gva1) rfl (by kernel_rfl) (by kernel_rfl) (by kernel_rfl) (fun _ _ _ h => h) (Or.inl ⟨by rfl, ?gya1⟩) (by assumption) ?gra1
        case gya1 => (intro w hSw; (try dsimp only at hSw); go_simp; try with_reducible rfl)
        try simp only [Act.put, List.setIfInBounds_toArray, List.set_cons_zero, List.set_cons_succ]
        refine wpAnyH_take (i := 3) (oi := { dst := some 32, op := Op.fieldAddr 43 (Operand.tmp 3) 1, type := 0, pos := "keep.go:20", after := #[], guard := none }) (v := ?gva3) rfl (by kernel_rfl) (by kernel_rfl) (by kernel_rfl) (fun _ _ _ h => h) (Or.inl ⟨by rfl, ?gya3⟩) (by assumption) ?gra3
        case gya3 => (intro w hSw; (try dsimp only at hSw); go_simp; try with_reducible rfl)
        try simp only [Act.put, List.setIfInBounds_toArray, List.set_cons_zero, List.set_cons_succ]
        refine wpAnyH_take (i := 4) (oi := { dst := some 33, op := Op.load 9 (Operand.tmp 32), type := 9, pos := "keep.go:20", after := #[{ on := 3, ground := Ground.data }], guard := none }) (v := ?gva4) rfl (by kernel_rfl) (by kernel_rfl) (by kernel_rfl) (fun _ _ _ h => h) (Or.inl ⟨by rfl, ?gya4⟩) (by assumption) ?gra4
        case gya4 => (intro w hSw; (try dsimp only at hSw); go_simp; try with_reducible rfl)
        try simp only [Act.put, List.setIfInBounds_toArray, List.set_cons_zero, List.set_cons_succ]
        refine wpAnyH_take (i := 5) (oi := { dst := some 34, op := Op.call { callee := Callee.builtin Builtin.len, args := #[Operand.tmp 33], argTypes := #[9] }, type := 3, pos := "keep.go:20", after := #[{ on := 4, ground := Ground.data }], guard := none }) (v := ?gva5) rfl (by kernel_rfl) (by kernel_rfl) (by kernel_rfl) (fun _ _ _ h => h) (Or.inl ⟨by rfl, ?gya5⟩) (by assumption) ?gra5
        case gya5 => (intro w hSw; (try dsimp only at hSw); go_simp; try with_reducible rfl)
        try simp only [Act.put, List.setIfInBounds_toArray, List.set_cons_zero, List.set_cons_succ]
        refine wpAnyH_take (i := 7) (oi := { dst := some 36, op := Op.fieldAddr 25 (Operand.tmp 2) 1, type := 0, pos := "keep.go:20", after := #[], guard := none }) (v := ?gva7) rfl (by kernel_rfl) (by kernel_rfl) (by kernel_rfl) (fun _ _ _ h => h) (Or.inl ⟨by rfl, ?gya7⟩) (by assumption) ?gra7
        case gya7 => (intro w hSw; (try dsimp only at hSw); go_simp; try with_reducible rfl)
        try simp only [Act.put, List.setIfInBounds_toArray, List.set_cons_zero, List.set_cons_succ]
        refine wpAnyH_take (i := 8) (oi := { dst := some 37, op := Op.load 3 (Operand.tmp 36), type := 3, pos := "keep.go:20", after := #[{ on := 7, ground := Ground.data }], guard := none }) (v := ?gva8) rfl (by kernel_rfl) (by kernel_rfl) (by kernel_rfl) (fun _ _ _ h => h) (Or.inl ⟨by rfl, ?gya8⟩) (by assumption) ?gra8
        case gya8 => (intro w hSw; (try dsimp only at hSw); go_simp; try with_reducible rfl)
        try simp only [Act.put, List.setIfInBounds_toArray, List.set_cons_zero, List.set_cons_succ]
        refine wpAnyH_ready (rs := [2]) (by kernel_rfl) (by simp) ?_
        refine AllReadyH.cons (o := { dst := some 31, op := Op.call { callee := Callee.value (Operand.func 29), args := #[Operand.tmp 30], argTypes := #[22] }, type := 3, pos := "keep.go:20", after := #[{ on := 1, ground := Ground.data }], guard := none }) rfl (fun K hK => ?_) AllReadyH.nil
        rw [if_pos (by kernel_rfl)]
        go_simp
        go_wp2_with (go_at_call 29; refine (ST.out _ (by first | exact hbA | exact hbA.drew)).mono ?_; rintro e wS ⟨rfl, hbS⟩)
        have hbA : Below w2.heap.size w2 wS := (by first | exact Below.then hbA hbS | exact Below.then hbA.drew hbS)
        obtain ⟨a0, a1, a2, a3⟩ := (HA2.out.keep hbA).cells
        obtain ⟨x0, x1⟩ := (HX2.out.keep hbA).cells
        refine hK.out _ _ ?hSa2 (fun hHeld2 => ?hRa2)
        case hSa2 => exact ⟨a0, a1, x1⟩
        clear hK K
        try simp only [Act.put, List.setIfInBounds_toArray, List.set_cons_zero, List.set_cons_succ]
        refine wpAnyH_take (i := 6) (oi := { dst := some 35, op := Op.binOp BinOp.add 3 (Operand.tmp 31) (Operand.tmp 34) 3, type := 3, pos := "keep.go:20", after := #[{ on := 2, ground := Ground.data }, { on := 5, ground := Ground.data }], guard := none }) (v := ?gva6) rfl (by kernel_rfl) (by kernel_rfl) (by kernel_rfl) (fun _ _ _ h => h) (Or.inl ⟨by rfl, ?gya6⟩) (by assumption) ?gra6
        case gya6 => (intro w hSw; (try dsimp only at hSw); go_simp; try with_reducible rfl)
        try simp only [Act.put, List.setIfInBounds_toArray, List.set_cons_zero, List.set_cons_succ]
        refine wpAnyH_take (i := 9) (oi := { dst := some 38, op := Op.binOp BinOp.gtr 3 (Operand.tmp 35) (Operand.tmp 37) 3, type := 4, pos := "keep.go:20", after := #[{ on := 6, ground := Ground.data }, { on := 8, ground := Ground.data }], guard := none }) (v := ?gva9) rfl (by kernel_rfl) (by kernel_rfl) (by kernel_rfl) (fun _ _ _ h => h) (Or.inl ⟨by rfl, ?gya9⟩) (by assumption) ?gra9
        case gya9 => (intro w hSw; (try dsimp only at hSw); go_simp; try with_reducible rfl)
        try simp only [Act.put, List.setIfInBounds_toArray, List.set_cons_zero, List.set_cons_succ]
        refine wpAnyH_take (i := 10) (oi := { dst := some 28, op := Op.assign (Operand.tmp 38), type := 4, pos := "keep.go:20", after := #[{ on := 9, ground := Ground.data }, { on := 2, ground := Ground.chain }], guard := none }) (v := ?gva10) rfl (by kernel_rfl) (by kernel_rfl) (by kernel_rfl) (fun _ _ _ h => h) (Or.inl ⟨by rfl, ?gya10⟩) (by assumption) ?gra10
        case gya10 => (intro w hSw; (try dsimp only at hSw); go_simp; try with_reducible rfl)
        try simp only [Act.put, List.setIfInBounds_toArray, List.set_cons_zero, List.set_cons_succ]
        refine wpAnyH_done (by kernel_rfl) ?_ _
        have HB5 := Lib.hid (Below.then HB2.out hbA)
        have HR5 := Lib.hid (HR2.out.keep hbA)
        obtain ⟨r0, r1, r2, r3⟩ := HR5.out.cells
        obtain ⟨f0, f1, f2, f3⟩ := HR5.out.free
        clear a0 a1 a2 a3 x0 x1
        go_wp2_with fail
        exact bodyPost_ret (results_blb (p := 4) (u := 5) rfl _ _ (w.heap.size + 2) _ _ _ _ rfl (HR5.out.set _ _ _ _)) rfl (by
          rw [HO.out]
          exact ⟨_, rfl, nilBlb_at _, set4_below ((Below.then HB.out HB5.out).mono HBS.out.1) (by have := HBS.out.1; omega) _ _ _ _⟩)
      · have HO := Lib.hid (HE3.out.trans (if_neg hqs))
        have E0 := decide_eq_false hqs
        clear hqs
        refine wp_region_held_drew (S := fun w' => w'.cell? ⟨w.heap.size, 0, none⟩ = some (.slice sO n kO) ∧ w'.cell? ⟨w.heap.size, 1, none⟩ = some (.int .i64 q) ∧ w'.cell? ⟨w.heap.size + 1, 1, none⟩ = some (.string s)) (by kernel_rfl) ?hSb (fun hHeld => ?hRb)
        case hSb => exact ⟨a0, a1, x1⟩
        refine wpAnyH_take (i := 0) (oi := { dst := some 29, op := Op.fieldAddr 25 (Operand.tmp 2) 0, type := 0, pos := "keep.go:20", after := #[], guard := none }) (v := ?gvb0) rfl (by kernel_rfl) (by kernel_rfl) (by kernel_rfl) (fun _ _ _ h => h) (Or.inl ⟨by rfl, ?gyb0⟩) (by assumption) ?grb0
        case gyb0 => (intro w hSw; (try dsimp only at hSw); go_simp; try with_reducible rfl)
        try simp only [Act.put, List.setIfInBounds_toArray, List.set_cons_zero, List.set_cons_succ]
        refine wpAnyH_take (i := 1) (oi := { dst := some 30, op := Op.load 22 (Operand.tmp 29), type := 22, pos := "keep.go:20", after := #[{ on := 0, ground := Ground.data }], guard := none }) (v := ?gvb1) rfl (by kernel_rfl) (by kernel_rfl) (by kernel_rfl) (fun _ _ _ h => h) (Or.inl ⟨by rfl, ?gyb1⟩) (by assumption) ?grb1
        case gyb1 => (intro w hSw; (try dsimp only at hSw); go_simp; try with_reducible rfl)
        try simp only [Act.put, List.setIfInBounds_toArray, List.set_cons_zero, List.set_cons_succ]
        refine wpAnyH_take (i := 3) (oi := { dst := some 32, op := Op.fieldAddr 43 (Operand.tmp 3) 1, type := 0, pos := "keep.go:20", after := #[], guard := none }) (v := ?gvb3) rfl (by kernel_rfl) (by kernel_rfl) (by kernel_rfl) (fun _ _ _ h => h) (Or.inl ⟨by rfl, ?gyb3⟩) (by assumption) ?grb3
        case gyb3 => (intro w hSw; (try dsimp only at hSw); go_simp; try with_reducible rfl)
        try simp only [Act.put, List.setIfInBounds_toArray, List.set_cons_zero, List.set_cons_succ]
        refine wpAnyH_take (i := 4) (oi := { dst := some 33, op := Op.load 9 (Operand.tmp 32), type := 9, pos := "keep.go:20", after := #[{ on := 3, ground := Ground.data }], guard := none }) (v := ?gvb4) rfl (by kernel_rfl) (by kernel_rfl) (by kernel_rfl) (fun _ _ _ h => h) (Or.inl ⟨by rfl, ?gyb4⟩) (by assumption) ?grb4
        case gyb4 => (intro w hSw; (try dsimp only at hSw); go_simp; try with_reducible rfl)
        try simp only [Act.put, List.setIfInBounds_toArray, List.set_cons_zero, List.set_cons_succ]
        refine wpAnyH_take (i := 5) (oi := { dst := some 34, op := Op.call { callee := Callee.builtin Builtin.len, args := #[Operand.tmp 33], argTypes := #[9] }, type := 3, pos := "keep.go:20", after := #[{ on := 4, ground := Ground.data }], guard := none }) (v := ?gvb5) rfl (by kernel_rfl) (by kernel_rfl) (by kernel_rfl) (fun _ _ _ h => h) (Or.inl ⟨by rfl, ?gyb5⟩) (by assumption) ?grb5
        case gyb5 => (intro w hSw; (try dsimp only at hSw); go_simp; try with_reducible rfl)
        try simp only [Act.put, List.setIfInBounds_toArray, List.set_cons_zero, List.set_cons_succ]
        refine wpAnyH_take (i := 7) (oi := { dst := some 36, op := Op.fieldAddr 25 (Operand.tmp 2) 1, type := 0, pos := "keep.go:20", after := #[], guard := none }) (v := ?gvb7) rfl (by kernel_rfl) (by kernel_rfl) (by kernel_rfl) (fun _ _ _ h => h) (Or.inl ⟨by rfl, ?gyb7⟩) (by assumption) ?grb7
        case gyb7 => (intro w hSw; (try dsimp only at hSw); go_simp; try with_reducible rfl)
        try simp only [Act.put, List.setIfInBounds_toArray, List.set_cons_zero, List.set_cons_succ]
        refine wpAnyH_take (i := 8) (oi := { dst := some 37, op := Op.load 3 (Operand.tmp 36), type := 3, pos := "keep.go:20", after := #[{ on := 7, ground := Ground.data }], guard := none }) (v := ?gvb8) rfl (by kernel_rfl) (by kernel_rfl) (by kernel_rfl) (fun _ _ _ h => h) (Or.inl ⟨by rfl, ?gyb8⟩) (by assumption) ?grb8
        case gyb8 => (intro w hSw; (try dsimp only at hSw); go_simp; try with_reducible rfl)
        try simp only [Act.put, List.setIfInBounds_toArray, List.set_cons_zero, List.set_cons_succ]
        refine wpAnyH_ready (rs := [2]) (by kernel_rfl) (by simp) ?_
        refine AllReadyH.cons (o := { dst := some 31, op := Op.call { callee := Callee.value (Operand.func 29), args := #[Operand.tmp 30], argTypes := #[22] }, type := 3, pos := "keep.go:20", after := #[{ on := 1, ground := Ground.data }], guard := none }) rfl (fun K hK => ?_) AllReadyH.nil
        rw [if_pos (by kernel_rfl)]
        go_simp
        go_wp2_with (go_at_call 29; refine (ST.out _ (by first | exact hbA | exact hbA.drew)).mono ?_; rintro e wS ⟨rfl, hbS⟩)
        have hbA : Below w2.heap.size w2 wS := (by first | exact Below.then hbA hbS | exact Below.then hbA.drew hbS)
        obtain ⟨a0, a1, a2, a3⟩ := (HA2.out.keep hbA).cells
        obtain ⟨x0, x1⟩ := (HX2.out.keep hbA).cells
        refine hK.out _ _ ?hSb2 (fun hHeld2 => ?hRb2)
        case hSb2 => exact ⟨a0, a1, x1⟩
        clear hK K
        try simp only [Act.put, List.setIfInBounds_toArray, List.set_cons_zero, List.set_cons_succ]
        refine wpAnyH_take (i := 6) (oi := { dst := some 35, op := Op.binOp BinOp.add 3 (Operand.tmp 31) (Operand.tmp 34) 3, type := 3, pos := "keep.go:20", after := #[{ on := 2, ground := Ground.data }, { on := 5, ground := Ground.data }], guard := none }) (v := ?gvb6) rfl (by kernel_rfl) (by kernel_rfl) (by kernel_rfl) (fun _ _ _ h => h) (Or.inl ⟨by rfl, ?gyb6⟩) (by assumption) ?grb6
        case gyb6 => (intro w hSw; (try dsimp only at hSw); go_simp; try with_reducible rfl)
        try simp only [Act.put, List.setIfInBounds_toArray, List.set_cons_zero, List.set_cons_succ]
        refine wpAnyH_take (i := 9) (oi := { dst := some 38, op := Op.binOp BinOp.gtr 3 (Operand.tmp 35) (Operand.tmp 37) 3, type := 4, pos := "keep.go:20", after := #[{ on := 6, ground := Ground.data }, { on := 8, ground := Ground.data }], guard := none }) (v := ?gvb9) rfl (by kernel_rfl) (by kernel_rfl) (by kernel_rfl) (fun _ _ _ h => h) (Or.inl ⟨by rfl, ?gyb9⟩) (by assumption) ?grb9
        case gyb9 => (intro w hSw; (try dsimp only at hSw); go_simp; try with_reducible rfl)
        try simp only [Act.put, List.setIfInBounds_toArray, List.set_cons_zero, List.set_cons_succ]
        refine wpAnyH_take (i := 10) (oi := { dst := some 28, op := Op.assign (Operand.tmp 38), type := 4, pos := "keep.go:20", after := #[{ on := 9, ground := Ground.data }, { on := 2, ground := Ground.chain }], guard := none }) (v := ?gvb10) rfl (by kernel_rfl) (by kernel_rfl) (by kernel_rfl) (fun _ _ _ h => h) (Or.inl ⟨by rfl, ?gyb10⟩) (by assumption) ?grb10
        case gyb10 => (intro w hSw; (try dsimp only at hSw); go_simp; try with_reducible rfl)
        try simp only [Act.put, List.setIfInBounds_toArray, List.set_cons_zero, List.set_cons_succ]
        refine wpAnyH_done (by kernel_rfl) ?_ _
        have HB5 := Lib.hid (Below.then HB2.out hbA)
        have HR5 := Lib.hid (HR2.out.keep hbA)
        have HA5 := Lib.hid (HA2.out.keep hbA)
        have HX5 := Lib.hid (HX2.out.keep hbA)
        have HO5 := Lib.hid (own_keep HOW.out (Below.then HB.out HB5.out))
        clear hbS hbA hHeld hHeld2 a0 a1 a2 a3 x0 x1
        obtain ⟨a0, a1, a2, a3⟩ := HA5.out.cells
        obtain ⟨x0, x1⟩ := HX5.out.cells
        go_upto_region 10 with fail
        obtain ⟨w6, hw6⟩ : ∃ x, wS.alloc (.cells #[.string d, .string s] 43) = x := ⟨_, rfl⟩
        obtain ⟨B6, hB6⟩ : ∃ B, wS.heap.size = B := ⟨_, rfl⟩
        have HB6 := Lib.hid (show Below W.heap.size W w6 by rw [← hw6]; exact Below.then HB5.out (below_new _ _))
        have HS6 := Lib.hid (show SrcOf 2 w6 (.slice (some ⟨B6, 0, none⟩) 1 1) 1 (cellsL [objCell (d, s)]) from
          Or.inr ⟨⟨B6, 0, none⟩, 1, rfl, rfl, fun i u hu => by
            obtain ⟨z0, z1⟩ := (show At2 43 w6 B6 (.string d) (.string s) by rw [← hw6, ← hB6]; exact At2.new _ _ _ _).cells
            rw [add_plain, Nat.zero_add]
            match i, hu with
            | 0, hu => simp [cellsL, objCell] at hu; subst hu; exact z0
            | 1, hu => simp [cellsL, objCell] at hu; subst hu; exact z1
            | i + 2, hu => simp [cellsL, objCell] at hu⟩)
        have HO6 := Lib.hid (show w6.ownsRow base 43 2 (.slice sO n kO) n (cellsL (b.objs.map objCell)) by rw [← hw6]; exact HO5.out.alloc _)
        have HW6 := Lib.hid hw6
        have HBB := Lib.hid (show base ≤ w6.heap.size by have := HB6.out.size; have := HSZ.out; have := HBS.out.1; omega)
        have HN := Lib.hid hn64
        have HLT := Lib.hid (show ∀ g, (Value.slice sO n kO).ownBlock = some g → g < w.heap.size from fun g hg => (own_lt HOW.out hg).2)
        have HA6 := Lib.hid (show At4 25 w6 w.heap.size (.slice sO n kO) (.int .i64 q) (.slice sU m kU) (.int .i64 l) by rw [← hw6]; exact HA5.out.keep (below_new _ _))
        have HR6 := Lib.hid (show At4 25 w6 (w.heap.size + 2) nilV zeroV nilV zeroV by rw [← hw6]; exact HR5.out.keep (below_new _ _))
        clear hw6
        go_upto_region 11 with (first | (rw [HW6.out]; clear HW6) | (at_builtin; refine wpList_append_src _ rfl _ _ 22 rfl base 43 i0 (.agg #[.string ⟨#[]⟩, .string ⟨#[]⟩]) 2 32 Tryz.underlying22 hi hz0 hz1 hz2 rfl (by decide) _ n _ rfl HO6.out _ 1 _ rfl HS6.out (by intro u hu; simp [cellsL, objCell] at hu; rcases hu with rfl | rfl <;> rfl) (by unfold maxLen; omega) (by omega) HBB.out ?_; intro v9 w9 hown9 hgrow9; obtain ⟨s9, t9, rfl⟩ := own_shape hown9; have HO9 := Lib.hid hown9; have HG9 := Lib.hid (show w6.grownBy w9 (Value.slice sO n kO).ownBlock from hgrow9); have HA9 := Lib.hid (HA6.out.grown hgrow9 fun g hg => by have := HLT.out g hg; omega); have HR9 := Lib.hid (HR6.out.grown hgrow9 fun g hg => by have := HLT.out g hg; omega); clear hown9 hgrow9 a0 a1 a2 a3 x0 x1; obtain ⟨a0, a1, a2, a3⟩ := HA9.out.cells; obtain ⟨f0, f1, f2, f3⟩ := HA9.out.free))
        obtain ⟨w10, hw10⟩ : ∃ x, w9.setCell ⟨w.heap.size, 0, none⟩ (.slice s9 (n + 1) t9) = x := ⟨_, rfl⟩
        rw [hw10]
        have HA10 := Lib.hid (show At4 25 w10 w.heap.size (.slice s9 (n + 1) t9) (.int .i64 q) (.slice sU m kU) (.int .i64 l) by rw [← hw10]; exact HA9.out.at0 _)
        have HR10 := Lib.hid (show At4 25 w10 (w.heap.size + 2) nilV zeroV nilV zeroV by rw [← hw10]; exact HR9.out.other (by omega) _)
        have HW10 := Lib.hid hw10
        clear hw10 a0 a1 a2 a3 f0 f1 f2 f3
        obtain ⟨a0, a1, a2, a3⟩ := HA10.out.cells
        obtain ⟨r0, r1, r2, r3⟩ := HR10.out.cells
        obtain ⟨f0, f1, f2, f3⟩ := HR10.out.free
        go_wp2_with fail
        exact bodyPost_ret (results_blb (p := 4) (u := 5) rfl _ _ (w.heap.size + 2) _ _ _ _ rfl (HR10.out.set _ _ _ _)) rfl (by
          obtain ⟨hn1, hm1, hq1, hl1⟩ := HQ.out
          have hv := HV.out
          rw [HO.out]
          subst hq1
          subst hl1
          obtain ⟨k1, k2⟩ := kept_end hv hn1 HBS.out.1 HSZ.out HB.out HB6.out HO9.out HG9.out HA9.out HR9.out HW10.out (by unfold maxLen; have := HBS.out.2.1; omega) (by unfold maxLen; have := HBS.out.2.2; omega)
          exact ⟨_, rfl, k1, k2⟩)
end Go.Proofs.YtodjhmphneoifaaGreatDoor
/-! The program's Drop and End of blobs, by contracts. Conditions: the digest's tables and octet's errors lie where they were laid; digests of a size. -/
namespace Go.Proofs.YtodjhmphneoifaaGreatDoor
open Go.RowKit Go.WideShapes

theorem four_below {w0 w : World} {B0 B : Nat} {x0 x1 x2 x3 : Value} (h : Below B0 w0 w) (hB : B0 ≤ B) : Below B0 w0 ((((w.setCell ⟨B, 0, none⟩ x0).setCell ⟨B, 1, none⟩ x1).setCell ⟨B, 2, none⟩ x2).setCell ⟨B, 3, none⟩ x3) := set4_below h hB _ _ _ _
theorem At4.under {t : TypeId} {w w' : World} {B B' : Nat} {a b c d : Value} (h : At4 t w B a b c d) (hb : Below B' w w') (hlt : B < B') : At4 t w' B a b c d := (hb.block B hlt).trans h
theorem At2.under {t : TypeId} {w w' : World} {B B' : Nat} {a b : Value} (h : At2 t w B a b) (hb : Below B' w w') (hlt : B < B') : At2 t w' B a b := (hb.block B hlt).trans h

set_option maxRecDepth 100000 in
set_option maxHeartbeats 2000000 in
theorem Drop_t (v : Value) (b : Blb) (id : Int) (w : World) (aD aS aZ : Addr) (h : BlbAt w v b) (he : DEnv w aD aS aZ) :
    Calls Tryz.prog 20 #[v, .int .i64 id] w (BlbOut (dropB b id) w) := by
  have U := Lib.hid (fun w' (hb : Below w.heap.size w w') => uploadPlace_t v b id w' aD aS aZ (h.keep hb) (he.keep hb))
  have DR := Lib.hid (fun w' (hb : Below w.heap.size w w') k hk hn hm => dropped_t v b k w' (h.keep hb) hk hn hm)
  have HE := Lib.hid (show dropB b id = if (placeB b id).2 ≠ 0 then (nilBlb, (placeB b id).2) else (withoutB b (placeB b id).1.toNat, 0) from rfl)
  have HPO := Lib.hid (fun hh => place_ok (b := b) (id := id) hh)
  obtain ⟨a, n, c, q, a', m, c', l, rfl⟩ := h.four
  obtain ⟨⟨p, x⟩, hpx⟩ : ∃ x, placeB b id = x := ⟨_, rfl⟩
  rw [hpx] at U HE HPO
  obtain ⟨W, hW⟩ : ∃ W, (w.alloc (.cells #[.slice a n c, .int .i64 q, .slice a' m c', .int .i64 l] 25)).alloc (.cells #[nilV, zeroV, nilV, zeroV] 25) = W := ⟨_, rfl⟩
  have HB := Lib.hid (show Below w.heap.size w W by rw [← hW]; exact Below.then (below_new _ _) (below_new _ _))
  have HA := Lib.hid (show At4 25 W w.heap.size (.slice a n c) (.int .i64 q) (.slice a' m c') (.int .i64 l) by rw [← hW]; exact (At4.new _ _ _ _ _ _).keep (below_new _ _))
  have HR := Lib.hid (show At4 25 W (w.heap.size + 1) nilV zeroV nilV zeroV by
    rw [← hW]
    have e := At4.new 25 (w.alloc (.cells #[.slice a n c, .int .i64 q, .slice a' m c', .int .i64 l] 25)) nilV zeroV nilV zeroV
    rwa [World.size_alloc] at e)
  have HSZ := Lib.hid (show W.heap.size = w.heap.size + 2 by rw [← hW]; simp)
  have HW := Lib.hid hW
  have U1 := Lib.hid (U.out W HB.out)
  clear hW h he U hpx
  go_enter Tryz.func20, Tryz.ntmps20
  go_upto_region 1 with fail
  rw [HW.out]
  obtain ⟨a0, a1, a2, a3⟩ := HA.out.cells
  go_wp2_with fail
  refine U1.out.mono ?_
  rintro e w1 ⟨rfl, hb1⟩
  have HB1 := Lib.hid hb1
  have HA1 := Lib.hid (HA.out.keep hb1)
  have HR1 := Lib.hid (HR.out.keep hb1)
  clear hb1 a0 a1 a2 a3 U1
  by_cases hx : x = 0
  · subst hx
    obtain ⟨hr, j, hj, ej, -⟩ := HPO.out (by simp)
    obtain rfl : p = (j : Int) := (Prod.mk.inj ej).1
    have HO := Lib.hid (show dropB b id = (withoutB b j, 0) by rw [HE.out, if_neg (by simp)]; rfl)
    have D1 := Lib.hid (DR.out w1 (Below.then HB.out HB1.out) j hj (by have := hr.objs; omega) (by have := hr.ups; omega))
    obtain ⟨a0, a1, a2, a3⟩ := HA1.out.cells
    clear DR hr hj ej
    go_wp2_with fail
    refine D1.out.mono ?_
    rintro e w2 ⟨v2, rfl, hv2, hb2⟩
    obtain ⟨sO, kO, sU, kU, rfl, -, -⟩ := hv2.shape
    have HV2 := Lib.hid hv2
    have HB2 := Lib.hid (Below.then HB1.out hb2)
    have HR2 := Lib.hid (HR1.out.keep hb2)
    have HLT := Lib.hid (show W.heap.size ≤ w1.heap.size from HB1.out.size)
    clear hv2 hb2 a0 a1 a2 a3 D1
    obtain ⟨r0, r1, r2, r3⟩ := HR2.out.cells
    obtain ⟨f0, f1, f2, f3⟩ := HR2.out.free
    go_wp2_with fail
    exact bodyPost_ret (results_blb (p := 4) (u := 5) rfl _ _ (w.heap.size + 1) _ _ _ _ rfl (HR2.out.set _ _ _ _)) rfl (by
      rw [HO.out]
      refine ⟨_, rfl, (HV2.out.same fun g hg => ?_).blb, set4_below (Below.then HB.out HB2.out) (Nat.le_succ _) _ _ _ _⟩
      exact set4_block _ _ _ _ _ _ _ (by have := HLT.out; have := HSZ.out; omega))
  · have HO := Lib.hid (show dropB b id = (nilBlb, x) by rw [HE.out, if_pos (by simpa using hx)])
    have q0 : (x != 0) = true := bne_iff_ne.2 hx
    obtain ⟨r0, r1, r2, r3⟩ := HR1.out.cells
    obtain ⟨f0, f1, f2, f3⟩ := HR1.out.free
    clear hx
    go_wp2_with fail
    exact bodyPost_ret (results_blb (p := 4) (u := 5) rfl _ _ (w.heap.size + 1) _ _ _ _ rfl (HR1.out.set _ _ _ _)) rfl (blbOut_nil HO.out (Below.then HB.out HB1.out) (Nat.le_succ _))

theorem cell_four {w : World} {B b j : Nat} {x0 x1 x2 x3 : Value} (h : b ≠ B) : ((((w.setCell ⟨B, 0, none⟩ x0).setCell ⟨B, 1, none⟩ x1).setCell ⟨B, 2, none⟩ x2).setCell ⟨B, 3, none⟩ x3).cell? ⟨b, j, none⟩ = w.cell? ⟨b, j, none⟩ :=
  World.cell?_of_block (set4_block w B b x0 x1 x2 x3 h)
theorem end_no {b : Blb} {id : Int} {d : ByteArray} {p x : Int} (h : placeB b id = (p, x)) (hx : x ≠ 0) : endB b id d = (nilBlb, x) := by
  unfold endB
  unfold placeB at h
  by_cases hr : rightBlb b = true
  · rw [if_pos hr] at h ⊢
    by_cases hu : upL b.ups id < 0
    · rw [if_pos hu] at h
      cases h
      have : upL b.ups id = -1 := findL_none (findL_neg (p := fun u : Int × ByteArray => u.1 == id) hu)
      unfold endL
      rw [if_pos hu]
    · rw [if_neg hu] at h
      cases h
      exact absurd rfl hx
  · rw [if_neg hr] at h ⊢
    cases h
    rfl
theorem fitsD_no {d s : ByteArray} : fitsD d s ≠ 0 → ((parseD d).2 ≠ 0 ∧ fitsD d s = 6) ∨ ((parseD d).2 = 0 ∧ fitsD d s = 10) := by
  intro h
  obtain ⟨r, e, hp, hc⟩ := parseD_cases d
  unfold fitsD at h ⊢
  rw [hp] at h ⊢
  rcases hc with ⟨rfl, -⟩ | ⟨rfl, -⟩
  · right
    refine ⟨rfl, ?_⟩
    rw [if_pos rfl] at h ⊢
    by_cases hne : sumB s = r
    · rw [if_pos hne] at h; exact absurd rfl h
    · rw [if_neg hne]
  · left; exact ⟨by show (6 : Int) ≠ 0; decide, by rw [if_neg (show ¬ (6 : Int) = 0 by decide)]⟩
theorem keptB_ok {b : Blb} {d s : ByteArray} (hf : fitsD d s = 0) : keptB b d s = if 0 ≤ atL b.objs d then (b, 0) else if b.objs.length = 64 then (nilBlb, 13)
  else if b.quota < (usedL b.objs : Int) + (s.size : Nat) then (nilBlb, 12) else (⟨b.objs ++ [(d, s)], b.quota, b.ups, b.last⟩, 0) := by
  unfold keptB; rw [if_neg (by simpa using hf)]
theorem keptB_no {b : Blb} {d s : ByteArray} (hf : fitsD d s ≠ 0) : keptB b d s = (nilBlb, fitsD d s) := by
  unfold keptB; rw [if_pos hf]
theorem endL_kept {b : Blb} {id : Int} {d : ByteArray} {j : Nat} (hu : upL b.ups id = (j : Int)) (hj : j < b.ups.length) : endL b id d = keptB (withoutB b j) d b.ups[j].2 := by
  unfold endL
  rw [hu, if_neg (by omega), Int.toNat_natCast, getD_of_lt hj]
  by_cases hf : fitsD d b.ups[j].2 = 0
  · have hp : (parseD d).2 = 0 := by
      rcases Decidable.em ((parseD d).2 = 0) with h | h
      · exact h
      · exfalso; unfold fitsD at hf; rw [if_neg h] at hf; exact h hf
    rw [keptB_ok hf, if_neg (by simpa using hp), if_neg (by simpa using hf)]
    rfl
  · rw [keptB_no hf]
    rcases fitsD_no hf with ⟨h1, h2⟩ | ⟨h1, h2⟩
    · rw [if_pos h1, h2]
    · rw [if_neg (by simpa using h1), if_pos hf, h2]
set_option maxRecDepth 100000 in
set_option maxHeartbeats 4000000 in
theorem End_t (v : Value) (b : Blb) (id : Int) (d : ByteArray) (w : World) (aD aS aZ : Addr) (h : BlbAt w v b) (he : DEnv w aD aS aZ) (hd : d.size ≤ 9223372036854775807) :
    Calls Tryz.prog 19 #[v, .int .i64 id, .string d] w (BlbOut (endB b id d) w) := by
  have U := Lib.hid (fun w' (hb : Below w.heap.size w w') => uploadPlace_t v b id w' aD aS aZ (h.keep hb) (he.keep hb))
  have DR := Lib.hid (fun w' (hb : Below w.heap.size w w') k hk hn hm => dropped_t v b k w' (h.keep hb) hk hn hm)
  have KP := Lib.hid (fun v' b' s base w' hv' hb hf hn hs (hbw : Below w.heap.size w w') => kept_t v' b' d s base w' aD aS aZ hv' hb (he.keep hbw) hf hn hd hs)
  have HPO := Lib.hid (fun hh => place_ok (b := b) (id := id) hh)
  have hp := h
  obtain ⟨a, c, a', c', rfl, hl1, hl2⟩ := h.shape
  have hpu := hp.parts.2.1
  obtain ⟨n, hn⟩ : ∃ x, b.objs.length = x := ⟨_, rfl⟩
  obtain ⟨m, hm⟩ : ∃ x, b.ups.length = x := ⟨_, rfl⟩
  obtain ⟨q, hq⟩ : ∃ x, b.quota = x := ⟨_, rfl⟩
  obtain ⟨l, hl⟩ : ∃ x, b.last = x := ⟨_, rfl⟩
  obtain ⟨⟨p, x⟩, hpx⟩ : ∃ x, placeB b id = x := ⟨_, rfl⟩
  have HEN := Lib.hid (fun hh => end_no (d := d) hpx hh)
  rw [hpx] at U HPO
  rw [hn, hm, hq, hl] at U DR ⊢
  rw [hm] at hpu
  have HN := Lib.hid (And.intro hn hm)
  obtain ⟨W, hW⟩ : ∃ W, (w.alloc (.cells #[.slice a n c, .int .i64 q, .slice a' m c', .int .i64 l] 25)).alloc (.cells #[nilV, zeroV, nilV, zeroV] 25) = W := ⟨_, rfl⟩
  have HB := Lib.hid (show Below w.heap.size w W by rw [← hW]; exact Below.then (below_new _ _) (below_new _ _))
  have HA := Lib.hid (show At4 25 W w.heap.size (.slice a n c) (.int .i64 q) (.slice a' m c') (.int .i64 l) by rw [← hW]; exact (At4.new _ _ _ _ _ _).keep (below_new _ _))
  have HR := Lib.hid (show At4 25 W (w.heap.size + 1) nilV zeroV nilV zeroV by
    rw [← hW]
    have e := At4.new 25 (w.alloc (.cells #[.slice a n c, .int .i64 q, .slice a' m c', .int .i64 l] 25)) nilV zeroV nilV zeroV
    rwa [World.size_alloc] at e)
  have HSZ := Lib.hid (show W.heap.size = w.heap.size + 2 by rw [← hW]; simp)
  have HPU := Lib.hid hpu
  have HW := Lib.hid hW
  have U1 := Lib.hid (U.out W HB.out)
  clear hW h hp hpu he U hpx hn hm hq hl hd
  go_enter Tryz.func19, Tryz.ntmps19
  go_upto_region 1 with fail
  rw [HW.out]
  obtain ⟨a0, a1, a2, a3⟩ := HA.out.cells
  go_wp2_with fail
  refine U1.out.mono ?_
  rintro e w1 ⟨rfl, hb1⟩
  have HB1 := Lib.hid hb1
  have HA1 := Lib.hid (HA.out.keep hb1)
  have HR1 := Lib.hid (HR.out.keep hb1)
  clear hb1 a0 a1 a2 a3 U1
  by_cases hx : x = 0
  rotate_left
  · have HO := Lib.hid (HEN.out hx)
    have q0 : (x != 0) = true := bne_iff_ne.2 hx
    obtain ⟨r0, r1, r2, r3⟩ := HR1.out.cells
    obtain ⟨f0, f1, f2, f3⟩ := HR1.out.free
    clear hx
    go_wp2_with fail
    exact bodyPost_ret (results_blb (p := 6) (u := 7) rfl _ _ (w.heap.size + 1) _ _ _ _ rfl (HR1.out.set _ _ _ _)) rfl (blbOut_nil HO.out (Below.then HB.out HB1.out) (Nat.le_succ _))
  subst hx
  obtain ⟨hr, j, hj, ej, -, -, hu⟩ := HPO.out (by simp)
  obtain rfl : p = (j : Int) := (Prod.mk.inj ej).1
  have hjm : j < m := by rw [← HN.out.2]; exact hj
  have HO := Lib.hid (show endB b id d = keptB (withoutB b j) d b.ups[j].2 by
    unfold endB; rw [if_pos ((right_iff b).2 hr)]; exact endL_kept hu hj)
  have hs4 := (hr.short _ (List.getElem_mem hj)).1
  obtain ⟨lb, lo, rfl, e0, e1⟩ := HPU.out.at j (by rw [List.length_map]; exact hj)
  rw [up_getElem b.ups j hj] at e0 e1
  obtain ⟨⟨y, s⟩, hys⟩ : ∃ x, b.ups[j] = x := ⟨_, rfl⟩
  rw [hys] at e0 e1 HO hs4
  simp only at e0 e1 hs4 HO
  have e1 := Below.keepc (Below.then HB.out HB1.out) e1
  have DR1 := Lib.hid (fun w' hb => DR.out w' hb j hjm (by have := hr.objs; have := HN.out.1; omega) (by have := hr.ups; have := HN.out.2; omega))
  have KP1 := Lib.hid (fun v' base w' hv' hb (hbw : Below w.heap.size w w') => KP.out v' (withoutB b j) s base w' hv' hb ⟨by show b.objs.length ≤ 100; have := hr.objs; omega, fun o ho => by have := (hr.data o ho).1; omega⟩ hr.objs hs4 hbw)
  obtain ⟨⟨bk, xk⟩, hkb⟩ : ∃ x, keptB (withoutB b j) d s = x := ⟨_, rfl⟩
  rw [hkb] at KP1 HO
  clear hys e0 ej hu hr hs4 DR KP hkb
  obtain ⟨a0, a1, a2, a3⟩ := HA1.out.cells
  obtain ⟨W2, hW2⟩ : ∃ x, w1.alloc (.cells #[.string d, .string s] 43) = x := ⟨_, rfl⟩
  obtain ⟨B2, hB2⟩ : ∃ B, w1.heap.size = B := ⟨_, rfl⟩
  have HX2 := Lib.hid (show At2 43 W2 B2 (.string d) (.string s) by rw [← hW2, ← hB2]; exact At2.new _ _ _ _)
  have HB2 := Lib.hid (show Below W.heap.size W W2 by rw [← hW2]; exact Below.then HB1.out (below_new _ _))
  have HA2 := Lib.hid (show At4 25 W2 w.heap.size (.slice a n c) (.int .i64 q) (.slice (some ⟨lb, lo, none⟩) m c') (.int .i64 l) by rw [← hW2]; exact HA1.out.keep (below_new _ _))
  have HR2 := Lib.hid (show At4 25 W2 (w.heap.size + 1) nilV zeroV nilV zeroV by rw [← hW2]; exact HR1.out.keep (below_new _ _))
  have HW2 := Lib.hid hW2
  have HBN := Lib.hid (show B2 ≠ w.heap.size + 1 by have := HB1.out.size; have := HSZ.out; omega)
  clear hW2
  go_upto_region 5 with fail
  rw [HW2.out]
  clear hB2 a0 a1 a2 a3 e1
  obtain ⟨a0, a1, a2, a3⟩ := HA2.out.cells
  obtain ⟨x0, x1⟩ := HX2.out.cells
  refine wp_region_held_drew (S := fun w' => w'.cell? ⟨w.heap.size, 0, none⟩ = some (.slice a n c) ∧ w'.cell? ⟨w.heap.size, 1, none⟩ = some (.int .i64 q) ∧ w'.cell? ⟨w.heap.size, 2, none⟩ = some (.slice (some ⟨lb, lo, none⟩) m c') ∧ w'.cell? ⟨w.heap.size, 3, none⟩ = some (.int .i64 l) ∧ w'.cell? ⟨B2, 0, none⟩ = some (.string d) ∧ w'.cell? ⟨B2, 1, none⟩ = some (.string s)) (by kernel_rfl) ?hS (fun hHeld => ?hR)
  case hS => exact ⟨a0, a1, a2, a3, x0, x1⟩
  refine wpAnyH_take (i := 0) (oi := { dst := some 29, op := Op.load 25 (Operand.tmp 3), type := 25, pos := "blob.go:84", after := #[], guard := none }) (v := ?gv0) rfl (by kernel_rfl) (by kernel_rfl) (by kernel_rfl) (fun _ _ _ h => h) (Or.inl ⟨by rfl, ?gy0⟩) (by assumption) ?gr0
  case gy0 => (intro w hSw; (try dsimp only at hSw); go_simp; try with_reducible rfl)
  try simp only [Act.put, List.setIfInBounds_toArray, List.set_cons_zero, List.set_cons_succ]
  refine wpAnyH_take (i := 1) (oi := { dst := some 30, op := Op.move (Operand.tmp 8), type := 3, pos := "blob.go:84", after := #[], guard := none }) (v := ?gv1) rfl (by kernel_rfl) (by kernel_rfl) (by kernel_rfl) (fun _ _ _ h => h) (Or.inl ⟨by rfl, ?gy1⟩) (by assumption) ?gr1
  case gy1 => (intro w hSw; (try dsimp only at hSw); go_simp; try with_reducible rfl)
  try simp only [Act.put, List.setIfInBounds_toArray, List.set_cons_zero, List.set_cons_succ]
  refine wpAnyH_take (i := 3) (oi := { dst := some 32, op := Op.load 43 (Operand.tmp 10), type := 43, pos := "blob.go:84", after := #[], guard := none }) (v := ?gv3) rfl (by kernel_rfl) (by kernel_rfl) (by kernel_rfl) (fun _ _ _ h => h) (Or.inl ⟨by rfl, ?gy3⟩) (by assumption) ?gr3
  case gy3 => (intro w hSw; (try dsimp only at hSw); go_simp; try with_reducible rfl)
  try simp only [Act.put, List.setIfInBounds_toArray, List.set_cons_zero, List.set_cons_succ]
  refine wpAnyH_ready (rs := [2]) (by kernel_rfl) (by simp) ?_
  refine AllReadyH.cons (o := { dst := some 31, op := Op.call { callee := Callee.value (Operand.func 35), args := #[Operand.tmp 29, Operand.tmp 30], argTypes := #[25, 3] }, type := 25, pos := "blob.go:84", after := #[{ on := 0, ground := Ground.data }, { on := 1, ground := Ground.data }], guard := none }) rfl (fun K hK => ?_) AllReadyH.nil
  rw [if_pos (by kernel_rfl)]
  go_simp
  go_wp2_with (go_at_call 35; refine (DR1.out _ (Below.then HB.out HB2.out).drew).mono ?_; rintro e w3 ⟨v3, rfl, hv3, hb3⟩)
  obtain ⟨sO, kO, sU, kU, rfl, -, -⟩ := hv3.shape
  have HV3 := Lib.hid hv3
  have HB3 := Lib.hid (show Below W2.heap.size W2 w3 from (Below.refl _ _).drew.trans hb3)
  have HA3 := Lib.hid (HA2.out.keep HB3.out)
  have HR3 := Lib.hid (HR2.out.keep HB3.out)
  have HX3 := Lib.hid (HX2.out.keep HB3.out)
  clear hv3 hb3
  obtain ⟨a0, a1, a2, a3⟩ := HA3.out.cells
  obtain ⟨x0, x1⟩ := HX3.out.cells
  refine hK.out _ _ ?hS2 (fun hHeld2 => ?hR2)
  case hS2 => exact ⟨a0, a1, a2, a3, x0, x1⟩
  clear hK K
  try simp only [Act.put, List.setIfInBounds_toArray, List.set_cons_zero, List.set_cons_succ]
  refine wpAnyH_ready (rs := [4]) (by kernel_rfl) (by simp) ?_
  refine AllReadyH.cons (o := { dst := some 33, op := Op.call { callee := Callee.value (Operand.func 34), args := #[Operand.tmp 31, Operand.tmp 32], argTypes := #[25, 43] }, type := 28, pos := "blob.go:84", after := #[{ on := 2, ground := Ground.data }, { on := 3, ground := Ground.data }, { on := 2, ground := Ground.chain }], guard := none }) rfl (fun K hK => ?_) AllReadyH.nil
  rw [if_pos (by kernel_rfl)]
  go_simp
  go_wp2_with (go_at_call 34; refine (KP1.out _ W2.heap.size w3 HV3.out HB3.out.size (Below.then HB.out (Below.then HB2.out HB3.out))).mono ?_; rintro e w4 ⟨v4, rfl, hv4, hb4⟩)
  obtain ⟨ra, rn, rc, rq, ra', rn', rc', rl, rfl⟩ := hv4.four
  have HV4 := Lib.hid hv4
  have HB4 := Lib.hid (show Below W2.heap.size W2 w4 from HB3.out.trans hb4)
  have HA4 := Lib.hid (HA2.out.keep HB4.out)
  have HR4 := Lib.hid (HR2.out.keep HB4.out)
  have HX4 := Lib.hid (HX2.out.keep HB4.out)
  clear hv4 hb4
  obtain ⟨a0, a1, a2, a3⟩ := HA4.out.cells
  obtain ⟨x0, x1⟩ := HX4.out.cells
  obtain ⟨r0, r1, r2, r3⟩ := HR4.out.cells
  obtain ⟨f0, f1, f2, f3⟩ := HR4.out.free
  refine hK.out _ _ ?hS4 (fun hHeld4 => ?hR4)
  case hS4 => exact ⟨a0, a1, a2, a3, x0, x1⟩
  clear hK K
  try simp only [Act.put, List.setIfInBounds_toArray, List.set_cons_zero, List.set_cons_succ]
  refine wpAnyH_take (i := 5) (oi := { dst := some 34, op := Op.extract (Operand.tmp 33) 0, type := 25, pos := "blob.go:84", after := #[{ on := 4, ground := Ground.data }], guard := none }) (v := ?gv5) rfl (by kernel_rfl) (by kernel_rfl) (by kernel_rfl) (fun _ _ _ h => h) (Or.inl ⟨by rfl, ?gy5⟩) (by assumption) ?gr5
  case gy5 => (intro w hSw; (try dsimp only at hSw); go_simp; try with_reducible rfl)
  try simp only [Act.put, List.setIfInBounds_toArray, List.set_cons_zero, List.set_cons_succ]
  refine wpAnyH_take (i := 6) (oi := { dst := some 35, op := Op.extract (Operand.tmp 33) 1, type := 27, pos := "blob.go:84", after := #[{ on := 4, ground := Ground.data }], guard := none }) (v := ?gv6) rfl (by kernel_rfl) (by kernel_rfl) (by kernel_rfl) (fun _ _ _ h => h) (Or.inl ⟨by rfl, ?gy6⟩) (by assumption) ?gr6
  case gy6 => (intro w hSw; (try dsimp only at hSw); go_simp; try with_reducible rfl)
  try simp only [Act.put, List.setIfInBounds_toArray, List.set_cons_zero, List.set_cons_succ]
  refine wpAnyH_ready (rs := [7]) (by kernel_rfl) (by simp) ?_
  refine AllReadyH.cons (o := { dst := none, op := Op.store 25 (Operand.tmp 6) (Operand.tmp 34), type := 0, pos := "blob.go:84", after := #[{ on := 5, ground := Ground.data }, { on := 4, ground := Ground.chain }, { on := 0, ground := Ground.phase }, { on := 1, ground := Ground.phase }, { on := 2, ground := Ground.phase }, { on := 3, ground := Ground.phase }, { on := 4, ground := Ground.phase }, { on := 5, ground := Ground.phase }, { on := 6, ground := Ground.phase }], guard := none }) rfl (fun K hK => ?_) AllReadyH.nil
  rw [if_pos (by kernel_rfl)]
  go_simp
  refine hK.out _ _ ?hS7 (fun hHeld7 => ?hR7)
  case hS7 => exact (show _ ∧ _ from by
    have hA5 := (((HA4.out.other (B' := w.heap.size + 1) (j := 0) (by omega) (.slice ra rn rc)).other (B' := w.heap.size + 1) (j := 1) (by omega) (.int .i64 rq)).other (B' := w.heap.size + 1) (j := 2) (by omega) (.slice ra' rn' rc')).other (B' := w.heap.size + 1) (j := 3) (by omega) (.int .i64 rl)
    obtain ⟨a0, a1, a2, a3⟩ := hA5.cells
    have hne : B2 ≠ w.heap.size + 1 := HBN.out
    exact ⟨a0, a1, a2, a3, (cell_four hne).trans x0, (cell_four hne).trans x1⟩)
  clear hK K
  try simp only [Act.put, List.setIfInBounds_toArray, List.set_cons_zero, List.set_cons_succ]
  refine wpAnyH_take (i := 8) (oi := { dst := some 7, op := Op.assign (Operand.tmp 35), type := 27, pos := "blob.go:84", after := #[{ on := 6, ground := Ground.data }, { on := 7, ground := Ground.chain }, { on := 0, ground := Ground.phase }, { on := 1, ground := Ground.phase }, { on := 2, ground := Ground.phase }, { on := 3, ground := Ground.phase }, { on := 4, ground := Ground.phase }, { on := 5, ground := Ground.phase }, { on := 6, ground := Ground.phase }, { on := 7, ground := Ground.phase }], guard := none }) (v := ?gv8) rfl (by kernel_rfl) (by kernel_rfl) (by kernel_rfl) (fun _ _ _ h => h) (Or.inl ⟨by rfl, ?gy8⟩) (by assumption) ?gr8
  case gy8 => (intro w hSw; (try dsimp only at hSw); go_simp; try with_reducible rfl)
  try simp only [Act.put, List.setIfInBounds_toArray, List.set_cons_zero, List.set_cons_succ]
  refine wpAnyH_done (by kernel_rfl) ?_ _
  obtain ⟨r0, r1, r2, r3⟩ := HR4.out.cells
  go_wp2_with fail
  exact bodyPost_ret (results_blb (p := 6) (u := 7) rfl _ _ (w.heap.size + 1) _ _ _ _ rfl (HR4.out.set _ _ _ _)) rfl (by
    rw [HO.out]
    exact ⟨_, rfl, HV4.out.away HR4.out fun k hk => set4_block _ _ _ _ _ _ _ hk, set4_below ((Below.then HB.out HB2.out).trans (HB4.out.mono (by have := HSZ.out; have := HB2.out.size; omega))) (Nat.le_succ _) _ _ _ _⟩)
end Go.Proofs.YtodjhmphneoifaaGreatDoor
/-! The program's Begin and Push of blobs, by contracts. Conditions: the digest's tables and octet's errors lie where they were laid; texts of a size. -/
namespace Go.Proofs.YtodjhmphneoifaaGreatDoor
open Go.RowKit Go.WideShapes

/-- Blobs, a number and an error, as Begin answers them. -/
def BlbOut3 (r : Blb × Int × Int) (w : World) (e : Ending) (w' : World) : Prop := ∃ v, e = .returned (.tuple #[v, .int .i64 r.2.1, .int .i64 r.2.2]) ∧ BlbAt w' v r.1 ∧ Below w.heap.size w w'
theorem results_blb3 {fn : Func} {p u u2 : Tmp} (h : fn.results = #[.cell p 25, .tmp u, .tmp u2]) (tmps : Array Value) (w : World) (g : Nat) (a b c d : Value)
    (hp : tmps.getD p undef = .pointer (some ⟨g, 0, none⟩)) (hg : At4 25 w g a b c d) :
    (results fn tmps).run Tryz.prog w = .ok (.tuple #[.agg #[a, b, c, d], tmps.getD u undef, tmps.getD u2 undef]) w := by
  have hr := run_loadVar_row w g 25 25 _ (0, 0) _ hg Tryz.underlying25 rfl infoBlb
  have hp' : tmps[p]?.getD undef = .pointer (some ⟨g, 0, none⟩) := by simpa using hp
  unfold results
  simp [h, hp', asAddr, hr]
/-- The end of Begin. -/
theorem begin_end {w W w1 w2 w6 w7 w8 : World} {b : Blb} {vO vU u2 : Value}
    (hv : OwnBlb w1 W.heap.size (.agg #[vO, .int .i64 b.quota, vU, .int .i64 b.last]) b) (hW : W.heap.size = w.heap.size + 2)
    (hB : Below w.heap.size w W) (hb1 : Below W.heap.size W w1) (h2 : ∀ g, g ≠ w.heap.size → w2.heap[g]? = w1.heap[g]?) (hb2 : Below w.heap.size w1 w2)
    (h6 : Below w2.heap.size w2 w6) (hown7 : w7.ownsRow W.heap.size 40 2 u2 (b.ups.length + 1) (cellsL (b.ups.map upCell) ++ cellsL [upCell (b.last + 1, ⟨#[]⟩)])) (hg7 : w6.grownBy w7 vU.ownBlock)
    (h8 : ∀ g, g ≠ w.heap.size → w8.heap[g]? = w7.heap[g]?) (hb8 : Below w.heap.size w7 w8) (hl : b.last + 1 ≤ 9223372036854775807) :
    BlbAt (set4 w8 (w.heap.size + 1) vO (.int .i64 b.quota) u2 (.int .i64 (b.last + 1))) (.agg #[vO, .int .i64 b.quota, u2, .int .i64 (b.last + 1)]) ⟨b.objs, b.quota, b.ups ++ [(b.last + 1, ⟨#[]⟩)], b.last + 1⟩ ∧
    Below w.heap.size w (set4 w8 (w.heap.size + 1) vO (.int .i64 b.quota) u2 (.int .i64 (b.last + 1))) := by
  obtain ⟨⟨o', u', e, ho, hu⟩, hz1, hz2, hz3, hz4⟩ := hv
  simp only [Value.agg.injEq, Array.mk.injEq, List.cons.injEq, and_true, true_and] at e
  obtain ⟨rfl, rfl⟩ := e
  have hs : ∀ g, W.heap.size ≤ g → (set4 w8 (w.heap.size + 1) vO (.int .i64 b.quota) u2 (.int .i64 (b.last + 1))).heap[g]? = w7.heap[g]? := fun g hg => by
    rw [set4_block _ _ _ _ _ _ _ (by omega), h8 g (by omega)]
  have ho2 := own_same ho fun g hg => h2 g (by omega)
  have hu2 := own_same hu fun g hg => h2 g (by omega)
  have ho6 := own_keep ho2 h6
  have hu6 := own_keep hu2 h6
  have ho7 := own_grown ho6 hu6 objNeUp hg7
  have hb6 : Below w.heap.size w w6 := ((Below.then hB hb1).trans hb2).trans (h6.mono (by have := (Below.then hB hb1).size; have := hb2.size; omega))
  have hB7 : Below w.heap.size w w7 := own_grown_lt hu6 hg7 w w.heap.size hb6 (by omega) hb6.size
  have ho8 := own_same ho7 hs
  have hu8 := own_same hown7 hs
  rw [← cellsL_append, show b.ups.map upCell ++ [upCell (b.last + 1, ⟨#[]⟩)] = (b.ups ++ [(b.last + 1, (⟨#[]⟩ : ByteArray))]).map upCell by simp] at hu8
  refine ⟨⟨⟨_, _, rfl, PairsAt.of_own ho8 (by rw [List.length_map]), PairsAt.of_own hu8 (by rw [List.length_map, List.length_append]; rfl)⟩, hz1, fun u hu => ?_, hz3, ⟨by show _ ≤ b.last + 1; omega, by show b.last + 1 ≤ _; omega⟩⟩, set4_below (hB7.trans hb8) (Nat.le_succ _) _ _ _ _⟩
  rcases List.mem_append.1 hu with hu | hu
  · exact hz2 u hu
  · obtain rfl := List.mem_singleton.1 hu
    exact ⟨Nat.zero_le _, by show _ ≤ b.last + 1; omega, by show b.last + 1 ≤ _; omega⟩
theorem at4_at3 {t : TypeId} {w : World} {B : Nat} {a b c d : Value} (h : At4 t w B a b c d) (v : Value) : At4 t (w.setCell ⟨B, 3, none⟩ v) B a b c v := by
  unfold At4 at h ⊢
  rw [heap_setCell_same _ _ _ _ _ _ h]; rfl

set_option maxRecDepth 100000 in
set_option maxHeartbeats 4000000 in
theorem Begin_t (v : Value) (b : Blb) (w : World) (aD aS aZ : Addr) (h : BlbAt w v b) (he : DEnv w aD aS aZ) :
    Calls Tryz.prog 17 #[v] w (BlbOut3 (beginB b) w) := by
  obtain ⟨i0, hi, hz0, hz1, hz2⟩ := info_parts infoUp
  have R := Lib.hid (fun w' (hb : Below w.heap.size w w') => BRight_t v b w' aD aS aZ (h.keep hb) (he.keep hb))
  have CP := Lib.hid (fun w' (hb : Below w.heap.size w w') hn hm => copied_t v b w' (h.keep hb) hn hm)
  have HE := Lib.hid (show beginB b = if rightBlb b then (if b.ups.length = 16 ∨ b.last = 1099511627776 then (nilBlb, 0, 13) else (⟨b.objs, b.quota, b.ups ++ [(b.last + 1, ⟨#[]⟩)], b.last + 1⟩, b.last + 1, 0)) else (nilBlb, 0, 1) from rfl)
  have HRI := Lib.hid (right_iff b)
  obtain ⟨r, hr⟩ : ∃ r, rightBlb b = r := ⟨_, rfl⟩
  rw [hr] at R HE HRI
  obtain ⟨a, c, a', c', rfl, hl1, hl2⟩ := h.shape
  obtain ⟨n, hn⟩ : ∃ x, b.objs.length = x := ⟨_, rfl⟩
  obtain ⟨m, hm⟩ : ∃ x, b.ups.length = x := ⟨_, rfl⟩
  obtain ⟨q, hq⟩ : ∃ x, b.quota = x := ⟨_, rfl⟩
  obtain ⟨l, hl⟩ : ∃ x, b.last = x := ⟨_, rfl⟩
  rw [hm, hq, hl] at HE
  rw [hn, hm, hq, hl] at R CP ⊢
  rw [hm] at hl2
  have HN := Lib.hid (And.intro hn (And.intro hm (And.intro hq hl)))
  obtain ⟨W, hW⟩ : ∃ W, (w.alloc (.cells #[.slice a n c, .int .i64 q, .slice a' m c', .int .i64 l] 25)).alloc (.cells #[nilV, zeroV, nilV, zeroV] 25) = W := ⟨_, rfl⟩
  have HB := Lib.hid (show Below w.heap.size w W by rw [← hW]; exact Below.then (below_new _ _) (below_new _ _))
  have HA := Lib.hid (show At4 25 W w.heap.size (.slice a n c) (.int .i64 q) (.slice a' m c') (.int .i64 l) by rw [← hW]; exact (At4.new _ _ _ _ _ _).keep (below_new _ _))
  have HR := Lib.hid (show At4 25 W (w.heap.size + 1) nilV zeroV nilV zeroV by
    rw [← hW]
    have e := At4.new 25 (w.alloc (.cells #[.slice a n c, .int .i64 q, .slice a' m c', .int .i64 l] 25)) nilV zeroV nilV zeroV
    rwa [World.size_alloc] at e)
  have HSZ := Lib.hid (show W.heap.size = w.heap.size + 2 by rw [← hW]; simp)
  have HW := Lib.hid hW
  have R1 := Lib.hid (R.out W HB.out)
  clear hW h he R hr hn hm hq hl
  go_enter Tryz.func17, Tryz.ntmps17
  go_upto_region 1 with fail
  rw [HW.out]
  obtain ⟨a0, a1, a2, a3⟩ := HA.out.cells
  go_wp2_with fail
  refine R1.out.mono ?_
  rintro e w1 ⟨rfl, hb1⟩
  have HB1 := Lib.hid hb1
  have HA1 := Lib.hid (HA.out.keep hb1)
  have HR1 := Lib.hid (HR.out.keep hb1)
  clear hb1 a0 a1 a2 a3 R1
  cases r with
  | false =>
    have HO := Lib.hid (show beginB b = (nilBlb, 0, 1) by rw [HE.out]; rfl)
    obtain ⟨r0, r1, r2, r3⟩ := HR1.out.cells
    obtain ⟨f0, f1, f2, f3⟩ := HR1.out.free
    go_wp2_with fail
    exact bodyPost_ret (results_blb3 (p := 2) (u := 3) (u2 := 4) rfl _ _ (w.heap.size + 1) _ _ _ _ rfl (HR1.out.set _ _ _ _)) rfl (by
      rw [HO.out]
      exact ⟨_, rfl, nilBlb_at _, set4_below (Below.then HB.out HB1.out) (Nat.le_succ _) _ _ _ _⟩)
  | true =>
    have HRP := Lib.hid (HRI.out.1 (by trivial))
    have HE2 := Lib.hid (HE.out.trans (if_pos (by trivial)))
    have hb16 : m ≤ 16 ∧ n ≤ 64 ∧ 0 ≤ l ∧ l ≤ 1099511627776 := by
      have h1 := HRP.out.ups
      have h2 := HRP.out.objs
      have h3 := HRP.out.last
      rw [HN.out.2.1] at h1
      rw [HN.out.1] at h2
      rw [HN.out.2.2.2] at h3
      exact ⟨h1, h2, h3⟩
    obtain ⟨a0, a1, a2, a3⟩ := HA1.out.cells
    by_cases hm16 : m = 16
    · have HO := Lib.hid (HE2.out.trans (if_pos (Or.inl hm16)))
      have q0 : ((m : Int) == 16) = true := by rw [hm16]; rfl
      obtain ⟨r0, r1, r2, r3⟩ := HR1.out.cells
      obtain ⟨f0, f1, f2, f3⟩ := HR1.out.free
      clear hm16
      go_wp2_with fail
      exact bodyPost_ret (results_blb3 (p := 2) (u := 3) (u2 := 4) rfl _ _ (w.heap.size + 1) _ _ _ _ rfl (HR1.out.set _ _ _ _)) rfl (by
        rw [HO.out]
        exact ⟨_, rfl, nilBlb_at _, set4_below (Below.then HB.out HB1.out) (Nat.le_succ _) _ _ _ _⟩)
    have q0 : ((m : Int) == 16) = false := by rw [beq_eq_false_iff_ne]; omega
    by_cases hl40 : l = 1099511627776
    · have HO := Lib.hid (HE2.out.trans (if_pos (Or.inr hl40)))
      have q1 : (l == 1099511627776) = true := by rw [hl40]; rfl
      obtain ⟨r0, r1, r2, r3⟩ := HR1.out.cells
      obtain ⟨f0, f1, f2, f3⟩ := HR1.out.free
      clear hl40
      go_wp2_with fail
      exact bodyPost_ret (results_blb3 (p := 2) (u := 3) (u2 := 4) rfl _ _ (w.heap.size + 1) _ _ _ _ rfl (HR1.out.set _ _ _ _)) rfl (by
        rw [HO.out]
        exact ⟨_, rfl, nilBlb_at _, set4_below (Below.then HB.out HB1.out) (Nat.le_succ _) _ _ _ _⟩)
    have q1 : (l == 1099511627776) = false := beq_eq_false_iff_ne.2 hl40
    have HO := Lib.hid (HE2.out.trans (if_neg (fun h => h.elim hm16 hl40)))
    have CP1 := Lib.hid (CP.out w1 (Below.then HB.out HB1.out) (by omega) (by omega))
    obtain ⟨l1, hl1e⟩ : ∃ x, l + 1 = x := ⟨_, rfl⟩
    have q2 : IntKind.i64.wrap (l + 1) = l + 1 := by rw [IntKind.wrap_i64]; omega
    have HL1 := Lib.hid hl1e
    clear CP hm16 hl40
    go_wp2_with fail
    refine CP1.out.mono ?_
    rintro e w2 ⟨v2, rfl, hv2, hb2⟩
    obtain ⟨sO, kO, sU, kU, rfl, ho2, hu2⟩ := hv2.shape
    rw [HN.out.1, HN.out.2.1, HN.out.2.2.1, HN.out.2.2.2] at hv2 ⊢
    rw [HN.out.1] at ho2
    rw [HN.out.2.1] at hu2
    have HV2 := Lib.hid (hv2.base_le (show W.heap.size ≤ w1.heap.size from HB1.out.size))
    have HU2 := Lib.hid (own_base hu2 (show W.heap.size ≤ w1.heap.size from HB1.out.size))
    have HB2 := Lib.hid (Below.then HB1.out hb2)
    have HA2 := Lib.hid (HA1.out.keep hb2)
    have HR2 := Lib.hid (HR1.out.keep hb2)
    clear hv2 ho2 hu2 hb2 a0 a1 a2 a3 CP1
    obtain ⟨a0, a1, a2, a3⟩ := HA2.out.cells
    obtain ⟨f0, f1, f2, f3⟩ := HA2.out.free
    go_upto_region 6 with fail
    obtain ⟨w3, hw3⟩ : ∃ x, (((w2.setCell ⟨w.heap.size, 0, none⟩ (.slice sO n kO)).setCell ⟨w.heap.size, 1, none⟩ (.int .i64 q)).setCell ⟨w.heap.size, 2, none⟩ (.slice sU m kU)).setCell ⟨w.heap.size, 3, none⟩ (.int .i64 l) = x := ⟨_, rfl⟩
    rw [hw3]
    have HA3 := Lib.hid (show At4 25 w3 w.heap.size (.slice sO n kO) (.int .i64 q) (.slice sU m kU) (.int .i64 l) by rw [← hw3]; exact HA2.out.set _ _ _ _)
    have HS3 := Lib.hid (show ∀ g, g ≠ w.heap.size → w3.heap[g]? = w2.heap[g]? by rw [← hw3]; exact fun g hg => set4_block w2 w.heap.size g (.slice sO n kO) (.int .i64 q) (.slice sU m kU) (.int .i64 l) hg)
    have HB3 := Lib.hid (show Below w.heap.size w2 w3 by rw [← hw3]; exact set4_below (Below.refl _ _) (Nat.le_refl _) (.slice sO n kO) (.int .i64 q) (.slice sU m kU) (.int .i64 l))
    clear hw3 a0 a1 a2 a3 f0 f1 f2 f3
    obtain ⟨a0, a1, a2, a3⟩ := HA3.out.cells
    obtain ⟨f0, f1, f2, f3⟩ := HA3.out.free
    go_upto_region 7 with fail
    obtain ⟨w4, hw4⟩ : ∃ x, w3.setCell ⟨w.heap.size, 3, none⟩ (.int .i64 l1) = x := ⟨_, rfl⟩
    rw [hw4]
    have HA4 := Lib.hid (show At4 25 w4 w.heap.size (.slice sO n kO) (.int .i64 q) (.slice sU m kU) (.int .i64 l1) by rw [← hw4]; exact at4_at3 HA3.out _)
    have HS4 := Lib.hid (show ∀ g, g ≠ w.heap.size → w4.heap[g]? = w2.heap[g]? by rw [← hw4]; exact fun g hg => (Below.heap_setCell _ _ _ _ hg).trans (HS3.out g hg))
    have HB4 := Lib.hid (show Below w.heap.size w2 w4 by rw [← hw4]; exact HB3.out.setCell (p := ⟨w.heap.size, 3, none⟩) (Nat.le_refl _) _)
    have HR4 := Lib.hid (show At4 25 w4 (w.heap.size + 1) nilV zeroV nilV zeroV from (HS4.out (w.heap.size + 1) (by omega)).trans HR2.out)
    have HU4 := Lib.hid (own_same HU2.out fun g hg => HS4.out g (by have := HSZ.out; omega))
    clear hw4 a0 a1 a2 a3 f0 f1 f2 f3
    obtain ⟨a0, a1, a2, a3⟩ := HA4.out.cells
    obtain ⟨w6, hw6⟩ : ∃ x, w4.alloc (.cells #[.int .i64 l1, .string ⟨#[]⟩] 40) = x := ⟨_, rfl⟩
    obtain ⟨B6, hB6⟩ : ∃ B, w4.heap.size = B := ⟨_, rfl⟩
    have HB6 := Lib.hid (show Below w4.heap.size w4 w6 by rw [← hw6]; exact below_new _ _)
    have HS6 := Lib.hid (show SrcOf 2 w6 (.slice (some ⟨B6, 0, none⟩) 1 1) 1 (cellsL [upCell (l1, ⟨#[]⟩)]) from
      Or.inr ⟨⟨B6, 0, none⟩, 1, rfl, rfl, fun i u hu => by
        obtain ⟨z0, z1⟩ := (show At2 40 w6 B6 (.int .i64 l1) (.string ⟨#[]⟩) by rw [← hw6, ← hB6]; exact At2.new _ _ _ _).cells
        rw [add_plain, Nat.zero_add]
        match i, hu with
        | 0, hu => simp [cellsL, upCell] at hu; subst hu; exact z0
        | 1, hu => simp [cellsL, upCell] at hu; subst hu; exact z1
        | i + 2, hu => simp [cellsL, upCell] at hu⟩)
    have HU6 := Lib.hid (own_keep HU4.out HB6.out)
    have HBB := Lib.hid (show W.heap.size ≤ w6.heap.size by have h1 := HB2.out.size; have h2 := HB4.out.size; have h3 := HB6.out.size; omega)
    have HLT := Lib.hid (show ∀ g, (Value.slice sU m kU).ownBlock = some g → W.heap.size ≤ g from fun g hg => (own_lt HU4.out hg).1)
    have HA6 := Lib.hid (HA4.out.keep HB6.out)
    have HR6 := Lib.hid (HR4.out.keep HB6.out)
    have HW6 := Lib.hid hw6
    clear hw6
    go_upto_region 8 with (first | (rw [HW6.out]; clear HW6) | (at_builtin; refine wpList_append_src _ rfl _ _ 23 rfl W.heap.size 40 i0 (.agg #[.int .i64 0, .string ⟨#[]⟩]) 2 24 Tryz.underlying23 hi hz0 hz1 hz2 rfl (by decide) _ m _ rfl HU6.out _ 1 _ rfl HS6.out (by intro u hu; simp [cellsL, upCell] at hu; rcases hu with rfl | rfl <;> rfl) (by unfold maxLen; omega) (by omega) HBB.out ?_; intro v9 w9 hown9 hgrow9; obtain ⟨s9, t9, rfl⟩ := own_shape hown9; have HO9 := Lib.hid hown9; have HG9 := Lib.hid (show w6.grownBy w9 (Value.slice sU m kU).ownBlock from hgrow9); have HA9 := Lib.hid (HA6.out.grown hgrow9 fun g hg => by have := HLT.out g hg; have := HSZ.out; omega); have HR9 := Lib.hid (HR6.out.grown hgrow9 fun g hg => by have := HLT.out g hg; have := HSZ.out; omega); clear hown9 hgrow9 a0 a1 a2 a3; obtain ⟨a0, a1, a2, a3⟩ := HA9.out.cells; obtain ⟨f0, f1, f2, f3⟩ := HA9.out.free))
    obtain ⟨w10, hw10⟩ : ∃ x, w9.setCell ⟨w.heap.size, 2, none⟩ (.slice s9 (m + 1) t9) = x := ⟨_, rfl⟩
    rw [hw10]
    have HA10 := Lib.hid (show At4 25 w10 w.heap.size (.slice sO n kO) (.int .i64 q) (.slice s9 (m + 1) t9) (.int .i64 l1) by rw [← hw10]; exact HA9.out.at2 _)
    have HR10 := Lib.hid (show At4 25 w10 (w.heap.size + 1) nilV zeroV nilV zeroV by rw [← hw10]; exact HR9.out.other (by omega) _)
    have HS10 := Lib.hid (show ∀ g, g ≠ w.heap.size → w10.heap[g]? = w9.heap[g]? by rw [← hw10]; exact fun g hg => Below.heap_setCell _ _ _ _ hg)
    have HB10 := Lib.hid (show Below w.heap.size w9 w10 by rw [← hw10]; exact (Below.refl _ _).setCell (p := ⟨w.heap.size, 2, none⟩) (Nat.le_refl _) _)
    clear hw10 a0 a1 a2 a3 f0 f1 f2 f3
    obtain ⟨a0, a1, a2, a3⟩ := HA10.out.cells
    obtain ⟨r0, r1, r2, r3⟩ := HR10.out.cells
    obtain ⟨f0, f1, f2, f3⟩ := HR10.out.free
    refine wp_region_held_drew (S := fun w' => w'.cell? ⟨w.heap.size, 0, none⟩ = some (.slice sO n kO) ∧ w'.cell? ⟨w.heap.size, 1, none⟩ = some (.int .i64 q) ∧ w'.cell? ⟨w.heap.size, 2, none⟩ = some (.slice s9 (m + 1) t9) ∧ w'.cell? ⟨w.heap.size, 3, none⟩ = some (.int .i64 l1)) (by kernel_rfl) ?hS (fun hHeld => ?hR)
    case hS => exact ⟨a0, a1, a2, a3⟩
    refine wpAnyH_take (i := 0) (oi := { dst := some 35, op := Op.load 25 (Operand.tmp 1), type := 25, pos := "blob.go:47", after := #[], guard := none }) (v := ?gv0) rfl (by kernel_rfl) (by kernel_rfl) (by kernel_rfl) (fun _ _ _ h => h) (Or.inl ⟨by rfl, ?gy0⟩) (by assumption) ?gr0
    case gy0 => (intro w hSw; (try dsimp only at hSw); go_simp; try with_reducible rfl)
    try simp only [Act.put, List.setIfInBounds_toArray, List.set_cons_zero, List.set_cons_succ]
    refine wpAnyH_take (i := 1) (oi := { dst := some 36, op := Op.fieldAddr 25 (Operand.tmp 1) 3, type := 0, pos := "blob.go:47", after := #[{ on := 3, ground := Ground.gcOnly Departure.lateStores }], guard := none }) (v := ?gv1) rfl (by kernel_rfl) (by kernel_rfl) (by kernel_rfl) (fun _ _ _ h => h) (Or.inl ⟨by rfl, ?gy1⟩) (by assumption) ?gr1
    case gy1 => (intro w hSw; (try dsimp only at hSw); go_simp; try with_reducible rfl)
    try simp only [Act.put, List.setIfInBounds_toArray, List.set_cons_zero, List.set_cons_succ]
    refine wpAnyH_take (i := 2) (oi := { dst := some 37, op := Op.load 3 (Operand.tmp 36), type := 3, pos := "blob.go:47", after := #[{ on := 1, ground := Ground.data }, { on := 3, ground := Ground.gcOnly Departure.lateStores }], guard := none }) (v := ?gv2) rfl (by kernel_rfl) (by kernel_rfl) (by kernel_rfl) (fun _ _ _ h => h) (Or.inl ⟨by rfl, ?gy2⟩) (by assumption) ?gr2
    case gy2 => (intro w hSw; (try dsimp only at hSw); go_simp; try with_reducible rfl)
    try simp only [Act.put, List.setIfInBounds_toArray, List.set_cons_zero, List.set_cons_succ]
    refine wpAnyH_ready (rs := [3]) (by kernel_rfl) (by simp) ?_
    refine AllReadyH.cons (o := { dst := none, op := Op.store 25 (Operand.tmp 2) (Operand.tmp 35), type := 0, pos := "blob.go:47", after := #[{ on := 0, ground := Ground.data }, { on := 0, ground := Ground.phase }, { on := 1, ground := Ground.textOnly Departure.lateStores }, { on := 2, ground := Ground.textOnly Departure.lateStores }], guard := none }) rfl (fun K hK => ?_) AllReadyH.nil
    rw [if_pos (by kernel_rfl)]
    go_simp
    refine hK.out _ _ ?hS3 (fun hHeld3 => ?hR3)
    case hS3 => exact ⟨(cell_four (Nat.ne_of_lt (Nat.lt_succ_self _))).trans a0, (cell_four (Nat.ne_of_lt (Nat.lt_succ_self _))).trans a1, (cell_four (Nat.ne_of_lt (Nat.lt_succ_self _))).trans a2, (cell_four (Nat.ne_of_lt (Nat.lt_succ_self _))).trans a3⟩
    clear hK K
    try simp only [Act.put, List.setIfInBounds_toArray, List.set_cons_zero, List.set_cons_succ]
    refine wpAnyH_take (i := 4) (oi := { dst := some 3, op := Op.assign (Operand.tmp 37), type := 3, pos := "blob.go:47", after := #[{ on := 2, ground := Ground.data }, { on := 3, ground := Ground.chain }, { on := 0, ground := Ground.phase }, { on := 1, ground := Ground.phase }, { on := 2, ground := Ground.phase }, { on := 3, ground := Ground.phase }], guard := none }) (v := ?gv4) rfl (by kernel_rfl) (by kernel_rfl) (by kernel_rfl) (fun _ _ _ h => h) (Or.inl ⟨by rfl, ?gy4⟩) (by assumption) ?gr4
    case gy4 => (intro w hSw; (try dsimp only at hSw); go_simp; try with_reducible rfl)
    try simp only [Act.put, List.setIfInBounds_toArray, List.set_cons_zero, List.set_cons_succ]
    refine wpAnyH_take (i := 5) (oi := { dst := some 4, op := Op.assign (Operand.const (Value.int IntKind.i64 0)), type := 27, pos := "blob.go:47", after := #[{ on := 4, ground := Ground.chain }, { on := 0, ground := Ground.phase }, { on := 1, ground := Ground.phase }, { on := 2, ground := Ground.phase }, { on := 3, ground := Ground.phase }, { on := 4, ground := Ground.phase }], guard := none }) (v := ?gv5) rfl (by kernel_rfl) (by kernel_rfl) (by kernel_rfl) (fun _ _ _ h => h) (Or.inl ⟨by rfl, ?gy5⟩) (by assumption) ?gr5
    case gy5 => (intro w hSw; (try dsimp only at hSw); go_simp; try with_reducible rfl)
    try simp only [Act.put, List.setIfInBounds_toArray, List.set_cons_zero, List.set_cons_succ]
    refine wpAnyH_done (by kernel_rfl) ?_ _
    go_wp2_with fail
    exact bodyPost_ret (results_blb3 (p := 2) (u := 3) (u2 := 4) rfl _ _ (w.heap.size + 1) _ _ _ _ rfl (show At4 25 (set4 w10 (w.heap.size + 1) (.slice sO n kO) (.int .i64 q) (.slice s9 (m + 1) t9) (.int .i64 l1)).drew (w.heap.size + 1) _ _ _ _ from HR10.out.set _ _ _ _)) rfl (by
      obtain ⟨hn1, hm1, hq1, hl1'⟩ := HN.out
      have hv := HV2.out
      have h4 := HL1.out
      have ho9 := HO9.out
      rw [HO.out]
      subst hq1
      subst hl1'
      subst h4
      subst hm1
      obtain ⟨k1, k2⟩ := begin_end hv HSZ.out HB.out HB2.out HS4.out HB4.out HB6.out ho9 HG9.out HS10.out HB10.out (by omega)
      exact ⟨_, rfl, k1.keep (Below.refl _ _).drew, k2.drew⟩)
end Go.Proofs.YtodjhmphneoifaaGreatDoor
/-! The program's Push of blobs, by a contract. Conditions: the digest's tables and octet's errors lie where they were laid; texts of a size. -/
namespace Go.Proofs.YtodjhmphneoifaaGreatDoor
open Go.RowKit Go.WideShapes

theorem cellsL_set (l : List (Int × ByteArray)) (j : Nat) (hj : j < l.length) (s : ByteArray) : cellsL ((l.set j (l[j].1, s)).map upCell) = (cellsL (l.map upCell)).set (j * 2 + 1) (.string s) := by
  induction l generalizing j with
  | nil => simp at hj
  | cons p l ih =>
    cases j with
    | zero => simp [cellsL, upCell]
    | succ j =>
      rw [List.set_cons_succ, List.map_cons, cellsL_cons, List.map_cons, cellsL_cons, show (j + 1) * 2 + 1 = (j * 2 + 1) + 1 + 1 by omega, List.set_cons_succ, List.set_cons_succ]
      have hj' : j < l.length := by simpa using hj
      have := ih j hj'
      exact congrArg (fun x => (upCell p).1 :: (upCell p).2 :: x) this
theorem own_set {w : World} {base g n cap j : Nat} {l : List (Int × ByteArray)} {s : ByteArray} (h : w.ownsRow base 40 2 (.slice (some ⟨g, 0, none⟩) n cap) n (cellsL (l.map upCell))) (hn : l.length = n) (hj : j < l.length) :
    (w.setCell ⟨g, j * 2 + 1, none⟩ (.string s)).ownsRow base 40 2 (.slice (some ⟨g, 0, none⟩) n cap) n (cellsL ((l.set j (l[j].1, s)).map upCell)) := by
  rcases h.2 with ⟨e, -⟩ | ⟨g', cap', cur, e, hb, hg, h1, h2, h3, h4⟩
  · cases e
  · simp only [Value.slice.injEq, Option.some.injEq, Addr.mk.injEq, and_true, true_and] at e
    obtain ⟨rfl, rfl⟩ := e
    refine ⟨by rw [cellsL_length, List.length_map, List.length_set, hn], Or.inr ⟨g, cap, cur.setIfInBounds (j * 2 + 1) (.string s), rfl, hb, ?_, h1, h2, by rw [Array.size_setIfInBounds]; exact h3, ?_⟩⟩
    · rw [heap_setCell_same _ _ _ _ _ _ hg]
    · rw [cellsL_set l j hj s, ← h4, Array.toList_setIfInBounds, List.take_set]
theorem own_some {w : World} {base n cap : Nat} {e : TypeId} {a : Option Addr} {size : Nat} {xs : List Value} (h : w.ownsRow base e size (.slice a n cap) n xs) (hn : 0 < n) : ∃ g, a = some ⟨g, 0, none⟩ ∧ base ≤ g ∧ n ≤ cap ∧ (∃ cur, w.heap[g]? = some (.cells cur e (0, 0))) := by
  rcases h.2 with ⟨e, h0⟩ | ⟨g', cap', cur, e, hb, hg, h1, h2, h3, h4⟩
  · omega
  · simp only [Value.slice.injEq, true_and] at e
    exact ⟨g', e.1, hb, by omega, cur, hg⟩
/-- The end of Push. -/
theorem push_end {w W w1 w2 w3 : World} {b : Blb} {j g m kU : Nat} {vO : Value} {s : ByteArray}
    (hv : OwnBlb w1 W.heap.size (.agg #[vO, .int .i64 b.quota, .slice (some ⟨g, 0, none⟩) m kU, .int .i64 b.last]) b) (hW : W.heap.size = w.heap.size + 2)
    (hB : Below w.heap.size w W) (hb1 : Below W.heap.size W w1) (h2 : ∀ g, g ≠ w.heap.size → w2.heap[g]? = w1.heap[g]?) (hb2 : Below w.heap.size w1 w2)
    (hm : b.ups.length = m) (hj : j < b.ups.length) (h3 : w2.setCell ⟨g, j * 2 + 1, none⟩ (.string s) = w3) (hs : s.size ≤ maxLen) :
    BlbAt (set4 w3 (w.heap.size + 1) vO (.int .i64 b.quota) (.slice (some ⟨g, 0, none⟩) m kU) (.int .i64 b.last)) (.agg #[vO, .int .i64 b.quota, .slice (some ⟨g, 0, none⟩) m kU, .int .i64 b.last]) (setUp b j s) ∧
    Below w.heap.size w (set4 w3 (w.heap.size + 1) vO (.int .i64 b.quota) (.slice (some ⟨g, 0, none⟩) m kU) (.int .i64 b.last)) := by
  subst h3
  subst hm
  obtain ⟨⟨o', u', e, ho, hu⟩, hz1, hz2, hz3, hz4⟩ := hv
  simp only [Value.agg.injEq, Array.mk.injEq, List.cons.injEq, and_true, true_and] at e
  obtain ⟨rfl, rfl⟩ := e
  have ho2 := own_same ho fun g hg => h2 g (by omega)
  have hu2 := own_same hu fun g hg => h2 g (by omega)
  have hgW : W.heap.size ≤ g := (own_lt hu (g := g) rfl).1
  have ho3 := own_block (w' := w2.setCell ⟨g, j * 2 + 1, none⟩ (.string s)) ho2 fun k hk => Below.heap_setCell _ _ _ _ fun e => own_apart ho2 hu2 objNeUp k hk (by rw [e]; rfl)
  have hu3 := own_set (s := s) hu2 rfl hj
  have hs4 : ∀ k, W.heap.size ≤ k → (set4 (w2.setCell ⟨g, j * 2 + 1, none⟩ (.string s)) (w.heap.size + 1) vO (.int .i64 b.quota) (.slice (some ⟨g, 0, none⟩) b.ups.length kU) (.int .i64 b.last)).heap[k]? = (w2.setCell ⟨g, j * 2 + 1, none⟩ (.string s)).heap[k]? := fun k hk => set4_block _ _ _ _ _ _ _ (by omega)
  have hb3 : Below w.heap.size w (w2.setCell ⟨g, j * 2 + 1, none⟩ (.string s)) := ((Below.then hB hb1).trans hb2).setCell (p := ⟨g, j * 2 + 1, none⟩) (by show w.heap.size ≤ g; omega) _
  unfold setUp
  rw [getD_of_lt hj]
  refine ⟨⟨⟨_, _, rfl, PairsAt.of_own (own_same ho3 hs4) (by rw [List.length_map]), PairsAt.of_own (own_same hu3 hs4) (by rw [List.length_map, List.length_set])⟩, hz1, fun u hu => ?_, hz3, hz4⟩, set4_below hb3 (Nat.le_succ _) _ _ _ _⟩
  rcases List.mem_or_eq_of_mem_set hu with hu | rfl
  · exact hz2 u hu
  · exact ⟨hs, (hz2 _ (List.getElem_mem hj)).2⟩

set_option maxRecDepth 100000 in
set_option maxHeartbeats 4000000 in
theorem Push_t (v : Value) (b : Blb) (id off : Int) (s : ByteArray) (w : World) (aD aS aZ : Addr) (h : BlbAt w v b) (he : DEnv w aD aS aZ) (hs63 : s.size ≤ 4611686018427387904) :
    Calls Tryz.prog 18 #[v, .int .i64 id, .int .i64 off, .string s] w (BlbOut (pushB b id off s) w) := by
  have U := Lib.hid (fun w' (hb : Below w.heap.size w w') => uploadPlace_t v b id w' aD aS aZ (h.keep hb) (he.keep hb))
  have CP := Lib.hid (fun w' (hb : Below w.heap.size w w') hn hm => copied_t v b w' (h.keep hb) hn hm)
  have HE := Lib.hid (show pushB b id off s = if (placeB b id).2 ≠ 0 then (nilBlb, (placeB b id).2) else if off ≠ ((upD b (placeB b id).1).size : Nat) then (nilBlb, 11)
    else if 4096 < (upD b (placeB b id).1).size + s.size then (nilBlb, 2) else (setUp b (placeB b id).1.toNat (upD b (placeB b id).1 ++ s), 0) from rfl)
  have HPO := Lib.hid (fun hh => place_ok (b := b) (id := id) hh)
  have hp := h
  obtain ⟨a, c, a', c', rfl, hl1, hl2⟩ := h.shape
  have hpu := hp.parts.2.1
  obtain ⟨n, hn⟩ : ∃ x, b.objs.length = x := ⟨_, rfl⟩
  obtain ⟨m, hm⟩ : ∃ x, b.ups.length = x := ⟨_, rfl⟩
  obtain ⟨q, hq⟩ : ∃ x, b.quota = x := ⟨_, rfl⟩
  obtain ⟨l, hl⟩ : ∃ x, b.last = x := ⟨_, rfl⟩
  obtain ⟨⟨p, x⟩, hpx⟩ : ∃ x, placeB b id = x := ⟨_, rfl⟩
  rw [hpx] at U HE HPO
  rw [hn, hm, hq, hl] at U CP ⊢
  rw [hm] at hpu hl2
  have HN := Lib.hid (And.intro hn (And.intro hm (And.intro hq hl)))
  obtain ⟨W, hW⟩ : ∃ W, (w.alloc (.cells #[.slice a n c, .int .i64 q, .slice a' m c', .int .i64 l] 25)).alloc (.cells #[nilV, zeroV, nilV, zeroV] 25) = W := ⟨_, rfl⟩
  have HB := Lib.hid (show Below w.heap.size w W by rw [← hW]; exact Below.then (below_new _ _) (below_new _ _))
  have HA := Lib.hid (show At4 25 W w.heap.size (.slice a n c) (.int .i64 q) (.slice a' m c') (.int .i64 l) by rw [← hW]; exact (At4.new _ _ _ _ _ _).keep (below_new _ _))
  have HR := Lib.hid (show At4 25 W (w.heap.size + 1) nilV zeroV nilV zeroV by
    rw [← hW]
    have e := At4.new 25 (w.alloc (.cells #[.slice a n c, .int .i64 q, .slice a' m c', .int .i64 l] 25)) nilV zeroV nilV zeroV
    rwa [World.size_alloc] at e)
  have HSZ := Lib.hid (show W.heap.size = w.heap.size + 2 by rw [← hW]; simp)
  have HPU := Lib.hid hpu
  have HW := Lib.hid hW
  have U1 := Lib.hid (U.out W HB.out)
  clear hW h hp hpu he U hpx hn hm hq hl
  go_enter Tryz.func18, Tryz.ntmps18
  go_upto_region 1 with fail
  rw [HW.out]
  obtain ⟨a0, a1, a2, a3⟩ := HA.out.cells
  go_wp2_with fail
  refine U1.out.mono ?_
  rintro e w1 ⟨rfl, hb1⟩
  have HB1 := Lib.hid hb1
  have HA1 := Lib.hid (HA.out.keep hb1)
  have HR1 := Lib.hid (HR.out.keep hb1)
  clear hb1 a0 a1 a2 a3 U1
  by_cases hx : x = 0
  rotate_left
  · have HO := Lib.hid (show pushB b id off s = (nilBlb, x) by rw [HE.out, if_pos (by simpa using hx)])
    have q0 : (x != 0) = true := bne_iff_ne.2 hx
    obtain ⟨r0, r1, r2, r3⟩ := HR1.out.cells
    obtain ⟨f0, f1, f2, f3⟩ := HR1.out.free
    clear hx
    go_wp2_with fail
    exact bodyPost_ret (results_blb (p := 8) (u := 9) rfl _ _ (w.heap.size + 1) _ _ _ _ rfl (HR1.out.set _ _ _ _)) rfl (blbOut_nil HO.out (Below.then HB.out HB1.out) (Nat.le_succ _))
  subst hx
  obtain ⟨hr, j, hj, ej, hd, -⟩ := HPO.out (by simp)
  obtain rfl : p = (j : Int) := (Prod.mk.inj ej).1
  have hjm : j < m := by rw [← HN.out.2.1]; exact hj
  have hs4 := (hr.short _ (List.getElem_mem hj)).1
  have HE1 := Lib.hid (show pushB b id off s = if off ≠ (b.ups[j].2.size : Nat) then (nilBlb, 11) else if 4096 < b.ups[j].2.size + s.size then (nilBlb, 2) else (setUp b j (b.ups[j].2 ++ s), 0) by
    rw [HE.out, if_neg (by simp)]
    show (if off ≠ ((upD b (j : Int)).size : Nat) then (nilBlb, (11 : Int)) else if 4096 < (upD b (j : Int)).size + s.size then (nilBlb, 2) else (setUp b j (upD b (j : Int) ++ s), 0)) = _
    rw [hd])
  obtain ⟨lb, lo, rfl, e0, e1⟩ := HPU.out.at j (by rw [List.length_map]; exact hj)
  rw [up_getElem b.ups j hj] at e0 e1
  have hcap : m ≤ c' := by
    have := HPU.out.shape3
    obtain ⟨x1, x2, e, h1, -⟩ := this
    simp only [Value.slice.injEq] at e
    rw [List.length_map, HN.out.2.1] at h1
    omega
  obtain ⟨⟨y, z⟩, hyz⟩ : ∃ x, b.ups[j] = x := ⟨_, rfl⟩
  rw [hyz] at e0 e1 HE1 hs4
  simp only at e0 e1 hs4 HE1
  have e1 := Below.keepc (Below.then HB.out HB1.out) e1
  have HJ := Lib.hid hj
  have HYZ := Lib.hid hyz
  have hlen : m ≤ 16 ∧ n ≤ 64 := by
    have h1 := hr.ups
    have h2 := hr.objs
    rw [HN.out.2.1] at h1
    rw [HN.out.1] at h2
    exact ⟨h1, h2⟩
  have CP1 := Lib.hid (CP.out w1 (Below.then HB.out HB1.out) (by omega) (by omega))
  obtain ⟨a0, a1, a2, a3⟩ := HA1.out.cells
  clear e0 ej hd hr CP hyz
  by_cases hoff : off = (z.size : Int)
  rotate_left
  · have HO := Lib.hid (HE1.out.trans (if_pos hoff))
    have q0 : (off != (z.size : Int)) = true := bne_iff_ne.2 hoff
    obtain ⟨r0, r1, r2, r3⟩ := HR1.out.cells
    obtain ⟨f0, f1, f2, f3⟩ := HR1.out.free
    clear hoff
    go_wp2_with fail
    exact bodyPost_ret (results_blb (p := 8) (u := 9) rfl _ _ (w.heap.size + 1) _ _ _ _ rfl (HR1.out.set _ _ _ _)) rfl (blbOut_nil HO.out (Below.then HB.out HB1.out) (Nat.le_succ _))
  have q0 : (off != (z.size : Int)) = false := by rw [hoff]; exact bne_self_eq_false _
  have HE2 := Lib.hid (HE1.out.trans (if_neg (by simpa using hoff)))
  have q2 : IntKind.i64.wrap ((z.size : Int) + (s.size : Int)) = (z.size : Int) + (s.size : Int) := by rw [IntKind.wrap_i64]; omega
  clear hoff
  by_cases h96 : 4096 < z.size + s.size
  · have HO := Lib.hid (HE2.out.trans (if_pos h96))
    have q1 : (4096 : Int) < (z.size : Int) + (s.size : Int) := by omega
    obtain ⟨r0, r1, r2, r3⟩ := HR1.out.cells
    obtain ⟨f0, f1, f2, f3⟩ := HR1.out.free
    clear h96
    go_wp2_with fail
    exact bodyPost_ret (results_blb (p := 8) (u := 9) rfl _ _ (w.heap.size + 1) _ _ _ _ rfl (HR1.out.set _ _ _ _)) rfl (blbOut_nil HO.out (Below.then HB.out HB1.out) (Nat.le_succ _))
  have HO := Lib.hid (HE2.out.trans (if_neg h96))
  have q1 : ¬ (4096 : Int) < (z.size : Int) + (s.size : Int) := by omega
  have hzs : z.size + s.size ≤ 4096 := by omega
  clear h96
  go_wp2_with fail
  refine CP1.out.mono ?_
  rintro e w2 ⟨v2, rfl, hv2, hb2⟩
  obtain ⟨sO, kO, sU, kU, rfl, ho2, hu2⟩ := hv2.shape
  rw [HN.out.1, HN.out.2.1, HN.out.2.2.1, HN.out.2.2.2] at hv2 ⊢
  rw [HN.out.2.1] at hu2
  obtain ⟨g, rfl, hgb, hmk, cur, hcur⟩ := own_some hu2 (by omega)
  have HV2 := Lib.hid (hv2.base_le (show W.heap.size ≤ w1.heap.size from HB1.out.size))
  have HB2 := Lib.hid (Below.then HB1.out hb2)
  have HA2 := Lib.hid (HA1.out.keep hb2)
  have HR2 := Lib.hid (HR1.out.keep hb2)
  have HU2 := Lib.hid hu2
  have HGB := Lib.hid (show W.heap.size ≤ g from Nat.le_trans HB1.out.size hgb)
  have HCU := Lib.hid hcur
  clear hv2 ho2 hu2 hb2 a0 a1 a2 a3 CP1 hgb hcur e1
  obtain ⟨a0, a1, a2, a3⟩ := HA2.out.cells
  obtain ⟨f0, f1, f2, f3⟩ := HA2.out.free
  go_upto_region 10 with fail
  obtain ⟨w3, hw3⟩ : ∃ x, (((w2.setCell ⟨w.heap.size, 0, none⟩ (.slice sO n kO)).setCell ⟨w.heap.size, 1, none⟩ (.int .i64 q)).setCell ⟨w.heap.size, 2, none⟩ (.slice (some ⟨g, 0, none⟩) m kU)).setCell ⟨w.heap.size, 3, none⟩ (.int .i64 l) = x := ⟨_, rfl⟩
  rw [hw3]
  have HA3 := Lib.hid (show At4 25 w3 w.heap.size (.slice sO n kO) (.int .i64 q) (.slice (some ⟨g, 0, none⟩) m kU) (.int .i64 l) by rw [← hw3]; exact HA2.out.set _ _ _ _)
  have HS3 := Lib.hid (show ∀ k, k ≠ w.heap.size → w3.heap[k]? = w2.heap[k]? by rw [← hw3]; exact fun k hk => set4_block w2 w.heap.size k (.slice sO n kO) (.int .i64 q) (.slice (some ⟨g, 0, none⟩) m kU) (.int .i64 l) hk)
  have HB3 := Lib.hid (show Below w.heap.size w2 w3 by rw [← hw3]; exact set4_below (Below.refl _ _) (Nat.le_refl _) (.slice sO n kO) (.int .i64 q) (.slice (some ⟨g, 0, none⟩) m kU) (.int .i64 l))
  have HU3 := Lib.hid (own_same HU2.out fun k hk => HS3.out k (by have := HSZ.out; have := HB1.out.size; omega))
  have HR3 := Lib.hid (show At4 25 w3 (w.heap.size + 1) nilV zeroV nilV zeroV from (HS3.out (w.heap.size + 1) (by omega)).trans HR2.out)
  have hfz : w3.frozen? ⟨g, j * 2 + 1, none⟩ = false := by
    have := (HS3.out g (by have := HSZ.out; have := HGB.out; omega)).trans HCU.out
    simp [World.frozen?, this]
  have hce : w3.cell? ⟨g, j * 2 + 1, none⟩ = some (.string z) := by
    have h1 := (cellsL_at (b.ups.map upCell) j (by rw [List.length_map]; exact HJ.out)).2
    rw [up_getElem b.ups j HJ.out, HYZ.out] at h1
    have h2 := HU3.out.cells (g := g) rfl (j * 2 + 1) _ h1
    rwa [add_plain, Nat.zero_add] at h2
  clear hw3 a0 a1 a2 a3 f0 f1 f2 f3
  obtain ⟨a0, a1, a2, a3⟩ := HA3.out.cells
  go_upto_region 11 with fail
  obtain ⟨w4, hw4⟩ : ∃ x, w3.setCell ⟨g, j * 2 + 1, none⟩ (.string (z ++ s)) = x := ⟨_, rfl⟩
  rw [hw4]
  have HA4 := Lib.hid (show At4 25 w4 w.heap.size (.slice sO n kO) (.int .i64 q) (.slice (some ⟨g, 0, none⟩) m kU) (.int .i64 l) by rw [← hw4]; exact HA3.out.other (by have := HSZ.out; have := HGB.out; omega) _)
  have HR4 := Lib.hid (show At4 25 w4 (w.heap.size + 1) nilV zeroV nilV zeroV by rw [← hw4]; exact HR3.out.other (by have := HSZ.out; have := HGB.out; omega) _)
  have HW4 := Lib.hid hw4
  clear hw4 a0 a1 a2 a3 hce hfz
  obtain ⟨a0, a1, a2, a3⟩ := HA4.out.cells
  obtain ⟨r0, r1, r2, r3⟩ := HR4.out.cells
  obtain ⟨f0, f1, f2, f3⟩ := HR4.out.free
  go_wp2_with fail
  exact bodyPost_ret (results_blb (p := 8) (u := 9) rfl _ _ (w.heap.size + 1) _ _ _ _ rfl (HR4.out.set _ _ _ _)) rfl (by
    obtain ⟨hn1, hm1, hq1, hl1'⟩ := HN.out
    have hv := HV2.out
    rw [HO.out]
    subst hq1
    subst hl1'
    obtain ⟨k1, k2⟩ := push_end hv HSZ.out HB.out HB2.out HS3.out HB3.out hm1 HJ.out HW4.out (by rw [ByteArray.size_append]; unfold maxLen; omega)
    exact ⟨_, rfl, k1, k2⟩)
end Go.Proofs.YtodjhmphneoifaaGreatDoor
