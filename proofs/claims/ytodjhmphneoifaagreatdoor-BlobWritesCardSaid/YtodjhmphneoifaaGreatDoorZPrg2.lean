/-
  The program's Right of blobs, by a contract. Conditions: the digest's tables and octet's errors lie where they were laid.
  The program's uploadPlace, dataOf, Offset, Size and New of blobs, by contracts. Conditions: the digest's tables and octet's errors lie where they were laid.
  The program's Offset, Size, Read and New of blobs, by contracts. Conditions: the digest's tables and octet's errors lie where they were laid.
-/
import Derived.Test.YtodjhmphneoifaaGreatDoorZPrg1
import Derived.Test.YtodjhmphneoifaaGreatDoorZBlb3
import Derived.Lib.MinMax
/-! The program's Right of blobs, by a contract. Conditions: the digest's tables and octet's errors lie where they were laid. -/
namespace Go.Proofs.YtodjhmphneoifaaGreatDoor
open Go.RowKit Go.WideShapes

theorem rightBlb_eq (b : Blb) : rightBlb b = (decide (b.objs.length ≤ 64) && decide (b.ups.length ≤ 16) && (decide (0 ≤ b.quota) && decide (b.quota ≤ 1048576)) && (decide (0 ≤ b.last) && decide (b.last ≤ 1099511627776)) && upsF b.last 0 b.ups && objsF (noB b.objs) 0 b.objs && decide ((usedL b.objs : Int) ≤ b.quota)) := by
  rw [objsF_of]
  unfold rightBlb numsOk
  ac_rfl
theorem few_of_objs {os : List (ByteArray × ByteArray)} (h : objsF (noB os) 0 os = true) (hn : os.length ≤ 64) : FewIs ⟨os, 0, [], 0⟩ := by
  refine ⟨by show os.length ≤ 100; omega, fun o ho => ?_⟩
  obtain ⟨i, hi, rfl⟩ := List.getElem_of_mem ho
  have := (objsF_iff (noB os) os 0).1 h i hi
  unfold objOk at this
  simp only [Bool.and_eq_true, decide_eq_true_eq] at this
  have h4 := this.1.1
  show os[i].2.size ≤ 5000
  omega

set_option maxRecDepth 100000 in
set_option maxHeartbeats 8000000 in
theorem BRight_t (v : Value) (b : Blb) (w : World) (aD aS aZ : Addr) (h : BlbAt w v b) (he : DEnv w aD aS aZ) :
    Calls Tryz.prog 12 #[v] w fun e w' => e = .returned (.bool (rightBlb b)) ∧ Below w.heap.size w w' := by
  have HE := Lib.hid (rightBlb_eq b)
  have HFW := Lib.hid (few_of_objs (os := b.objs))
  have hzo := h.objs
  obtain ⟨a, c, a', c', rfl, hl1, hl2⟩ := h.shape
  have hp := h.parts
  have QT := Lib.hid isQuota_t
  have LT := Lib.hid isLast_t
  have UT := Lib.hid (fun w' (hb : Below w.heap.size w w') => areUploads_t _ b.ups b.last w' (hp.2.1.keep hb))
  have OT := Lib.hid (fun w' (hb : Below w.heap.size w w') => areObjects_t _ b.objs w' aD aS aZ (hp.1.keep hb) (fun o ho => (hzo o ho).1) (he.keep hb))
  have ST := Lib.hid (fun w' (hb : Below w.heap.size w w') hf => size_t _ b.objs w' (hp.1.keep hb) hf)
  obtain ⟨n, hn⟩ : ∃ x, b.objs.length = x := ⟨_, rfl⟩
  obtain ⟨m, hm⟩ : ∃ x, b.ups.length = x := ⟨_, rfl⟩
  obtain ⟨q, hq⟩ : ∃ x, b.quota = x := ⟨_, rfl⟩
  obtain ⟨l, hl⟩ : ∃ x, b.last = x := ⟨_, rfl⟩
  obtain ⟨us, hus⟩ : ∃ x, usedL b.objs = x := ⟨_, rfl⟩
  rw [hn, hm, hq, hl] at HE
  rw [hus] at HE ST
  rw [hn] at hl1 OT ST HFW ⊢
  rw [hm] at hl2 UT ⊢
  rw [hq]
  rw [hl] at UT ⊢
  obtain ⟨bu, hbu⟩ : ∃ x, upsF l 0 b.ups = x := ⟨_, rfl⟩
  obtain ⟨bo, hbo⟩ : ∃ x, objsF (noB b.objs) 0 b.objs = x := ⟨_, rfl⟩
  rw [hbu] at HE UT
  rw [hbo] at HE OT HFW
  obtain ⟨W, hW⟩ : ∃ W, w.alloc (.cells #[.slice a n c, .int .i64 q, .slice a' m c', .int .i64 l] 25) = W := ⟨_, rfl⟩
  have HB := Lib.hid (show Below w.heap.size w W by rw [← hW]; exact below_new _ _)
  have HA := Lib.hid (show At4 25 W w.heap.size (.slice a n c) (.int .i64 q) (.slice a' m c') (.int .i64 l) by rw [← hW]; exact At4.new _ _ _ _ _ _)
  have HW := Lib.hid hW
  have Q1 := Lib.hid (QT.out q)
  have L1 := Lib.hid (LT.out l)
  obtain ⟨bq, hbq⟩ : ∃ x, (decide (0 ≤ q) && decide (q ≤ 1048576)) = x := ⟨_, rfl⟩
  obtain ⟨bl, hbl⟩ : ∃ x, (decide (0 ≤ l) && decide (l ≤ 1099511627776)) = x := ⟨_, rfl⟩
  rw [hbq] at HE Q1
  rw [hbl] at HE L1
  obtain ⟨bs, hbs⟩ : ∃ x, decide ((us : Int) ≤ q) = x := ⟨_, rfl⟩
  rw [hbs] at HE
  clear hW h hp hn hm hq hl hus he hzo hbu hbo hbq hbl QT LT
  go_enter Tryz.func12, Tryz.ntmps12
  go_upto_region 1 with fail
  rw [HW.out]
  obtain ⟨a0, a1, a2, a3⟩ := HA.out.cells
  by_cases c0 : n ≤ 64
  rotate_left
  · have HO := Lib.hid (show rightBlb b = false by rw [HE.out, decide_eq_false c0]; simp)
    have F0 : (64 : Int) < (n : Int) := by omega
    clear hbs
    go_wp2_with fail
    go_ret
    exact ⟨by rw [HO.out]; rfl, HB.out⟩
  by_cases c1 : m ≤ 16
  rotate_left
  · have HO := Lib.hid (show rightBlb b = false by rw [HE.out, decide_eq_false c1]; simp)
    have F0 : (16 : Int) < (m : Int) := by omega
    clear hbs
    go_wp2_with fail
    go_ret
    exact ⟨by rw [HO.out]; rfl, HB.out⟩
  have HE2 := Lib.hid (show rightBlb b = (bq && bl && bu && bo && bs) by rw [HE.out, decide_eq_true c0, decide_eq_true c1]; simp [Bool.and_assoc])
  have HF2 := Lib.hid (fun hb => HFW.out hb c0)
  have HBS := Lib.hid hbs
  clear hbs
  go_upto_region 3 with fail
  clear a0 a1 a2 a3
  obtain ⟨a0, a1, a2, a3⟩ := HA.out.cells
  have hbA := Below.refl W.heap.size W

  cases bq with
  | false =>
    have HO := Lib.hid (show rightBlb b = false by rw [HE2.out]; simp)
    refine wp_region_held_drew (S := fun w' => w'.cell? ⟨w.heap.size, 0, none⟩ = some (.slice a n c) ∧ w'.cell? ⟨w.heap.size, 1, none⟩ = some (.int .i64 q) ∧ w'.cell? ⟨w.heap.size, 2, none⟩ = some (.slice a' m c') ∧ w'.cell? ⟨w.heap.size, 3, none⟩ = some (.int .i64 l)) (by kernel_rfl) ?hSx0 (fun hHeld => ?hRx0)
    case hSx0 => exact ⟨a0, a1, a2, a3⟩
    refine wpAnyH_take (i := 0) (oi := { dst := some 13, op := Op.fieldAddr 25 (Operand.tmp 1) 1, type := 0, pos := "right.go:16", after := #[], guard := none }) (v := ?gvx00) rfl (by kernel_rfl) (by kernel_rfl) (by kernel_rfl) (fun _ _ _ h => h) (Or.inl ⟨by rfl, ?gyx00⟩) (by assumption) ?grx00
    case gyx00 => (intro w hSw; (try dsimp only at hSw); go_simp; try with_reducible rfl)
    try simp only [Act.put, List.setIfInBounds_toArray, List.set_cons_zero, List.set_cons_succ]
    refine wpAnyH_take (i := 1) (oi := { dst := some 14, op := Op.load 3 (Operand.tmp 13), type := 3, pos := "right.go:16", after := #[{ on := 0, ground := Ground.data }], guard := none }) (v := ?gvx01) rfl (by kernel_rfl) (by kernel_rfl) (by kernel_rfl) (fun _ _ _ h => h) (Or.inl ⟨by rfl, ?gyx01⟩) (by assumption) ?grx01
    case gyx01 => (intro w hSw; (try dsimp only at hSw); go_simp; try with_reducible rfl)
    try simp only [Act.put, List.setIfInBounds_toArray, List.set_cons_zero, List.set_cons_succ]
    refine wpAnyH_ready (rs := [2]) (by kernel_rfl) (by simp) ?_
    refine AllReadyH.cons (o := { dst := some 15, op := Op.call { callee := Callee.value (Operand.func 23), args := #[Operand.tmp 14], argTypes := #[3] }, type := 4, pos := "right.go:16", after := #[{ on := 1, ground := Ground.data }], guard := none }) rfl (fun K hK => ?_) AllReadyH.nil
    rw [if_pos (by kernel_rfl)]
    go_simp
    go_wp2_with (go_at_call 23; refine (Q1.out _).mono ?_; rintro e wS ⟨rfl, hwS⟩; subst hwS)
    refine hK.out _ _ ?hSx02 (fun hHeld2 => ?hRx02)
    case hSx02 => exact ⟨a0, a1, a2, a3⟩
    clear hK K
    try simp only [Act.put, List.setIfInBounds_toArray, List.set_cons_zero, List.set_cons_succ]
    refine wpAnyH_take (i := 3) (oi := { dst := some 16, op := Op.move (Operand.tmp 15), type := 4, pos := "right.go:16", after := #[{ on := 2, ground := Ground.data }, { on := 2, ground := Ground.chain }], guard := none }) (v := ?gvx03) rfl (by kernel_rfl) (by kernel_rfl) (by kernel_rfl) (fun _ _ _ h => h) (Or.inl ⟨by rfl, ?gyx03⟩) (by assumption) ?grx03
    case gyx03 => (intro w hSw; (try dsimp only at hSw); go_simp; try with_reducible rfl)
    try simp only [Act.put, List.setIfInBounds_toArray, List.set_cons_zero, List.set_cons_succ]
    refine wpAnyH_take (i := 4) (oi := { dst := some 17, op := Op.fieldAddr 25 (Operand.tmp 1) 3, type := 0, pos := "right.go:16", after := #[{ on := 3, ground := Ground.guard }], guard := some (3, true) }) (v := undef) rfl (by kernel_rfl) (by kernel_rfl) (by kernel_rfl) (fun _ _ _ h => h) (Or.inr ⟨by rfl, rfl⟩) (by assumption) ?grx04
    try simp only [Act.put, List.setIfInBounds_toArray, List.set_cons_zero, List.set_cons_succ]
    refine wpAnyH_take (i := 5) (oi := { dst := some 18, op := Op.load 3 (Operand.tmp 17), type := 3, pos := "right.go:16", after := #[{ on := 4, ground := Ground.data }, { on := 3, ground := Ground.guard }], guard := some (3, true) }) (v := undef) rfl (by kernel_rfl) (by kernel_rfl) (by kernel_rfl) (fun _ _ _ h => h) (Or.inr ⟨by rfl, rfl⟩) (by assumption) ?grx05
    try simp only [Act.put, List.setIfInBounds_toArray, List.set_cons_zero, List.set_cons_succ]
    refine wpAnyH_take (i := 6) (oi := { dst := some 19, op := Op.call { callee := Callee.value (Operand.func 26), args := #[Operand.tmp 18], argTypes := #[3] }, type := 4, pos := "right.go:16", after := #[{ on := 5, ground := Ground.data }, { on := 3, ground := Ground.chain }, { on := 3, ground := Ground.guard }], guard := some (3, true) }) (v := undef) rfl (by kernel_rfl) (by kernel_rfl) (by kernel_rfl) (fun _ _ _ h => h) (Or.inr ⟨by rfl, rfl⟩) (by assumption) ?grx06
    try simp only [Act.put, List.setIfInBounds_toArray, List.set_cons_zero, List.set_cons_succ]
    refine wpAnyH_take (i := 7) (oi := { dst := some 20, op := Op.pick (Operand.tmp 16) (Operand.tmp 19) (Operand.const (Value.bool false)), type := 4, pos := "right.go:16", after := #[{ on := 3, ground := Ground.data }, { on := 6, ground := Ground.data }], guard := none }) (v := ?gvx07) rfl (by kernel_rfl) (by kernel_rfl) (by kernel_rfl) (fun _ _ _ h => h) (Or.inl ⟨by rfl, ?gyx07⟩) (by assumption) ?grx07
    case gyx07 => (intro w hSw; (try dsimp only at hSw); go_simp; try with_reducible rfl)
    try simp only [Act.put, List.setIfInBounds_toArray, List.set_cons_zero, List.set_cons_succ]
    refine wpAnyH_take (i := 8) (oi := { dst := some 21, op := Op.move (Operand.tmp 20), type := 4, pos := "right.go:16", after := #[{ on := 7, ground := Ground.data }, { on := 6, ground := Ground.chain }], guard := none }) (v := ?gvx08) rfl (by kernel_rfl) (by kernel_rfl) (by kernel_rfl) (fun _ _ _ h => h) (Or.inl ⟨by rfl, ?gyx08⟩) (by assumption) ?grx08
    case gyx08 => (intro w hSw; (try dsimp only at hSw); go_simp; try with_reducible rfl)
    try simp only [Act.put, List.setIfInBounds_toArray, List.set_cons_zero, List.set_cons_succ]
    refine wpAnyH_take (i := 9) (oi := { dst := some 22, op := Op.fieldAddr 25 (Operand.tmp 1) 2, type := 0, pos := "right.go:16", after := #[{ on := 8, ground := Ground.guard }], guard := some (8, true) }) (v := undef) rfl (by kernel_rfl) (by kernel_rfl) (by kernel_rfl) (fun _ _ _ h => h) (Or.inr ⟨by rfl, rfl⟩) (by assumption) ?grx09
    try simp only [Act.put, List.setIfInBounds_toArray, List.set_cons_zero, List.set_cons_succ]
    refine wpAnyH_take (i := 10) (oi := { dst := some 23, op := Op.load 23 (Operand.tmp 22), type := 23, pos := "right.go:16", after := #[{ on := 9, ground := Ground.data }, { on := 8, ground := Ground.guard }], guard := some (8, true) }) (v := undef) rfl (by kernel_rfl) (by kernel_rfl) (by kernel_rfl) (fun _ _ _ h => h) (Or.inr ⟨by rfl, rfl⟩) (by assumption) ?grx010
    try simp only [Act.put, List.setIfInBounds_toArray, List.set_cons_zero, List.set_cons_succ]
    refine wpAnyH_take (i := 11) (oi := { dst := some 24, op := Op.fieldAddr 25 (Operand.tmp 1) 3, type := 0, pos := "right.go:16", after := #[{ on := 8, ground := Ground.guard }], guard := some (8, true) }) (v := undef) rfl (by kernel_rfl) (by kernel_rfl) (by kernel_rfl) (fun _ _ _ h => h) (Or.inr ⟨by rfl, rfl⟩) (by assumption) ?grx011
    try simp only [Act.put, List.setIfInBounds_toArray, List.set_cons_zero, List.set_cons_succ]
    refine wpAnyH_take (i := 12) (oi := { dst := some 25, op := Op.load 3 (Operand.tmp 24), type := 3, pos := "right.go:16", after := #[{ on := 11, ground := Ground.data }, { on := 8, ground := Ground.guard }], guard := some (8, true) }) (v := undef) rfl (by kernel_rfl) (by kernel_rfl) (by kernel_rfl) (fun _ _ _ h => h) (Or.inr ⟨by rfl, rfl⟩) (by assumption) ?grx012
    try simp only [Act.put, List.setIfInBounds_toArray, List.set_cons_zero, List.set_cons_succ]
    refine wpAnyH_take (i := 13) (oi := { dst := some 26, op := Op.call { callee := Callee.value (Operand.func 27), args := #[Operand.tmp 23, Operand.tmp 25], argTypes := #[23, 3] }, type := 4, pos := "right.go:16", after := #[{ on := 10, ground := Ground.data }, { on := 12, ground := Ground.data }, { on := 8, ground := Ground.chain }, { on := 8, ground := Ground.guard }], guard := some (8, true) }) (v := undef) rfl (by kernel_rfl) (by kernel_rfl) (by kernel_rfl) (fun _ _ _ h => h) (Or.inr ⟨by rfl, rfl⟩) (by assumption) ?grx013
    try simp only [Act.put, List.setIfInBounds_toArray, List.set_cons_zero, List.set_cons_succ]
    refine wpAnyH_take (i := 14) (oi := { dst := some 27, op := Op.pick (Operand.tmp 21) (Operand.tmp 26) (Operand.const (Value.bool false)), type := 4, pos := "right.go:16", after := #[{ on := 8, ground := Ground.data }, { on := 13, ground := Ground.data }], guard := none }) (v := ?gvx014) rfl (by kernel_rfl) (by kernel_rfl) (by kernel_rfl) (fun _ _ _ h => h) (Or.inl ⟨by rfl, ?gyx014⟩) (by assumption) ?grx014
    case gyx014 => (intro w hSw; (try dsimp only at hSw); go_simp; try with_reducible rfl)
    try simp only [Act.put, List.setIfInBounds_toArray, List.set_cons_zero, List.set_cons_succ]
    refine wpAnyH_take (i := 15) (oi := { dst := some 28, op := Op.move (Operand.tmp 27), type := 4, pos := "right.go:16", after := #[{ on := 14, ground := Ground.data }, { on := 13, ground := Ground.chain }], guard := none }) (v := ?gvx015) rfl (by kernel_rfl) (by kernel_rfl) (by kernel_rfl) (fun _ _ _ h => h) (Or.inl ⟨by rfl, ?gyx015⟩) (by assumption) ?grx015
    case gyx015 => (intro w hSw; (try dsimp only at hSw); go_simp; try with_reducible rfl)
    try simp only [Act.put, List.setIfInBounds_toArray, List.set_cons_zero, List.set_cons_succ]
    refine wpAnyH_take (i := 16) (oi := { dst := some 29, op := Op.fieldAddr 25 (Operand.tmp 1) 0, type := 0, pos := "right.go:16", after := #[{ on := 15, ground := Ground.guard }], guard := some (15, true) }) (v := undef) rfl (by kernel_rfl) (by kernel_rfl) (by kernel_rfl) (fun _ _ _ h => h) (Or.inr ⟨by rfl, rfl⟩) (by assumption) ?grx016
    try simp only [Act.put, List.setIfInBounds_toArray, List.set_cons_zero, List.set_cons_succ]
    refine wpAnyH_take (i := 17) (oi := { dst := some 30, op := Op.load 22 (Operand.tmp 29), type := 22, pos := "right.go:16", after := #[{ on := 16, ground := Ground.data }, { on := 15, ground := Ground.guard }], guard := some (15, true) }) (v := undef) rfl (by kernel_rfl) (by kernel_rfl) (by kernel_rfl) (fun _ _ _ h => h) (Or.inr ⟨by rfl, rfl⟩) (by assumption) ?grx017
    try simp only [Act.put, List.setIfInBounds_toArray, List.set_cons_zero, List.set_cons_succ]
    refine wpAnyH_take (i := 18) (oi := { dst := some 31, op := Op.call { callee := Callee.value (Operand.func 28), args := #[Operand.tmp 30], argTypes := #[22] }, type := 4, pos := "right.go:16", after := #[{ on := 17, ground := Ground.data }, { on := 15, ground := Ground.chain }, { on := 15, ground := Ground.guard }], guard := some (15, true) }) (v := undef) rfl (by kernel_rfl) (by kernel_rfl) (by kernel_rfl) (fun _ _ _ h => h) (Or.inr ⟨by rfl, rfl⟩) (by assumption) ?grx018
    try simp only [Act.put, List.setIfInBounds_toArray, List.set_cons_zero, List.set_cons_succ]
    refine wpAnyH_take (i := 19) (oi := { dst := some 32, op := Op.pick (Operand.tmp 28) (Operand.tmp 31) (Operand.const (Value.bool false)), type := 4, pos := "right.go:16", after := #[{ on := 15, ground := Ground.data }, { on := 18, ground := Ground.data }], guard := none }) (v := ?gvx019) rfl (by kernel_rfl) (by kernel_rfl) (by kernel_rfl) (fun _ _ _ h => h) (Or.inl ⟨by rfl, ?gyx019⟩) (by assumption) ?grx019
    case gyx019 => (intro w hSw; (try dsimp only at hSw); go_simp; try with_reducible rfl)
    try simp only [Act.put, List.setIfInBounds_toArray, List.set_cons_zero, List.set_cons_succ]
    refine wpAnyH_take (i := 20) (oi := { dst := some 33, op := Op.move (Operand.tmp 32), type := 4, pos := "right.go:16", after := #[{ on := 19, ground := Ground.data }, { on := 18, ground := Ground.chain }], guard := none }) (v := ?gvx020) rfl (by kernel_rfl) (by kernel_rfl) (by kernel_rfl) (fun _ _ _ h => h) (Or.inl ⟨by rfl, ?gyx020⟩) (by assumption) ?grx020
    case gyx020 => (intro w hSw; (try dsimp only at hSw); go_simp; try with_reducible rfl)
    try simp only [Act.put, List.setIfInBounds_toArray, List.set_cons_zero, List.set_cons_succ]
    refine wpAnyH_take (i := 21) (oi := { dst := some 34, op := Op.fieldAddr 25 (Operand.tmp 1) 0, type := 0, pos := "right.go:16", after := #[{ on := 20, ground := Ground.guard }], guard := some (20, true) }) (v := undef) rfl (by kernel_rfl) (by kernel_rfl) (by kernel_rfl) (fun _ _ _ h => h) (Or.inr ⟨by rfl, rfl⟩) (by assumption) ?grx021
    try simp only [Act.put, List.setIfInBounds_toArray, List.set_cons_zero, List.set_cons_succ]
    refine wpAnyH_take (i := 22) (oi := { dst := some 35, op := Op.load 22 (Operand.tmp 34), type := 22, pos := "right.go:16", after := #[{ on := 21, ground := Ground.data }, { on := 20, ground := Ground.guard }], guard := some (20, true) }) (v := undef) rfl (by kernel_rfl) (by kernel_rfl) (by kernel_rfl) (fun _ _ _ h => h) (Or.inr ⟨by rfl, rfl⟩) (by assumption) ?grx022
    try simp only [Act.put, List.setIfInBounds_toArray, List.set_cons_zero, List.set_cons_succ]
    refine wpAnyH_take (i := 23) (oi := { dst := some 36, op := Op.call { callee := Callee.value (Operand.func 29), args := #[Operand.tmp 35], argTypes := #[22] }, type := 3, pos := "right.go:16", after := #[{ on := 22, ground := Ground.data }, { on := 20, ground := Ground.chain }, { on := 20, ground := Ground.guard }], guard := some (20, true) }) (v := undef) rfl (by kernel_rfl) (by kernel_rfl) (by kernel_rfl) (fun _ _ _ h => h) (Or.inr ⟨by rfl, rfl⟩) (by assumption) ?grx023
    try simp only [Act.put, List.setIfInBounds_toArray, List.set_cons_zero, List.set_cons_succ]
    refine wpAnyH_take (i := 24) (oi := { dst := some 37, op := Op.fieldAddr 25 (Operand.tmp 1) 1, type := 0, pos := "right.go:16", after := #[{ on := 20, ground := Ground.guard }], guard := some (20, true) }) (v := undef) rfl (by kernel_rfl) (by kernel_rfl) (by kernel_rfl) (fun _ _ _ h => h) (Or.inr ⟨by rfl, rfl⟩) (by assumption) ?grx024
    try simp only [Act.put, List.setIfInBounds_toArray, List.set_cons_zero, List.set_cons_succ]
    refine wpAnyH_take (i := 25) (oi := { dst := some 38, op := Op.load 3 (Operand.tmp 37), type := 3, pos := "right.go:16", after := #[{ on := 24, ground := Ground.data }, { on := 20, ground := Ground.guard }], guard := some (20, true) }) (v := undef) rfl (by kernel_rfl) (by kernel_rfl) (by kernel_rfl) (fun _ _ _ h => h) (Or.inr ⟨by rfl, rfl⟩) (by assumption) ?grx025
    try simp only [Act.put, List.setIfInBounds_toArray, List.set_cons_zero, List.set_cons_succ]
    refine wpAnyH_take (i := 26) (oi := { dst := some 39, op := Op.binOp BinOp.leq 3 (Operand.tmp 36) (Operand.tmp 38) 3, type := 4, pos := "right.go:16", after := #[{ on := 23, ground := Ground.data }, { on := 25, ground := Ground.data }, { on := 20, ground := Ground.guard }], guard := some (20, true) }) (v := undef) rfl (by kernel_rfl) (by kernel_rfl) (by kernel_rfl) (fun _ _ _ h => h) (Or.inr ⟨by rfl, rfl⟩) (by assumption) ?grx026
    try simp only [Act.put, List.setIfInBounds_toArray, List.set_cons_zero, List.set_cons_succ]
    refine wpAnyH_take (i := 27) (oi := { dst := some 40, op := Op.pick (Operand.tmp 33) (Operand.tmp 39) (Operand.const (Value.bool false)), type := 4, pos := "right.go:16", after := #[{ on := 20, ground := Ground.data }, { on := 26, ground := Ground.data }], guard := none }) (v := ?gvx027) rfl (by kernel_rfl) (by kernel_rfl) (by kernel_rfl) (fun _ _ _ h => h) (Or.inl ⟨by rfl, ?gyx027⟩) (by assumption) ?grx027
    case gyx027 => (intro w hSw; (try dsimp only at hSw); go_simp; try with_reducible rfl)
    try simp only [Act.put, List.setIfInBounds_toArray, List.set_cons_zero, List.set_cons_succ]
    refine wpAnyH_take (i := 28) (oi := { dst := some 2, op := Op.assign (Operand.tmp 40), type := 4, pos := "right.go:16", after := #[{ on := 27, ground := Ground.data }, { on := 23, ground := Ground.chain }, { on := 0, ground := Ground.phase }, { on := 1, ground := Ground.phase }, { on := 2, ground := Ground.phase }, { on := 3, ground := Ground.phase }, { on := 4, ground := Ground.phase }, { on := 5, ground := Ground.phase }, { on := 6, ground := Ground.phase }, { on := 7, ground := Ground.phase }, { on := 8, ground := Ground.phase }, { on := 9, ground := Ground.phase }, { on := 10, ground := Ground.phase }, { on := 11, ground := Ground.phase }, { on := 12, ground := Ground.phase }, { on := 13, ground := Ground.phase }, { on := 14, ground := Ground.phase }, { on := 15, ground := Ground.phase }, { on := 16, ground := Ground.phase }, { on := 17, ground := Ground.phase }, { on := 18, ground := Ground.phase }, { on := 19, ground := Ground.phase }, { on := 20, ground := Ground.phase }, { on := 21, ground := Ground.phase }, { on := 22, ground := Ground.phase }, { on := 23, ground := Ground.phase }, { on := 24, ground := Ground.phase }, { on := 25, ground := Ground.phase }, { on := 26, ground := Ground.phase }, { on := 27, ground := Ground.phase }], guard := none }) (v := ?gvx028) rfl (by kernel_rfl) (by kernel_rfl) (by kernel_rfl) (fun _ _ _ h => h) (Or.inl ⟨by rfl, ?gyx028⟩) (by assumption) ?grx028
    case gyx028 => (intro w hSw; (try dsimp only at hSw); go_simp; try with_reducible rfl)
    try simp only [Act.put, List.setIfInBounds_toArray, List.set_cons_zero, List.set_cons_succ]
    refine wpAnyH_done (by kernel_rfl) ?_ _
    go_wp2_with fail
    go_ret
    exact ⟨by rw [HO.out]; rfl, by first | exact Below.then HB.out hbA | exact Below.then HB.out hbA.drew⟩
  | true =>
    cases bl with
    | false =>
      have HO := Lib.hid (show rightBlb b = false by rw [HE2.out]; simp)
      refine wp_region_held_drew (S := fun w' => w'.cell? ⟨w.heap.size, 0, none⟩ = some (.slice a n c) ∧ w'.cell? ⟨w.heap.size, 1, none⟩ = some (.int .i64 q) ∧ w'.cell? ⟨w.heap.size, 2, none⟩ = some (.slice a' m c') ∧ w'.cell? ⟨w.heap.size, 3, none⟩ = some (.int .i64 l)) (by kernel_rfl) ?hSx1 (fun hHeld => ?hRx1)
      case hSx1 => exact ⟨a0, a1, a2, a3⟩
      refine wpAnyH_take (i := 0) (oi := { dst := some 13, op := Op.fieldAddr 25 (Operand.tmp 1) 1, type := 0, pos := "right.go:16", after := #[], guard := none }) (v := ?gvx10) rfl (by kernel_rfl) (by kernel_rfl) (by kernel_rfl) (fun _ _ _ h => h) (Or.inl ⟨by rfl, ?gyx10⟩) (by assumption) ?grx10
      case gyx10 => (intro w hSw; (try dsimp only at hSw); go_simp; try with_reducible rfl)
      try simp only [Act.put, List.setIfInBounds_toArray, List.set_cons_zero, List.set_cons_succ]
      refine wpAnyH_take (i := 1) (oi := { dst := some 14, op := Op.load 3 (Operand.tmp 13), type := 3, pos := "right.go:16", after := #[{ on := 0, ground := Ground.data }], guard := none }) (v := ?gvx11) rfl (by kernel_rfl) (by kernel_rfl) (by kernel_rfl) (fun _ _ _ h => h) (Or.inl ⟨by rfl, ?gyx11⟩) (by assumption) ?grx11
      case gyx11 => (intro w hSw; (try dsimp only at hSw); go_simp; try with_reducible rfl)
      try simp only [Act.put, List.setIfInBounds_toArray, List.set_cons_zero, List.set_cons_succ]
      refine wpAnyH_ready (rs := [2]) (by kernel_rfl) (by simp) ?_
      refine AllReadyH.cons (o := { dst := some 15, op := Op.call { callee := Callee.value (Operand.func 23), args := #[Operand.tmp 14], argTypes := #[3] }, type := 4, pos := "right.go:16", after := #[{ on := 1, ground := Ground.data }], guard := none }) rfl (fun K hK => ?_) AllReadyH.nil
      rw [if_pos (by kernel_rfl)]
      go_simp
      go_wp2_with (go_at_call 23; refine (Q1.out _).mono ?_; rintro e wS ⟨rfl, hwS⟩; subst hwS)
      refine hK.out _ _ ?hSx12 (fun hHeld2 => ?hRx12)
      case hSx12 => exact ⟨a0, a1, a2, a3⟩
      clear hK K
      try simp only [Act.put, List.setIfInBounds_toArray, List.set_cons_zero, List.set_cons_succ]
      refine wpAnyH_take (i := 3) (oi := { dst := some 16, op := Op.move (Operand.tmp 15), type := 4, pos := "right.go:16", after := #[{ on := 2, ground := Ground.data }, { on := 2, ground := Ground.chain }], guard := none }) (v := ?gvx13) rfl (by kernel_rfl) (by kernel_rfl) (by kernel_rfl) (fun _ _ _ h => h) (Or.inl ⟨by rfl, ?gyx13⟩) (by assumption) ?grx13
      case gyx13 => (intro w hSw; (try dsimp only at hSw); go_simp; try with_reducible rfl)
      try simp only [Act.put, List.setIfInBounds_toArray, List.set_cons_zero, List.set_cons_succ]
      refine wpAnyH_take (i := 4) (oi := { dst := some 17, op := Op.fieldAddr 25 (Operand.tmp 1) 3, type := 0, pos := "right.go:16", after := #[{ on := 3, ground := Ground.guard }], guard := some (3, true) }) (v := ?gvx14) rfl (by kernel_rfl) (by kernel_rfl) (by kernel_rfl) (fun _ _ _ h => h) (Or.inl ⟨by rfl, ?gyx14⟩) (by assumption) ?grx14
      case gyx14 => (intro w hSw; (try dsimp only at hSw); go_simp; try with_reducible rfl)
      try simp only [Act.put, List.setIfInBounds_toArray, List.set_cons_zero, List.set_cons_succ]
      refine wpAnyH_take (i := 5) (oi := { dst := some 18, op := Op.load 3 (Operand.tmp 17), type := 3, pos := "right.go:16", after := #[{ on := 4, ground := Ground.data }, { on := 3, ground := Ground.guard }], guard := some (3, true) }) (v := ?gvx15) rfl (by kernel_rfl) (by kernel_rfl) (by kernel_rfl) (fun _ _ _ h => h) (Or.inl ⟨by rfl, ?gyx15⟩) (by assumption) ?grx15
      case gyx15 => (intro w hSw; (try dsimp only at hSw); go_simp; try with_reducible rfl)
      try simp only [Act.put, List.setIfInBounds_toArray, List.set_cons_zero, List.set_cons_succ]
      refine wpAnyH_ready (rs := [6]) (by kernel_rfl) (by simp) ?_
      refine AllReadyH.cons (o := { dst := some 19, op := Op.call { callee := Callee.value (Operand.func 26), args := #[Operand.tmp 18], argTypes := #[3] }, type := 4, pos := "right.go:16", after := #[{ on := 5, ground := Ground.data }, { on := 3, ground := Ground.chain }, { on := 3, ground := Ground.guard }], guard := some (3, true) }) rfl (fun K hK => ?_) AllReadyH.nil
      rw [if_pos (by kernel_rfl)]
      go_simp
      go_wp2_with (go_at_call 26; refine (L1.out _).mono ?_; rintro e wS ⟨rfl, hwS⟩; subst hwS)
      refine hK.out _ _ ?hSx16 (fun hHeld6 => ?hRx16)
      case hSx16 => exact ⟨a0, a1, a2, a3⟩
      clear hK K
      try simp only [Act.put, List.setIfInBounds_toArray, List.set_cons_zero, List.set_cons_succ]
      refine wpAnyH_take (i := 7) (oi := { dst := some 20, op := Op.pick (Operand.tmp 16) (Operand.tmp 19) (Operand.const (Value.bool false)), type := 4, pos := "right.go:16", after := #[{ on := 3, ground := Ground.data }, { on := 6, ground := Ground.data }], guard := none }) (v := ?gvx17) rfl (by kernel_rfl) (by kernel_rfl) (by kernel_rfl) (fun _ _ _ h => h) (Or.inl ⟨by rfl, ?gyx17⟩) (by assumption) ?grx17
      case gyx17 => (intro w hSw; (try dsimp only at hSw); go_simp; try with_reducible rfl)
      try simp only [Act.put, List.setIfInBounds_toArray, List.set_cons_zero, List.set_cons_succ]
      refine wpAnyH_take (i := 8) (oi := { dst := some 21, op := Op.move (Operand.tmp 20), type := 4, pos := "right.go:16", after := #[{ on := 7, ground := Ground.data }, { on := 6, ground := Ground.chain }], guard := none }) (v := ?gvx18) rfl (by kernel_rfl) (by kernel_rfl) (by kernel_rfl) (fun _ _ _ h => h) (Or.inl ⟨by rfl, ?gyx18⟩) (by assumption) ?grx18
      case gyx18 => (intro w hSw; (try dsimp only at hSw); go_simp; try with_reducible rfl)
      try simp only [Act.put, List.setIfInBounds_toArray, List.set_cons_zero, List.set_cons_succ]
      refine wpAnyH_take (i := 9) (oi := { dst := some 22, op := Op.fieldAddr 25 (Operand.tmp 1) 2, type := 0, pos := "right.go:16", after := #[{ on := 8, ground := Ground.guard }], guard := some (8, true) }) (v := undef) rfl (by kernel_rfl) (by kernel_rfl) (by kernel_rfl) (fun _ _ _ h => h) (Or.inr ⟨by rfl, rfl⟩) (by assumption) ?grx19
      try simp only [Act.put, List.setIfInBounds_toArray, List.set_cons_zero, List.set_cons_succ]
      refine wpAnyH_take (i := 10) (oi := { dst := some 23, op := Op.load 23 (Operand.tmp 22), type := 23, pos := "right.go:16", after := #[{ on := 9, ground := Ground.data }, { on := 8, ground := Ground.guard }], guard := some (8, true) }) (v := undef) rfl (by kernel_rfl) (by kernel_rfl) (by kernel_rfl) (fun _ _ _ h => h) (Or.inr ⟨by rfl, rfl⟩) (by assumption) ?grx110
      try simp only [Act.put, List.setIfInBounds_toArray, List.set_cons_zero, List.set_cons_succ]
      refine wpAnyH_take (i := 11) (oi := { dst := some 24, op := Op.fieldAddr 25 (Operand.tmp 1) 3, type := 0, pos := "right.go:16", after := #[{ on := 8, ground := Ground.guard }], guard := some (8, true) }) (v := undef) rfl (by kernel_rfl) (by kernel_rfl) (by kernel_rfl) (fun _ _ _ h => h) (Or.inr ⟨by rfl, rfl⟩) (by assumption) ?grx111
      try simp only [Act.put, List.setIfInBounds_toArray, List.set_cons_zero, List.set_cons_succ]
      refine wpAnyH_take (i := 12) (oi := { dst := some 25, op := Op.load 3 (Operand.tmp 24), type := 3, pos := "right.go:16", after := #[{ on := 11, ground := Ground.data }, { on := 8, ground := Ground.guard }], guard := some (8, true) }) (v := undef) rfl (by kernel_rfl) (by kernel_rfl) (by kernel_rfl) (fun _ _ _ h => h) (Or.inr ⟨by rfl, rfl⟩) (by assumption) ?grx112
      try simp only [Act.put, List.setIfInBounds_toArray, List.set_cons_zero, List.set_cons_succ]
      refine wpAnyH_take (i := 13) (oi := { dst := some 26, op := Op.call { callee := Callee.value (Operand.func 27), args := #[Operand.tmp 23, Operand.tmp 25], argTypes := #[23, 3] }, type := 4, pos := "right.go:16", after := #[{ on := 10, ground := Ground.data }, { on := 12, ground := Ground.data }, { on := 8, ground := Ground.chain }, { on := 8, ground := Ground.guard }], guard := some (8, true) }) (v := undef) rfl (by kernel_rfl) (by kernel_rfl) (by kernel_rfl) (fun _ _ _ h => h) (Or.inr ⟨by rfl, rfl⟩) (by assumption) ?grx113
      try simp only [Act.put, List.setIfInBounds_toArray, List.set_cons_zero, List.set_cons_succ]
      refine wpAnyH_take (i := 14) (oi := { dst := some 27, op := Op.pick (Operand.tmp 21) (Operand.tmp 26) (Operand.const (Value.bool false)), type := 4, pos := "right.go:16", after := #[{ on := 8, ground := Ground.data }, { on := 13, ground := Ground.data }], guard := none }) (v := ?gvx114) rfl (by kernel_rfl) (by kernel_rfl) (by kernel_rfl) (fun _ _ _ h => h) (Or.inl ⟨by rfl, ?gyx114⟩) (by assumption) ?grx114
      case gyx114 => (intro w hSw; (try dsimp only at hSw); go_simp; try with_reducible rfl)
      try simp only [Act.put, List.setIfInBounds_toArray, List.set_cons_zero, List.set_cons_succ]
      refine wpAnyH_take (i := 15) (oi := { dst := some 28, op := Op.move (Operand.tmp 27), type := 4, pos := "right.go:16", after := #[{ on := 14, ground := Ground.data }, { on := 13, ground := Ground.chain }], guard := none }) (v := ?gvx115) rfl (by kernel_rfl) (by kernel_rfl) (by kernel_rfl) (fun _ _ _ h => h) (Or.inl ⟨by rfl, ?gyx115⟩) (by assumption) ?grx115
      case gyx115 => (intro w hSw; (try dsimp only at hSw); go_simp; try with_reducible rfl)
      try simp only [Act.put, List.setIfInBounds_toArray, List.set_cons_zero, List.set_cons_succ]
      refine wpAnyH_take (i := 16) (oi := { dst := some 29, op := Op.fieldAddr 25 (Operand.tmp 1) 0, type := 0, pos := "right.go:16", after := #[{ on := 15, ground := Ground.guard }], guard := some (15, true) }) (v := undef) rfl (by kernel_rfl) (by kernel_rfl) (by kernel_rfl) (fun _ _ _ h => h) (Or.inr ⟨by rfl, rfl⟩) (by assumption) ?grx116
      try simp only [Act.put, List.setIfInBounds_toArray, List.set_cons_zero, List.set_cons_succ]
      refine wpAnyH_take (i := 17) (oi := { dst := some 30, op := Op.load 22 (Operand.tmp 29), type := 22, pos := "right.go:16", after := #[{ on := 16, ground := Ground.data }, { on := 15, ground := Ground.guard }], guard := some (15, true) }) (v := undef) rfl (by kernel_rfl) (by kernel_rfl) (by kernel_rfl) (fun _ _ _ h => h) (Or.inr ⟨by rfl, rfl⟩) (by assumption) ?grx117
      try simp only [Act.put, List.setIfInBounds_toArray, List.set_cons_zero, List.set_cons_succ]
      refine wpAnyH_take (i := 18) (oi := { dst := some 31, op := Op.call { callee := Callee.value (Operand.func 28), args := #[Operand.tmp 30], argTypes := #[22] }, type := 4, pos := "right.go:16", after := #[{ on := 17, ground := Ground.data }, { on := 15, ground := Ground.chain }, { on := 15, ground := Ground.guard }], guard := some (15, true) }) (v := undef) rfl (by kernel_rfl) (by kernel_rfl) (by kernel_rfl) (fun _ _ _ h => h) (Or.inr ⟨by rfl, rfl⟩) (by assumption) ?grx118
      try simp only [Act.put, List.setIfInBounds_toArray, List.set_cons_zero, List.set_cons_succ]
      refine wpAnyH_take (i := 19) (oi := { dst := some 32, op := Op.pick (Operand.tmp 28) (Operand.tmp 31) (Operand.const (Value.bool false)), type := 4, pos := "right.go:16", after := #[{ on := 15, ground := Ground.data }, { on := 18, ground := Ground.data }], guard := none }) (v := ?gvx119) rfl (by kernel_rfl) (by kernel_rfl) (by kernel_rfl) (fun _ _ _ h => h) (Or.inl ⟨by rfl, ?gyx119⟩) (by assumption) ?grx119
      case gyx119 => (intro w hSw; (try dsimp only at hSw); go_simp; try with_reducible rfl)
      try simp only [Act.put, List.setIfInBounds_toArray, List.set_cons_zero, List.set_cons_succ]
      refine wpAnyH_take (i := 20) (oi := { dst := some 33, op := Op.move (Operand.tmp 32), type := 4, pos := "right.go:16", after := #[{ on := 19, ground := Ground.data }, { on := 18, ground := Ground.chain }], guard := none }) (v := ?gvx120) rfl (by kernel_rfl) (by kernel_rfl) (by kernel_rfl) (fun _ _ _ h => h) (Or.inl ⟨by rfl, ?gyx120⟩) (by assumption) ?grx120
      case gyx120 => (intro w hSw; (try dsimp only at hSw); go_simp; try with_reducible rfl)
      try simp only [Act.put, List.setIfInBounds_toArray, List.set_cons_zero, List.set_cons_succ]
      refine wpAnyH_take (i := 21) (oi := { dst := some 34, op := Op.fieldAddr 25 (Operand.tmp 1) 0, type := 0, pos := "right.go:16", after := #[{ on := 20, ground := Ground.guard }], guard := some (20, true) }) (v := undef) rfl (by kernel_rfl) (by kernel_rfl) (by kernel_rfl) (fun _ _ _ h => h) (Or.inr ⟨by rfl, rfl⟩) (by assumption) ?grx121
      try simp only [Act.put, List.setIfInBounds_toArray, List.set_cons_zero, List.set_cons_succ]
      refine wpAnyH_take (i := 22) (oi := { dst := some 35, op := Op.load 22 (Operand.tmp 34), type := 22, pos := "right.go:16", after := #[{ on := 21, ground := Ground.data }, { on := 20, ground := Ground.guard }], guard := some (20, true) }) (v := undef) rfl (by kernel_rfl) (by kernel_rfl) (by kernel_rfl) (fun _ _ _ h => h) (Or.inr ⟨by rfl, rfl⟩) (by assumption) ?grx122
      try simp only [Act.put, List.setIfInBounds_toArray, List.set_cons_zero, List.set_cons_succ]
      refine wpAnyH_take (i := 23) (oi := { dst := some 36, op := Op.call { callee := Callee.value (Operand.func 29), args := #[Operand.tmp 35], argTypes := #[22] }, type := 3, pos := "right.go:16", after := #[{ on := 22, ground := Ground.data }, { on := 20, ground := Ground.chain }, { on := 20, ground := Ground.guard }], guard := some (20, true) }) (v := undef) rfl (by kernel_rfl) (by kernel_rfl) (by kernel_rfl) (fun _ _ _ h => h) (Or.inr ⟨by rfl, rfl⟩) (by assumption) ?grx123
      try simp only [Act.put, List.setIfInBounds_toArray, List.set_cons_zero, List.set_cons_succ]
      refine wpAnyH_take (i := 24) (oi := { dst := some 37, op := Op.fieldAddr 25 (Operand.tmp 1) 1, type := 0, pos := "right.go:16", after := #[{ on := 20, ground := Ground.guard }], guard := some (20, true) }) (v := undef) rfl (by kernel_rfl) (by kernel_rfl) (by kernel_rfl) (fun _ _ _ h => h) (Or.inr ⟨by rfl, rfl⟩) (by assumption) ?grx124
      try simp only [Act.put, List.setIfInBounds_toArray, List.set_cons_zero, List.set_cons_succ]
      refine wpAnyH_take (i := 25) (oi := { dst := some 38, op := Op.load 3 (Operand.tmp 37), type := 3, pos := "right.go:16", after := #[{ on := 24, ground := Ground.data }, { on := 20, ground := Ground.guard }], guard := some (20, true) }) (v := undef) rfl (by kernel_rfl) (by kernel_rfl) (by kernel_rfl) (fun _ _ _ h => h) (Or.inr ⟨by rfl, rfl⟩) (by assumption) ?grx125
      try simp only [Act.put, List.setIfInBounds_toArray, List.set_cons_zero, List.set_cons_succ]
      refine wpAnyH_take (i := 26) (oi := { dst := some 39, op := Op.binOp BinOp.leq 3 (Operand.tmp 36) (Operand.tmp 38) 3, type := 4, pos := "right.go:16", after := #[{ on := 23, ground := Ground.data }, { on := 25, ground := Ground.data }, { on := 20, ground := Ground.guard }], guard := some (20, true) }) (v := undef) rfl (by kernel_rfl) (by kernel_rfl) (by kernel_rfl) (fun _ _ _ h => h) (Or.inr ⟨by rfl, rfl⟩) (by assumption) ?grx126
      try simp only [Act.put, List.setIfInBounds_toArray, List.set_cons_zero, List.set_cons_succ]
      refine wpAnyH_take (i := 27) (oi := { dst := some 40, op := Op.pick (Operand.tmp 33) (Operand.tmp 39) (Operand.const (Value.bool false)), type := 4, pos := "right.go:16", after := #[{ on := 20, ground := Ground.data }, { on := 26, ground := Ground.data }], guard := none }) (v := ?gvx127) rfl (by kernel_rfl) (by kernel_rfl) (by kernel_rfl) (fun _ _ _ h => h) (Or.inl ⟨by rfl, ?gyx127⟩) (by assumption) ?grx127
      case gyx127 => (intro w hSw; (try dsimp only at hSw); go_simp; try with_reducible rfl)
      try simp only [Act.put, List.setIfInBounds_toArray, List.set_cons_zero, List.set_cons_succ]
      refine wpAnyH_take (i := 28) (oi := { dst := some 2, op := Op.assign (Operand.tmp 40), type := 4, pos := "right.go:16", after := #[{ on := 27, ground := Ground.data }, { on := 23, ground := Ground.chain }, { on := 0, ground := Ground.phase }, { on := 1, ground := Ground.phase }, { on := 2, ground := Ground.phase }, { on := 3, ground := Ground.phase }, { on := 4, ground := Ground.phase }, { on := 5, ground := Ground.phase }, { on := 6, ground := Ground.phase }, { on := 7, ground := Ground.phase }, { on := 8, ground := Ground.phase }, { on := 9, ground := Ground.phase }, { on := 10, ground := Ground.phase }, { on := 11, ground := Ground.phase }, { on := 12, ground := Ground.phase }, { on := 13, ground := Ground.phase }, { on := 14, ground := Ground.phase }, { on := 15, ground := Ground.phase }, { on := 16, ground := Ground.phase }, { on := 17, ground := Ground.phase }, { on := 18, ground := Ground.phase }, { on := 19, ground := Ground.phase }, { on := 20, ground := Ground.phase }, { on := 21, ground := Ground.phase }, { on := 22, ground := Ground.phase }, { on := 23, ground := Ground.phase }, { on := 24, ground := Ground.phase }, { on := 25, ground := Ground.phase }, { on := 26, ground := Ground.phase }, { on := 27, ground := Ground.phase }], guard := none }) (v := ?gvx128) rfl (by kernel_rfl) (by kernel_rfl) (by kernel_rfl) (fun _ _ _ h => h) (Or.inl ⟨by rfl, ?gyx128⟩) (by assumption) ?grx128
      case gyx128 => (intro w hSw; (try dsimp only at hSw); go_simp; try with_reducible rfl)
      try simp only [Act.put, List.setIfInBounds_toArray, List.set_cons_zero, List.set_cons_succ]
      refine wpAnyH_done (by kernel_rfl) ?_ _
      go_wp2_with fail
      go_ret
      exact ⟨by rw [HO.out]; rfl, by first | exact Below.then HB.out hbA | exact Below.then HB.out hbA.drew⟩
    | true =>
      cases bu with
      | false =>
        have HO := Lib.hid (show rightBlb b = false by rw [HE2.out]; simp)
        refine wp_region_held_drew (S := fun w' => w'.cell? ⟨w.heap.size, 0, none⟩ = some (.slice a n c) ∧ w'.cell? ⟨w.heap.size, 1, none⟩ = some (.int .i64 q) ∧ w'.cell? ⟨w.heap.size, 2, none⟩ = some (.slice a' m c') ∧ w'.cell? ⟨w.heap.size, 3, none⟩ = some (.int .i64 l)) (by kernel_rfl) ?hSx2 (fun hHeld => ?hRx2)
        case hSx2 => exact ⟨a0, a1, a2, a3⟩
        refine wpAnyH_take (i := 0) (oi := { dst := some 13, op := Op.fieldAddr 25 (Operand.tmp 1) 1, type := 0, pos := "right.go:16", after := #[], guard := none }) (v := ?gvx20) rfl (by kernel_rfl) (by kernel_rfl) (by kernel_rfl) (fun _ _ _ h => h) (Or.inl ⟨by rfl, ?gyx20⟩) (by assumption) ?grx20
        case gyx20 => (intro w hSw; (try dsimp only at hSw); go_simp; try with_reducible rfl)
        try simp only [Act.put, List.setIfInBounds_toArray, List.set_cons_zero, List.set_cons_succ]
        refine wpAnyH_take (i := 1) (oi := { dst := some 14, op := Op.load 3 (Operand.tmp 13), type := 3, pos := "right.go:16", after := #[{ on := 0, ground := Ground.data }], guard := none }) (v := ?gvx21) rfl (by kernel_rfl) (by kernel_rfl) (by kernel_rfl) (fun _ _ _ h => h) (Or.inl ⟨by rfl, ?gyx21⟩) (by assumption) ?grx21
        case gyx21 => (intro w hSw; (try dsimp only at hSw); go_simp; try with_reducible rfl)
        try simp only [Act.put, List.setIfInBounds_toArray, List.set_cons_zero, List.set_cons_succ]
        refine wpAnyH_ready (rs := [2]) (by kernel_rfl) (by simp) ?_
        refine AllReadyH.cons (o := { dst := some 15, op := Op.call { callee := Callee.value (Operand.func 23), args := #[Operand.tmp 14], argTypes := #[3] }, type := 4, pos := "right.go:16", after := #[{ on := 1, ground := Ground.data }], guard := none }) rfl (fun K hK => ?_) AllReadyH.nil
        rw [if_pos (by kernel_rfl)]
        go_simp
        go_wp2_with (go_at_call 23; refine (Q1.out _).mono ?_; rintro e wS ⟨rfl, hwS⟩; subst hwS)
        refine hK.out _ _ ?hSx22 (fun hHeld2 => ?hRx22)
        case hSx22 => exact ⟨a0, a1, a2, a3⟩
        clear hK K
        try simp only [Act.put, List.setIfInBounds_toArray, List.set_cons_zero, List.set_cons_succ]
        refine wpAnyH_take (i := 3) (oi := { dst := some 16, op := Op.move (Operand.tmp 15), type := 4, pos := "right.go:16", after := #[{ on := 2, ground := Ground.data }, { on := 2, ground := Ground.chain }], guard := none }) (v := ?gvx23) rfl (by kernel_rfl) (by kernel_rfl) (by kernel_rfl) (fun _ _ _ h => h) (Or.inl ⟨by rfl, ?gyx23⟩) (by assumption) ?grx23
        case gyx23 => (intro w hSw; (try dsimp only at hSw); go_simp; try with_reducible rfl)
        try simp only [Act.put, List.setIfInBounds_toArray, List.set_cons_zero, List.set_cons_succ]
        refine wpAnyH_take (i := 4) (oi := { dst := some 17, op := Op.fieldAddr 25 (Operand.tmp 1) 3, type := 0, pos := "right.go:16", after := #[{ on := 3, ground := Ground.guard }], guard := some (3, true) }) (v := ?gvx24) rfl (by kernel_rfl) (by kernel_rfl) (by kernel_rfl) (fun _ _ _ h => h) (Or.inl ⟨by rfl, ?gyx24⟩) (by assumption) ?grx24
        case gyx24 => (intro w hSw; (try dsimp only at hSw); go_simp; try with_reducible rfl)
        try simp only [Act.put, List.setIfInBounds_toArray, List.set_cons_zero, List.set_cons_succ]
        refine wpAnyH_take (i := 5) (oi := { dst := some 18, op := Op.load 3 (Operand.tmp 17), type := 3, pos := "right.go:16", after := #[{ on := 4, ground := Ground.data }, { on := 3, ground := Ground.guard }], guard := some (3, true) }) (v := ?gvx25) rfl (by kernel_rfl) (by kernel_rfl) (by kernel_rfl) (fun _ _ _ h => h) (Or.inl ⟨by rfl, ?gyx25⟩) (by assumption) ?grx25
        case gyx25 => (intro w hSw; (try dsimp only at hSw); go_simp; try with_reducible rfl)
        try simp only [Act.put, List.setIfInBounds_toArray, List.set_cons_zero, List.set_cons_succ]
        refine wpAnyH_ready (rs := [6]) (by kernel_rfl) (by simp) ?_
        refine AllReadyH.cons (o := { dst := some 19, op := Op.call { callee := Callee.value (Operand.func 26), args := #[Operand.tmp 18], argTypes := #[3] }, type := 4, pos := "right.go:16", after := #[{ on := 5, ground := Ground.data }, { on := 3, ground := Ground.chain }, { on := 3, ground := Ground.guard }], guard := some (3, true) }) rfl (fun K hK => ?_) AllReadyH.nil
        rw [if_pos (by kernel_rfl)]
        go_simp
        go_wp2_with (go_at_call 26; refine (L1.out _).mono ?_; rintro e wS ⟨rfl, hwS⟩; subst hwS)
        refine hK.out _ _ ?hSx26 (fun hHeld6 => ?hRx26)
        case hSx26 => exact ⟨a0, a1, a2, a3⟩
        clear hK K
        try simp only [Act.put, List.setIfInBounds_toArray, List.set_cons_zero, List.set_cons_succ]
        refine wpAnyH_take (i := 7) (oi := { dst := some 20, op := Op.pick (Operand.tmp 16) (Operand.tmp 19) (Operand.const (Value.bool false)), type := 4, pos := "right.go:16", after := #[{ on := 3, ground := Ground.data }, { on := 6, ground := Ground.data }], guard := none }) (v := ?gvx27) rfl (by kernel_rfl) (by kernel_rfl) (by kernel_rfl) (fun _ _ _ h => h) (Or.inl ⟨by rfl, ?gyx27⟩) (by assumption) ?grx27
        case gyx27 => (intro w hSw; (try dsimp only at hSw); go_simp; try with_reducible rfl)
        try simp only [Act.put, List.setIfInBounds_toArray, List.set_cons_zero, List.set_cons_succ]
        refine wpAnyH_take (i := 8) (oi := { dst := some 21, op := Op.move (Operand.tmp 20), type := 4, pos := "right.go:16", after := #[{ on := 7, ground := Ground.data }, { on := 6, ground := Ground.chain }], guard := none }) (v := ?gvx28) rfl (by kernel_rfl) (by kernel_rfl) (by kernel_rfl) (fun _ _ _ h => h) (Or.inl ⟨by rfl, ?gyx28⟩) (by assumption) ?grx28
        case gyx28 => (intro w hSw; (try dsimp only at hSw); go_simp; try with_reducible rfl)
        try simp only [Act.put, List.setIfInBounds_toArray, List.set_cons_zero, List.set_cons_succ]
        refine wpAnyH_take (i := 9) (oi := { dst := some 22, op := Op.fieldAddr 25 (Operand.tmp 1) 2, type := 0, pos := "right.go:16", after := #[{ on := 8, ground := Ground.guard }], guard := some (8, true) }) (v := ?gvx29) rfl (by kernel_rfl) (by kernel_rfl) (by kernel_rfl) (fun _ _ _ h => h) (Or.inl ⟨by rfl, ?gyx29⟩) (by assumption) ?grx29
        case gyx29 => (intro w hSw; (try dsimp only at hSw); go_simp; try with_reducible rfl)
        try simp only [Act.put, List.setIfInBounds_toArray, List.set_cons_zero, List.set_cons_succ]
        refine wpAnyH_take (i := 10) (oi := { dst := some 23, op := Op.load 23 (Operand.tmp 22), type := 23, pos := "right.go:16", after := #[{ on := 9, ground := Ground.data }, { on := 8, ground := Ground.guard }], guard := some (8, true) }) (v := ?gvx210) rfl (by kernel_rfl) (by kernel_rfl) (by kernel_rfl) (fun _ _ _ h => h) (Or.inl ⟨by rfl, ?gyx210⟩) (by assumption) ?grx210
        case gyx210 => (intro w hSw; (try dsimp only at hSw); go_simp; try with_reducible rfl)
        try simp only [Act.put, List.setIfInBounds_toArray, List.set_cons_zero, List.set_cons_succ]
        refine wpAnyH_take (i := 11) (oi := { dst := some 24, op := Op.fieldAddr 25 (Operand.tmp 1) 3, type := 0, pos := "right.go:16", after := #[{ on := 8, ground := Ground.guard }], guard := some (8, true) }) (v := ?gvx211) rfl (by kernel_rfl) (by kernel_rfl) (by kernel_rfl) (fun _ _ _ h => h) (Or.inl ⟨by rfl, ?gyx211⟩) (by assumption) ?grx211
        case gyx211 => (intro w hSw; (try dsimp only at hSw); go_simp; try with_reducible rfl)
        try simp only [Act.put, List.setIfInBounds_toArray, List.set_cons_zero, List.set_cons_succ]
        refine wpAnyH_take (i := 12) (oi := { dst := some 25, op := Op.load 3 (Operand.tmp 24), type := 3, pos := "right.go:16", after := #[{ on := 11, ground := Ground.data }, { on := 8, ground := Ground.guard }], guard := some (8, true) }) (v := ?gvx212) rfl (by kernel_rfl) (by kernel_rfl) (by kernel_rfl) (fun _ _ _ h => h) (Or.inl ⟨by rfl, ?gyx212⟩) (by assumption) ?grx212
        case gyx212 => (intro w hSw; (try dsimp only at hSw); go_simp; try with_reducible rfl)
        try simp only [Act.put, List.setIfInBounds_toArray, List.set_cons_zero, List.set_cons_succ]
        refine wpAnyH_ready (rs := [13]) (by kernel_rfl) (by simp) ?_
        refine AllReadyH.cons (o := { dst := some 26, op := Op.call { callee := Callee.value (Operand.func 27), args := #[Operand.tmp 23, Operand.tmp 25], argTypes := #[23, 3] }, type := 4, pos := "right.go:16", after := #[{ on := 10, ground := Ground.data }, { on := 12, ground := Ground.data }, { on := 8, ground := Ground.chain }, { on := 8, ground := Ground.guard }], guard := some (8, true) }) rfl (fun K hK => ?_) AllReadyH.nil
        rw [if_pos (by kernel_rfl)]
        go_simp
        go_wp2_with (go_at_call 27; refine (UT.out _ (Below.then HB.out (by first | exact hbA | exact hbA.drew))).mono ?_; rintro e wS ⟨rfl, hbS⟩)
        have hbA : Below W.heap.size W wS := (by first | exact Below.then hbA hbS | exact Below.then hbA.drew hbS)
        obtain ⟨a0, a1, a2, a3⟩ := (HA.out.keep hbA).cells
        refine hK.out _ _ ?hSx213 (fun hHeld13 => ?hRx213)
        case hSx213 => exact ⟨a0, a1, a2, a3⟩
        clear hK K
        try simp only [Act.put, List.setIfInBounds_toArray, List.set_cons_zero, List.set_cons_succ]
        refine wpAnyH_take (i := 14) (oi := { dst := some 27, op := Op.pick (Operand.tmp 21) (Operand.tmp 26) (Operand.const (Value.bool false)), type := 4, pos := "right.go:16", after := #[{ on := 8, ground := Ground.data }, { on := 13, ground := Ground.data }], guard := none }) (v := ?gvx214) rfl (by kernel_rfl) (by kernel_rfl) (by kernel_rfl) (fun _ _ _ h => h) (Or.inl ⟨by rfl, ?gyx214⟩) (by assumption) ?grx214
        case gyx214 => (intro w hSw; (try dsimp only at hSw); go_simp; try with_reducible rfl)
        try simp only [Act.put, List.setIfInBounds_toArray, List.set_cons_zero, List.set_cons_succ]
        refine wpAnyH_take (i := 15) (oi := { dst := some 28, op := Op.move (Operand.tmp 27), type := 4, pos := "right.go:16", after := #[{ on := 14, ground := Ground.data }, { on := 13, ground := Ground.chain }], guard := none }) (v := ?gvx215) rfl (by kernel_rfl) (by kernel_rfl) (by kernel_rfl) (fun _ _ _ h => h) (Or.inl ⟨by rfl, ?gyx215⟩) (by assumption) ?grx215
        case gyx215 => (intro w hSw; (try dsimp only at hSw); go_simp; try with_reducible rfl)
        try simp only [Act.put, List.setIfInBounds_toArray, List.set_cons_zero, List.set_cons_succ]
        refine wpAnyH_take (i := 16) (oi := { dst := some 29, op := Op.fieldAddr 25 (Operand.tmp 1) 0, type := 0, pos := "right.go:16", after := #[{ on := 15, ground := Ground.guard }], guard := some (15, true) }) (v := undef) rfl (by kernel_rfl) (by kernel_rfl) (by kernel_rfl) (fun _ _ _ h => h) (Or.inr ⟨by rfl, rfl⟩) (by assumption) ?grx216
        try simp only [Act.put, List.setIfInBounds_toArray, List.set_cons_zero, List.set_cons_succ]
        refine wpAnyH_take (i := 17) (oi := { dst := some 30, op := Op.load 22 (Operand.tmp 29), type := 22, pos := "right.go:16", after := #[{ on := 16, ground := Ground.data }, { on := 15, ground := Ground.guard }], guard := some (15, true) }) (v := undef) rfl (by kernel_rfl) (by kernel_rfl) (by kernel_rfl) (fun _ _ _ h => h) (Or.inr ⟨by rfl, rfl⟩) (by assumption) ?grx217
        try simp only [Act.put, List.setIfInBounds_toArray, List.set_cons_zero, List.set_cons_succ]
        refine wpAnyH_take (i := 18) (oi := { dst := some 31, op := Op.call { callee := Callee.value (Operand.func 28), args := #[Operand.tmp 30], argTypes := #[22] }, type := 4, pos := "right.go:16", after := #[{ on := 17, ground := Ground.data }, { on := 15, ground := Ground.chain }, { on := 15, ground := Ground.guard }], guard := some (15, true) }) (v := undef) rfl (by kernel_rfl) (by kernel_rfl) (by kernel_rfl) (fun _ _ _ h => h) (Or.inr ⟨by rfl, rfl⟩) (by assumption) ?grx218
        try simp only [Act.put, List.setIfInBounds_toArray, List.set_cons_zero, List.set_cons_succ]
        refine wpAnyH_take (i := 19) (oi := { dst := some 32, op := Op.pick (Operand.tmp 28) (Operand.tmp 31) (Operand.const (Value.bool false)), type := 4, pos := "right.go:16", after := #[{ on := 15, ground := Ground.data }, { on := 18, ground := Ground.data }], guard := none }) (v := ?gvx219) rfl (by kernel_rfl) (by kernel_rfl) (by kernel_rfl) (fun _ _ _ h => h) (Or.inl ⟨by rfl, ?gyx219⟩) (by assumption) ?grx219
        case gyx219 => (intro w hSw; (try dsimp only at hSw); go_simp; try with_reducible rfl)
        try simp only [Act.put, List.setIfInBounds_toArray, List.set_cons_zero, List.set_cons_succ]
        refine wpAnyH_take (i := 20) (oi := { dst := some 33, op := Op.move (Operand.tmp 32), type := 4, pos := "right.go:16", after := #[{ on := 19, ground := Ground.data }, { on := 18, ground := Ground.chain }], guard := none }) (v := ?gvx220) rfl (by kernel_rfl) (by kernel_rfl) (by kernel_rfl) (fun _ _ _ h => h) (Or.inl ⟨by rfl, ?gyx220⟩) (by assumption) ?grx220
        case gyx220 => (intro w hSw; (try dsimp only at hSw); go_simp; try with_reducible rfl)
        try simp only [Act.put, List.setIfInBounds_toArray, List.set_cons_zero, List.set_cons_succ]
        refine wpAnyH_take (i := 21) (oi := { dst := some 34, op := Op.fieldAddr 25 (Operand.tmp 1) 0, type := 0, pos := "right.go:16", after := #[{ on := 20, ground := Ground.guard }], guard := some (20, true) }) (v := undef) rfl (by kernel_rfl) (by kernel_rfl) (by kernel_rfl) (fun _ _ _ h => h) (Or.inr ⟨by rfl, rfl⟩) (by assumption) ?grx221
        try simp only [Act.put, List.setIfInBounds_toArray, List.set_cons_zero, List.set_cons_succ]
        refine wpAnyH_take (i := 22) (oi := { dst := some 35, op := Op.load 22 (Operand.tmp 34), type := 22, pos := "right.go:16", after := #[{ on := 21, ground := Ground.data }, { on := 20, ground := Ground.guard }], guard := some (20, true) }) (v := undef) rfl (by kernel_rfl) (by kernel_rfl) (by kernel_rfl) (fun _ _ _ h => h) (Or.inr ⟨by rfl, rfl⟩) (by assumption) ?grx222
        try simp only [Act.put, List.setIfInBounds_toArray, List.set_cons_zero, List.set_cons_succ]
        refine wpAnyH_take (i := 23) (oi := { dst := some 36, op := Op.call { callee := Callee.value (Operand.func 29), args := #[Operand.tmp 35], argTypes := #[22] }, type := 3, pos := "right.go:16", after := #[{ on := 22, ground := Ground.data }, { on := 20, ground := Ground.chain }, { on := 20, ground := Ground.guard }], guard := some (20, true) }) (v := undef) rfl (by kernel_rfl) (by kernel_rfl) (by kernel_rfl) (fun _ _ _ h => h) (Or.inr ⟨by rfl, rfl⟩) (by assumption) ?grx223
        try simp only [Act.put, List.setIfInBounds_toArray, List.set_cons_zero, List.set_cons_succ]
        refine wpAnyH_take (i := 24) (oi := { dst := some 37, op := Op.fieldAddr 25 (Operand.tmp 1) 1, type := 0, pos := "right.go:16", after := #[{ on := 20, ground := Ground.guard }], guard := some (20, true) }) (v := undef) rfl (by kernel_rfl) (by kernel_rfl) (by kernel_rfl) (fun _ _ _ h => h) (Or.inr ⟨by rfl, rfl⟩) (by assumption) ?grx224
        try simp only [Act.put, List.setIfInBounds_toArray, List.set_cons_zero, List.set_cons_succ]
        refine wpAnyH_take (i := 25) (oi := { dst := some 38, op := Op.load 3 (Operand.tmp 37), type := 3, pos := "right.go:16", after := #[{ on := 24, ground := Ground.data }, { on := 20, ground := Ground.guard }], guard := some (20, true) }) (v := undef) rfl (by kernel_rfl) (by kernel_rfl) (by kernel_rfl) (fun _ _ _ h => h) (Or.inr ⟨by rfl, rfl⟩) (by assumption) ?grx225
        try simp only [Act.put, List.setIfInBounds_toArray, List.set_cons_zero, List.set_cons_succ]
        refine wpAnyH_take (i := 26) (oi := { dst := some 39, op := Op.binOp BinOp.leq 3 (Operand.tmp 36) (Operand.tmp 38) 3, type := 4, pos := "right.go:16", after := #[{ on := 23, ground := Ground.data }, { on := 25, ground := Ground.data }, { on := 20, ground := Ground.guard }], guard := some (20, true) }) (v := undef) rfl (by kernel_rfl) (by kernel_rfl) (by kernel_rfl) (fun _ _ _ h => h) (Or.inr ⟨by rfl, rfl⟩) (by assumption) ?grx226
        try simp only [Act.put, List.setIfInBounds_toArray, List.set_cons_zero, List.set_cons_succ]
        refine wpAnyH_take (i := 27) (oi := { dst := some 40, op := Op.pick (Operand.tmp 33) (Operand.tmp 39) (Operand.const (Value.bool false)), type := 4, pos := "right.go:16", after := #[{ on := 20, ground := Ground.data }, { on := 26, ground := Ground.data }], guard := none }) (v := ?gvx227) rfl (by kernel_rfl) (by kernel_rfl) (by kernel_rfl) (fun _ _ _ h => h) (Or.inl ⟨by rfl, ?gyx227⟩) (by assumption) ?grx227
        case gyx227 => (intro w hSw; (try dsimp only at hSw); go_simp; try with_reducible rfl)
        try simp only [Act.put, List.setIfInBounds_toArray, List.set_cons_zero, List.set_cons_succ]
        refine wpAnyH_take (i := 28) (oi := { dst := some 2, op := Op.assign (Operand.tmp 40), type := 4, pos := "right.go:16", after := #[{ on := 27, ground := Ground.data }, { on := 23, ground := Ground.chain }, { on := 0, ground := Ground.phase }, { on := 1, ground := Ground.phase }, { on := 2, ground := Ground.phase }, { on := 3, ground := Ground.phase }, { on := 4, ground := Ground.phase }, { on := 5, ground := Ground.phase }, { on := 6, ground := Ground.phase }, { on := 7, ground := Ground.phase }, { on := 8, ground := Ground.phase }, { on := 9, ground := Ground.phase }, { on := 10, ground := Ground.phase }, { on := 11, ground := Ground.phase }, { on := 12, ground := Ground.phase }, { on := 13, ground := Ground.phase }, { on := 14, ground := Ground.phase }, { on := 15, ground := Ground.phase }, { on := 16, ground := Ground.phase }, { on := 17, ground := Ground.phase }, { on := 18, ground := Ground.phase }, { on := 19, ground := Ground.phase }, { on := 20, ground := Ground.phase }, { on := 21, ground := Ground.phase }, { on := 22, ground := Ground.phase }, { on := 23, ground := Ground.phase }, { on := 24, ground := Ground.phase }, { on := 25, ground := Ground.phase }, { on := 26, ground := Ground.phase }, { on := 27, ground := Ground.phase }], guard := none }) (v := ?gvx228) rfl (by kernel_rfl) (by kernel_rfl) (by kernel_rfl) (fun _ _ _ h => h) (Or.inl ⟨by rfl, ?gyx228⟩) (by assumption) ?grx228
        case gyx228 => (intro w hSw; (try dsimp only at hSw); go_simp; try with_reducible rfl)
        try simp only [Act.put, List.setIfInBounds_toArray, List.set_cons_zero, List.set_cons_succ]
        refine wpAnyH_done (by kernel_rfl) ?_ _
        go_wp2_with fail
        go_ret
        exact ⟨by rw [HO.out]; rfl, by first | exact Below.then HB.out hbA | exact Below.then HB.out hbA.drew⟩
      | true =>
        cases bo with
        | false =>
          have HO := Lib.hid (show rightBlb b = false by rw [HE2.out]; simp)
          refine wp_region_held_drew (S := fun w' => w'.cell? ⟨w.heap.size, 0, none⟩ = some (.slice a n c) ∧ w'.cell? ⟨w.heap.size, 1, none⟩ = some (.int .i64 q) ∧ w'.cell? ⟨w.heap.size, 2, none⟩ = some (.slice a' m c') ∧ w'.cell? ⟨w.heap.size, 3, none⟩ = some (.int .i64 l)) (by kernel_rfl) ?hSx3 (fun hHeld => ?hRx3)
          case hSx3 => exact ⟨a0, a1, a2, a3⟩
          refine wpAnyH_take (i := 0) (oi := { dst := some 13, op := Op.fieldAddr 25 (Operand.tmp 1) 1, type := 0, pos := "right.go:16", after := #[], guard := none }) (v := ?gvx30) rfl (by kernel_rfl) (by kernel_rfl) (by kernel_rfl) (fun _ _ _ h => h) (Or.inl ⟨by rfl, ?gyx30⟩) (by assumption) ?grx30
          case gyx30 => (intro w hSw; (try dsimp only at hSw); go_simp; try with_reducible rfl)
          try simp only [Act.put, List.setIfInBounds_toArray, List.set_cons_zero, List.set_cons_succ]
          refine wpAnyH_take (i := 1) (oi := { dst := some 14, op := Op.load 3 (Operand.tmp 13), type := 3, pos := "right.go:16", after := #[{ on := 0, ground := Ground.data }], guard := none }) (v := ?gvx31) rfl (by kernel_rfl) (by kernel_rfl) (by kernel_rfl) (fun _ _ _ h => h) (Or.inl ⟨by rfl, ?gyx31⟩) (by assumption) ?grx31
          case gyx31 => (intro w hSw; (try dsimp only at hSw); go_simp; try with_reducible rfl)
          try simp only [Act.put, List.setIfInBounds_toArray, List.set_cons_zero, List.set_cons_succ]
          refine wpAnyH_ready (rs := [2]) (by kernel_rfl) (by simp) ?_
          refine AllReadyH.cons (o := { dst := some 15, op := Op.call { callee := Callee.value (Operand.func 23), args := #[Operand.tmp 14], argTypes := #[3] }, type := 4, pos := "right.go:16", after := #[{ on := 1, ground := Ground.data }], guard := none }) rfl (fun K hK => ?_) AllReadyH.nil
          rw [if_pos (by kernel_rfl)]
          go_simp
          go_wp2_with (go_at_call 23; refine (Q1.out _).mono ?_; rintro e wS ⟨rfl, hwS⟩; subst hwS)
          refine hK.out _ _ ?hSx32 (fun hHeld2 => ?hRx32)
          case hSx32 => exact ⟨a0, a1, a2, a3⟩
          clear hK K
          try simp only [Act.put, List.setIfInBounds_toArray, List.set_cons_zero, List.set_cons_succ]
          refine wpAnyH_take (i := 3) (oi := { dst := some 16, op := Op.move (Operand.tmp 15), type := 4, pos := "right.go:16", after := #[{ on := 2, ground := Ground.data }, { on := 2, ground := Ground.chain }], guard := none }) (v := ?gvx33) rfl (by kernel_rfl) (by kernel_rfl) (by kernel_rfl) (fun _ _ _ h => h) (Or.inl ⟨by rfl, ?gyx33⟩) (by assumption) ?grx33
          case gyx33 => (intro w hSw; (try dsimp only at hSw); go_simp; try with_reducible rfl)
          try simp only [Act.put, List.setIfInBounds_toArray, List.set_cons_zero, List.set_cons_succ]
          refine wpAnyH_take (i := 4) (oi := { dst := some 17, op := Op.fieldAddr 25 (Operand.tmp 1) 3, type := 0, pos := "right.go:16", after := #[{ on := 3, ground := Ground.guard }], guard := some (3, true) }) (v := ?gvx34) rfl (by kernel_rfl) (by kernel_rfl) (by kernel_rfl) (fun _ _ _ h => h) (Or.inl ⟨by rfl, ?gyx34⟩) (by assumption) ?grx34
          case gyx34 => (intro w hSw; (try dsimp only at hSw); go_simp; try with_reducible rfl)
          try simp only [Act.put, List.setIfInBounds_toArray, List.set_cons_zero, List.set_cons_succ]
          refine wpAnyH_take (i := 5) (oi := { dst := some 18, op := Op.load 3 (Operand.tmp 17), type := 3, pos := "right.go:16", after := #[{ on := 4, ground := Ground.data }, { on := 3, ground := Ground.guard }], guard := some (3, true) }) (v := ?gvx35) rfl (by kernel_rfl) (by kernel_rfl) (by kernel_rfl) (fun _ _ _ h => h) (Or.inl ⟨by rfl, ?gyx35⟩) (by assumption) ?grx35
          case gyx35 => (intro w hSw; (try dsimp only at hSw); go_simp; try with_reducible rfl)
          try simp only [Act.put, List.setIfInBounds_toArray, List.set_cons_zero, List.set_cons_succ]
          refine wpAnyH_ready (rs := [6]) (by kernel_rfl) (by simp) ?_
          refine AllReadyH.cons (o := { dst := some 19, op := Op.call { callee := Callee.value (Operand.func 26), args := #[Operand.tmp 18], argTypes := #[3] }, type := 4, pos := "right.go:16", after := #[{ on := 5, ground := Ground.data }, { on := 3, ground := Ground.chain }, { on := 3, ground := Ground.guard }], guard := some (3, true) }) rfl (fun K hK => ?_) AllReadyH.nil
          rw [if_pos (by kernel_rfl)]
          go_simp
          go_wp2_with (go_at_call 26; refine (L1.out _).mono ?_; rintro e wS ⟨rfl, hwS⟩; subst hwS)
          refine hK.out _ _ ?hSx36 (fun hHeld6 => ?hRx36)
          case hSx36 => exact ⟨a0, a1, a2, a3⟩
          clear hK K
          try simp only [Act.put, List.setIfInBounds_toArray, List.set_cons_zero, List.set_cons_succ]
          refine wpAnyH_take (i := 7) (oi := { dst := some 20, op := Op.pick (Operand.tmp 16) (Operand.tmp 19) (Operand.const (Value.bool false)), type := 4, pos := "right.go:16", after := #[{ on := 3, ground := Ground.data }, { on := 6, ground := Ground.data }], guard := none }) (v := ?gvx37) rfl (by kernel_rfl) (by kernel_rfl) (by kernel_rfl) (fun _ _ _ h => h) (Or.inl ⟨by rfl, ?gyx37⟩) (by assumption) ?grx37
          case gyx37 => (intro w hSw; (try dsimp only at hSw); go_simp; try with_reducible rfl)
          try simp only [Act.put, List.setIfInBounds_toArray, List.set_cons_zero, List.set_cons_succ]
          refine wpAnyH_take (i := 8) (oi := { dst := some 21, op := Op.move (Operand.tmp 20), type := 4, pos := "right.go:16", after := #[{ on := 7, ground := Ground.data }, { on := 6, ground := Ground.chain }], guard := none }) (v := ?gvx38) rfl (by kernel_rfl) (by kernel_rfl) (by kernel_rfl) (fun _ _ _ h => h) (Or.inl ⟨by rfl, ?gyx38⟩) (by assumption) ?grx38
          case gyx38 => (intro w hSw; (try dsimp only at hSw); go_simp; try with_reducible rfl)
          try simp only [Act.put, List.setIfInBounds_toArray, List.set_cons_zero, List.set_cons_succ]
          refine wpAnyH_take (i := 9) (oi := { dst := some 22, op := Op.fieldAddr 25 (Operand.tmp 1) 2, type := 0, pos := "right.go:16", after := #[{ on := 8, ground := Ground.guard }], guard := some (8, true) }) (v := ?gvx39) rfl (by kernel_rfl) (by kernel_rfl) (by kernel_rfl) (fun _ _ _ h => h) (Or.inl ⟨by rfl, ?gyx39⟩) (by assumption) ?grx39
          case gyx39 => (intro w hSw; (try dsimp only at hSw); go_simp; try with_reducible rfl)
          try simp only [Act.put, List.setIfInBounds_toArray, List.set_cons_zero, List.set_cons_succ]
          refine wpAnyH_take (i := 10) (oi := { dst := some 23, op := Op.load 23 (Operand.tmp 22), type := 23, pos := "right.go:16", after := #[{ on := 9, ground := Ground.data }, { on := 8, ground := Ground.guard }], guard := some (8, true) }) (v := ?gvx310) rfl (by kernel_rfl) (by kernel_rfl) (by kernel_rfl) (fun _ _ _ h => h) (Or.inl ⟨by rfl, ?gyx310⟩) (by assumption) ?grx310
          case gyx310 => (intro w hSw; (try dsimp only at hSw); go_simp; try with_reducible rfl)
          try simp only [Act.put, List.setIfInBounds_toArray, List.set_cons_zero, List.set_cons_succ]
          refine wpAnyH_take (i := 11) (oi := { dst := some 24, op := Op.fieldAddr 25 (Operand.tmp 1) 3, type := 0, pos := "right.go:16", after := #[{ on := 8, ground := Ground.guard }], guard := some (8, true) }) (v := ?gvx311) rfl (by kernel_rfl) (by kernel_rfl) (by kernel_rfl) (fun _ _ _ h => h) (Or.inl ⟨by rfl, ?gyx311⟩) (by assumption) ?grx311
          case gyx311 => (intro w hSw; (try dsimp only at hSw); go_simp; try with_reducible rfl)
          try simp only [Act.put, List.setIfInBounds_toArray, List.set_cons_zero, List.set_cons_succ]
          refine wpAnyH_take (i := 12) (oi := { dst := some 25, op := Op.load 3 (Operand.tmp 24), type := 3, pos := "right.go:16", after := #[{ on := 11, ground := Ground.data }, { on := 8, ground := Ground.guard }], guard := some (8, true) }) (v := ?gvx312) rfl (by kernel_rfl) (by kernel_rfl) (by kernel_rfl) (fun _ _ _ h => h) (Or.inl ⟨by rfl, ?gyx312⟩) (by assumption) ?grx312
          case gyx312 => (intro w hSw; (try dsimp only at hSw); go_simp; try with_reducible rfl)
          try simp only [Act.put, List.setIfInBounds_toArray, List.set_cons_zero, List.set_cons_succ]
          refine wpAnyH_ready (rs := [13]) (by kernel_rfl) (by simp) ?_
          refine AllReadyH.cons (o := { dst := some 26, op := Op.call { callee := Callee.value (Operand.func 27), args := #[Operand.tmp 23, Operand.tmp 25], argTypes := #[23, 3] }, type := 4, pos := "right.go:16", after := #[{ on := 10, ground := Ground.data }, { on := 12, ground := Ground.data }, { on := 8, ground := Ground.chain }, { on := 8, ground := Ground.guard }], guard := some (8, true) }) rfl (fun K hK => ?_) AllReadyH.nil
          rw [if_pos (by kernel_rfl)]
          go_simp
          go_wp2_with (go_at_call 27; refine (UT.out _ (Below.then HB.out (by first | exact hbA | exact hbA.drew))).mono ?_; rintro e wS ⟨rfl, hbS⟩)
          have hbA : Below W.heap.size W wS := (by first | exact Below.then hbA hbS | exact Below.then hbA.drew hbS)
          obtain ⟨a0, a1, a2, a3⟩ := (HA.out.keep hbA).cells
          refine hK.out _ _ ?hSx313 (fun hHeld13 => ?hRx313)
          case hSx313 => exact ⟨a0, a1, a2, a3⟩
          clear hK K
          try simp only [Act.put, List.setIfInBounds_toArray, List.set_cons_zero, List.set_cons_succ]
          refine wpAnyH_take (i := 14) (oi := { dst := some 27, op := Op.pick (Operand.tmp 21) (Operand.tmp 26) (Operand.const (Value.bool false)), type := 4, pos := "right.go:16", after := #[{ on := 8, ground := Ground.data }, { on := 13, ground := Ground.data }], guard := none }) (v := ?gvx314) rfl (by kernel_rfl) (by kernel_rfl) (by kernel_rfl) (fun _ _ _ h => h) (Or.inl ⟨by rfl, ?gyx314⟩) (by assumption) ?grx314
          case gyx314 => (intro w hSw; (try dsimp only at hSw); go_simp; try with_reducible rfl)
          try simp only [Act.put, List.setIfInBounds_toArray, List.set_cons_zero, List.set_cons_succ]
          refine wpAnyH_take (i := 15) (oi := { dst := some 28, op := Op.move (Operand.tmp 27), type := 4, pos := "right.go:16", after := #[{ on := 14, ground := Ground.data }, { on := 13, ground := Ground.chain }], guard := none }) (v := ?gvx315) rfl (by kernel_rfl) (by kernel_rfl) (by kernel_rfl) (fun _ _ _ h => h) (Or.inl ⟨by rfl, ?gyx315⟩) (by assumption) ?grx315
          case gyx315 => (intro w hSw; (try dsimp only at hSw); go_simp; try with_reducible rfl)
          try simp only [Act.put, List.setIfInBounds_toArray, List.set_cons_zero, List.set_cons_succ]
          refine wpAnyH_take (i := 16) (oi := { dst := some 29, op := Op.fieldAddr 25 (Operand.tmp 1) 0, type := 0, pos := "right.go:16", after := #[{ on := 15, ground := Ground.guard }], guard := some (15, true) }) (v := ?gvx316) rfl (by kernel_rfl) (by kernel_rfl) (by kernel_rfl) (fun _ _ _ h => h) (Or.inl ⟨by rfl, ?gyx316⟩) (by assumption) ?grx316
          case gyx316 => (intro w hSw; (try dsimp only at hSw); go_simp; try with_reducible rfl)
          try simp only [Act.put, List.setIfInBounds_toArray, List.set_cons_zero, List.set_cons_succ]
          refine wpAnyH_take (i := 17) (oi := { dst := some 30, op := Op.load 22 (Operand.tmp 29), type := 22, pos := "right.go:16", after := #[{ on := 16, ground := Ground.data }, { on := 15, ground := Ground.guard }], guard := some (15, true) }) (v := ?gvx317) rfl (by kernel_rfl) (by kernel_rfl) (by kernel_rfl) (fun _ _ _ h => h) (Or.inl ⟨by rfl, ?gyx317⟩) (by assumption) ?grx317
          case gyx317 => (intro w hSw; (try dsimp only at hSw); go_simp; try with_reducible rfl)
          try simp only [Act.put, List.setIfInBounds_toArray, List.set_cons_zero, List.set_cons_succ]
          refine wpAnyH_ready (rs := [18]) (by kernel_rfl) (by simp) ?_
          refine AllReadyH.cons (o := { dst := some 31, op := Op.call { callee := Callee.value (Operand.func 28), args := #[Operand.tmp 30], argTypes := #[22] }, type := 4, pos := "right.go:16", after := #[{ on := 17, ground := Ground.data }, { on := 15, ground := Ground.chain }, { on := 15, ground := Ground.guard }], guard := some (15, true) }) rfl (fun K hK => ?_) AllReadyH.nil
          rw [if_pos (by kernel_rfl)]
          go_simp
          go_wp2_with (go_at_call 28; refine (OT.out _ (Below.then HB.out (by first | exact hbA | exact hbA.drew))).mono ?_; rintro e wS ⟨rfl, hbS⟩)
          have hbA : Below W.heap.size W wS := (by first | exact Below.then hbA hbS | exact Below.then hbA.drew hbS)
          obtain ⟨a0, a1, a2, a3⟩ := (HA.out.keep hbA).cells
          refine hK.out _ _ ?hSx318 (fun hHeld18 => ?hRx318)
          case hSx318 => exact ⟨a0, a1, a2, a3⟩
          clear hK K
          try simp only [Act.put, List.setIfInBounds_toArray, List.set_cons_zero, List.set_cons_succ]
          refine wpAnyH_take (i := 19) (oi := { dst := some 32, op := Op.pick (Operand.tmp 28) (Operand.tmp 31) (Operand.const (Value.bool false)), type := 4, pos := "right.go:16", after := #[{ on := 15, ground := Ground.data }, { on := 18, ground := Ground.data }], guard := none }) (v := ?gvx319) rfl (by kernel_rfl) (by kernel_rfl) (by kernel_rfl) (fun _ _ _ h => h) (Or.inl ⟨by rfl, ?gyx319⟩) (by assumption) ?grx319
          case gyx319 => (intro w hSw; (try dsimp only at hSw); go_simp; try with_reducible rfl)
          try simp only [Act.put, List.setIfInBounds_toArray, List.set_cons_zero, List.set_cons_succ]
          refine wpAnyH_take (i := 20) (oi := { dst := some 33, op := Op.move (Operand.tmp 32), type := 4, pos := "right.go:16", after := #[{ on := 19, ground := Ground.data }, { on := 18, ground := Ground.chain }], guard := none }) (v := ?gvx320) rfl (by kernel_rfl) (by kernel_rfl) (by kernel_rfl) (fun _ _ _ h => h) (Or.inl ⟨by rfl, ?gyx320⟩) (by assumption) ?grx320
          case gyx320 => (intro w hSw; (try dsimp only at hSw); go_simp; try with_reducible rfl)
          try simp only [Act.put, List.setIfInBounds_toArray, List.set_cons_zero, List.set_cons_succ]
          refine wpAnyH_take (i := 21) (oi := { dst := some 34, op := Op.fieldAddr 25 (Operand.tmp 1) 0, type := 0, pos := "right.go:16", after := #[{ on := 20, ground := Ground.guard }], guard := some (20, true) }) (v := undef) rfl (by kernel_rfl) (by kernel_rfl) (by kernel_rfl) (fun _ _ _ h => h) (Or.inr ⟨by rfl, rfl⟩) (by assumption) ?grx321
          try simp only [Act.put, List.setIfInBounds_toArray, List.set_cons_zero, List.set_cons_succ]
          refine wpAnyH_take (i := 22) (oi := { dst := some 35, op := Op.load 22 (Operand.tmp 34), type := 22, pos := "right.go:16", after := #[{ on := 21, ground := Ground.data }, { on := 20, ground := Ground.guard }], guard := some (20, true) }) (v := undef) rfl (by kernel_rfl) (by kernel_rfl) (by kernel_rfl) (fun _ _ _ h => h) (Or.inr ⟨by rfl, rfl⟩) (by assumption) ?grx322
          try simp only [Act.put, List.setIfInBounds_toArray, List.set_cons_zero, List.set_cons_succ]
          refine wpAnyH_take (i := 23) (oi := { dst := some 36, op := Op.call { callee := Callee.value (Operand.func 29), args := #[Operand.tmp 35], argTypes := #[22] }, type := 3, pos := "right.go:16", after := #[{ on := 22, ground := Ground.data }, { on := 20, ground := Ground.chain }, { on := 20, ground := Ground.guard }], guard := some (20, true) }) (v := undef) rfl (by kernel_rfl) (by kernel_rfl) (by kernel_rfl) (fun _ _ _ h => h) (Or.inr ⟨by rfl, rfl⟩) (by assumption) ?grx323
          try simp only [Act.put, List.setIfInBounds_toArray, List.set_cons_zero, List.set_cons_succ]
          refine wpAnyH_take (i := 24) (oi := { dst := some 37, op := Op.fieldAddr 25 (Operand.tmp 1) 1, type := 0, pos := "right.go:16", after := #[{ on := 20, ground := Ground.guard }], guard := some (20, true) }) (v := undef) rfl (by kernel_rfl) (by kernel_rfl) (by kernel_rfl) (fun _ _ _ h => h) (Or.inr ⟨by rfl, rfl⟩) (by assumption) ?grx324
          try simp only [Act.put, List.setIfInBounds_toArray, List.set_cons_zero, List.set_cons_succ]
          refine wpAnyH_take (i := 25) (oi := { dst := some 38, op := Op.load 3 (Operand.tmp 37), type := 3, pos := "right.go:16", after := #[{ on := 24, ground := Ground.data }, { on := 20, ground := Ground.guard }], guard := some (20, true) }) (v := undef) rfl (by kernel_rfl) (by kernel_rfl) (by kernel_rfl) (fun _ _ _ h => h) (Or.inr ⟨by rfl, rfl⟩) (by assumption) ?grx325
          try simp only [Act.put, List.setIfInBounds_toArray, List.set_cons_zero, List.set_cons_succ]
          refine wpAnyH_take (i := 26) (oi := { dst := some 39, op := Op.binOp BinOp.leq 3 (Operand.tmp 36) (Operand.tmp 38) 3, type := 4, pos := "right.go:16", after := #[{ on := 23, ground := Ground.data }, { on := 25, ground := Ground.data }, { on := 20, ground := Ground.guard }], guard := some (20, true) }) (v := undef) rfl (by kernel_rfl) (by kernel_rfl) (by kernel_rfl) (fun _ _ _ h => h) (Or.inr ⟨by rfl, rfl⟩) (by assumption) ?grx326
          try simp only [Act.put, List.setIfInBounds_toArray, List.set_cons_zero, List.set_cons_succ]
          refine wpAnyH_take (i := 27) (oi := { dst := some 40, op := Op.pick (Operand.tmp 33) (Operand.tmp 39) (Operand.const (Value.bool false)), type := 4, pos := "right.go:16", after := #[{ on := 20, ground := Ground.data }, { on := 26, ground := Ground.data }], guard := none }) (v := ?gvx327) rfl (by kernel_rfl) (by kernel_rfl) (by kernel_rfl) (fun _ _ _ h => h) (Or.inl ⟨by rfl, ?gyx327⟩) (by assumption) ?grx327
          case gyx327 => (intro w hSw; (try dsimp only at hSw); go_simp; try with_reducible rfl)
          try simp only [Act.put, List.setIfInBounds_toArray, List.set_cons_zero, List.set_cons_succ]
          refine wpAnyH_take (i := 28) (oi := { dst := some 2, op := Op.assign (Operand.tmp 40), type := 4, pos := "right.go:16", after := #[{ on := 27, ground := Ground.data }, { on := 23, ground := Ground.chain }, { on := 0, ground := Ground.phase }, { on := 1, ground := Ground.phase }, { on := 2, ground := Ground.phase }, { on := 3, ground := Ground.phase }, { on := 4, ground := Ground.phase }, { on := 5, ground := Ground.phase }, { on := 6, ground := Ground.phase }, { on := 7, ground := Ground.phase }, { on := 8, ground := Ground.phase }, { on := 9, ground := Ground.phase }, { on := 10, ground := Ground.phase }, { on := 11, ground := Ground.phase }, { on := 12, ground := Ground.phase }, { on := 13, ground := Ground.phase }, { on := 14, ground := Ground.phase }, { on := 15, ground := Ground.phase }, { on := 16, ground := Ground.phase }, { on := 17, ground := Ground.phase }, { on := 18, ground := Ground.phase }, { on := 19, ground := Ground.phase }, { on := 20, ground := Ground.phase }, { on := 21, ground := Ground.phase }, { on := 22, ground := Ground.phase }, { on := 23, ground := Ground.phase }, { on := 24, ground := Ground.phase }, { on := 25, ground := Ground.phase }, { on := 26, ground := Ground.phase }, { on := 27, ground := Ground.phase }], guard := none }) (v := ?gvx328) rfl (by kernel_rfl) (by kernel_rfl) (by kernel_rfl) (fun _ _ _ h => h) (Or.inl ⟨by rfl, ?gyx328⟩) (by assumption) ?grx328
          case gyx328 => (intro w hSw; (try dsimp only at hSw); go_simp; try with_reducible rfl)
          try simp only [Act.put, List.setIfInBounds_toArray, List.set_cons_zero, List.set_cons_succ]
          refine wpAnyH_done (by kernel_rfl) ?_ _
          go_wp2_with fail
          go_ret
          exact ⟨by rw [HO.out]; rfl, by first | exact Below.then HB.out hbA | exact Below.then HB.out hbA.drew⟩
        | true =>
          have hbs := HBS.out
          cases bs with
          | false =>
            have HO := Lib.hid (show rightBlb b = false by rw [HE2.out]; rfl)
            refine wp_region_held_drew (S := fun w' => w'.cell? ⟨w.heap.size, 0, none⟩ = some (.slice a n c) ∧ w'.cell? ⟨w.heap.size, 1, none⟩ = some (.int .i64 q) ∧ w'.cell? ⟨w.heap.size, 2, none⟩ = some (.slice a' m c') ∧ w'.cell? ⟨w.heap.size, 3, none⟩ = some (.int .i64 l)) (by kernel_rfl) ?hSyfalse (fun hHeld => ?hRyfalse)
            case hSyfalse => exact ⟨a0, a1, a2, a3⟩
            refine wpAnyH_take (i := 0) (oi := { dst := some 13, op := Op.fieldAddr 25 (Operand.tmp 1) 1, type := 0, pos := "right.go:16", after := #[], guard := none }) (v := ?gvyfalse0) rfl (by kernel_rfl) (by kernel_rfl) (by kernel_rfl) (fun _ _ _ h => h) (Or.inl ⟨by rfl, ?gyyfalse0⟩) (by assumption) ?gryfalse0
            case gyyfalse0 => (intro w hSw; (try dsimp only at hSw); go_simp; try with_reducible rfl)
            try simp only [Act.put, List.setIfInBounds_toArray, List.set_cons_zero, List.set_cons_succ]
            refine wpAnyH_take (i := 1) (oi := { dst := some 14, op := Op.load 3 (Operand.tmp 13), type := 3, pos := "right.go:16", after := #[{ on := 0, ground := Ground.data }], guard := none }) (v := ?gvyfalse1) rfl (by kernel_rfl) (by kernel_rfl) (by kernel_rfl) (fun _ _ _ h => h) (Or.inl ⟨by rfl, ?gyyfalse1⟩) (by assumption) ?gryfalse1
            case gyyfalse1 => (intro w hSw; (try dsimp only at hSw); go_simp; try with_reducible rfl)
            try simp only [Act.put, List.setIfInBounds_toArray, List.set_cons_zero, List.set_cons_succ]
            refine wpAnyH_ready (rs := [2]) (by kernel_rfl) (by simp) ?_
            refine AllReadyH.cons (o := { dst := some 15, op := Op.call { callee := Callee.value (Operand.func 23), args := #[Operand.tmp 14], argTypes := #[3] }, type := 4, pos := "right.go:16", after := #[{ on := 1, ground := Ground.data }], guard := none }) rfl (fun K hK => ?_) AllReadyH.nil
            rw [if_pos (by kernel_rfl)]
            go_simp
            go_wp2_with (go_at_call 23; refine (Q1.out _).mono ?_; rintro e wS ⟨rfl, hwS⟩; subst hwS)
            refine hK.out _ _ ?hSyfalse2 (fun hHeld2 => ?hRyfalse2)
            case hSyfalse2 => exact ⟨a0, a1, a2, a3⟩
            clear hK K
            try simp only [Act.put, List.setIfInBounds_toArray, List.set_cons_zero, List.set_cons_succ]
            refine wpAnyH_take (i := 3) (oi := { dst := some 16, op := Op.move (Operand.tmp 15), type := 4, pos := "right.go:16", after := #[{ on := 2, ground := Ground.data }, { on := 2, ground := Ground.chain }], guard := none }) (v := ?gvyfalse3) rfl (by kernel_rfl) (by kernel_rfl) (by kernel_rfl) (fun _ _ _ h => h) (Or.inl ⟨by rfl, ?gyyfalse3⟩) (by assumption) ?gryfalse3
            case gyyfalse3 => (intro w hSw; (try dsimp only at hSw); go_simp; try with_reducible rfl)
            try simp only [Act.put, List.setIfInBounds_toArray, List.set_cons_zero, List.set_cons_succ]
            refine wpAnyH_take (i := 4) (oi := { dst := some 17, op := Op.fieldAddr 25 (Operand.tmp 1) 3, type := 0, pos := "right.go:16", after := #[{ on := 3, ground := Ground.guard }], guard := some (3, true) }) (v := ?gvyfalse4) rfl (by kernel_rfl) (by kernel_rfl) (by kernel_rfl) (fun _ _ _ h => h) (Or.inl ⟨by rfl, ?gyyfalse4⟩) (by assumption) ?gryfalse4
            case gyyfalse4 => (intro w hSw; (try dsimp only at hSw); go_simp; try with_reducible rfl)
            try simp only [Act.put, List.setIfInBounds_toArray, List.set_cons_zero, List.set_cons_succ]
            refine wpAnyH_take (i := 5) (oi := { dst := some 18, op := Op.load 3 (Operand.tmp 17), type := 3, pos := "right.go:16", after := #[{ on := 4, ground := Ground.data }, { on := 3, ground := Ground.guard }], guard := some (3, true) }) (v := ?gvyfalse5) rfl (by kernel_rfl) (by kernel_rfl) (by kernel_rfl) (fun _ _ _ h => h) (Or.inl ⟨by rfl, ?gyyfalse5⟩) (by assumption) ?gryfalse5
            case gyyfalse5 => (intro w hSw; (try dsimp only at hSw); go_simp; try with_reducible rfl)
            try simp only [Act.put, List.setIfInBounds_toArray, List.set_cons_zero, List.set_cons_succ]
            refine wpAnyH_ready (rs := [6]) (by kernel_rfl) (by simp) ?_
            refine AllReadyH.cons (o := { dst := some 19, op := Op.call { callee := Callee.value (Operand.func 26), args := #[Operand.tmp 18], argTypes := #[3] }, type := 4, pos := "right.go:16", after := #[{ on := 5, ground := Ground.data }, { on := 3, ground := Ground.chain }, { on := 3, ground := Ground.guard }], guard := some (3, true) }) rfl (fun K hK => ?_) AllReadyH.nil
            rw [if_pos (by kernel_rfl)]
            go_simp
            go_wp2_with (go_at_call 26; refine (L1.out _).mono ?_; rintro e wS ⟨rfl, hwS⟩; subst hwS)
            refine hK.out _ _ ?hSyfalse6 (fun hHeld6 => ?hRyfalse6)
            case hSyfalse6 => exact ⟨a0, a1, a2, a3⟩
            clear hK K
            try simp only [Act.put, List.setIfInBounds_toArray, List.set_cons_zero, List.set_cons_succ]
            refine wpAnyH_take (i := 7) (oi := { dst := some 20, op := Op.pick (Operand.tmp 16) (Operand.tmp 19) (Operand.const (Value.bool false)), type := 4, pos := "right.go:16", after := #[{ on := 3, ground := Ground.data }, { on := 6, ground := Ground.data }], guard := none }) (v := ?gvyfalse7) rfl (by kernel_rfl) (by kernel_rfl) (by kernel_rfl) (fun _ _ _ h => h) (Or.inl ⟨by rfl, ?gyyfalse7⟩) (by assumption) ?gryfalse7
            case gyyfalse7 => (intro w hSw; (try dsimp only at hSw); go_simp; try with_reducible rfl)
            try simp only [Act.put, List.setIfInBounds_toArray, List.set_cons_zero, List.set_cons_succ]
            refine wpAnyH_take (i := 8) (oi := { dst := some 21, op := Op.move (Operand.tmp 20), type := 4, pos := "right.go:16", after := #[{ on := 7, ground := Ground.data }, { on := 6, ground := Ground.chain }], guard := none }) (v := ?gvyfalse8) rfl (by kernel_rfl) (by kernel_rfl) (by kernel_rfl) (fun _ _ _ h => h) (Or.inl ⟨by rfl, ?gyyfalse8⟩) (by assumption) ?gryfalse8
            case gyyfalse8 => (intro w hSw; (try dsimp only at hSw); go_simp; try with_reducible rfl)
            try simp only [Act.put, List.setIfInBounds_toArray, List.set_cons_zero, List.set_cons_succ]
            refine wpAnyH_take (i := 9) (oi := { dst := some 22, op := Op.fieldAddr 25 (Operand.tmp 1) 2, type := 0, pos := "right.go:16", after := #[{ on := 8, ground := Ground.guard }], guard := some (8, true) }) (v := ?gvyfalse9) rfl (by kernel_rfl) (by kernel_rfl) (by kernel_rfl) (fun _ _ _ h => h) (Or.inl ⟨by rfl, ?gyyfalse9⟩) (by assumption) ?gryfalse9
            case gyyfalse9 => (intro w hSw; (try dsimp only at hSw); go_simp; try with_reducible rfl)
            try simp only [Act.put, List.setIfInBounds_toArray, List.set_cons_zero, List.set_cons_succ]
            refine wpAnyH_take (i := 10) (oi := { dst := some 23, op := Op.load 23 (Operand.tmp 22), type := 23, pos := "right.go:16", after := #[{ on := 9, ground := Ground.data }, { on := 8, ground := Ground.guard }], guard := some (8, true) }) (v := ?gvyfalse10) rfl (by kernel_rfl) (by kernel_rfl) (by kernel_rfl) (fun _ _ _ h => h) (Or.inl ⟨by rfl, ?gyyfalse10⟩) (by assumption) ?gryfalse10
            case gyyfalse10 => (intro w hSw; (try dsimp only at hSw); go_simp; try with_reducible rfl)
            try simp only [Act.put, List.setIfInBounds_toArray, List.set_cons_zero, List.set_cons_succ]
            refine wpAnyH_take (i := 11) (oi := { dst := some 24, op := Op.fieldAddr 25 (Operand.tmp 1) 3, type := 0, pos := "right.go:16", after := #[{ on := 8, ground := Ground.guard }], guard := some (8, true) }) (v := ?gvyfalse11) rfl (by kernel_rfl) (by kernel_rfl) (by kernel_rfl) (fun _ _ _ h => h) (Or.inl ⟨by rfl, ?gyyfalse11⟩) (by assumption) ?gryfalse11
            case gyyfalse11 => (intro w hSw; (try dsimp only at hSw); go_simp; try with_reducible rfl)
            try simp only [Act.put, List.setIfInBounds_toArray, List.set_cons_zero, List.set_cons_succ]
            refine wpAnyH_take (i := 12) (oi := { dst := some 25, op := Op.load 3 (Operand.tmp 24), type := 3, pos := "right.go:16", after := #[{ on := 11, ground := Ground.data }, { on := 8, ground := Ground.guard }], guard := some (8, true) }) (v := ?gvyfalse12) rfl (by kernel_rfl) (by kernel_rfl) (by kernel_rfl) (fun _ _ _ h => h) (Or.inl ⟨by rfl, ?gyyfalse12⟩) (by assumption) ?gryfalse12
            case gyyfalse12 => (intro w hSw; (try dsimp only at hSw); go_simp; try with_reducible rfl)
            try simp only [Act.put, List.setIfInBounds_toArray, List.set_cons_zero, List.set_cons_succ]
            refine wpAnyH_ready (rs := [13]) (by kernel_rfl) (by simp) ?_
            refine AllReadyH.cons (o := { dst := some 26, op := Op.call { callee := Callee.value (Operand.func 27), args := #[Operand.tmp 23, Operand.tmp 25], argTypes := #[23, 3] }, type := 4, pos := "right.go:16", after := #[{ on := 10, ground := Ground.data }, { on := 12, ground := Ground.data }, { on := 8, ground := Ground.chain }, { on := 8, ground := Ground.guard }], guard := some (8, true) }) rfl (fun K hK => ?_) AllReadyH.nil
            rw [if_pos (by kernel_rfl)]
            go_simp
            go_wp2_with (go_at_call 27; refine (UT.out _ (Below.then HB.out (by first | exact hbA | exact hbA.drew))).mono ?_; rintro e wS ⟨rfl, hbS⟩)
            have hbA : Below W.heap.size W wS := (by first | exact Below.then hbA hbS | exact Below.then hbA.drew hbS)
            obtain ⟨a0, a1, a2, a3⟩ := (HA.out.keep hbA).cells
            refine hK.out _ _ ?hSyfalse13 (fun hHeld13 => ?hRyfalse13)
            case hSyfalse13 => exact ⟨a0, a1, a2, a3⟩
            clear hK K
            try simp only [Act.put, List.setIfInBounds_toArray, List.set_cons_zero, List.set_cons_succ]
            refine wpAnyH_take (i := 14) (oi := { dst := some 27, op := Op.pick (Operand.tmp 21) (Operand.tmp 26) (Operand.const (Value.bool false)), type := 4, pos := "right.go:16", after := #[{ on := 8, ground := Ground.data }, { on := 13, ground := Ground.data }], guard := none }) (v := ?gvyfalse14) rfl (by kernel_rfl) (by kernel_rfl) (by kernel_rfl) (fun _ _ _ h => h) (Or.inl ⟨by rfl, ?gyyfalse14⟩) (by assumption) ?gryfalse14
            case gyyfalse14 => (intro w hSw; (try dsimp only at hSw); go_simp; try with_reducible rfl)
            try simp only [Act.put, List.setIfInBounds_toArray, List.set_cons_zero, List.set_cons_succ]
            refine wpAnyH_take (i := 15) (oi := { dst := some 28, op := Op.move (Operand.tmp 27), type := 4, pos := "right.go:16", after := #[{ on := 14, ground := Ground.data }, { on := 13, ground := Ground.chain }], guard := none }) (v := ?gvyfalse15) rfl (by kernel_rfl) (by kernel_rfl) (by kernel_rfl) (fun _ _ _ h => h) (Or.inl ⟨by rfl, ?gyyfalse15⟩) (by assumption) ?gryfalse15
            case gyyfalse15 => (intro w hSw; (try dsimp only at hSw); go_simp; try with_reducible rfl)
            try simp only [Act.put, List.setIfInBounds_toArray, List.set_cons_zero, List.set_cons_succ]
            refine wpAnyH_take (i := 16) (oi := { dst := some 29, op := Op.fieldAddr 25 (Operand.tmp 1) 0, type := 0, pos := "right.go:16", after := #[{ on := 15, ground := Ground.guard }], guard := some (15, true) }) (v := ?gvyfalse16) rfl (by kernel_rfl) (by kernel_rfl) (by kernel_rfl) (fun _ _ _ h => h) (Or.inl ⟨by rfl, ?gyyfalse16⟩) (by assumption) ?gryfalse16
            case gyyfalse16 => (intro w hSw; (try dsimp only at hSw); go_simp; try with_reducible rfl)
            try simp only [Act.put, List.setIfInBounds_toArray, List.set_cons_zero, List.set_cons_succ]
            refine wpAnyH_take (i := 17) (oi := { dst := some 30, op := Op.load 22 (Operand.tmp 29), type := 22, pos := "right.go:16", after := #[{ on := 16, ground := Ground.data }, { on := 15, ground := Ground.guard }], guard := some (15, true) }) (v := ?gvyfalse17) rfl (by kernel_rfl) (by kernel_rfl) (by kernel_rfl) (fun _ _ _ h => h) (Or.inl ⟨by rfl, ?gyyfalse17⟩) (by assumption) ?gryfalse17
            case gyyfalse17 => (intro w hSw; (try dsimp only at hSw); go_simp; try with_reducible rfl)
            try simp only [Act.put, List.setIfInBounds_toArray, List.set_cons_zero, List.set_cons_succ]
            refine wpAnyH_ready (rs := [18]) (by kernel_rfl) (by simp) ?_
            refine AllReadyH.cons (o := { dst := some 31, op := Op.call { callee := Callee.value (Operand.func 28), args := #[Operand.tmp 30], argTypes := #[22] }, type := 4, pos := "right.go:16", after := #[{ on := 17, ground := Ground.data }, { on := 15, ground := Ground.chain }, { on := 15, ground := Ground.guard }], guard := some (15, true) }) rfl (fun K hK => ?_) AllReadyH.nil
            rw [if_pos (by kernel_rfl)]
            go_simp
            go_wp2_with (go_at_call 28; refine (OT.out _ (Below.then HB.out (by first | exact hbA | exact hbA.drew))).mono ?_; rintro e wS ⟨rfl, hbS⟩)
            have hbA : Below W.heap.size W wS := (by first | exact Below.then hbA hbS | exact Below.then hbA.drew hbS)
            obtain ⟨a0, a1, a2, a3⟩ := (HA.out.keep hbA).cells
            refine hK.out _ _ ?hSyfalse18 (fun hHeld18 => ?hRyfalse18)
            case hSyfalse18 => exact ⟨a0, a1, a2, a3⟩
            clear hK K
            try simp only [Act.put, List.setIfInBounds_toArray, List.set_cons_zero, List.set_cons_succ]
            refine wpAnyH_take (i := 19) (oi := { dst := some 32, op := Op.pick (Operand.tmp 28) (Operand.tmp 31) (Operand.const (Value.bool false)), type := 4, pos := "right.go:16", after := #[{ on := 15, ground := Ground.data }, { on := 18, ground := Ground.data }], guard := none }) (v := ?gvyfalse19) rfl (by kernel_rfl) (by kernel_rfl) (by kernel_rfl) (fun _ _ _ h => h) (Or.inl ⟨by rfl, ?gyyfalse19⟩) (by assumption) ?gryfalse19
            case gyyfalse19 => (intro w hSw; (try dsimp only at hSw); go_simp; try with_reducible rfl)
            try simp only [Act.put, List.setIfInBounds_toArray, List.set_cons_zero, List.set_cons_succ]
            refine wpAnyH_take (i := 20) (oi := { dst := some 33, op := Op.move (Operand.tmp 32), type := 4, pos := "right.go:16", after := #[{ on := 19, ground := Ground.data }, { on := 18, ground := Ground.chain }], guard := none }) (v := ?gvyfalse20) rfl (by kernel_rfl) (by kernel_rfl) (by kernel_rfl) (fun _ _ _ h => h) (Or.inl ⟨by rfl, ?gyyfalse20⟩) (by assumption) ?gryfalse20
            case gyyfalse20 => (intro w hSw; (try dsimp only at hSw); go_simp; try with_reducible rfl)
            try simp only [Act.put, List.setIfInBounds_toArray, List.set_cons_zero, List.set_cons_succ]
            refine wpAnyH_take (i := 21) (oi := { dst := some 34, op := Op.fieldAddr 25 (Operand.tmp 1) 0, type := 0, pos := "right.go:16", after := #[{ on := 20, ground := Ground.guard }], guard := some (20, true) }) (v := ?gvyfalse21) rfl (by kernel_rfl) (by kernel_rfl) (by kernel_rfl) (fun _ _ _ h => h) (Or.inl ⟨by rfl, ?gyyfalse21⟩) (by assumption) ?gryfalse21
            case gyyfalse21 => (intro w hSw; (try dsimp only at hSw); go_simp; try with_reducible rfl)
            try simp only [Act.put, List.setIfInBounds_toArray, List.set_cons_zero, List.set_cons_succ]
            refine wpAnyH_take (i := 22) (oi := { dst := some 35, op := Op.load 22 (Operand.tmp 34), type := 22, pos := "right.go:16", after := #[{ on := 21, ground := Ground.data }, { on := 20, ground := Ground.guard }], guard := some (20, true) }) (v := ?gvyfalse22) rfl (by kernel_rfl) (by kernel_rfl) (by kernel_rfl) (fun _ _ _ h => h) (Or.inl ⟨by rfl, ?gyyfalse22⟩) (by assumption) ?gryfalse22
            case gyyfalse22 => (intro w hSw; (try dsimp only at hSw); go_simp; try with_reducible rfl)
            try simp only [Act.put, List.setIfInBounds_toArray, List.set_cons_zero, List.set_cons_succ]
            refine wpAnyH_take (i := 24) (oi := { dst := some 37, op := Op.fieldAddr 25 (Operand.tmp 1) 1, type := 0, pos := "right.go:16", after := #[{ on := 20, ground := Ground.guard }], guard := some (20, true) }) (v := ?gvyfalse24) rfl (by kernel_rfl) (by kernel_rfl) (by kernel_rfl) (fun _ _ _ h => h) (Or.inl ⟨by rfl, ?gyyfalse24⟩) (by assumption) ?gryfalse24
            case gyyfalse24 => (intro w hSw; (try dsimp only at hSw); go_simp; try with_reducible rfl)
            try simp only [Act.put, List.setIfInBounds_toArray, List.set_cons_zero, List.set_cons_succ]
            refine wpAnyH_take (i := 25) (oi := { dst := some 38, op := Op.load 3 (Operand.tmp 37), type := 3, pos := "right.go:16", after := #[{ on := 24, ground := Ground.data }, { on := 20, ground := Ground.guard }], guard := some (20, true) }) (v := ?gvyfalse25) rfl (by kernel_rfl) (by kernel_rfl) (by kernel_rfl) (fun _ _ _ h => h) (Or.inl ⟨by rfl, ?gyyfalse25⟩) (by assumption) ?gryfalse25
            case gyyfalse25 => (intro w hSw; (try dsimp only at hSw); go_simp; try with_reducible rfl)
            try simp only [Act.put, List.setIfInBounds_toArray, List.set_cons_zero, List.set_cons_succ]
            refine wpAnyH_ready (rs := [23]) (by kernel_rfl) (by simp) ?_
            refine AllReadyH.cons (o := { dst := some 36, op := Op.call { callee := Callee.value (Operand.func 29), args := #[Operand.tmp 35], argTypes := #[22] }, type := 3, pos := "right.go:16", after := #[{ on := 22, ground := Ground.data }, { on := 20, ground := Ground.chain }, { on := 20, ground := Ground.guard }], guard := some (20, true) }) rfl (fun K hK => ?_) AllReadyH.nil
            rw [if_pos (by kernel_rfl)]
            go_simp
            go_wp2_with (go_at_call 29; refine (ST.out _ (Below.then HB.out (by first | exact hbA | exact hbA.drew)) (HF2.out (by trivial))).mono ?_; rintro e wS ⟨rfl, hbS⟩)
            have hbA : Below W.heap.size W wS := (by first | exact Below.then hbA hbS | exact Below.then hbA.drew hbS)
            obtain ⟨a0, a1, a2, a3⟩ := (HA.out.keep hbA).cells
            refine hK.out _ _ ?hSyfalse23 (fun hHeld23 => ?hRyfalse23)
            case hSyfalse23 => exact ⟨a0, a1, a2, a3⟩
            clear hK K
            try simp only [Act.put, List.setIfInBounds_toArray, List.set_cons_zero, List.set_cons_succ]
            refine wpAnyH_take (i := 26) (oi := { dst := some 39, op := Op.binOp BinOp.leq 3 (Operand.tmp 36) (Operand.tmp 38) 3, type := 4, pos := "right.go:16", after := #[{ on := 23, ground := Ground.data }, { on := 25, ground := Ground.data }, { on := 20, ground := Ground.guard }], guard := some (20, true) }) (v := ?gvyfalse26) rfl (by kernel_rfl) (by kernel_rfl) (by kernel_rfl) (fun _ _ _ h => h) (Or.inl ⟨by rfl, ?gyyfalse26⟩) (by assumption) ?gryfalse26
            case gyyfalse26 => (intro w hSw; (try dsimp only at hSw); go_simp; try with_reducible rfl)
            try simp only [Act.put, List.setIfInBounds_toArray, List.set_cons_zero, List.set_cons_succ]
            refine wpAnyH_take (i := 27) (oi := { dst := some 40, op := Op.pick (Operand.tmp 33) (Operand.tmp 39) (Operand.const (Value.bool false)), type := 4, pos := "right.go:16", after := #[{ on := 20, ground := Ground.data }, { on := 26, ground := Ground.data }], guard := none }) (v := ?gvyfalse27) rfl (by kernel_rfl) (by kernel_rfl) (by kernel_rfl) (fun _ _ _ h => h) (Or.inl ⟨by rfl, ?gyyfalse27⟩) (by assumption) ?gryfalse27
            case gyyfalse27 => (intro w hSw; (try dsimp only at hSw); go_simp; try with_reducible rfl)
            try simp only [Act.put, List.setIfInBounds_toArray, List.set_cons_zero, List.set_cons_succ]
            refine wpAnyH_take (i := 28) (oi := { dst := some 2, op := Op.assign (Operand.tmp 40), type := 4, pos := "right.go:16", after := #[{ on := 27, ground := Ground.data }, { on := 23, ground := Ground.chain }, { on := 0, ground := Ground.phase }, { on := 1, ground := Ground.phase }, { on := 2, ground := Ground.phase }, { on := 3, ground := Ground.phase }, { on := 4, ground := Ground.phase }, { on := 5, ground := Ground.phase }, { on := 6, ground := Ground.phase }, { on := 7, ground := Ground.phase }, { on := 8, ground := Ground.phase }, { on := 9, ground := Ground.phase }, { on := 10, ground := Ground.phase }, { on := 11, ground := Ground.phase }, { on := 12, ground := Ground.phase }, { on := 13, ground := Ground.phase }, { on := 14, ground := Ground.phase }, { on := 15, ground := Ground.phase }, { on := 16, ground := Ground.phase }, { on := 17, ground := Ground.phase }, { on := 18, ground := Ground.phase }, { on := 19, ground := Ground.phase }, { on := 20, ground := Ground.phase }, { on := 21, ground := Ground.phase }, { on := 22, ground := Ground.phase }, { on := 23, ground := Ground.phase }, { on := 24, ground := Ground.phase }, { on := 25, ground := Ground.phase }, { on := 26, ground := Ground.phase }, { on := 27, ground := Ground.phase }], guard := none }) (v := ?gvyfalse28) rfl (by kernel_rfl) (by kernel_rfl) (by kernel_rfl) (fun _ _ _ h => h) (Or.inl ⟨by rfl, ?gyyfalse28⟩) (by assumption) ?gryfalse28
            case gyyfalse28 => (intro w hSw; (try dsimp only at hSw); go_simp; try with_reducible rfl)
            try simp only [Act.put, List.setIfInBounds_toArray, List.set_cons_zero, List.set_cons_succ]
            refine wpAnyH_done (by kernel_rfl) ?_ _
            go_wp2_with fail
            go_ret
            exact ⟨by rw [HO.out]; rfl, by first | exact Below.then HB.out hbA | exact Below.then HB.out hbA.drew⟩
          | true =>
            have HO := Lib.hid (show rightBlb b = true by rw [HE2.out]; rfl)
            refine wp_region_held_drew (S := fun w' => w'.cell? ⟨w.heap.size, 0, none⟩ = some (.slice a n c) ∧ w'.cell? ⟨w.heap.size, 1, none⟩ = some (.int .i64 q) ∧ w'.cell? ⟨w.heap.size, 2, none⟩ = some (.slice a' m c') ∧ w'.cell? ⟨w.heap.size, 3, none⟩ = some (.int .i64 l)) (by kernel_rfl) ?hSytrue (fun hHeld => ?hRytrue)
            case hSytrue => exact ⟨a0, a1, a2, a3⟩
            refine wpAnyH_take (i := 0) (oi := { dst := some 13, op := Op.fieldAddr 25 (Operand.tmp 1) 1, type := 0, pos := "right.go:16", after := #[], guard := none }) (v := ?gvytrue0) rfl (by kernel_rfl) (by kernel_rfl) (by kernel_rfl) (fun _ _ _ h => h) (Or.inl ⟨by rfl, ?gyytrue0⟩) (by assumption) ?grytrue0
            case gyytrue0 => (intro w hSw; (try dsimp only at hSw); go_simp; try with_reducible rfl)
            try simp only [Act.put, List.setIfInBounds_toArray, List.set_cons_zero, List.set_cons_succ]
            refine wpAnyH_take (i := 1) (oi := { dst := some 14, op := Op.load 3 (Operand.tmp 13), type := 3, pos := "right.go:16", after := #[{ on := 0, ground := Ground.data }], guard := none }) (v := ?gvytrue1) rfl (by kernel_rfl) (by kernel_rfl) (by kernel_rfl) (fun _ _ _ h => h) (Or.inl ⟨by rfl, ?gyytrue1⟩) (by assumption) ?grytrue1
            case gyytrue1 => (intro w hSw; (try dsimp only at hSw); go_simp; try with_reducible rfl)
            try simp only [Act.put, List.setIfInBounds_toArray, List.set_cons_zero, List.set_cons_succ]
            refine wpAnyH_ready (rs := [2]) (by kernel_rfl) (by simp) ?_
            refine AllReadyH.cons (o := { dst := some 15, op := Op.call { callee := Callee.value (Operand.func 23), args := #[Operand.tmp 14], argTypes := #[3] }, type := 4, pos := "right.go:16", after := #[{ on := 1, ground := Ground.data }], guard := none }) rfl (fun K hK => ?_) AllReadyH.nil
            rw [if_pos (by kernel_rfl)]
            go_simp
            go_wp2_with (go_at_call 23; refine (Q1.out _).mono ?_; rintro e wS ⟨rfl, hwS⟩; subst hwS)
            refine hK.out _ _ ?hSytrue2 (fun hHeld2 => ?hRytrue2)
            case hSytrue2 => exact ⟨a0, a1, a2, a3⟩
            clear hK K
            try simp only [Act.put, List.setIfInBounds_toArray, List.set_cons_zero, List.set_cons_succ]
            refine wpAnyH_take (i := 3) (oi := { dst := some 16, op := Op.move (Operand.tmp 15), type := 4, pos := "right.go:16", after := #[{ on := 2, ground := Ground.data }, { on := 2, ground := Ground.chain }], guard := none }) (v := ?gvytrue3) rfl (by kernel_rfl) (by kernel_rfl) (by kernel_rfl) (fun _ _ _ h => h) (Or.inl ⟨by rfl, ?gyytrue3⟩) (by assumption) ?grytrue3
            case gyytrue3 => (intro w hSw; (try dsimp only at hSw); go_simp; try with_reducible rfl)
            try simp only [Act.put, List.setIfInBounds_toArray, List.set_cons_zero, List.set_cons_succ]
            refine wpAnyH_take (i := 4) (oi := { dst := some 17, op := Op.fieldAddr 25 (Operand.tmp 1) 3, type := 0, pos := "right.go:16", after := #[{ on := 3, ground := Ground.guard }], guard := some (3, true) }) (v := ?gvytrue4) rfl (by kernel_rfl) (by kernel_rfl) (by kernel_rfl) (fun _ _ _ h => h) (Or.inl ⟨by rfl, ?gyytrue4⟩) (by assumption) ?grytrue4
            case gyytrue4 => (intro w hSw; (try dsimp only at hSw); go_simp; try with_reducible rfl)
            try simp only [Act.put, List.setIfInBounds_toArray, List.set_cons_zero, List.set_cons_succ]
            refine wpAnyH_take (i := 5) (oi := { dst := some 18, op := Op.load 3 (Operand.tmp 17), type := 3, pos := "right.go:16", after := #[{ on := 4, ground := Ground.data }, { on := 3, ground := Ground.guard }], guard := some (3, true) }) (v := ?gvytrue5) rfl (by kernel_rfl) (by kernel_rfl) (by kernel_rfl) (fun _ _ _ h => h) (Or.inl ⟨by rfl, ?gyytrue5⟩) (by assumption) ?grytrue5
            case gyytrue5 => (intro w hSw; (try dsimp only at hSw); go_simp; try with_reducible rfl)
            try simp only [Act.put, List.setIfInBounds_toArray, List.set_cons_zero, List.set_cons_succ]
            refine wpAnyH_ready (rs := [6]) (by kernel_rfl) (by simp) ?_
            refine AllReadyH.cons (o := { dst := some 19, op := Op.call { callee := Callee.value (Operand.func 26), args := #[Operand.tmp 18], argTypes := #[3] }, type := 4, pos := "right.go:16", after := #[{ on := 5, ground := Ground.data }, { on := 3, ground := Ground.chain }, { on := 3, ground := Ground.guard }], guard := some (3, true) }) rfl (fun K hK => ?_) AllReadyH.nil
            rw [if_pos (by kernel_rfl)]
            go_simp
            go_wp2_with (go_at_call 26; refine (L1.out _).mono ?_; rintro e wS ⟨rfl, hwS⟩; subst hwS)
            refine hK.out _ _ ?hSytrue6 (fun hHeld6 => ?hRytrue6)
            case hSytrue6 => exact ⟨a0, a1, a2, a3⟩
            clear hK K
            try simp only [Act.put, List.setIfInBounds_toArray, List.set_cons_zero, List.set_cons_succ]
            refine wpAnyH_take (i := 7) (oi := { dst := some 20, op := Op.pick (Operand.tmp 16) (Operand.tmp 19) (Operand.const (Value.bool false)), type := 4, pos := "right.go:16", after := #[{ on := 3, ground := Ground.data }, { on := 6, ground := Ground.data }], guard := none }) (v := ?gvytrue7) rfl (by kernel_rfl) (by kernel_rfl) (by kernel_rfl) (fun _ _ _ h => h) (Or.inl ⟨by rfl, ?gyytrue7⟩) (by assumption) ?grytrue7
            case gyytrue7 => (intro w hSw; (try dsimp only at hSw); go_simp; try with_reducible rfl)
            try simp only [Act.put, List.setIfInBounds_toArray, List.set_cons_zero, List.set_cons_succ]
            refine wpAnyH_take (i := 8) (oi := { dst := some 21, op := Op.move (Operand.tmp 20), type := 4, pos := "right.go:16", after := #[{ on := 7, ground := Ground.data }, { on := 6, ground := Ground.chain }], guard := none }) (v := ?gvytrue8) rfl (by kernel_rfl) (by kernel_rfl) (by kernel_rfl) (fun _ _ _ h => h) (Or.inl ⟨by rfl, ?gyytrue8⟩) (by assumption) ?grytrue8
            case gyytrue8 => (intro w hSw; (try dsimp only at hSw); go_simp; try with_reducible rfl)
            try simp only [Act.put, List.setIfInBounds_toArray, List.set_cons_zero, List.set_cons_succ]
            refine wpAnyH_take (i := 9) (oi := { dst := some 22, op := Op.fieldAddr 25 (Operand.tmp 1) 2, type := 0, pos := "right.go:16", after := #[{ on := 8, ground := Ground.guard }], guard := some (8, true) }) (v := ?gvytrue9) rfl (by kernel_rfl) (by kernel_rfl) (by kernel_rfl) (fun _ _ _ h => h) (Or.inl ⟨by rfl, ?gyytrue9⟩) (by assumption) ?grytrue9
            case gyytrue9 => (intro w hSw; (try dsimp only at hSw); go_simp; try with_reducible rfl)
            try simp only [Act.put, List.setIfInBounds_toArray, List.set_cons_zero, List.set_cons_succ]
            refine wpAnyH_take (i := 10) (oi := { dst := some 23, op := Op.load 23 (Operand.tmp 22), type := 23, pos := "right.go:16", after := #[{ on := 9, ground := Ground.data }, { on := 8, ground := Ground.guard }], guard := some (8, true) }) (v := ?gvytrue10) rfl (by kernel_rfl) (by kernel_rfl) (by kernel_rfl) (fun _ _ _ h => h) (Or.inl ⟨by rfl, ?gyytrue10⟩) (by assumption) ?grytrue10
            case gyytrue10 => (intro w hSw; (try dsimp only at hSw); go_simp; try with_reducible rfl)
            try simp only [Act.put, List.setIfInBounds_toArray, List.set_cons_zero, List.set_cons_succ]
            refine wpAnyH_take (i := 11) (oi := { dst := some 24, op := Op.fieldAddr 25 (Operand.tmp 1) 3, type := 0, pos := "right.go:16", after := #[{ on := 8, ground := Ground.guard }], guard := some (8, true) }) (v := ?gvytrue11) rfl (by kernel_rfl) (by kernel_rfl) (by kernel_rfl) (fun _ _ _ h => h) (Or.inl ⟨by rfl, ?gyytrue11⟩) (by assumption) ?grytrue11
            case gyytrue11 => (intro w hSw; (try dsimp only at hSw); go_simp; try with_reducible rfl)
            try simp only [Act.put, List.setIfInBounds_toArray, List.set_cons_zero, List.set_cons_succ]
            refine wpAnyH_take (i := 12) (oi := { dst := some 25, op := Op.load 3 (Operand.tmp 24), type := 3, pos := "right.go:16", after := #[{ on := 11, ground := Ground.data }, { on := 8, ground := Ground.guard }], guard := some (8, true) }) (v := ?gvytrue12) rfl (by kernel_rfl) (by kernel_rfl) (by kernel_rfl) (fun _ _ _ h => h) (Or.inl ⟨by rfl, ?gyytrue12⟩) (by assumption) ?grytrue12
            case gyytrue12 => (intro w hSw; (try dsimp only at hSw); go_simp; try with_reducible rfl)
            try simp only [Act.put, List.setIfInBounds_toArray, List.set_cons_zero, List.set_cons_succ]
            refine wpAnyH_ready (rs := [13]) (by kernel_rfl) (by simp) ?_
            refine AllReadyH.cons (o := { dst := some 26, op := Op.call { callee := Callee.value (Operand.func 27), args := #[Operand.tmp 23, Operand.tmp 25], argTypes := #[23, 3] }, type := 4, pos := "right.go:16", after := #[{ on := 10, ground := Ground.data }, { on := 12, ground := Ground.data }, { on := 8, ground := Ground.chain }, { on := 8, ground := Ground.guard }], guard := some (8, true) }) rfl (fun K hK => ?_) AllReadyH.nil
            rw [if_pos (by kernel_rfl)]
            go_simp
            go_wp2_with (go_at_call 27; refine (UT.out _ (Below.then HB.out (by first | exact hbA | exact hbA.drew))).mono ?_; rintro e wS ⟨rfl, hbS⟩)
            have hbA : Below W.heap.size W wS := (by first | exact Below.then hbA hbS | exact Below.then hbA.drew hbS)
            obtain ⟨a0, a1, a2, a3⟩ := (HA.out.keep hbA).cells
            refine hK.out _ _ ?hSytrue13 (fun hHeld13 => ?hRytrue13)
            case hSytrue13 => exact ⟨a0, a1, a2, a3⟩
            clear hK K
            try simp only [Act.put, List.setIfInBounds_toArray, List.set_cons_zero, List.set_cons_succ]
            refine wpAnyH_take (i := 14) (oi := { dst := some 27, op := Op.pick (Operand.tmp 21) (Operand.tmp 26) (Operand.const (Value.bool false)), type := 4, pos := "right.go:16", after := #[{ on := 8, ground := Ground.data }, { on := 13, ground := Ground.data }], guard := none }) (v := ?gvytrue14) rfl (by kernel_rfl) (by kernel_rfl) (by kernel_rfl) (fun _ _ _ h => h) (Or.inl ⟨by rfl, ?gyytrue14⟩) (by assumption) ?grytrue14
            case gyytrue14 => (intro w hSw; (try dsimp only at hSw); go_simp; try with_reducible rfl)
            try simp only [Act.put, List.setIfInBounds_toArray, List.set_cons_zero, List.set_cons_succ]
            refine wpAnyH_take (i := 15) (oi := { dst := some 28, op := Op.move (Operand.tmp 27), type := 4, pos := "right.go:16", after := #[{ on := 14, ground := Ground.data }, { on := 13, ground := Ground.chain }], guard := none }) (v := ?gvytrue15) rfl (by kernel_rfl) (by kernel_rfl) (by kernel_rfl) (fun _ _ _ h => h) (Or.inl ⟨by rfl, ?gyytrue15⟩) (by assumption) ?grytrue15
            case gyytrue15 => (intro w hSw; (try dsimp only at hSw); go_simp; try with_reducible rfl)
            try simp only [Act.put, List.setIfInBounds_toArray, List.set_cons_zero, List.set_cons_succ]
            refine wpAnyH_take (i := 16) (oi := { dst := some 29, op := Op.fieldAddr 25 (Operand.tmp 1) 0, type := 0, pos := "right.go:16", after := #[{ on := 15, ground := Ground.guard }], guard := some (15, true) }) (v := ?gvytrue16) rfl (by kernel_rfl) (by kernel_rfl) (by kernel_rfl) (fun _ _ _ h => h) (Or.inl ⟨by rfl, ?gyytrue16⟩) (by assumption) ?grytrue16
            case gyytrue16 => (intro w hSw; (try dsimp only at hSw); go_simp; try with_reducible rfl)
            try simp only [Act.put, List.setIfInBounds_toArray, List.set_cons_zero, List.set_cons_succ]
            refine wpAnyH_take (i := 17) (oi := { dst := some 30, op := Op.load 22 (Operand.tmp 29), type := 22, pos := "right.go:16", after := #[{ on := 16, ground := Ground.data }, { on := 15, ground := Ground.guard }], guard := some (15, true) }) (v := ?gvytrue17) rfl (by kernel_rfl) (by kernel_rfl) (by kernel_rfl) (fun _ _ _ h => h) (Or.inl ⟨by rfl, ?gyytrue17⟩) (by assumption) ?grytrue17
            case gyytrue17 => (intro w hSw; (try dsimp only at hSw); go_simp; try with_reducible rfl)
            try simp only [Act.put, List.setIfInBounds_toArray, List.set_cons_zero, List.set_cons_succ]
            refine wpAnyH_ready (rs := [18]) (by kernel_rfl) (by simp) ?_
            refine AllReadyH.cons (o := { dst := some 31, op := Op.call { callee := Callee.value (Operand.func 28), args := #[Operand.tmp 30], argTypes := #[22] }, type := 4, pos := "right.go:16", after := #[{ on := 17, ground := Ground.data }, { on := 15, ground := Ground.chain }, { on := 15, ground := Ground.guard }], guard := some (15, true) }) rfl (fun K hK => ?_) AllReadyH.nil
            rw [if_pos (by kernel_rfl)]
            go_simp
            go_wp2_with (go_at_call 28; refine (OT.out _ (Below.then HB.out (by first | exact hbA | exact hbA.drew))).mono ?_; rintro e wS ⟨rfl, hbS⟩)
            have hbA : Below W.heap.size W wS := (by first | exact Below.then hbA hbS | exact Below.then hbA.drew hbS)
            obtain ⟨a0, a1, a2, a3⟩ := (HA.out.keep hbA).cells
            refine hK.out _ _ ?hSytrue18 (fun hHeld18 => ?hRytrue18)
            case hSytrue18 => exact ⟨a0, a1, a2, a3⟩
            clear hK K
            try simp only [Act.put, List.setIfInBounds_toArray, List.set_cons_zero, List.set_cons_succ]
            refine wpAnyH_take (i := 19) (oi := { dst := some 32, op := Op.pick (Operand.tmp 28) (Operand.tmp 31) (Operand.const (Value.bool false)), type := 4, pos := "right.go:16", after := #[{ on := 15, ground := Ground.data }, { on := 18, ground := Ground.data }], guard := none }) (v := ?gvytrue19) rfl (by kernel_rfl) (by kernel_rfl) (by kernel_rfl) (fun _ _ _ h => h) (Or.inl ⟨by rfl, ?gyytrue19⟩) (by assumption) ?grytrue19
            case gyytrue19 => (intro w hSw; (try dsimp only at hSw); go_simp; try with_reducible rfl)
            try simp only [Act.put, List.setIfInBounds_toArray, List.set_cons_zero, List.set_cons_succ]
            refine wpAnyH_take (i := 20) (oi := { dst := some 33, op := Op.move (Operand.tmp 32), type := 4, pos := "right.go:16", after := #[{ on := 19, ground := Ground.data }, { on := 18, ground := Ground.chain }], guard := none }) (v := ?gvytrue20) rfl (by kernel_rfl) (by kernel_rfl) (by kernel_rfl) (fun _ _ _ h => h) (Or.inl ⟨by rfl, ?gyytrue20⟩) (by assumption) ?grytrue20
            case gyytrue20 => (intro w hSw; (try dsimp only at hSw); go_simp; try with_reducible rfl)
            try simp only [Act.put, List.setIfInBounds_toArray, List.set_cons_zero, List.set_cons_succ]
            refine wpAnyH_take (i := 21) (oi := { dst := some 34, op := Op.fieldAddr 25 (Operand.tmp 1) 0, type := 0, pos := "right.go:16", after := #[{ on := 20, ground := Ground.guard }], guard := some (20, true) }) (v := ?gvytrue21) rfl (by kernel_rfl) (by kernel_rfl) (by kernel_rfl) (fun _ _ _ h => h) (Or.inl ⟨by rfl, ?gyytrue21⟩) (by assumption) ?grytrue21
            case gyytrue21 => (intro w hSw; (try dsimp only at hSw); go_simp; try with_reducible rfl)
            try simp only [Act.put, List.setIfInBounds_toArray, List.set_cons_zero, List.set_cons_succ]
            refine wpAnyH_take (i := 22) (oi := { dst := some 35, op := Op.load 22 (Operand.tmp 34), type := 22, pos := "right.go:16", after := #[{ on := 21, ground := Ground.data }, { on := 20, ground := Ground.guard }], guard := some (20, true) }) (v := ?gvytrue22) rfl (by kernel_rfl) (by kernel_rfl) (by kernel_rfl) (fun _ _ _ h => h) (Or.inl ⟨by rfl, ?gyytrue22⟩) (by assumption) ?grytrue22
            case gyytrue22 => (intro w hSw; (try dsimp only at hSw); go_simp; try with_reducible rfl)
            try simp only [Act.put, List.setIfInBounds_toArray, List.set_cons_zero, List.set_cons_succ]
            refine wpAnyH_take (i := 24) (oi := { dst := some 37, op := Op.fieldAddr 25 (Operand.tmp 1) 1, type := 0, pos := "right.go:16", after := #[{ on := 20, ground := Ground.guard }], guard := some (20, true) }) (v := ?gvytrue24) rfl (by kernel_rfl) (by kernel_rfl) (by kernel_rfl) (fun _ _ _ h => h) (Or.inl ⟨by rfl, ?gyytrue24⟩) (by assumption) ?grytrue24
            case gyytrue24 => (intro w hSw; (try dsimp only at hSw); go_simp; try with_reducible rfl)
            try simp only [Act.put, List.setIfInBounds_toArray, List.set_cons_zero, List.set_cons_succ]
            refine wpAnyH_take (i := 25) (oi := { dst := some 38, op := Op.load 3 (Operand.tmp 37), type := 3, pos := "right.go:16", after := #[{ on := 24, ground := Ground.data }, { on := 20, ground := Ground.guard }], guard := some (20, true) }) (v := ?gvytrue25) rfl (by kernel_rfl) (by kernel_rfl) (by kernel_rfl) (fun _ _ _ h => h) (Or.inl ⟨by rfl, ?gyytrue25⟩) (by assumption) ?grytrue25
            case gyytrue25 => (intro w hSw; (try dsimp only at hSw); go_simp; try with_reducible rfl)
            try simp only [Act.put, List.setIfInBounds_toArray, List.set_cons_zero, List.set_cons_succ]
            refine wpAnyH_ready (rs := [23]) (by kernel_rfl) (by simp) ?_
            refine AllReadyH.cons (o := { dst := some 36, op := Op.call { callee := Callee.value (Operand.func 29), args := #[Operand.tmp 35], argTypes := #[22] }, type := 3, pos := "right.go:16", after := #[{ on := 22, ground := Ground.data }, { on := 20, ground := Ground.chain }, { on := 20, ground := Ground.guard }], guard := some (20, true) }) rfl (fun K hK => ?_) AllReadyH.nil
            rw [if_pos (by kernel_rfl)]
            go_simp
            go_wp2_with (go_at_call 29; refine (ST.out _ (Below.then HB.out (by first | exact hbA | exact hbA.drew)) (HF2.out (by trivial))).mono ?_; rintro e wS ⟨rfl, hbS⟩)
            have hbA : Below W.heap.size W wS := (by first | exact Below.then hbA hbS | exact Below.then hbA.drew hbS)
            obtain ⟨a0, a1, a2, a3⟩ := (HA.out.keep hbA).cells
            refine hK.out _ _ ?hSytrue23 (fun hHeld23 => ?hRytrue23)
            case hSytrue23 => exact ⟨a0, a1, a2, a3⟩
            clear hK K
            try simp only [Act.put, List.setIfInBounds_toArray, List.set_cons_zero, List.set_cons_succ]
            refine wpAnyH_take (i := 26) (oi := { dst := some 39, op := Op.binOp BinOp.leq 3 (Operand.tmp 36) (Operand.tmp 38) 3, type := 4, pos := "right.go:16", after := #[{ on := 23, ground := Ground.data }, { on := 25, ground := Ground.data }, { on := 20, ground := Ground.guard }], guard := some (20, true) }) (v := ?gvytrue26) rfl (by kernel_rfl) (by kernel_rfl) (by kernel_rfl) (fun _ _ _ h => h) (Or.inl ⟨by rfl, ?gyytrue26⟩) (by assumption) ?grytrue26
            case gyytrue26 => (intro w hSw; (try dsimp only at hSw); go_simp; try with_reducible rfl)
            try simp only [Act.put, List.setIfInBounds_toArray, List.set_cons_zero, List.set_cons_succ]
            refine wpAnyH_take (i := 27) (oi := { dst := some 40, op := Op.pick (Operand.tmp 33) (Operand.tmp 39) (Operand.const (Value.bool false)), type := 4, pos := "right.go:16", after := #[{ on := 20, ground := Ground.data }, { on := 26, ground := Ground.data }], guard := none }) (v := ?gvytrue27) rfl (by kernel_rfl) (by kernel_rfl) (by kernel_rfl) (fun _ _ _ h => h) (Or.inl ⟨by rfl, ?gyytrue27⟩) (by assumption) ?grytrue27
            case gyytrue27 => (intro w hSw; (try dsimp only at hSw); go_simp; try with_reducible rfl)
            try simp only [Act.put, List.setIfInBounds_toArray, List.set_cons_zero, List.set_cons_succ]
            refine wpAnyH_take (i := 28) (oi := { dst := some 2, op := Op.assign (Operand.tmp 40), type := 4, pos := "right.go:16", after := #[{ on := 27, ground := Ground.data }, { on := 23, ground := Ground.chain }, { on := 0, ground := Ground.phase }, { on := 1, ground := Ground.phase }, { on := 2, ground := Ground.phase }, { on := 3, ground := Ground.phase }, { on := 4, ground := Ground.phase }, { on := 5, ground := Ground.phase }, { on := 6, ground := Ground.phase }, { on := 7, ground := Ground.phase }, { on := 8, ground := Ground.phase }, { on := 9, ground := Ground.phase }, { on := 10, ground := Ground.phase }, { on := 11, ground := Ground.phase }, { on := 12, ground := Ground.phase }, { on := 13, ground := Ground.phase }, { on := 14, ground := Ground.phase }, { on := 15, ground := Ground.phase }, { on := 16, ground := Ground.phase }, { on := 17, ground := Ground.phase }, { on := 18, ground := Ground.phase }, { on := 19, ground := Ground.phase }, { on := 20, ground := Ground.phase }, { on := 21, ground := Ground.phase }, { on := 22, ground := Ground.phase }, { on := 23, ground := Ground.phase }, { on := 24, ground := Ground.phase }, { on := 25, ground := Ground.phase }, { on := 26, ground := Ground.phase }, { on := 27, ground := Ground.phase }], guard := none }) (v := ?gvytrue28) rfl (by kernel_rfl) (by kernel_rfl) (by kernel_rfl) (fun _ _ _ h => h) (Or.inl ⟨by rfl, ?gyytrue28⟩) (by assumption) ?grytrue28
            case gyytrue28 => (intro w hSw; (try dsimp only at hSw); go_simp; try with_reducible rfl)
            try simp only [Act.put, List.setIfInBounds_toArray, List.set_cons_zero, List.set_cons_succ]
            refine wpAnyH_done (by kernel_rfl) ?_ _
            go_wp2_with fail
            go_ret
            exact ⟨by rw [HO.out]; rfl, by first | exact Below.then HB.out hbA | exact Below.then HB.out hbA.drew⟩
end Go.Proofs.YtodjhmphneoifaaGreatDoor
/-! The program's uploadPlace, dataOf, Offset, Size and New of blobs, by contracts. Conditions: the digest's tables and octet's errors lie where they were laid. -/
namespace Go.Proofs.YtodjhmphneoifaaGreatDoor
open Go.RowKit Go.WideShapes

set_option maxRecDepth 100000 in
set_option maxHeartbeats 2000000 in
theorem uploadPlace_t (v : Value) (b : Blb) (id : Int) (w : World) (aD aS aZ : Addr) (h : BlbAt w v b) (he : DEnv w aD aS aZ) :
    Calls Tryz.prog 25 #[v, .int .i64 id] w fun e w' => e = .returned (.tuple #[.int .i64 (placeB b id).1, .int .i64 (placeB b id).2]) ∧ Below w.heap.size w w' := by
  have R := Lib.hid (fun w' (hb : Below w.heap.size w w') => BRight_t v b w' aD aS aZ (h.keep hb) (he.keep hb))
  have hp := h
  obtain ⟨a, n, c, q, a', m, c', l, rfl⟩ := h.four
  have hpu := hp.parts.2.1
  have F := Lib.hid (fun g w' (hb : Below w.heap.size w w') hc => upFirst_t (.slice a' m c') b.ups id g w' (hpu.keep hb) hc)
  have HE := Lib.hid (show placeB b id = if rightBlb b then upFirst b.ups id else (0, 1) from rfl)
  obtain ⟨r, hr⟩ : ∃ r, rightBlb b = r := ⟨_, rfl⟩
  obtain ⟨⟨k, x⟩, hk⟩ : ∃ k, upFirst b.ups id = k := ⟨_, rfl⟩
  rw [hr] at R HE
  rw [hk] at F HE
  obtain ⟨W, hW⟩ : ∃ W, (w.alloc (.cells #[.slice a n c, .int .i64 q, .slice a' m c', .int .i64 l] 25)).alloc (.cells #[.int .i64 id] 3) = W := ⟨_, rfl⟩
  have HB := Lib.hid (show Below w.heap.size w W by rw [← hW]; exact Below.then (below_new _ _) (below_new _ _))
  have HA := Lib.hid (show At4 25 W w.heap.size (.slice a n c) (.int .i64 q) (.slice a' m c') (.int .i64 l) by rw [← hW]; exact (At4.new _ _ _ _ _ _).keep (below_new _ _))
  have HI := Lib.hid (show W.cell? ⟨w.heap.size + 1, 0, none⟩ = some (.int .i64 id) by
    rw [← hW, World.cell?_alloc_at _ _ _ _ (by rw [World.size_alloc])]; rfl)
  have HW := Lib.hid hW
  have R1 := Lib.hid (R.out W HB.out)
  clear hW h hp hpu he hr hk R
  go_enter Tryz.func25, Tryz.ntmps25
  go_upto_region 1 with fail
  rw [HW.out]
  obtain ⟨a0, a1, a2, a3⟩ := HA.out.cells
  go_wp2_with fail
  refine R1.out.mono ?_
  rintro e w1 ⟨rfl, hb1⟩
  have HB1 := Lib.hid (Below.then HB.out hb1)
  have HA1 := Lib.hid (HA.out.keep hb1)
  have HI1 := Lib.hid (Below.keepc hb1 HI.out)
  clear hb1 a0 a1 a2 a3 R1
  cases r with
  | false =>
    have HO := Lib.hid (show placeB b id = (0, 1) by rw [HE.out]; rfl)
    go_wp2_with fail
    go_ret2
    exact ⟨by rw [HO.out]; rfl, HB1.out⟩
  | true =>
    have HO := Lib.hid (show placeB b id = (k, x) by rw [HE.out]; rfl)
    have F1 := Lib.hid (F.out _ w1 HB1.out HI1.out)
    obtain ⟨a0, a1, a2, a3⟩ := HA1.out.cells
    clear F
    go_wp2_with fail
    refine F1.out.mono ?_
    rintro e w2 ⟨rfl, hb2⟩
    have HB2 := Lib.hid (Below.then HB1.out hb2)
    clear hb2 a0 a1 a2 a3
    go_wp2_with fail
    go_ret2
    exact ⟨by rw [HO.out]; rfl, HB2.out⟩

set_option maxRecDepth 100000 in
set_option maxHeartbeats 2000000 in
theorem dataOf_t (v : Value) (b : Blb) (d : ByteArray) (w : World) (aD aS aZ : Addr) (h : BlbAt w v b) (he : DEnv w aD aS aZ) :
    Calls Tryz.prog 24 #[v, .string d] w fun e w' => e = .returned (.tuple #[.string (dataB b d).1, .int .i64 (dataB b d).2]) ∧ Below w.heap.size w w' := by
  have R := Lib.hid (fun w' (hb : Below w.heap.size w w') => BRight_t v b w' aD aS aZ (h.keep hb) (he.keep hb))
  have hp := h
  obtain ⟨a, c, a', c', rfl, hl1, hl2⟩ := h.shape
  have hpo := hp.parts.1
  have F := Lib.hid (fun w' (hb : Below w.heap.size w w') => objPlace_t _ b.objs d w' (hpo.keep hb))
  have HE := Lib.hid (show dataB b d = if rightBlb b then (if atL b.objs d < 0 then (⟨#[]⟩, 9) else ((b.objs.getD (atL b.objs d).toNat (⟨#[]⟩, ⟨#[]⟩)).2, 0)) else (⟨#[]⟩, 1) from rfl)
  have HF := Lib.hid (show objFirst b.objs d = if atL b.objs d < 0 then (0, 9) else (atL b.objs d, 0) from rfl)
  have HPL := Lib.hid (fun hn => findL_place (p := fun o : ByteArray × ByteArray => decide (o.1 = d)) (l := b.objs) hn)
  have HAT := Lib.hid (show findL (fun o : ByteArray × ByteArray => decide (o.1 = d)) b.objs = atL b.objs d from rfl)
  rw [HAT.out] at HPL
  obtain ⟨r, hr⟩ : ∃ r, rightBlb b = r := ⟨_, rfl⟩
  obtain ⟨n, hn⟩ : ∃ x, b.objs.length = x := ⟨_, rfl⟩
  obtain ⟨m, hm⟩ : ∃ x, b.ups.length = x := ⟨_, rfl⟩
  obtain ⟨q, hq⟩ : ∃ x, b.quota = x := ⟨_, rfl⟩
  obtain ⟨l, hl⟩ : ∃ x, b.last = x := ⟨_, rfl⟩
  rw [hr] at R HE
  rw [hn] at F R hpo hl1
  rw [hm, hq, hl] at R
  rw [hn, hm, hq, hl]
  have HN := Lib.hid hn
  obtain ⟨W, hW⟩ : ∃ W, w.alloc (.cells #[.slice a n c, .int .i64 q, .slice a' m c', .int .i64 l] 25) = W := ⟨_, rfl⟩
  have HB := Lib.hid (show Below w.heap.size w W by rw [← hW]; exact below_new _ _)
  have HA := Lib.hid (show At4 25 W w.heap.size (.slice a n c) (.int .i64 q) (.slice a' m c') (.int .i64 l) by rw [← hW]; exact At4.new _ _ _ _ _ _)
  have HPO := Lib.hid hpo
  have HW := Lib.hid hW
  have R1 := Lib.hid (R.out W HB.out)
  clear hW h hp hpo he hr R hn hm hq hl HAT
  go_enter Tryz.func24, Tryz.ntmps24
  go_upto_region 1 with fail
  rw [HW.out]
  obtain ⟨a0, a1, a2, a3⟩ := HA.out.cells
  go_wp2_with fail
  refine R1.out.mono ?_
  rintro e w1 ⟨rfl, hb1⟩
  have HB1 := Lib.hid (Below.then HB.out hb1)
  have HA1 := Lib.hid (HA.out.keep hb1)
  clear hb1 a0 a1 a2 a3 R1
  cases r with
  | false =>
    have HO := Lib.hid (show dataB b d = (⟨#[]⟩, 1) by rw [HE.out]; rfl)
    go_wp2_with fail
    go_ret2
    exact ⟨by rw [HO.out]; rfl, HB1.out⟩
  | true =>
    have F1 := Lib.hid (F.out w1 HB1.out)
    obtain ⟨a0, a1, a2, a3⟩ := HA1.out.cells
    clear F
    by_cases hlt : atL b.objs d < 0
    · have HO := Lib.hid (show dataB b d = (⟨#[]⟩, 9) by rw [HE.out, if_pos hlt]; rfl)
      rw [HF.out, if_pos hlt] at F1
      clear hlt
      go_wp2_with fail
      refine F1.out.mono ?_
      rintro e w2 ⟨rfl, hb2⟩
      have HB2 := Lib.hid (Below.then HB1.out hb2)
      clear hb2 a0 a1 a2 a3
      go_wp2_with fail
      go_ret2
      exact ⟨by rw [HO.out]; rfl, HB2.out⟩
    · obtain ⟨j, hj, hja, hjt, -⟩ := HPL.out (by omega)
      have HO := Lib.hid (show dataB b d = (b.objs[j].2, 0) by rw [HE.out, if_neg hlt, hjt, getD_of_lt hj]; rfl)
      rw [HF.out, if_neg hlt, hja] at F1
      have hjn : j < n := by rw [← HN.out]; exact hj
      obtain ⟨lb, lo, rfl, e0, e1⟩ := HPO.out.at j (by rw [List.length_map]; exact hj)
      rw [obj_getElem b.objs j hj] at e0 e1
      obtain ⟨⟨x, y⟩, hx⟩ : ∃ x, b.objs[j] = x := ⟨_, rfl⟩
      rw [hx] at e0 e1 HO
      simp only at e0 e1
      have HC := Lib.hid e1
      clear hlt hja hjt hx e0 e1
      go_wp2_with fail
      refine F1.out.mono ?_
      rintro e w2 ⟨rfl, hb2⟩
      have HB2 := Lib.hid (Below.then HB1.out hb2)
      have e1 := Below.keepc HB2.out HC.out
      clear a0 a1 a2 a3
      obtain ⟨a0, a1, a2, a3⟩ := (HA1.out.keep hb2).cells
      clear hb2
      go_wp2_with fail
      go_ret2
      exact ⟨by rw [HO.out]; rfl, HB2.out⟩
end Go.Proofs.YtodjhmphneoifaaGreatDoor
/-! The program's Offset, Size, Read and New of blobs, by contracts. Conditions: the digest's tables and octet's errors lie where they were laid. -/
namespace Go.Proofs.YtodjhmphneoifaaGreatDoor
open Go.RowKit Go.WideShapes

theorem dataB_size {w : World} {v : Value} {b : Blb} (h : BlbAt w v b) (d : ByteArray) : (dataB b d).1.size ≤ 9223372036854775807 := by
  unfold dataB
  split
  · split
    · exact Nat.zero_le _
    · rename_i hn
      obtain ⟨j, hj, -, hjt, -⟩ := findL_place (p := fun o : ByteArray × ByteArray => decide (o.1 = d)) (l := b.objs) hn
      have hjt : (atL b.objs d).toNat = j := hjt
      rw [hjt, getD_of_lt hj]
      have := (h.objs _ (List.getElem_mem hj)).2
      unfold maxLen at this
      exact this
  · exact Nat.zero_le _

set_option maxRecDepth 100000 in
set_option maxHeartbeats 2000000 in
theorem Offset_t (v : Value) (b : Blb) (id : Int) (w : World) (aD aS aZ : Addr) (h : BlbAt w v b) (he : DEnv w aD aS aZ) :
    Calls Tryz.prog 10 #[v, .int .i64 id] w fun e w' => e = .returned (.tuple #[.int .i64 (offB b id).1, .int .i64 (offB b id).2]) ∧ Below w.heap.size w w' := by
  have U := Lib.hid (fun w' (hb : Below w.heap.size w w') => uploadPlace_t v b id w' aD aS aZ (h.keep hb) (he.keep hb))
  have HE := Lib.hid (show offB b id = if (placeB b id).2 ≠ 0 then (0, (placeB b id).2) else ((((upD b (placeB b id).1).size : Nat) : Int), 0) from rfl)
  have HPO := Lib.hid (fun hh => place_ok (b := b) (id := id) hh)
  have hp := h
  obtain ⟨a, c, a', c', rfl, hl1, hl2⟩ := h.shape
  have hpu := hp.parts.2.1
  obtain ⟨n, hn⟩ : ∃ x, b.objs.length = x := ⟨_, rfl⟩
  obtain ⟨m, hm⟩ : ∃ x, b.ups.length = x := ⟨_, rfl⟩
  obtain ⟨q, hq⟩ : ∃ x, b.quota = x := ⟨_, rfl⟩
  obtain ⟨l, hl⟩ : ∃ x, b.last = x := ⟨_, rfl⟩
  obtain ⟨⟨p, x⟩, hpx⟩ : ∃ x, placeB b id = x := ⟨_, rfl⟩
  rw [hpx] at U HE HPO
  rw [hn, hm, hq, hl] at U ⊢
  rw [hm] at hpu hl2
  have HN := Lib.hid hm
  obtain ⟨W, hW⟩ : ∃ W, w.alloc (.cells #[.slice a n c, .int .i64 q, .slice a' m c', .int .i64 l] 25) = W := ⟨_, rfl⟩
  have HB := Lib.hid (show Below w.heap.size w W by rw [← hW]; exact below_new _ _)
  have HA := Lib.hid (show At4 25 W w.heap.size (.slice a n c) (.int .i64 q) (.slice a' m c') (.int .i64 l) by rw [← hW]; exact At4.new _ _ _ _ _ _)
  have HPU := Lib.hid hpu
  have HW := Lib.hid hW
  have U1 := Lib.hid (U.out W HB.out)
  clear hW h hp hpu he U hn hm hq hl hpx
  go_enter Tryz.func10, Tryz.ntmps10
  go_upto_region 1 with fail
  rw [HW.out]
  obtain ⟨a0, a1, a2, a3⟩ := HA.out.cells
  go_wp2_with fail
  refine U1.out.mono ?_
  rintro e w1 ⟨rfl, hb1⟩
  have HB1 := Lib.hid (Below.then HB.out hb1)
  have HA1 := Lib.hid (HA.out.keep hb1)
  clear hb1 a0 a1 a2 a3 U1
  by_cases hx : x = 0
  · obtain ⟨-, j, hj, ej, hd, -⟩ := HPO.out (by simpa using hx)
    obtain rfl : p = (j : Int) := (Prod.mk.inj ej).1
    have hjm : j < m := by rw [← HN.out]; exact hj
    have HO := Lib.hid (show offB b id = (((b.ups[j].2.size : Nat) : Int), 0) by rw [HE.out, if_neg (by simpa using hx)]; show (((upD b (j : Int)).size : Int), (0 : Int)) = _; rw [hd])
    obtain ⟨lb, lo, rfl, e0, e1⟩ := HPU.out.at j (by rw [List.length_map]; exact hj)
    rw [up_getElem b.ups j hj] at e0 e1
    obtain ⟨⟨y, z⟩, hyz⟩ : ∃ x, b.ups[j] = x := ⟨_, rfl⟩
    rw [hyz] at e0 e1 HO
    simp only at e0 e1
    have e1 := Below.keepc HB1.out e1
    subst hx
    clear hyz e0 ej hd
    obtain ⟨a0, a1, a2, a3⟩ := HA1.out.cells
    go_wp2_with fail
    go_ret2
    exact ⟨by rw [HO.out]; rfl, HB1.out⟩
  · have HO := Lib.hid (show offB b id = (0, x) by rw [HE.out, if_pos (by simpa using hx)])
    have q0 : (x != 0) = true := bne_iff_ne.2 hx
    clear hx
    go_wp2_with fail
    go_ret2
    exact ⟨by rw [HO.out]; rfl, HB1.out⟩

set_option maxRecDepth 100000 in
set_option maxHeartbeats 2000000 in
theorem Size_t (v : Value) (b : Blb) (d : ByteArray) (w : World) (aD aS aZ : Addr) (h : BlbAt w v b) (he : DEnv w aD aS aZ) :
    Calls Tryz.prog 8 #[v, .string d] w fun e w' => e = .returned (.tuple #[.int .i64 (sizeB b d).1, .int .i64 (sizeB b d).2]) ∧ Below w.heap.size w w' := by
  have D := Lib.hid (fun w' (hb : Below w.heap.size w w') => dataOf_t v b d w' aD aS aZ (h.keep hb) (he.keep hb))
  have HE := Lib.hid (show sizeB b d = ((((dataB b d).1.size : Nat) : Int), (dataB b d).2) from rfl)
  obtain ⟨⟨s, x⟩, hsx⟩ : ∃ x, dataB b d = x := ⟨_, rfl⟩
  rw [hsx] at D HE
  obtain ⟨a, n, c, q, a', m, c', l, rfl⟩ := h.four
  obtain ⟨W, hW⟩ : ∃ W, w.alloc (.cells #[.slice a n c, .int .i64 q, .slice a' m c', .int .i64 l] 25) = W := ⟨_, rfl⟩
  have HB := Lib.hid (show Below w.heap.size w W by rw [← hW]; exact below_new _ _)
  have HA := Lib.hid (show At4 25 W w.heap.size (.slice a n c) (.int .i64 q) (.slice a' m c') (.int .i64 l) by rw [← hW]; exact At4.new _ _ _ _ _ _)
  have HW := Lib.hid hW
  have D1 := Lib.hid (D.out W HB.out)
  clear hW h he hsx D
  go_enter Tryz.func8, Tryz.ntmps8
  go_upto_region 1 with fail
  rw [HW.out]
  obtain ⟨a0, a1, a2, a3⟩ := HA.out.cells
  go_wp2_with fail
  refine D1.out.mono ?_
  rintro e w1 ⟨rfl, hb1⟩
  have HB1 := Lib.hid (Below.then HB.out hb1)
  clear hb1 a0 a1 a2 a3 D1
  go_wp2_with fail
  go_ret2
  exact ⟨by rw [HE.out]; rfl, HB1.out⟩

set_option maxRecDepth 100000 in
set_option maxHeartbeats 2000000 in
theorem New_t (q : Int) (w : World) : Calls Tryz.prog 7 #[.int .i64 q] w (BlbOut (newB q) w) := by
  have Q := Lib.hid (isQuota_t q)
  have HE := Lib.hid (show newB q = if 0 ≤ q ∧ q ≤ 1048576 then (⟨[], q, [], 0⟩, 0) else (nilBlb, 1) from rfl)
  obtain ⟨W, hW⟩ : ∃ W, w.alloc (.cells #[nilV, zeroV, nilV, zeroV] 25) = W := ⟨_, rfl⟩
  have HB := Lib.hid (show Below w.heap.size w W by rw [← hW]; exact below_new _ _)
  have HA := Lib.hid (show At4 25 W w.heap.size nilV zeroV nilV zeroV by rw [← hW]; exact At4.new _ _ _ _ _ _)
  have HW := Lib.hid hW
  obtain ⟨r, hr⟩ : ∃ r, (decide (0 ≤ q) && decide (q ≤ 1048576)) = r := ⟨_, rfl⟩
  rw [hr] at Q
  have HR := Lib.hid hr
  clear hW hr
  go_enter Tryz.func7, Tryz.ntmps7
  go_upto_region 1 with fail
  rw [HW.out]
  obtain ⟨f0, f1, f2, f3⟩ := HA.out.free
  obtain ⟨a0, a1, a2, a3⟩ := HA.out.cells
  go_wp2_with fail
  refine (Q.out _).mono ?_
  rintro e w1 ⟨rfl, hw1⟩
  subst hw1
  cases r with
  | false =>
    have HO := Lib.hid (show newB q = (nilBlb, 1) by
      have := HR.out
      simp only [Bool.and_eq_false_iff, decide_eq_false_iff_not] at this
      rw [HE.out, if_neg (by omega)])
    go_wp2_with fail
    exact bodyPost_ret (results_blb (p := 2) (u := 3) rfl _ _ w.heap.size _ _ _ _ rfl (HA.out.set _ _ _ _)) rfl (blbOut_nil HO.out HB.out (Nat.le_refl _))
  | true =>
    have hq : 0 ≤ q ∧ q ≤ 1048576 := by
      have := HR.out
      simpa using this
    have HO := Lib.hid (show newB q = (⟨[], q, [], 0⟩, 0) by rw [HE.out, if_pos hq])
    go_wp2_with fail
    exact bodyPost_ret (results_blb (p := 2) (u := 3) rfl _ _ w.heap.size _ _ _ _ rfl (HA.out.set _ _ _ _)) rfl (by
      rw [HO.out]
      exact ⟨_, rfl, ⟨⟨_, _, rfl, Or.inl ⟨rfl, Or.inl rfl⟩, Or.inl ⟨rfl, Or.inl rfl⟩⟩, fun o ho => (by cases ho), fun u hu => (by cases hu), by show _ ≤ q ∧ q ≤ _; omega, by show _ ≤ (0 : Int) ∧ (0 : Int) ≤ _; omega⟩, set4_below HB.out (Nat.le_refl _) _ _ _ _⟩)

set_option maxRecDepth 100000 in
set_option maxHeartbeats 2000000 in
theorem Read_t (v : Value) (b : Blb) (d : ByteArray) (fr many : Int) (w : World) (aD aS aZ : Addr) (h : BlbAt w v b) (he : DEnv w aD aS aZ) (hm63 : many ≤ 9223372036854775807) :
    Calls Tryz.prog 9 #[v, .string d, .int .i64 fr, .int .i64 many] w fun e w' => e = .returned (.tuple #[.string (readB b d fr many).1, .int .i64 (readB b d fr many).2]) ∧ Below w.heap.size w w' := by
  have D := Lib.hid (fun w' (hb : Below w.heap.size w w') => dataOf_t v b d w' aD aS aZ (h.keep hb) (he.keep hb))
  have HSZ := Lib.hid (dataB_size h d)
  have HE := Lib.hid (show readB b d fr many = if (dataB b d).2 ≠ 0 then (⟨#[]⟩, (dataB b d).2) else if fr < 0 ∨ ((dataB b d).1.size : Int) < fr ∨ many < 0 then (⟨#[]⟩, 11)
    else (((dataB b d).1.extract fr.toNat (dataB b d).1.size).extract 0 (min many.toNat ((dataB b d).1.size - fr.toNat)), 0) from rfl)
  obtain ⟨⟨s, x⟩, hsx⟩ : ∃ x, dataB b d = x := ⟨_, rfl⟩
  rw [hsx] at D HE HSZ
  obtain ⟨a, n, c, q, a', m, c', l, rfl⟩ := h.four
  obtain ⟨W, hW⟩ : ∃ W, w.alloc (.cells #[.slice a n c, .int .i64 q, .slice a' m c', .int .i64 l] 25) = W := ⟨_, rfl⟩
  have HB := Lib.hid (show Below w.heap.size w W by rw [← hW]; exact below_new _ _)
  have HA := Lib.hid (show At4 25 W w.heap.size (.slice a n c) (.int .i64 q) (.slice a' m c') (.int .i64 l) by rw [← hW]; exact At4.new _ _ _ _ _ _)
  have HW := Lib.hid hW
  have D1 := Lib.hid (D.out W HB.out)
  clear hW h he hsx D
  go_enter Tryz.func9, Tryz.ntmps9
  go_upto_region 1 with fail
  rw [HW.out]
  obtain ⟨a0, a1, a2, a3⟩ := HA.out.cells
  go_wp2_with fail
  refine D1.out.mono ?_
  rintro e w1 ⟨rfl, hb1⟩
  have HB1 := Lib.hid (Below.then HB.out hb1)
  clear hb1 a0 a1 a2 a3 D1
  by_cases hx : x = 0
  rotate_left
  · have HO := Lib.hid (show readB b d fr many = (⟨#[]⟩, x) by rw [HE.out, if_pos (by simpa using hx)])
    have q0 : (x != 0) = true := bne_iff_ne.2 hx
    clear hx
    go_wp2_with fail
    go_ret2
    exact ⟨by rw [HO.out]; rfl, HB1.out⟩
  subst hx
  have HE2 := Lib.hid (HE.out.trans (if_neg (by simp)))
  by_cases h1 : fr < 0
  · have HO := Lib.hid (HE2.out.trans (if_pos (Or.inl h1)))
    go_wp2_with fail
    go_ret2
    exact ⟨by rw [HO.out]; rfl, HB1.out⟩
  obtain ⟨k, rfl⟩ : ∃ k : Nat, fr = (k : Int) := ⟨fr.toNat, by omega⟩
  have hsz : s.size ≤ 9223372036854775807 := HSZ.out
  by_cases h2 : (s.size : Int) < (k : Int)
  · have HO := Lib.hid (HE2.out.trans (if_pos (Or.inr (Or.inl h2))))
    go_wp2_with fail
    go_ret2
    exact ⟨by rw [HO.out]; rfl, HB1.out⟩
  by_cases h3 : many < 0
  · have HO := Lib.hid (HE2.out.trans (if_pos (Or.inr (Or.inr h3))))
    go_wp2_with fail
    go_ret2
    exact ⟨by rw [HO.out]; rfl, HB1.out⟩
  have HO := Lib.hid (HE2.out.trans (if_neg (by omega)))
  obtain ⟨u, rfl⟩ : ∃ u : Nat, many = (u : Int) := ⟨many.toNat, by omega⟩
  have hks : k ≤ s.size := by omega
  obtain ⟨r, hr⟩ : ∃ r, min u (s.size - k) = r := ⟨_, rfl⟩
  have hrk : r ≤ s.size - k := by omega
  have q1 : min (u : Int) ((s.size : Int) - (k : Int)) = (r : Int) := by omega
  have q2 : IntKind.i64.wrap ((s.size : Int) - (k : Int)) = (s.size : Int) - (k : Int) := by rw [IntKind.wrap_i64]; omega
  have HR := Lib.hid hr
  clear hr h1 h2 h3
  go_wp2_with fail
  go_ret2
  exact ⟨by rw [HO.out]; simp only [Int.toNat_natCast]; rw [HR.out]; rfl, HB1.out⟩
end Go.Proofs.YtodjhmphneoifaaGreatDoor
