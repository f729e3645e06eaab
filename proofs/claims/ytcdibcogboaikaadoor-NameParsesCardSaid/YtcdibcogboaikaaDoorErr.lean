/-
  What octet's errno answers for each shape of refusal that the package makes: errors.As and errors.Is by contracts. Conditions: the package-level errors lie where they lie.
-/
import Derived.Test.YtcdibcogboaikaaDoorErrFacts
namespace Go.Proofs.YtcdibcogboaikaaDoor
open Go.RowKit Go.Extern.Stop Go.Stop Go.Extern

theorem ef_set (tb : Nat) (b : Addr) (x0 x1 : Int) (o0 o1 : Value) (W : World) (hb0 : W.cell? b = some (.int .i64 x0)) (hb1 : W.cell? (b.add 1) = some (.int .i64 x1)) (h0 : W.cell? ⟨tb, 0, none⟩ = some o0) (h1 : W.cell? ⟨tb, 1, none⟩ = some o1) (f0 : W.frozen? ⟨tb, 0, none⟩ = false) (f1 : W.frozen? ⟨tb, 1, none⟩ = false) :
    (ReflectliteValue.set #[.agg #[.pointer (some ⟨8, 105, none⟩), .pointer (some ⟨tb, 0, none⟩), .int .u64 409], .agg #[.pointer (some ⟨8, 105, none⟩), .pointer (some b), .int .u64 153]]).run Tryd.prog W
      = .ok (.tuple #[]) ((W.setCell ⟨tb, 0, none⟩ (.int .i64 x0)).setCell ⟨tb, 1, none⟩ (.int .i64 x1)) := by
  rw [ef_rls]
  simp only [Sem.run_bind, ef_partsXa, ef_partsX, Result.andThen]
  have ha : ∀ w, (isAgg 105).run Tryd.prog w = .ok true w := Tryd.isAgg105
  have hl : (loadCells b 2).run Tryd.prog W = .ok #[.int .i64 x0, .int .i64 x1] W := run_loadCells_list (P := Tryd.prog) W b [.int .i64 x0, .int .i64 x1] (by
    intro j v hj
    match j, hj with
    | 0, hj => simp at hj; subst hj; simpa [Addr.add] using hb0
    | 1, hj => simp at hj; subst hj; exact hb1
    | j + 2, hj => simp at hj)
  simp [ReflectliteValue.flagAddr, loadVar, ha, hl, Result.andThen, ef_directX, storeVar, Value.cells, storeCells]
  rw [run_store Tryd.prog W _ _ _ (by rfl)]
  simp [h0, f0, Addr.add]
  rw [run_store Tryd.prog _ _ _ _ (by rfl)]
  rw [World.cell?_setCell_other _ _ _ _ (by simp)]
  simp [h1, f1]

/-- The type's handles and the Value of the target, as errors.as takes them. -/
abbrev asV (a : Addr) : Value := .agg #[.pointer (some ⟨8, 107, none⟩), .pointer (some a), .int .u64 150]
abbrev asT : Value := .iface 131 (.agg #[.pointer (some ⟨8, 105, none⟩)])

set_option maxHeartbeats 4000000 in
theorem as2_hit (a : Addr) (tb : Nat) (x0 x1 : Int) (B : Nat) (w : World) (hB : B ≤ tb) (hBw : B ≤ w.heap.size) (ha : w.cell? a = some (.pointer (some ⟨tb, 0, none⟩))) (ht : w.heap[tb]? = some (.cells #[.int .i64 0, .int .i64 0] 105 (0, 0))) :
    Calls Tryd.prog 87 #[.iface 105 (.agg #[.int .i64 x0, .int .i64 x1]), .iface 107 (.pointer (some ⟨tb, 0, none⟩)), asV a, asT] w fun e w' => e = .returned (.bool true) ∧ Below B w w' := by
  have h6 := @run_callFunc_extern Tryd.prog 84 _ (fun args => ReflectliteValue.unpack (args.getD 0 (.tuple #[]))) Tryd.func84 (by kernel_rfl) (by kernel_rfl) (by kernel_rfl) (by kernel_rfl)
  have h10 := @run_callFunc_extern Tryd.prog 88 _ ReflectliteType.typeOf Tryd.func88 (by kernel_rfl) (by kernel_rfl) (by kernel_rfl) (by kernel_rfl)
  have h35 := @run_callFunc_extern Tryd.prog 119 _ (ReflectliteType.relation "AssignableTo" ReflectliteType.assignableTo) Tryd.func119 (by kernel_rfl) (by kernel_rfl) (by kernel_rfl) (by kernel_rfl)
  have h11 := @run_callFunc_extern Tryd.prog 92 _ (ReflectliteValue.method (ReflectliteValue.valueError "reflectlite.Value.Elem" 0) ReflectliteValue.elem) Tryd.func92 (by kernel_rfl) (by kernel_rfl) (by kernel_rfl) (by kernel_rfl)
  have h12 := @run_callFunc_extern Tryd.prog 93 _ ReflectliteValue.set Tryd.func93 (by kernel_rfl) (by kernel_rfl) (by kernel_rfl) (by kernel_rfl)
  have tO := ef_typeOfX
  have mA := ef_mAssignable
  have aX := ef_assX
  have vX := ef_valueOfX x0 x1
  have hlt : tb < w.heap.size := (Array.getElem?_eq_some_iff.1 ht).1
  have hal : a.block < w.heap.size := World.block_lt_of_cell? _ _ ha
  have w1a : ∀ o, (w.alloc o).cell? a = some (.pointer (some ⟨tb, 0, none⟩)) := fun o => by rw [World.cell?_alloc_lt _ _ a hal]; exact ha
  have el := fun o => ef_elemVP a ⟨tb, 0, none⟩ (w.alloc o) (w1a o)
  have ht2 : ∀ o o', ((w.alloc o).alloc o').heap[tb]? = some (.cells #[.int .i64 0, .int .i64 0] 105 (0, 0)) := fun o o' => by
    rw [Below.heap_alloc _ _ _ (by simp; omega), Below.heap_alloc _ _ _ hlt]; exact ht
  have c0 : ∀ o o', ((w.alloc o).alloc o').cell? ⟨tb, 0, none⟩ = some (.int .i64 0) := fun o o' => by simp [World.cell?, ht2]
  have c1 : ∀ o o', ((w.alloc o).alloc o').cell? ⟨tb, 1, none⟩ = some (.int .i64 0) := fun o o' => by simp [World.cell?, ht2]
  have z0 : ∀ o o', ((w.alloc o).alloc o').frozen? ⟨tb, 0, none⟩ = false := fun o o' => by simp [World.frozen?, ht2]
  have z1 : ∀ o o', ((w.alloc o).alloc o').frozen? ⟨tb, 1, none⟩ = false := fun o o' => by simp [World.frozen?, ht2]
  have st := fun o => ef_set tb ⟨w.heap.size + 1, 0, none⟩ x0 x1 (.int .i64 0) (.int .i64 0) ((w.alloc o).alloc (.cells #[.int .i64 x0, .int .i64 x1] 105)) (by rw [World.cell?_alloc_at _ _ _ _ (by simp)]; rfl) (by show (World.alloc _ _).cell? ⟨w.heap.size + 1, 1, none⟩ = _; rw [World.cell?_alloc_at _ _ _ _ (by simp)]; rfl) (c0 _ _) (c1 _ _) (z0 _ _) (z1 _ _)
  clear c0 c1 z0 z1 ht2 ha ht
  go_enter Tryd.func87, Tryd.ntmps87
  go_wp2
  refine wp_loop_rounds 1 ?_
  rw [rounds_succ]
  go_wp2
  go_ret
  exact ⟨rfl, by repeat (first | exact Below.refl _ _ | refine Below.alloc ?_ (by simp; omega) _ | exact Below.setCell (by assumption) hB _ | refine Below.setCell ?_ hB _)⟩

set_option maxHeartbeats 4000000 in
/-- errors.as at an error of errors.New's make. -/
theorem as2_miss (a t e : Addr) (B : Nat) (w : World) (hBw : B ≤ w.heap.size) :
    Calls Tryd.prog 87 #[.iface 146 (.pointer (some e)), .iface 107 (.pointer (some t)), asV a, asT] w fun e w' => e = .returned (.bool false) ∧ Below B w w' := by
  have h10 := @run_callFunc_extern Tryd.prog 88 _ ReflectliteType.typeOf Tryd.func88 (by kernel_rfl) (by kernel_rfl) (by kernel_rfl) (by kernel_rfl)
  have h35 := @run_callFunc_extern Tryd.prog 119 _ (ReflectliteType.relation "AssignableTo" ReflectliteType.assignableTo) Tryd.func119 (by kernel_rfl) (by kernel_rfl) (by kernel_rfl) (by kernel_rfl)
  have tO := ef_typeOfE
  have mA := ef_mAssignable
  have aE := ef_assE
  have nA := fun v xT => ef_noAs 146 v xT (Or.inr rfl)
  have uE := ef_noUnwrapE
  have vE := ef_noUnwrapsE
  go_enter Tryd.func87, Tryd.ntmps87
  go_wp2
  refine wp_loop_rounds 1 ?_
  rw [rounds_succ]
  go_wp2
  go_ret
  exact ⟨rfl, by repeat (first | exact Below.refl _ _ | refine Below.alloc ?_ (by first | omega | (simp; omega)) _)⟩

/-- (placed).Unwrap: the cause. -/
theorem unwrap_any (p : Int) (c : Value) (hc : c = .nilIface ∨ ∃ T v, c = .iface T v) (w : World) :
    Calls Tryd.prog 114 #[.agg #[.int .i64 p, c]] w fun e w' => e = .returned c ∧ w' = w.alloc (.cells #[.int .i64 p, c] 110) := by
  rcases hc with rfl | ⟨T, v, rfl⟩
  all_goals
    go_enter Tryd.func114, Tryd.ntmps114
    go_wp2
    go_ret
    exact ⟨rfl, rfl⟩

set_option maxHeartbeats 4000000 in
/-- errors.as at a placed refusal that wraps an excess. -/
theorem as2_hitL (p : Int) (a : Addr) (tb : Nat) (x0 x1 : Int) (B : Nat) (w : World) (hB : B ≤ tb) (hBw : B ≤ w.heap.size) (ha : w.cell? a = some (.pointer (some ⟨tb, 0, none⟩))) (ht : w.heap[tb]? = some (.cells #[.int .i64 0, .int .i64 0] 105 (0, 0))) :
    Calls Tryd.prog 87 #[.iface 110 (.agg #[.int .i64 p, .iface 105 (.agg #[.int .i64 x0, .int .i64 x1])]), .iface 107 (.pointer (some ⟨tb, 0, none⟩)), asV a, asT] w fun e w' => e = .returned (.bool true) ∧ Below B w w' := by
  have h6 := @run_callFunc_extern Tryd.prog 84 _ (fun args => ReflectliteValue.unpack (args.getD 0 (.tuple #[]))) Tryd.func84 (by kernel_rfl) (by kernel_rfl) (by kernel_rfl) (by kernel_rfl)
  have h10 := @run_callFunc_extern Tryd.prog 88 _ ReflectliteType.typeOf Tryd.func88 (by kernel_rfl) (by kernel_rfl) (by kernel_rfl) (by kernel_rfl)
  have h35 := @run_callFunc_extern Tryd.prog 119 _ (ReflectliteType.relation "AssignableTo" ReflectliteType.assignableTo) Tryd.func119 (by kernel_rfl) (by kernel_rfl) (by kernel_rfl) (by kernel_rfl)
  have h11 := @run_callFunc_extern Tryd.prog 92 _ (ReflectliteValue.method (ReflectliteValue.valueError "reflectlite.Value.Elem" 0) ReflectliteValue.elem) Tryd.func92 (by kernel_rfl) (by kernel_rfl) (by kernel_rfl) (by kernel_rfl)
  have h12 := @run_callFunc_extern Tryd.prog 93 _ ReflectliteValue.set Tryd.func93 (by kernel_rfl) (by kernel_rfl) (by kernel_rfl) (by kernel_rfl)
  have tO := ef_typeOfX
  have tL := ef_typeOfL
  have mA := ef_mAssignable
  have aX := ef_assX
  have aL := ef_assL
  have vX := ef_valueOfX x0 x1
  have nA := fun v xT => ef_noAs 110 v xT (Or.inl rfl)
  have uL := ef_hasUnwrapL
  have mU := ef_mUnwrap
  have hlt : tb < w.heap.size := (Array.getElem?_eq_some_iff.1 ht).1
  have hal : a.block < w.heap.size := World.block_lt_of_cell? _ _ ha
  have w1a : ∀ o o', ((w.alloc o).alloc o').cell? a = some (.pointer (some ⟨tb, 0, none⟩)) := fun o o' => by rw [World.cell?_alloc_lt _ _ a (by simp; omega), World.cell?_alloc_lt _ _ a hal]; exact ha
  have el := fun o o' => ef_elemVP a ⟨tb, 0, none⟩ ((w.alloc o).alloc o') (w1a o o')
  have ht2 : ∀ o o' o'', (((w.alloc o).alloc o').alloc o'').heap[tb]? = some (.cells #[.int .i64 0, .int .i64 0] 105 (0, 0)) := fun o o' o'' => by
    rw [Below.heap_alloc _ _ _ (by simp; omega), Below.heap_alloc _ _ _ (by simp; omega), Below.heap_alloc _ _ _ hlt]; exact ht
  have c0 : ∀ o o' o'', (((w.alloc o).alloc o').alloc o'').cell? ⟨tb, 0, none⟩ = some (.int .i64 0) := fun o o' o'' => by simp [World.cell?, ht2]
  have c1 : ∀ o o' o'', (((w.alloc o).alloc o').alloc o'').cell? ⟨tb, 1, none⟩ = some (.int .i64 0) := fun o o' o'' => by simp [World.cell?, ht2]
  have z0 : ∀ o o' o'', (((w.alloc o).alloc o').alloc o'').frozen? ⟨tb, 0, none⟩ = false := fun o o' o'' => by simp [World.frozen?, ht2]
  have z1 : ∀ o o' o'', (((w.alloc o).alloc o').alloc o'').frozen? ⟨tb, 1, none⟩ = false := fun o o' o'' => by simp [World.frozen?, ht2]
  have st := fun o o' => ef_set tb ⟨w.heap.size + 1 + 1, 0, none⟩ x0 x1 (.int .i64 0) (.int .i64 0) (((w.alloc o).alloc o').alloc (.cells #[.int .i64 x0, .int .i64 x1] 105)) (by rw [World.cell?_alloc_at _ _ _ _ (by simp)]; rfl) (by show (World.alloc _ _).cell? ⟨w.heap.size + 1 + 1, 1, none⟩ = _; rw [World.cell?_alloc_at _ _ _ _ (by simp)]; rfl) (c0 _ _ _) (c1 _ _ _) (z0 _ _ _) (z1 _ _ _)
  clear c0 c1 z0 z1 ht2 ha ht w1a
  go_enter Tryd.func87, Tryd.ntmps87
  go_wp2
  refine wp_loop_rounds 2 ?_
  rw [rounds_succ]
  go_wp2
  rw [rounds_succ]
  go_wp2
  go_ret
  exact ⟨rfl, by repeat (first | exact Below.refl _ _ | refine Below.alloc ?_ (by first | omega | (simp; omega)) _ | refine Below.setCell ?_ hB _)⟩

set_option maxHeartbeats 4000000 in
/-- errors.as at a placed refusal that wraps an error of errors.New's make. -/
theorem as2_missL (p : Int) (a t e : Addr) (B : Nat) (w : World) (hBw : B ≤ w.heap.size) :
    Calls Tryd.prog 87 #[.iface 110 (.agg #[.int .i64 p, .iface 146 (.pointer (some e))]), .iface 107 (.pointer (some t)), asV a, asT] w fun e w' => e = .returned (.bool false) ∧ Below B w w' := by
  have h10 := @run_callFunc_extern Tryd.prog 88 _ ReflectliteType.typeOf Tryd.func88 (by kernel_rfl) (by kernel_rfl) (by kernel_rfl) (by kernel_rfl)
  have h35 := @run_callFunc_extern Tryd.prog 119 _ (ReflectliteType.relation "AssignableTo" ReflectliteType.assignableTo) Tryd.func119 (by kernel_rfl) (by kernel_rfl) (by kernel_rfl) (by kernel_rfl)
  have tO := ef_typeOfE
  have tL := ef_typeOfL
  have mA := ef_mAssignable
  have aE := ef_assE
  have aL := ef_assL
  have nA := fun v xT => ef_noAs 146 v xT (Or.inr rfl)
  have nL := fun v xT => ef_noAs 110 v xT (Or.inl rfl)
  have uE := ef_noUnwrapE
  have vE := ef_noUnwrapsE
  have uL := ef_hasUnwrapL
  have mU := ef_mUnwrap
  go_enter Tryd.func87, Tryd.ntmps87
  go_wp2
  refine wp_loop_rounds 2 ?_
  rw [rounds_succ]
  go_wp2
  rw [rounds_succ]
  go_wp2
  go_ret
  exact ⟨rfl, by repeat (first | exact Below.refl _ _ | refine Below.alloc ?_ (by first | omega | (simp; omega)) _)⟩

end Go.Proofs.YtcdibcogboaikaaDoor
