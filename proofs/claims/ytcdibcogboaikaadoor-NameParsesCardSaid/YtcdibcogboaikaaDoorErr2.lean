/-
  octet's errno, by contracts of errors.As and errors.Is. Conditions: the package-level errors lie where they lie.
-/
import Derived.Test.YtcdibcogboaikaaDoorErr
namespace Go.Proofs.YtcdibcogboaikaaDoor
open Go.RowKit Go.Extern.Stop Go.Stop Go.Extern

set_option maxHeartbeats 4000000 in
/-- errors.As at octet's target, by what errors.as answers. -/
theorem as_by (err : Value) (r : Bool) (tb : Nat) (B : Nat) (w : World) (hn : (∃ T v, err = .iface T v)) (hBw : B ≤ w.heap.size) (hg : w.cell? ⟨5, 0, none⟩ = some (.iface 131 (.agg #[.pointer (some ⟨8, 60, none⟩)])))
    (ht : w.heap[tb]? = some (.cells #[.int .i64 0, .int .i64 0] 105 (0, 0)))
    (hs : ∀ (a : Addr) (w : World), B ≤ w.heap.size → w.cell? a = some (.pointer (some ⟨tb, 0, none⟩)) → w.heap[tb]? = some (.cells #[.int .i64 0, .int .i64 0] 105 (0, 0)) →
      Calls Tryd.prog 87 #[err, .iface 107 (.pointer (some ⟨tb, 0, none⟩)), asV a, asT] w fun e w' => e = .returned (.bool r) ∧ Below B w w') :
    Calls Tryd.prog 79 #[err, .iface 107 (.pointer (some ⟨tb, 0, none⟩))] w fun e w' => e = .returned (.bool r) ∧ Below B w w' := by
  obtain ⟨T, v, rfl⟩ := hn
  have h6 := @run_callFunc_extern Tryd.prog 84 _ (fun args => ReflectliteValue.unpack (args.getD 0 (.tuple #[]))) Tryd.func84 (by kernel_rfl) (by kernel_rfl) (by kernel_rfl) (by kernel_rfl)
  have h7 := @run_callFunc_extern Tryd.prog 85 _ (ReflectliteValue.methodAny (ReflectliteValue.valueError "reflectlite.Value.Type" 0) (fun t _ _ _ => ReflectliteType.toType t)) Tryd.func85 (by kernel_rfl) (by kernel_rfl) (by kernel_rfl) (by kernel_rfl)
  have h8 := @run_callFunc_extern Tryd.prog 86 _ (ReflectliteValue.method (ReflectliteValue.valueError "reflectlite.Value.IsNil" 0) ReflectliteValue.isNil) Tryd.func86 (by kernel_rfl) (by kernel_rfl) (by kernel_rfl) (by kernel_rfl)
  have h27 := @run_callFunc_extern Tryd.prog 108 _ (ReflectliteType.abiMethod fun t => do pure (.int .u8 (← Rtype.kind t))) Tryd.func108 (by kernel_rfl) (by kernel_rfl) (by kernel_rfl) (by kernel_rfl)
  have h37 := @run_callFunc_extern Tryd.prog 121 _ (ReflectliteType.method ReflectliteType.elem) Tryd.func121 (by kernel_rfl) (by kernel_rfl) (by kernel_rfl) (by kernel_rfl)
  have h38 := @run_callFunc_extern Tryd.prog 122 _ (ReflectliteType.relation "Implements" ReflectliteType.implements_) Tryd.func122 (by kernel_rfl) (by kernel_rfl) (by kernel_rfl) (by kernel_rfl)
  have f6 := ef_valueOfP
  have f7 := ef_typeP
  have mK := ef_mKind
  have mE := ef_mElem
  have mI := ef_mImplements
  have kP := ef_kindP
  have kX := ef_kindX
  have eP := ef_elemP
  have iX := ef_implX
  have hg0 : (⟨5, 0, none⟩ : Addr).block < w.heap.size := World.block_lt_of_cell? _ _ hg
  have hlt : tb < w.heap.size := (Array.getElem?_eq_some_iff.1 ht).1
  have n8 := fun o => ef_isNilP ⟨w.heap.size, 0, none⟩ ⟨tb, 0, none⟩ ((w.alloc (.cells #[.pointer (some ⟨tb, 0, none⟩)] 107)).alloc o) (by rw [World.cell?_alloc_lt _ _ ⟨w.heap.size, 0, none⟩ (by simp)]; rw [World.cell?_alloc_at _ _ _ _ (by simp)]; rfl)
  have hg2 : ∀ o o', ((w.alloc o).alloc o').cell? ⟨5, 0, none⟩ = some (.iface 131 (.agg #[.pointer (some ⟨8, 60, none⟩)])) := fun o o' => by
    rw [World.cell?_alloc_lt _ _ _ (by simp at hg0 ⊢; omega), World.cell?_alloc_lt _ _ _ hg0]; exact hg
  have H := Lib.hid hs
  clear hs
  have ht2 : ∀ o o', ((w.alloc o).alloc o').heap[tb]? = some (.cells #[.int .i64 0, .int .i64 0] 105 (0, 0)) := fun o o' => by
    rw [Below.heap_alloc _ _ _ (by simp; omega), Below.heap_alloc _ _ _ hlt]; exact ht
  have HT := Lib.hid ht2
  clear ht2 ht hg
  go_enter Tryd.func79, Tryd.ntmps79
  go_wp2_with fail
  refine (H.out ⟨w.heap.size, 0, none⟩ _ (by simp; omega) ?_ (HT.out _ _)).mono ?_
  · rw [World.cell?_alloc_lt _ _ _ (by simp), World.cell?_alloc_at _ _ _ _ (by simp)]; rfl
  rintro e w' ⟨rfl, hb⟩
  go_wp2
  go_ret
  exact ⟨rfl, (((Below.refl _ _).alloc hBw _).alloc (by simp; omega) _).trans hb⟩

/-! ### errors.Is at a sentinel -/
theorem is_same (a : Addr) (w : World) :
    Calls Tryd.prog 80 #[.iface 146 (.pointer (some a)), .iface 146 (.pointer (some a))] w fun e w' => e = .returned (.bool true) ∧ w = w' := by
  obtain ⟨i, hi, hcmp⟩ := Option.map_eq_some_iff.1 ef_isComp
  obtain ⟨j, hj, hjs⟩ := Option.map_eq_some_iff.1 ef_isSize
  have h8 := @run_callFunc_extern Tryd.prog 88 _ Extern.ReflectliteType.typeOf Tryd.func88 (by kernel_rfl) (by kernel_rfl) (by kernel_rfl) (by kernel_rfl)
  have h32 := ef_callComparable
  have tT := ef_typeOfE
  have cT := ef_comparable
  have mR := ef_mComparable
  have heq := run_eql_iface_ptr_same (P := Tryd.prog) w a Tryd.underlying60 Tryd.underlying146 hi hcmp hj
  go_enter Tryd.func80, Tryd.ntmps80
  go_wp2
  refine wp_loop_rounds 1 ?_
  rw [rounds_succ]
  go_wp2
  go_ret
  exact ⟨rfl, rfl⟩

theorem is_other (a b : Addr) (ca cb : Array Value) (ta tb : TypeId) (w : World) (hne : a ≠ b) (ha : w.heap[a.block]? = some (.cells ca ta (0, 0))) (hb : w.heap[b.block]? = some (.cells cb tb (0, 0))) :
    Calls Tryd.prog 80 #[.iface 146 (.pointer (some a)), .iface 146 (.pointer (some b))] w fun e w' => e = .returned (.bool false) ∧ w = w' := by
  obtain ⟨i, hi, hcmp⟩ := Option.map_eq_some_iff.1 ef_isComp
  obtain ⟨j, hj, hjs⟩ := Option.map_eq_some_iff.1 ef_isSize
  have h8 := @run_callFunc_extern Tryd.prog 88 _ Extern.ReflectliteType.typeOf Tryd.func88 (by kernel_rfl) (by kernel_rfl) (by kernel_rfl) (by kernel_rfl)
  have h32 := ef_callComparable
  have tT := ef_typeOfE
  have cT := ef_comparable
  have mR := ef_mComparable
  have nE := fun v xT => ef_noIs 146 v xT (Or.inr rfl)
  have uE := ef_noUnwrapE
  have vE := ef_noUnwrapsE
  have heq := run_eql_iface_ptr_other (P := Tryd.prog) w Tryd.underlying60 Tryd.underlying146 hi hcmp hj (by rw [hjs]; decide) hne ha hb
  go_enter Tryd.func80, Tryd.ntmps80
  go_wp2
  refine wp_loop_rounds 1 ?_
  rw [rounds_succ]
  go_wp2
  go_ret
  exact ⟨rfl, rfl⟩

theorem is_wrap_same (p : Int) (a : Addr) (w : World) :
    Calls Tryd.prog 80 #[.iface 110 (.agg #[.int .i64 p, .iface 146 (.pointer (some a))]), .iface 146 (.pointer (some a))] w fun e w' => e = .returned (.bool true) ∧ Below w.heap.size w w' := by
  obtain ⟨i, hi, hcmp⟩ := Option.map_eq_some_iff.1 ef_isComp
  obtain ⟨j, hj, hjs⟩ := Option.map_eq_some_iff.1 ef_isSize
  have h8 := @run_callFunc_extern Tryd.prog 88 _ Extern.ReflectliteType.typeOf Tryd.func88 (by kernel_rfl) (by kernel_rfl) (by kernel_rfl) (by kernel_rfl)
  have h32 := ef_callComparable
  have tT := ef_typeOfE
  have cT := ef_comparable
  have mR := ef_mComparable
  have nL := fun v xT => ef_noIs 110 v xT (Or.inl rfl)
  have uL := ef_hasUnwrapL
  have mU := ef_mUnwrap
  have heq := fun o => run_eql_iface_ptr_same (P := Tryd.prog) (w.alloc o) a Tryd.underlying60 Tryd.underlying146 hi hcmp hj
  have hty := run_eql_iface_types (P := Tryd.prog) 110 146 (.agg #[.int .i64 p, .iface 146 (.pointer (some a))]) (.pointer (some a)) Tryd.underlying60 (by decide) w
  go_enter Tryd.func80, Tryd.ntmps80
  go_wp2
  refine wp_loop_rounds 2 ?_
  rw [rounds_succ]
  go_wp2
  rw [rounds_succ]
  go_wp2
  go_ret
  exact ⟨rfl, (Below.refl _ _).alloc (by omega) _⟩

theorem is_wrap_other (p : Int) (a b : Addr) (ca cb : Array Value) (ta tb : TypeId) (w : World) (hne : a ≠ b) (ha : w.heap[a.block]? = some (.cells ca ta (0, 0))) (hb : w.heap[b.block]? = some (.cells cb tb (0, 0))) :
    Calls Tryd.prog 80 #[.iface 110 (.agg #[.int .i64 p, .iface 146 (.pointer (some a))]), .iface 146 (.pointer (some b))] w fun e w' => e = .returned (.bool false) ∧ Below w.heap.size w w' := by
  obtain ⟨i, hi, hcmp⟩ := Option.map_eq_some_iff.1 ef_isComp
  obtain ⟨j, hj, hjs⟩ := Option.map_eq_some_iff.1 ef_isSize
  have h8 := @run_callFunc_extern Tryd.prog 88 _ Extern.ReflectliteType.typeOf Tryd.func88 (by kernel_rfl) (by kernel_rfl) (by kernel_rfl) (by kernel_rfl)
  have h32 := ef_callComparable
  have tT := ef_typeOfE
  have cT := ef_comparable
  have mR := ef_mComparable
  have nE := fun v xT => ef_noIs 146 v xT (Or.inr rfl)
  have uE := ef_noUnwrapE
  have vE := ef_noUnwrapsE
  have nL := fun v xT => ef_noIs 110 v xT (Or.inl rfl)
  have uL := ef_hasUnwrapL
  have mU := ef_mUnwrap
  have heq := fun o => run_eql_iface_ptr_other (P := Tryd.prog) (w.alloc o) Tryd.underlying60 Tryd.underlying146 hi hcmp hj (by rw [hjs]; decide) hne ((Below.heap_alloc _ _ _ (Array.getElem?_eq_some_iff.1 ha).1).trans ha) ((Below.heap_alloc _ _ _ (Array.getElem?_eq_some_iff.1 hb).1).trans hb)
  have hty := run_eql_iface_types (P := Tryd.prog) 110 146 (.agg #[.int .i64 p, .iface 146 (.pointer (some a))]) (.pointer (some b)) Tryd.underlying60 (by decide) w
  go_enter Tryd.func80, Tryd.ntmps80
  go_wp2
  refine wp_loop_rounds 2 ?_
  rw [rounds_succ]
  go_wp2
  rw [rounds_succ]
  go_wp2
  go_ret
  exact ⟨rfl, (Below.refl _ _).alloc (by omega) _⟩

/-- Where octet's package-level errors lie. -/
structure Env (w : World) (aD aS aZ : Addr) : Prop where
  gT : w.cell? ⟨5, 0, none⟩ = some (.iface 131 (.agg #[.pointer (some ⟨8, 60, none⟩)]))
  gD : w.cell? ⟨2, 0, none⟩ = some (.iface 146 (.pointer (some aD)))
  gS : w.cell? ⟨3, 0, none⟩ = some (.iface 146 (.pointer (some aS)))
  bD : ∃ c t, w.heap[aD.block]? = some (.cells c t (0, 0))
  bS : ∃ c t, w.heap[aS.block]? = some (.cells c t (0, 0))
  bZ : ∃ c t, w.heap[aZ.block]? = some (.cells c t (0, 0))
  nDS : aD ≠ aS
  nDZ : aD ≠ aZ
  nSZ : aS ≠ aZ

theorem Env.keep {w w' : World} {aD aS aZ : Addr} (h : Env w aD aS aZ) (hb : Below w.heap.size w w') : Env w' aD aS aZ where
  gT := (hb.cell (World.block_lt_of_cell? _ _ h.gT)).trans h.gT
  gD := (hb.cell (World.block_lt_of_cell? _ _ h.gD)).trans h.gD
  gS := (hb.cell (World.block_lt_of_cell? _ _ h.gS)).trans h.gS
  bD := by obtain ⟨c, t, e⟩ := h.bD; exact ⟨c, t, (hb.block _ (Array.getElem?_eq_some_iff.1 e).1).trans e⟩
  bS := by obtain ⟨c, t, e⟩ := h.bS; exact ⟨c, t, (hb.block _ (Array.getElem?_eq_some_iff.1 e).1).trans e⟩
  bZ := by obtain ⟨c, t, e⟩ := h.bZ; exact ⟨c, t, (hb.block _ (Array.getElem?_eq_some_iff.1 e).1).trans e⟩
  nDS := h.nDS
  nDZ := h.nDZ
  nSZ := h.nSZ

/-- The refusals that octet makes, by their number: 1 a size, 2 an excess, 3 short, 4 no digits; bare or with a place. -/
def Refuses (aD aS aZ : Addr) (v : Value) (n : Int) : Prop :=
  (∃ a b, v = .iface 105 (.agg #[.int .i64 a, .int .i64 b]) ∧ n = 2) ∨ (∃ a, v = .iface 146 (.pointer (some a)) ∧ (a = aS ∧ n = 3 ∨ a = aD ∧ n = 4 ∨ a = aZ ∧ n = 1)) ∨
  (∃ p a b, v = .iface 110 (.agg #[.int .i64 p, .iface 105 (.agg #[.int .i64 a, .int .i64 b])]) ∧ n = 2) ∨ (∃ p a, v = .iface 110 (.agg #[.int .i64 p, .iface 146 (.pointer (some a))]) ∧ (a = aS ∧ n = 3 ∨ a = aD ∧ n = 4 ∨ a = aZ ∧ n = 1))

theorem errno_nil (w : World) : Calls Tryd.prog 63 #[.nilIface] w fun e w' => e = .returned (.int .i64 0) ∧ Below w.heap.size w w' := by
  go_enter Tryd.func63, Tryd.ntmps63
  go_wp2
  go_ret
  exact ⟨rfl, (Below.refl _ _).alloc (by omega) _⟩

/-- The world in which errno calls errors.As, and what is known there. -/
theorem errno_as (aD aS aZ : Addr) (err : Value) (r : Bool) (w : World) (he : Env w aD aS aZ) (hn : (∃ T v, err = .iface T v))
    (hs : ∀ (a : Addr) (w' : World), w.heap.size ≤ w'.heap.size → w'.cell? a = some (.pointer (some ⟨w.heap.size, 0, none⟩)) → w'.heap[w.heap.size]? = some (.cells #[.int .i64 0, .int .i64 0] 105 (0, 0)) →
      Calls Tryd.prog 87 #[err, .iface 107 (.pointer (some ⟨w.heap.size, 0, none⟩)), asV a, asT] w' fun e w'' => e = .returned (.bool r) ∧ Below w.heap.size w' w'') :
    Calls Tryd.prog 79 #[err, .iface 107 (.pointer (some ⟨w.heap.size, 0, none⟩))] (w.alloc (.cells #[.int .i64 0, .int .i64 0] 105)) fun e w' => e = .returned (.bool r) ∧ Below w.heap.size (w.alloc (.cells #[.int .i64 0, .int .i64 0] 105)) w' := by
  refine as_by err r w.heap.size w.heap.size _ hn (by simp) ?_ ?_ hs
  · rw [World.cell?_alloc_lt _ _ _ (World.block_lt_of_cell? _ _ he.gT)]; exact he.gT
  · show (w.heap.push _)[w.heap.size]? = _
    simp

set_option maxHeartbeats 1000000 in
theorem errno_excess (aD aS aZ : Addr) (a b : Int) (w : World) (he : Env w aD aS aZ) : Calls Tryd.prog 63 #[.iface 105 (.agg #[.int .i64 a, .int .i64 b])] w fun e w' => e = .returned (.int .i64 2) ∧ Below w.heap.size w w' := by
  have H := errno_as aD aS aZ (.iface 105 (.agg #[.int .i64 a, .int .i64 b])) true w he ⟨_, _, rfl⟩ (fun x w' h1 h2 h3 => as2_hit x w.heap.size a b w.heap.size w' (Nat.le_refl _) h1 h2 h3)
  have H2 := Lib.hid H
  clear H
  go_enter Tryd.func63, Tryd.ntmps63
  go_wp2_with fail
  refine H2.out.mono ?_
  rintro e w' ⟨rfl, hb⟩
  go_wp2
  go_ret
  exact ⟨rfl, ((Below.refl _ _).alloc (by omega) _).trans hb⟩

set_option maxHeartbeats 1000000 in
theorem errno_excessL (aD aS aZ : Addr) (p a b : Int) (w : World) (he : Env w aD aS aZ) : Calls Tryd.prog 63 #[.iface 110 (.agg #[.int .i64 p, .iface 105 (.agg #[.int .i64 a, .int .i64 b])])] w fun e w' => e = .returned (.int .i64 2) ∧ Below w.heap.size w w' := by
  have H := errno_as aD aS aZ (.iface 110 (.agg #[.int .i64 p, .iface 105 (.agg #[.int .i64 a, .int .i64 b])])) true w he ⟨_, _, rfl⟩ (fun x w' h1 h2 h3 => as2_hitL p x w.heap.size a b w.heap.size w' (Nat.le_refl _) h1 h2 h3)
  have H2 := Lib.hid H
  clear H
  go_enter Tryd.func63, Tryd.ntmps63
  go_wp2_with fail
  refine H2.out.mono ?_
  rintro e w' ⟨rfl, hb⟩
  go_wp2
  go_ret
  exact ⟨rfl, ((Below.refl _ _).alloc (by omega) _).trans hb⟩

/-- errors.Is at two of the package's errors, bare or with a place. -/
theorem is_any (a b : Addr) (w : World) (r : Bool) (err : Value) (h : err = .iface 146 (.pointer (some a)) ∨ ∃ p, err = .iface 110 (.agg #[.int .i64 p, .iface 146 (.pointer (some a))]))
    (hr : r = true ∧ a = b ∨ r = false ∧ a ≠ b) (ha : ∃ c t, w.heap[a.block]? = some (.cells c t (0, 0))) (hb : ∃ c t, w.heap[b.block]? = some (.cells c t (0, 0))) :
    Calls Tryd.prog 80 #[err, .iface 146 (.pointer (some b))] w fun e w' => e = .returned (.bool r) ∧ Below w.heap.size w w' := by
  obtain ⟨ca, ta, ha⟩ := ha
  obtain ⟨cb, tb, hb⟩ := hb
  rcases hr with ⟨rfl, rfl⟩ | ⟨rfl, hne⟩
  · rcases h with rfl | ⟨p, rfl⟩
    · exact (is_same a w).mono fun e w' ⟨h1, h2⟩ => ⟨h1, h2 ▸ Below.refl _ _⟩
    · exact is_wrap_same p a w
  · rcases h with rfl | ⟨p, rfl⟩
    · exact (is_other a b ca cb ta tb w hne ha hb).mono fun e w' ⟨h1, h2⟩ => ⟨h1, h2 ▸ Below.refl _ _⟩
    · exact is_wrap_other p a b ca cb ta tb w hne ha hb

theorem as2_missAny (x t a : Addr) (B : Nat) (w : World) (hBw : B ≤ w.heap.size) (err : Value) (h : err = .iface 146 (.pointer (some a)) ∨ ∃ p, err = .iface 110 (.agg #[.int .i64 p, .iface 146 (.pointer (some a))])) :
    Calls Tryd.prog 87 #[err, .iface 107 (.pointer (some t)), asV x, asT] w fun e w' => e = .returned (.bool false) ∧ Below B w w' := by
  rcases h with rfl | ⟨p, rfl⟩
  · exact as2_miss x t a B w hBw
  · exact as2_missL p x t a B w hBw

set_option maxHeartbeats 2000000 in
theorem errno_sent (aD aS aZ a : Addr) (err : Value) (n : Int) (w : World) (he : Env w aD aS aZ) (h : err = .iface 146 (.pointer (some a)) ∨ ∃ p, err = .iface 110 (.agg #[.int .i64 p, .iface 146 (.pointer (some a))]))
    (ha : a = aS ∧ n = 3 ∨ a = aD ∧ n = 4 ∨ a = aZ ∧ n = 1) :
    Calls Tryd.prog 63 #[err] w fun e w' => e = .returned (.int .i64 n) ∧ Below w.heap.size w w' := by
  have hv : ∃ T v, err = .iface T v := by rcases h with rfl | ⟨p, rfl⟩ <;> exact ⟨_, _, rfl⟩
  have H := errno_as aD aS aZ err false w he hv (fun x w' h1 h2 h3 => as2_missAny x _ a w.heap.size w' h1 err h)
  have H2 := Lib.hid H
  clear H
  have hba : ∀ w' : World, Env w' aD aS aZ → ∃ c t, w'.heap[a.block]? = some (.cells c t (0, 0)) := fun w' e' => by
    rcases ha with ⟨rfl, _⟩ | ⟨rfl, _⟩ | ⟨rfl, _⟩
    · exact e'.bS
    · exact e'.bD
    · exact e'.bZ
  obtain ⟨T, v, hv⟩ := hv
  have HH := Lib.hid h
  clear h
  subst hv
  have HA := Lib.hid hba
  have hE := Lib.hid he
  clear he hba
  have b0 : Below w.heap.size w (w.alloc (.cells #[.int .i64 0, .int .i64 0] 105)) := (Below.refl _ _).alloc (by omega) _
  rcases ha with ⟨ea, rfl⟩ | ⟨ea, rfl⟩ | ⟨ea, rfl⟩
  · have HN := Lib.hid ea
    clear ea
    go_enter Tryd.func63, Tryd.ntmps63
    go_wp2_with fail
    refine H2.out.mono ?_
    rintro e w1 ⟨rfl, hb1⟩
    have hE1 := Lib.hid (hE.out.keep (b0.trans hb1))
    have k1 := hE1.out.gS
    have k2 := hE1.out.gD
    go_wp2_with fail
    refine (is_any a aS w1 true _ HH.out (Or.inl ⟨rfl, HN.out⟩) (HA.out _ hE1.out) hE1.out.bS).mono ?_
    rintro e w2 ⟨rfl, hb2⟩
    go_wp2
    go_ret
    exact ⟨rfl, (b0.trans hb1).trans (hb2.mono (by have := hb1.size; simp at this; omega))⟩
  · have HN := Lib.hid ea
    clear ea
    go_enter Tryd.func63, Tryd.ntmps63
    go_wp2_with fail
    refine H2.out.mono ?_
    rintro e w1 ⟨rfl, hb1⟩
    have hE1 := Lib.hid (hE.out.keep (b0.trans hb1))
    have k1 := hE1.out.gS
    go_wp2_with fail
    refine (is_any a aS w1 false _ HH.out (Or.inr ⟨rfl, fun e => hE.out.nDS (HN.out ▸ e)⟩) (HA.out _ hE1.out) hE1.out.bS).mono ?_
    rintro e w2 ⟨rfl, hb2⟩
    have hE2 := Lib.hid (hE1.out.keep hb2)
    have k2 := hE2.out.gD
    clear k1
    go_wp2_with fail
    refine (is_any a aD w2 true _ HH.out (Or.inl ⟨rfl, HN.out⟩) (HA.out _ hE2.out) hE2.out.bD).mono ?_
    rintro e w3 ⟨rfl, hb3⟩
    go_wp2
    go_ret
    exact ⟨rfl, ((b0.trans hb1).trans (hb2.mono (by have := hb1.size; simp at this; omega))).trans (hb3.mono (by have := hb1.size; have := hb2.size; simp at *; omega))⟩
  · have HN := Lib.hid ea
    clear ea
    go_enter Tryd.func63, Tryd.ntmps63
    go_wp2_with fail
    refine H2.out.mono ?_
    rintro e w1 ⟨rfl, hb1⟩
    have hE1 := Lib.hid (hE.out.keep (b0.trans hb1))
    have k1 := hE1.out.gS
    go_wp2_with fail
    refine (is_any a aS w1 false _ HH.out (Or.inr ⟨rfl, fun e => hE.out.nSZ (e.symm.trans HN.out)⟩) (HA.out _ hE1.out) hE1.out.bS).mono ?_
    rintro e w2 ⟨rfl, hb2⟩
    have hE2 := Lib.hid (hE1.out.keep hb2)
    have k2 := hE2.out.gD
    clear k1
    go_wp2_with fail
    refine (is_any a aD w2 false _ HH.out (Or.inr ⟨rfl, fun e => hE.out.nDZ (e.symm.trans HN.out)⟩) (HA.out _ hE2.out) hE2.out.bD).mono ?_
    rintro e w3 ⟨rfl, hb3⟩
    go_wp2
    go_ret
    exact ⟨rfl, ((b0.trans hb1).trans (hb2.mono (by have := hb1.size; simp at this; omega))).trans (hb3.mono (by have := hb1.size; have := hb2.size; simp at *; omega))⟩

/-- errno, at every refusal that octet makes. -/
theorem errno_any (aD aS aZ : Addr) (v : Value) (n : Int) (w : World) (he : Env w aD aS aZ) (h : Refuses aD aS aZ v n) :
    Calls Tryd.prog 63 #[v] w fun e w' => e = .returned (.int .i64 n) ∧ Below w.heap.size w w' := by
  rcases h with ⟨a, b, rfl, rfl⟩ | ⟨a, rfl, ha⟩ | ⟨p, a, b, rfl, rfl⟩ | ⟨p, a, rfl, ha⟩
  · exact errno_excess aD aS aZ a b w he
  · exact errno_sent aD aS aZ a _ n w he (Or.inl rfl) ha
  · exact errno_excessL aD aS aZ p a b w he
  · exact errno_sent aD aS aZ a _ n w he (Or.inr ⟨p, rfl⟩) ha
end Go.Proofs.YtcdibcogboaikaaDoor
