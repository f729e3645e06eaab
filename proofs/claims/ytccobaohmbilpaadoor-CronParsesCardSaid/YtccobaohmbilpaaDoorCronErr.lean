/-
  errors.Is at a sentinel, by contracts. Conditions: the sentinels are pointers to blocks that are there.
-/
import Derived.Test.YtccobaohmbilpaaDoorProg
import Derived.WalkKit
import Derived.LaidEql
import Derived.Stop.Asserts
import Derived.RowKitTokens
import Derived.Lib.Hide
import Derived.Outline
namespace Go.Proofs.YtccobaohmbilpaaDoor
open Go.RowKit Go.Extern.Stop Go.Stop Go.Extern

theorem ef_typeOfE (v : Value) (w : World) : (ReflectliteType.typeOf #[.iface 131 v]).run Tryd.prog w = .ok (.iface 94 (.agg #[.pointer (some ⟨13, 131, none⟩)])) w := by kernel_rfl
theorem ef_noIs (v : Value) (xT : TypeId) (w : World) : (Instr.typeAssert (.iface 131 v) xT 96 true).run Tryd.prog w = .ok (.tuple #[.nilIface, .bool false]) w :=
  run_typeAssert_lacksB Tryd.underlying96 (by kernel_rfl) (by kernel_rfl) v xT w
theorem ef_noUnwrapE (v : Value) (xT : TypeId) (w : World) : (Instr.typeAssert (.iface 131 v) xT 99 true).run Tryd.prog w = .ok (.tuple #[.nilIface, .bool false]) w := run_typeAssert_lacksB Tryd.underlying99 (by kernel_rfl) (by kernel_rfl) v xT w
theorem ef_noUnwrapsE (v : Value) (xT : TypeId) (w : World) : (Instr.typeAssert (.iface 131 v) xT 101 true).run Tryd.prog w = .ok (.tuple #[.nilIface, .bool false]) w := run_typeAssert_lacksB Tryd.underlying101 (by kernel_rfl) (by kernel_rfl) v xT w
theorem ef_mComparable (v : Value) (w : World) : (Go.method 273 94 v "Comparable").run Tryd.prog w = .ok (106, v) w := by kernel_rfl
def cmpEntry : Array Value → Sem Value := ReflectliteType.method fun t => do Rtype.noPackHeld "Comparable" t; pure (.bool (← typeInfo t).comparable)
theorem ef_comparable (w : World) : (cmpEntry #[.agg #[.pointer (some ⟨13, 131, none⟩)]]).run Tryd.prog w = .ok (.bool true) w := by kernel_rfl
theorem ef_callComparable (args : Array Value) (w : World) : (callFunc 106 args).run Tryd.prog w = ((cmpEntry args).run Tryd.prog w).andThen fun v w' => .ok (.value v) w' :=
  @run_callFunc_extern Tryd.prog 106 _ cmpEntry Tryd.func106 (by kernel_rfl) (by kernel_rfl) (by kernel_rfl) (by kernel_rfl) args w
theorem ef_isComp : (Tryd.prog.info? 131).map (·.comparable) = some true := by kernel_rfl
theorem ef_isSize : (Tryd.prog.info? 133).map (·.size) = some 1 := by kernel_rfl

/-- A sentinel as a value. -/
abbrev errV (a : Addr) : Value := .iface 131 (.pointer (some a))
theorem is_same (a : Addr) (w : World) :
    Calls Tryd.prog 38 #[errV a, errV a] w fun e w' => e = .returned (.bool true) ∧ w = w' := by
  obtain ⟨i, hi, hcmp⟩ := Option.map_eq_some_iff.1 ef_isComp
  obtain ⟨j, hj, hjs⟩ := Option.map_eq_some_iff.1 ef_isSize
  have h8 := @run_callFunc_extern Tryd.prog 50 _ Extern.ReflectliteType.typeOf Tryd.func50 (by kernel_rfl) (by kernel_rfl) (by kernel_rfl) (by kernel_rfl)
  have h32 := ef_callComparable
  have tT := ef_typeOfE
  have cT := ef_comparable
  have mR := ef_mComparable
  have heq := run_eql_iface_ptr_same (P := Tryd.prog) w a Tryd.underlying50 Tryd.underlying131 hi hcmp hj
  go_enter Tryd.func38, Tryd.ntmps38
  go_wp2
  refine wp_loop_rounds 1 ?_
  rw [rounds_succ]
  go_wp2
  go_ret
  exact ⟨rfl, rfl⟩
theorem is_other (a b : Addr) (ca cb : Array Value) (ta tb : TypeId) (w : World) (hne : a ≠ b) (ha : w.heap[a.block]? = some (.cells ca ta (0, 0))) (hb : w.heap[b.block]? = some (.cells cb tb (0, 0))) :
    Calls Tryd.prog 38 #[errV a, errV b] w fun e w' => e = .returned (.bool false) ∧ w = w' := by
  obtain ⟨i, hi, hcmp⟩ := Option.map_eq_some_iff.1 ef_isComp
  obtain ⟨j, hj, hjs⟩ := Option.map_eq_some_iff.1 ef_isSize
  have h8 := @run_callFunc_extern Tryd.prog 50 _ Extern.ReflectliteType.typeOf Tryd.func50 (by kernel_rfl) (by kernel_rfl) (by kernel_rfl) (by kernel_rfl)
  have h32 := ef_callComparable
  have tT := ef_typeOfE
  have cT := ef_comparable
  have mR := ef_mComparable
  have nE := ef_noIs
  have uE := ef_noUnwrapE
  have vE := ef_noUnwrapsE
  have heq := run_eql_iface_ptr_other (P := Tryd.prog) w Tryd.underlying50 Tryd.underlying131 hi hcmp hj (by rw [hjs]; decide) hne ha hb
  go_enter Tryd.func38, Tryd.ntmps38
  go_wp2
  refine wp_loop_rounds 1 ?_
  rw [rounds_succ]
  go_wp2
  go_ret
  exact ⟨rfl, rfl⟩
set_option maxRecDepth 100000 in
theorem is_nil (a : Addr) (w : World) :
    Calls Tryd.prog 38 #[.nilIface, errV a] w fun e w' => e = .returned (.bool false) ∧ w = w' := by
  have heq := fun w => run_eql_iface_nil_left (P := Tryd.prog) w 131 (.pointer (some a)) Tryd.underlying50
  go_enter Tryd.func38, Tryd.ntmps38
  go_wp2_with fail
  go_ret
  exact ⟨rfl, rfl⟩
end Go.Proofs.YtccobaohmbilpaaDoor
