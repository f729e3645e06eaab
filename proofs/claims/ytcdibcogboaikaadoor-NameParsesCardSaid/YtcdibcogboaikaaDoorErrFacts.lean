/-
  errors.As at the target *octet.excess, errors.Is at a sentinel: closed facts on the translation's entries for reflectlite and on the method sets. Conditions: none.
-/
import Derived.Test.YtcdibcogboaikaaDoorProg
import Derived.WalkKit
import Derived.LaidEql
import Derived.Stop.Asserts
import Derived.RowKitTokens
import Derived.Lib.Hide
import Derived.Outline
namespace Go.Proofs.YtcdibcogboaikaaDoor
open Go.RowKit Go.Extern.Stop Go.Stop Go.Extern

theorem ef_valueOfP (t : Addr) (w : World) : (ReflectliteValue.unpack (.iface 107 (.pointer (some t)))).run Tryd.prog w
    = .ok (.agg #[.pointer (some ⟨8, 107, none⟩), .pointer (some ⟨w.heap.size, 0, none⟩), .int .u64 150]) (w.alloc (.cells #[.pointer (some t)] 107)) := by kernel_rfl
theorem ef_typeP (a : Addr) (w : World) : (ReflectliteValue.methodAny (ReflectliteValue.valueError "reflectlite.Value.Type" 0) (fun t _ _ _ => ReflectliteType.toType t) #[.agg #[.pointer (some ⟨8, 107, none⟩), .pointer (some a), .int .u64 150]]).run Tryd.prog w
    = .ok (.iface 131 (.agg #[.pointer (some ⟨8, 107, none⟩)])) w := by kernel_rfl
theorem ef_mKind (h : Value) (w : World) : (Go.method 277 131 (.agg #[h]) "Kind").run Tryd.prog w = .ok (108, h) w := by kernel_rfl
theorem ef_kindP (w : World) : ((ReflectliteType.abiMethod fun t => (fun a : Nat => Value.int IntKind.u8 (a : Int)) <$> Rtype.kind t) #[.pointer (some ⟨8, 107, none⟩)]).run Tryd.prog w = .ok (.int .u8 22) w := by kernel_rfl
theorem ef_kindX (w : World) : ((ReflectliteType.abiMethod fun t => (fun a : Nat => Value.int IntKind.u8 (a : Int)) <$> Rtype.kind t) #[.pointer (some ⟨8, 105, none⟩)]).run Tryd.prog w = .ok (.int .u8 25) w := by kernel_rfl
theorem ef_rlm (z : Sem Value) (f : TypeId → Addr → Nat → Nat → Sem Value) (v : Value) :
    ReflectliteValue.method z f #[v] = (do match ← ReflectliteValue.parts v with | none => z | some (t, a, fl) => f t a fl (fl % 32)) := rfl
theorem ef_partsP (a : Addr) (w : World) : (ReflectliteValue.parts (.agg #[.pointer (some ⟨8, 107, none⟩), .pointer (some a), .int .u64 150])).run Tryd.prog w = .ok (some (107, a, 150)) w := by kernel_rfl
theorem ef_isNilP (a p : Addr) (W : World) (ha : W.cell? a = some (.pointer (some p))) :
    (ReflectliteValue.method (ReflectliteValue.valueError "reflectlite.Value.IsNil" 0) ReflectliteValue.isNil #[.agg #[.pointer (some ⟨8, 107, none⟩), .pointer (some a), .int .u64 150]]).run Tryd.prog W = .ok (.bool false) W := by
  rw [ef_rlm]
  simp only [Sem.run_bind, ef_partsP, Result.andThen]
  simp [ReflectliteValue.isNil, loadVar, isAgg, underlying, Tryd.underlying107, ha, Result.andThen]
theorem ef_mElem (h : Value) (w : World) : (Go.method 277 131 (.agg #[h]) "Elem").run Tryd.prog w = .ok (121, .agg #[h]) w := by kernel_rfl
theorem ef_mImplements (h : Value) (w : World) : (Go.method 277 131 (.agg #[h]) "Implements").run Tryd.prog w = .ok (122, .agg #[h]) w := by kernel_rfl
theorem ef_mAssignable (h : Value) (w : World) : (Go.method 277 131 (.agg #[h]) "AssignableTo").run Tryd.prog w = .ok (119, .agg #[h]) w := by kernel_rfl
theorem ef_elemP (w : World) : (ReflectliteType.method ReflectliteType.elem #[.agg #[.pointer (some ⟨8, 107, none⟩)]]).run Tryd.prog w = .ok (.iface 131 (.agg #[.pointer (some ⟨8, 105, none⟩)])) w := by kernel_rfl
theorem ef_implX (w : World) : (ReflectliteType.relation "Implements" ReflectliteType.implements_ #[.agg #[.pointer (some ⟨8, 105, none⟩)], .iface 131 (.agg #[.pointer (some ⟨8, 60, none⟩)])]).run Tryd.prog w = .ok (.bool true) w := by kernel_rfl
theorem ef_typeOfX (v : Value) (w : World) : (ReflectliteType.typeOf #[.iface 105 v]).run Tryd.prog w = .ok (.iface 131 (.agg #[.pointer (some ⟨8, 105, none⟩)])) w := by kernel_rfl
theorem ef_typeOfL (v : Value) (w : World) : (ReflectliteType.typeOf #[.iface 110 v]).run Tryd.prog w = .ok (.iface 131 (.agg #[.pointer (some ⟨8, 110, none⟩)])) w := by kernel_rfl
theorem ef_typeOfE (v : Value) (w : World) : (ReflectliteType.typeOf #[.iface 146 v]).run Tryd.prog w = .ok (.iface 131 (.agg #[.pointer (some ⟨8, 146, none⟩)])) w := by kernel_rfl
theorem ef_assX (w : World) : (ReflectliteType.relation "AssignableTo" ReflectliteType.assignableTo #[.agg #[.pointer (some ⟨8, 105, none⟩)], .iface 131 (.agg #[.pointer (some ⟨8, 105, none⟩)])]).run Tryd.prog w = .ok (.bool true) w := by kernel_rfl
theorem ef_assL (w : World) : (ReflectliteType.relation "AssignableTo" ReflectliteType.assignableTo #[.agg #[.pointer (some ⟨8, 110, none⟩)], .iface 131 (.agg #[.pointer (some ⟨8, 105, none⟩)])]).run Tryd.prog w = .ok (.bool false) w := by kernel_rfl
theorem ef_assE (w : World) : (ReflectliteType.relation "AssignableTo" ReflectliteType.assignableTo #[.agg #[.pointer (some ⟨8, 146, none⟩)], .iface 131 (.agg #[.pointer (some ⟨8, 105, none⟩)])]).run Tryd.prog w = .ok (.bool false) w := by kernel_rfl
theorem ef_valueOfX (a b : Int) (w : World) : (ReflectliteValue.unpack (.iface 105 (.agg #[.int .i64 a, .int .i64 b]))).run Tryd.prog w
    = .ok (.agg #[.pointer (some ⟨8, 105, none⟩), .pointer (some ⟨w.heap.size, 0, none⟩), .int .u64 153]) (w.alloc (.cells #[.int .i64 a, .int .i64 b] 105)) := by kernel_rfl
theorem ef_elemOfP (w : World) : (Rtype.elem? 107).run Tryd.prog w = .ok (some 105) w := by kernel_rfl
theorem ef_mkX (p : Addr) (w : World) : (ReflectliteValue.mk 105 p ReflectliteValue.flagAddr).run Tryd.prog w = .ok (.agg #[.pointer (some ⟨8, 105, none⟩), .pointer (some p), .int .u64 409]) w := by kernel_rfl
theorem ef_elemVP (a p : Addr) (W : World) (ha : W.cell? a = some (.pointer (some p))) :
    (ReflectliteValue.method (ReflectliteValue.valueError "reflectlite.Value.Elem" 0) ReflectliteValue.elem #[.agg #[.pointer (some ⟨8, 107, none⟩), .pointer (some a), .int .u64 150]]).run Tryd.prog W
      = .ok (.agg #[.pointer (some ⟨8, 105, none⟩), .pointer (some p), .int .u64 409]) W := by
  rw [ef_rlm]
  simp only [Sem.run_bind, ef_partsP, Result.andThen]
  simp [ReflectliteValue.elem, loadVar, isAgg, underlying, Tryd.underlying107, ha, Result.andThen, ef_elemOfP, ef_mkX]
theorem ef_rls (v x : Value) : ReflectliteValue.set #[v, x] = (do
    let (some (dst, a, fl), some (src, b, _)) := (← ReflectliteValue.parts v, ← ReflectliteValue.parts x)
      | unsupported (.noEntry "extern/(internal/reflectlite.Value).Set.zeroValue")
    if fl / ReflectliteValue.flagAddr % 2 == 0 then unsupported (.noEntry "extern/(internal/reflectlite.Value).Set.unaddressable")
    let val ← loadVar src b
    if ← Rtype.directlyAssignable dst src then storeVar dst a val
    else if ← Rtype.implements dst src then
      if (← Rtype.kind src) == 20 then
        match val with
        | .nilIface => unsupported (.noEntry "extern/reflectlite: a nil value of one interface type handed on as a value of another")
        | _ => storeVar dst a val
      else storeVar dst a (.iface src val)
    else panicString ("reflectlite.Set: value of type " ++ (← Rtype.spelt src) ++ " is not assignable to type " ++ (← Rtype.spelt dst))
    pure (.tuple #[])) := rfl
theorem ef_partsXa (a : Addr) (w : World) : (ReflectliteValue.parts (.agg #[.pointer (some ⟨8, 105, none⟩), .pointer (some a), .int .u64 409])).run Tryd.prog w = .ok (some (105, a, 409)) w := by kernel_rfl
theorem ef_partsX (a : Addr) (w : World) : (ReflectliteValue.parts (.agg #[.pointer (some ⟨8, 105, none⟩), .pointer (some a), .int .u64 153])).run Tryd.prog w = .ok (some (105, a, 153)) w := by kernel_rfl
theorem ef_directX (w : World) : (Rtype.directlyAssignable 105 105).run Tryd.prog w = .ok true w := by kernel_rfl
theorem ef_size (w : World) : (sizeOf 105).run Tryd.prog w = .ok 2 w := by kernel_rfl

theorem ef_noAs (T : TypeId) (v : Value) (xT : TypeId) (hT : T = 110 ∨ T = 146) (w : World) : (Instr.typeAssert (.iface T v) xT 135 true).run Tryd.prog w = .ok (.tuple #[.nilIface, .bool false]) w := by
  rcases hT with rfl | rfl
  · exact run_typeAssert_lacksB Tryd.underlying135 (by kernel_rfl) (by kernel_rfl) v xT w
  · exact run_typeAssert_lacksB Tryd.underlying135 (by kernel_rfl) (by kernel_rfl) v xT w
theorem ef_noIs (T : TypeId) (v : Value) (xT : TypeId) (hT : T = 110 ∨ T = 146) (w : World) : (Instr.typeAssert (.iface T v) xT 143 true).run Tryd.prog w = .ok (.tuple #[.nilIface, .bool false]) w := by
  rcases hT with rfl | rfl
  · exact run_typeAssert_lacksB Tryd.underlying143 (by kernel_rfl) (by kernel_rfl) v xT w
  · exact run_typeAssert_lacksB Tryd.underlying143 (by kernel_rfl) (by kernel_rfl) v xT w
theorem ef_noUnwrapE (v : Value) (xT : TypeId) (w : World) : (Instr.typeAssert (.iface 146 v) xT 138 true).run Tryd.prog w = .ok (.tuple #[.nilIface, .bool false]) w := run_typeAssert_lacksB Tryd.underlying138 (by kernel_rfl) (by kernel_rfl) v xT w
theorem ef_noUnwrapsE (v : Value) (xT : TypeId) (w : World) : (Instr.typeAssert (.iface 146 v) xT 140 true).run Tryd.prog w = .ok (.tuple #[.nilIface, .bool false]) w := run_typeAssert_lacksB Tryd.underlying140 (by kernel_rfl) (by kernel_rfl) v xT w
theorem ef_hasUnwrapL (v : Value) (xT : TypeId) (w : World) : (Instr.typeAssert (.iface 110 v) xT 138 true).run Tryd.prog w = .ok (.tuple #[.iface 110 v, .bool true]) w := run_typeAssert_hasB Tryd.underlying138 (by kernel_rfl) v xT w
theorem ef_mUnwrap (v : Value) (w : World) : (Go.method 277 110 v "Unwrap").run Tryd.prog w = .ok (114, v) w := by kernel_rfl
theorem ef_mComparable (v : Value) (w : World) : (Go.method 277 131 v "Comparable").run Tryd.prog w = .ok (120, v) w := by kernel_rfl
def cmpEntry : Array Value → Sem Value := ReflectliteType.method fun t => do Rtype.noPackHeld "Comparable" t; pure (.bool (← typeInfo t).comparable)
theorem ef_comparable (w : World) : (cmpEntry #[.agg #[.pointer (some ⟨8, 146, none⟩)]]).run Tryd.prog w = .ok (.bool true) w := by kernel_rfl
theorem ef_callComparable (args : Array Value) (w : World) : (callFunc 120 args).run Tryd.prog w = ((cmpEntry args).run Tryd.prog w).andThen fun v w' => .ok (.value v) w' :=
  @run_callFunc_extern Tryd.prog 120 _ cmpEntry Tryd.func120 (by kernel_rfl) (by kernel_rfl) (by kernel_rfl) (by kernel_rfl) args w
theorem ef_isComp : (Tryd.prog.info? 146).map (·.comparable) = some true := by kernel_rfl
theorem ef_isSize : (Tryd.prog.info? 165).map (·.size) = some 1 := by kernel_rfl
end Go.Proofs.YtcdibcogboaikaaDoor
