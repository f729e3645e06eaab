/-
  Plain functions on rows of bytes: digits, numbers in bytes, bound texts. Conditions: none. It names nothing of the translation.
  What the program's table says of strings. Conditions: none.
  errors.As at the target *octet.excess, errors.Is at a sentinel: closed facts on the translation's entries for reflectlite and on the method sets. Conditions: none.
  What octet's errno answers for each shape of refusal that the package makes: errors.As and errors.Is by contracts. Conditions: the package-level errors lie where they lie.
  octet's errno, by contracts of errors.As and errors.Is. Conditions: the package-level errors lie where they lie.
  Plain functions on rows of bytes: bound texts, and taking them apart. Conditions: none.
-/
import Derived.RowKit
import Derived.Test.YtepcaglekgeamaaGreatDoorChecked
import Derived.Test.YtepcaglekgeamaaGreatDoorProg
import Derived.WalkKit
import Derived.LaidEql
import Derived.Stop.Asserts
import Derived.RowKitTokens
import Derived.Lib.Hide
import Derived.Outline
namespace Go.Proofs.YtepcaglekgeamaaGreatDoor

def hexDig (n : Nat) : UInt8 := if n < 10 then UInt8.ofNat (48 + n) else UInt8.ofNat (87 + n)

def hexL : List UInt8 → List UInt8
  | [] => []
  | c :: r => hexDig (c.toNat / 16) :: hexDig (c.toNat % 16) :: hexL r

theorem hexL_append (a b : List UInt8) : hexL (a ++ b) = hexL a ++ hexL b := by
  induction a with
  | nil => rfl
  | cons c r ih => simp [hexL, ih]

theorem hexL_length (a : List UInt8) : (hexL a).length = 2 * a.length := by
  induction a with
  | nil => rfl
  | cons c r ih => simp [hexL, ih]; omega

def wideL (n k : Nat) : List UInt8 := (List.range k).map fun i => UInt8.ofNat (n / 256 ^ i % 256)

theorem wideL_length (n k : Nat) : (wideL n k).length = k := by simp [wideL]

theorem wideL_succ (n k : Nat) : wideL n (k + 1) = wideL n k ++ [UInt8.ofNat (n / 256 ^ k % 256)] := by simp [wideL, List.range_succ]

def halfB (c : UInt8) : Option Nat := if 48 ≤ c.toNat ∧ c.toNat ≤ 57 then some (c.toNat - 48) else if 97 ≤ c.toNat ∧ c.toNat ≤ 102 then some (c.toNat - 87) else none

theorem halfB_lt {c : UInt8} {x : Nat} (h : halfB c = some x) : x < 16 := by
  unfold halfB at h
  split at h
  · simp at h; omega
  · split at h
    · simp at h; omega
    · cases h

def unhexL : List UInt8 → Option (List UInt8)
  | [] => some []
  | [_] => none
  | a :: b :: r => match halfB a, halfB b, unhexL r with
    | some x, some y, some l => some (UInt8.ofNat (16 * x + y) :: l)
    | _, _, _ => none

theorem unhexL_odd : ∀ (l : List UInt8), l.length % 2 = 1 → unhexL l = none
  | [], h => by simp at h
  | [_], _ => rfl
  | a :: b :: r, h => by
    have ih := unhexL_odd r (by simp at h; omega)
    simp [unhexL, ih]

def joinHex (acc : List UInt8) (a b : Option Nat) (q : Option (List UInt8)) : Option (List UInt8) := match a, b, q with
  | some x, some y, some l => some (acc ++ UInt8.ofNat (16 * x + y) :: l)
  | _, _, _ => none

theorem unhexL_step : ∀ (p : List UInt8) (a b : UInt8) (q acc : List UInt8), unhexL p = some acc →
    unhexL (p ++ a :: b :: q) = joinHex acc (halfB a) (halfB b) (unhexL q)
  | [], a, b, q, acc, h => by
    simp [unhexL] at h; subst h; rfl
  | [_], a, b, q, acc, h => by simp [unhexL] at h
  | c :: d :: r, a, b, q, acc, h => by
    cases hc : halfB c with
    | none => simp [unhexL, hc] at h
    | some x =>
      cases hd : halfB d with
      | none => simp [unhexL, hd] at h
      | some y =>
        cases hr : unhexL r with
        | none => simp [unhexL, hr] at h
        | some l =>
          simp only [unhexL, hc, hd, hr, Option.some.injEq] at h
          subst h
          have ih := unhexL_step r a b q l hr
          simp only [List.cons_append, unhexL, hc, hd, ih]
          cases halfB a <;> cases halfB b <;> cases unhexL q <;> rfl

theorem unhexL_hexL : ∀ l : List UInt8, unhexL (hexL l) = some l
  | [] => rfl
  | c :: r => by
    have ih := unhexL_hexL r
    have h : ∀ m : Fin 16, halfB (hexDig m.1) = some m.1 := by decide
    have hc := c.toNat_lt
    have h1 := h ⟨c.toNat / 16, by omega⟩
    have h2 := h ⟨c.toNat % 16, by omega⟩
    simp only at h1 h2
    have e : UInt8.ofNat (16 * (c.toNat / 16) + c.toNat % 16) = c := by
      rw [Nat.div_add_mod]; simp
    show (match halfB (hexDig (c.toNat / 16)), halfB (hexDig (c.toNat % 16)), unhexL (hexL r) with
      | some x, some y, some l => some (UInt8.ofNat (16 * x + y) :: l)
      | _, _, _ => none) = _
    rw [h1, h2, ih]
    simp only [e]
end Go.Proofs.YtepcaglekgeamaaGreatDoor
namespace Go.Proofs.YtepcaglekgeamaaGreatDoor

theorem infoStr : (Tryz.prog.info? 9).map (fun i => (i.zero, i.size, i.bytes)) = some (some (.string ⟨#[]⟩), 1, 16) := by kernel_rfl
end Go.Proofs.YtepcaglekgeamaaGreatDoor
namespace Go.Proofs.YtepcaglekgeamaaGreatDoor
open Go.RowKit Go.Extern.Stop Go.Stop Go.Extern

theorem ef_valueOfP (t : Addr) (w : World) : (ReflectliteValue.unpack (.iface 160 (.pointer (some t)))).run Tryz.prog w
    = .ok (.agg #[.pointer (some ⟨13, 160, none⟩), .pointer (some ⟨w.heap.size, 0, none⟩), .int .u64 150]) (w.alloc (.cells #[.pointer (some t)] 160)) := by kernel_rfl

theorem ef_typeP (a : Addr) (w : World) : (ReflectliteValue.methodAny (ReflectliteValue.valueError "reflectlite.Value.Type" 0) (fun t _ _ _ => ReflectliteType.toType t) #[.agg #[.pointer (some ⟨13, 160, none⟩), .pointer (some a), .int .u64 150]]).run Tryz.prog w
    = .ok (.iface 198 (.agg #[.pointer (some ⟨13, 160, none⟩)])) w := by kernel_rfl

theorem ef_mKind (h : Value) (w : World) : (Go.method 382 198 (.agg #[h]) "Kind").run Tryz.prog w = .ok (212, h) w := by kernel_rfl

theorem ef_kindP (w : World) : ((ReflectliteType.abiMethod fun t => (fun a : Nat => Value.int IntKind.u8 (a : Int)) <$> Rtype.kind t) #[.pointer (some ⟨13, 160, none⟩)]).run Tryz.prog w = .ok (.int .u8 22) w := by kernel_rfl

theorem ef_kindX (w : World) : ((ReflectliteType.abiMethod fun t => (fun a : Nat => Value.int IntKind.u8 (a : Int)) <$> Rtype.kind t) #[.pointer (some ⟨13, 158, none⟩)]).run Tryz.prog w = .ok (.int .u8 25) w := by kernel_rfl

theorem ef_rlm (z : Sem Value) (f : TypeId → Addr → Nat → Nat → Sem Value) (v : Value) :
    ReflectliteValue.method z f #[v] = (do match ← ReflectliteValue.parts v with | none => z | some (t, a, fl) => f t a fl (fl % 32)) := rfl

theorem ef_partsP (a : Addr) (w : World) : (ReflectliteValue.parts (.agg #[.pointer (some ⟨13, 160, none⟩), .pointer (some a), .int .u64 150])).run Tryz.prog w = .ok (some (160, a, 150)) w := by kernel_rfl

theorem ef_isNilP (a p : Addr) (W : World) (ha : W.cell? a = some (.pointer (some p))) :
    (ReflectliteValue.method (ReflectliteValue.valueError "reflectlite.Value.IsNil" 0) ReflectliteValue.isNil #[.agg #[.pointer (some ⟨13, 160, none⟩), .pointer (some a), .int .u64 150]]).run Tryz.prog W = .ok (.bool false) W := by
  rw [ef_rlm]
  simp only [Sem.run_bind, ef_partsP, Result.andThen]
  simp [ReflectliteValue.isNil, loadVar, isAgg, underlying, Tryz.underlying160, ha, Result.andThen]

theorem ef_mElem (h : Value) (w : World) : (Go.method 382 198 (.agg #[h]) "Elem").run Tryz.prog w = .ok (225, .agg #[h]) w := by kernel_rfl

theorem ef_mImplements (h : Value) (w : World) : (Go.method 382 198 (.agg #[h]) "Implements").run Tryz.prog w = .ok (226, .agg #[h]) w := by kernel_rfl

theorem ef_mAssignable (h : Value) (w : World) : (Go.method 382 198 (.agg #[h]) "AssignableTo").run Tryz.prog w = .ok (223, .agg #[h]) w := by kernel_rfl

theorem ef_elemP (w : World) : (ReflectliteType.method ReflectliteType.elem #[.agg #[.pointer (some ⟨13, 160, none⟩)]]).run Tryz.prog w = .ok (.iface 198 (.agg #[.pointer (some ⟨13, 158, none⟩)])) w := by kernel_rfl

theorem ef_implX (w : World) : (ReflectliteType.relation "Implements" ReflectliteType.implements_ #[.agg #[.pointer (some ⟨13, 158, none⟩)], .iface 198 (.agg #[.pointer (some ⟨13, 110, none⟩)])]).run Tryz.prog w = .ok (.bool true) w := by kernel_rfl

theorem ef_typeOfX (v : Value) (w : World) : (ReflectliteType.typeOf #[.iface 158 v]).run Tryz.prog w = .ok (.iface 198 (.agg #[.pointer (some ⟨13, 158, none⟩)])) w := by kernel_rfl

theorem ef_typeOfL (v : Value) (w : World) : (ReflectliteType.typeOf #[.iface 174 v]).run Tryz.prog w = .ok (.iface 198 (.agg #[.pointer (some ⟨13, 174, none⟩)])) w := by kernel_rfl

theorem ef_typeOfE (v : Value) (w : World) : (ReflectliteType.typeOf #[.iface 253 v]).run Tryz.prog w = .ok (.iface 198 (.agg #[.pointer (some ⟨13, 253, none⟩)])) w := by kernel_rfl

theorem ef_assX (w : World) : (ReflectliteType.relation "AssignableTo" ReflectliteType.assignableTo #[.agg #[.pointer (some ⟨13, 158, none⟩)], .iface 198 (.agg #[.pointer (some ⟨13, 158, none⟩)])]).run Tryz.prog w = .ok (.bool true) w := by kernel_rfl

theorem ef_assL (w : World) : (ReflectliteType.relation "AssignableTo" ReflectliteType.assignableTo #[.agg #[.pointer (some ⟨13, 174, none⟩)], .iface 198 (.agg #[.pointer (some ⟨13, 158, none⟩)])]).run Tryz.prog w = .ok (.bool false) w := by kernel_rfl

theorem ef_assE (w : World) : (ReflectliteType.relation "AssignableTo" ReflectliteType.assignableTo #[.agg #[.pointer (some ⟨13, 253, none⟩)], .iface 198 (.agg #[.pointer (some ⟨13, 158, none⟩)])]).run Tryz.prog w = .ok (.bool false) w := by kernel_rfl

theorem ef_valueOfX (a b : Int) (w : World) : (ReflectliteValue.unpack (.iface 158 (.agg #[.int .i64 a, .int .i64 b]))).run Tryz.prog w
    = .ok (.agg #[.pointer (some ⟨13, 158, none⟩), .pointer (some ⟨w.heap.size, 0, none⟩), .int .u64 153]) (w.alloc (.cells #[.int .i64 a, .int .i64 b] 158)) := by kernel_rfl

theorem ef_elemOfP (w : World) : (Rtype.elem? 160).run Tryz.prog w = .ok (some 158) w := by kernel_rfl

theorem ef_mkX (p : Addr) (w : World) : (ReflectliteValue.mk 158 p ReflectliteValue.flagAddr).run Tryz.prog w = .ok (.agg #[.pointer (some ⟨13, 158, none⟩), .pointer (some p), .int .u64 409]) w := by kernel_rfl

theorem ef_elemVP (a p : Addr) (W : World) (ha : W.cell? a = some (.pointer (some p))) :
    (ReflectliteValue.method (ReflectliteValue.valueError "reflectlite.Value.Elem" 0) ReflectliteValue.elem #[.agg #[.pointer (some ⟨13, 160, none⟩), .pointer (some a), .int .u64 150]]).run Tryz.prog W
      = .ok (.agg #[.pointer (some ⟨13, 158, none⟩), .pointer (some p), .int .u64 409]) W := by
  rw [ef_rlm]
  simp only [Sem.run_bind, ef_partsP, Result.andThen]
  simp [ReflectliteValue.elem, loadVar, isAgg, underlying, Tryz.underlying160, ha, Result.andThen, ef_elemOfP, ef_mkX]

theorem ef_rls (v x : Value) : ReflectliteValue.set #[v, x] = (do
    let (some (dst, a, fl), some (src, b, _)) := (← ReflectliteValue.parts v, ← ReflectliteValue.parts x)
      | unsupported (.noEntry "extern/(internal/reflectlite.Value).Set.zeroValue")
    if fl / ReflectliteValue.flagAddr % 2 == 0 then unsupported (.noEntry "extern/(internal/reflectlite.Value).Set.unaddressable")
    let val ← loadVar src b
    if ← Rtype.directlyAssignable dst src then storeVar dst a val
    else if ← Rtype.implements dst src then
      if (← Rtype.kind src) == 20 then
        match val with
        | .nilIface => unsupported (.noEntry "extern/reflectlite: a nil value of one interface type handed on as a value of another")
        | _ => storeVar dst a val
      else storeVar dst a (.iface src val)
    else panicString ("reflectlite.Set: value of type " ++ (← Rtype.spelt src) ++ " is not assignable to type " ++ (← Rtype.spelt dst))
    pure (.tuple #[])) := rfl

theorem ef_partsXa (a : Addr) (w : World) : (ReflectliteValue.parts (.agg #[.pointer (some ⟨13, 158, none⟩), .pointer (some a), .int .u64 409])).run Tryz.prog w = .ok (some (158, a, 409)) w := by kernel_rfl

theorem ef_partsX (a : Addr) (w : World) : (ReflectliteValue.parts (.agg #[.pointer (some ⟨13, 158, none⟩), .pointer (some a), .int .u64 153])).run Tryz.prog w = .ok (some (158, a, 153)) w := by kernel_rfl

theorem ef_directX (w : World) : (Rtype.directlyAssignable 158 158).run Tryz.prog w = .ok true w := by kernel_rfl

theorem ef_noAs (T : TypeId) (v : Value) (xT : TypeId) (hT : T = 174 ∨ T = 253) (w : World) : (Instr.typeAssert (.iface T v) xT 202 true).run Tryz.prog w = .ok (.tuple #[.nilIface, .bool false]) w := by
  rcases hT with rfl | rfl
  · exact run_typeAssert_lacksB Tryz.underlying202 (by kernel_rfl) (by kernel_rfl) v xT w
  · exact run_typeAssert_lacksB Tryz.underlying202 (by kernel_rfl) (by kernel_rfl) v xT w

theorem ef_noIs (T : TypeId) (v : Value) (xT : TypeId) (hT : T = 174 ∨ T = 253) (w : World) : (Instr.typeAssert (.iface T v) xT 210 true).run Tryz.prog w = .ok (.tuple #[.nilIface, .bool false]) w := by
  rcases hT with rfl | rfl
  · exact run_typeAssert_lacksB Tryz.underlying210 (by kernel_rfl) (by kernel_rfl) v xT w
  · exact run_typeAssert_lacksB Tryz.underlying210 (by kernel_rfl) (by kernel_rfl) v xT w

theorem ef_noUnwrapE (v : Value) (xT : TypeId) (w : World) : (Instr.typeAssert (.iface 253 v) xT 205 true).run Tryz.prog w = .ok (.tuple #[.nilIface, .bool false]) w := run_typeAssert_lacksB Tryz.underlying205 (by kernel_rfl) (by kernel_rfl) v xT w

theorem ef_noUnwrapsE (v : Value) (xT : TypeId) (w : World) : (Instr.typeAssert (.iface 253 v) xT 207 true).run Tryz.prog w = .ok (.tuple #[.nilIface, .bool false]) w := run_typeAssert_lacksB Tryz.underlying207 (by kernel_rfl) (by kernel_rfl) v xT w

theorem ef_hasUnwrapL (v : Value) (xT : TypeId) (w : World) : (Instr.typeAssert (.iface 174 v) xT 205 true).run Tryz.prog w = .ok (.tuple #[.iface 174 v, .bool true]) w := run_typeAssert_hasB Tryz.underlying205 (by kernel_rfl) v xT w

theorem ef_mUnwrap (v : Value) (w : World) : (Go.method 382 174 v "Unwrap").run Tryz.prog w = .ok (218, v) w := by kernel_rfl

theorem ef_mComparable (v : Value) (w : World) : (Go.method 382 198 v "Comparable").run Tryz.prog w = .ok (224, v) w := by kernel_rfl

def cmpEntry : Array Value → Sem Value := ReflectliteType.method fun t => do Rtype.noPackHeld "Comparable" t; pure (.bool (← typeInfo t).comparable)

theorem ef_comparable (w : World) : (cmpEntry #[.agg #[.pointer (some ⟨13, 253, none⟩)]]).run Tryz.prog w = .ok (.bool true) w := by kernel_rfl

theorem ef_callComparable (args : Array Value) (w : World) : (callFunc 224 args).run Tryz.prog w = ((cmpEntry args).run Tryz.prog w).andThen fun v w' => .ok (.value v) w' :=
  @run_callFunc_extern Tryz.prog 224 _ cmpEntry Tryz.func224 (by kernel_rfl) (by kernel_rfl) (by kernel_rfl) (by kernel_rfl) args w

theorem ef_isComp : (Tryz.prog.info? 253).map (·.comparable) = some true := by kernel_rfl

theorem ef_isSize : (Tryz.prog.info? 255).map (·.size) = some 1 := by kernel_rfl
end Go.Proofs.YtepcaglekgeamaaGreatDoor
namespace Go.Proofs.YtepcaglekgeamaaGreatDoor
open Go.RowKit Go.Extern.Stop Go.Stop Go.Extern

theorem ef_set (tb : Nat) (b : Addr) (x0 x1 : Int) (o0 o1 : Value) (W : World) (hb0 : W.cell? b = some (.int .i64 x0)) (hb1 : W.cell? (b.add 1) = some (.int .i64 x1)) (h0 : W.cell? ⟨tb, 0, none⟩ = some o0) (h1 : W.cell? ⟨tb, 1, none⟩ = some o1) (f0 : W.frozen? ⟨tb, 0, none⟩ = false) (f1 : W.frozen? ⟨tb, 1, none⟩ = false) :
    (ReflectliteValue.set #[.agg #[.pointer (some ⟨13, 158, none⟩), .pointer (some ⟨tb, 0, none⟩), .int .u64 409], .agg #[.pointer (some ⟨13, 158, none⟩), .pointer (some b), .int .u64 153]]).run Tryz.prog W
      = .ok (.tuple #[]) ((W.setCell ⟨tb, 0, none⟩ (.int .i64 x0)).setCell ⟨tb, 1, none⟩ (.int .i64 x1)) := by
  rw [ef_rls]
  simp only [Sem.run_bind, ef_partsXa, ef_partsX, Result.andThen]
  have ha : ∀ w, (isAgg 158).run Tryz.prog w = .ok true w := Tryz.isAgg158
  have hl : (loadCells b 2).run Tryz.prog W = .ok #[.int .i64 x0, .int .i64 x1] W := run_loadCells_list (P := Tryz.prog) W b [.int .i64 x0, .int .i64 x1] (by
    intro j v hj
    match j, hj with
    | 0, hj => simp at hj; subst hj; simpa [Addr.add] using hb0
    | 1, hj => simp at hj; subst hj; exact hb1
    | j + 2, hj => simp at hj)
  simp [ReflectliteValue.flagAddr, loadVar, ha, hl, Result.andThen, ef_directX, storeVar, Value.cells, storeCells]
  rw [run_store Tryz.prog W _ _ _ (by rfl)]
  simp [h0, f0, Addr.add]
  rw [run_store Tryz.prog _ _ _ _ (by rfl)]
  rw [World.cell?_setCell_other _ _ _ _ (by simp)]
  simp [h1, f1]

abbrev asV (a : Addr) : Value := .agg #[.pointer (some ⟨13, 160, none⟩), .pointer (some a), .int .u64 150]

abbrev asT : Value := .iface 198 (.agg #[.pointer (some ⟨13, 158, none⟩)])

set_option maxHeartbeats 4000000 in
theorem as2_hit (a : Addr) (tb : Nat) (x0 x1 : Int) (B : Nat) (w : World) (hB : B ≤ tb) (hBw : B ≤ w.heap.size) (ha : w.cell? a = some (.pointer (some ⟨tb, 0, none⟩))) (ht : w.heap[tb]? = some (.cells #[.int .i64 0, .int .i64 0] 158 (0, 0))) :
    Calls Tryz.prog 138 #[.iface 158 (.agg #[.int .i64 x0, .int .i64 x1]), .iface 160 (.pointer (some ⟨tb, 0, none⟩)), asV a, asT] w fun e w' => e = .returned (.bool true) ∧ Below B w w' := by
  have h6 := @run_callFunc_extern Tryz.prog 135 _ (fun args => ReflectliteValue.unpack (args.getD 0 (.tuple #[]))) Tryz.func135 (by kernel_rfl) (by kernel_rfl) (by kernel_rfl) (by kernel_rfl)
  have h10 := @run_callFunc_extern Tryz.prog 139 _ ReflectliteType.typeOf Tryz.func139 (by kernel_rfl) (by kernel_rfl) (by kernel_rfl) (by kernel_rfl)
  have h35 := @run_callFunc_extern Tryz.prog 223 _ (ReflectliteType.relation "AssignableTo" ReflectliteType.assignableTo) Tryz.func223 (by kernel_rfl) (by kernel_rfl) (by kernel_rfl) (by kernel_rfl)
  have h11 := @run_callFunc_extern Tryz.prog 152 _ (ReflectliteValue.method (ReflectliteValue.valueError "reflectlite.Value.Elem" 0) ReflectliteValue.elem) Tryz.func152 (by kernel_rfl) (by kernel_rfl) (by kernel_rfl) (by kernel_rfl)
  have h12 := @run_callFunc_extern Tryz.prog 153 _ ReflectliteValue.set Tryz.func153 (by kernel_rfl) (by kernel_rfl) (by kernel_rfl) (by kernel_rfl)
  have tO := ef_typeOfX
  have mA := ef_mAssignable
  have aX := ef_assX
  have vX := ef_valueOfX x0 x1
  have hlt : tb < w.heap.size := (Array.getElem?_eq_some_iff.1 ht).1
  have hal : a.block < w.heap.size := World.block_lt_of_cell? _ _ ha
  have w1a : ∀ o, (w.alloc o).cell? a = some (.pointer (some ⟨tb, 0, none⟩)) := fun o => by rw [World.cell?_alloc_lt _ _ a hal]; exact ha
  have el := fun o => ef_elemVP a ⟨tb, 0, none⟩ (w.alloc o) (w1a o)
  have ht2 : ∀ o o', ((w.alloc o).alloc o').heap[tb]? = some (.cells #[.int .i64 0, .int .i64 0] 158 (0, 0)) := fun o o' => by
    rw [Below.heap_alloc _ _ _ (by simp; omega), Below.heap_alloc _ _ _ hlt]; exact ht
  have c0 : ∀ o o', ((w.alloc o).alloc o').cell? ⟨tb, 0, none⟩ = some (.int .i64 0) := fun o o' => by simp [World.cell?, ht2]
  have c1 : ∀ o o', ((w.alloc o).alloc o').cell? ⟨tb, 1, none⟩ = some (.int .i64 0) := fun o o' => by simp [World.cell?, ht2]
  have z0 : ∀ o o', ((w.alloc o).alloc o').frozen? ⟨tb, 0, none⟩ = false := fun o o' => by simp [World.frozen?, ht2]
  have z1 : ∀ o o', ((w.alloc o).alloc o').frozen? ⟨tb, 1, none⟩ = false := fun o o' => by simp [World.frozen?, ht2]
  have st := fun o => ef_set tb ⟨w.heap.size + 1, 0, none⟩ x0 x1 (.int .i64 0) (.int .i64 0) ((w.alloc o).alloc (.cells #[.int .i64 x0, .int .i64 x1] 158)) (by rw [World.cell?_alloc_at _ _ _ _ (by simp)]; rfl) (by show (World.alloc _ _).cell? ⟨w.heap.size + 1, 1, none⟩ = _; rw [World.cell?_alloc_at _ _ _ _ (by simp)]; rfl) (c0 _ _) (c1 _ _) (z0 _ _) (z1 _ _)
  clear c0 c1 z0 z1 ht2 ha ht
  go_enter Tryz.func138, Tryz.ntmps138
  go_wp2
  refine wp_loop_rounds 1 ?_
  rw [rounds_succ]
  go_wp2
  go_ret
  exact ⟨rfl, by repeat (first | exact Below.refl _ _ | refine Below.alloc ?_ (by simp; omega) _ | exact Below.setCell (by assumption) hB _ | refine Below.setCell ?_ hB _)⟩

set_option maxHeartbeats 4000000 in
/-- errors.as at an error of errors.New's make. -/
theorem as2_miss (a t e : Addr) (B : Nat) (w : World) (hBw : B ≤ w.heap.size) :
    Calls Tryz.prog 138 #[.iface 253 (.pointer (some e)), .iface 160 (.pointer (some t)), asV a, asT] w fun e w' => e = .returned (.bool false) ∧ Below B w w' := by
  have h10 := @run_callFunc_extern Tryz.prog 139 _ ReflectliteType.typeOf Tryz.func139 (by kernel_rfl) (by kernel_rfl) (by kernel_rfl) (by kernel_rfl)
  have h35 := @run_callFunc_extern Tryz.prog 223 _ (ReflectliteType.relation "AssignableTo" ReflectliteType.assignableTo) Tryz.func223 (by kernel_rfl) (by kernel_rfl) (by kernel_rfl) (by kernel_rfl)
  have tO := ef_typeOfE
  have mA := ef_mAssignable
  have aE := ef_assE
  have nA := fun v xT => ef_noAs 253 v xT (Or.inr rfl)
  have uE := ef_noUnwrapE
  have vE := ef_noUnwrapsE
  go_enter Tryz.func138, Tryz.ntmps138
  go_wp2
  refine wp_loop_rounds 1 ?_
  rw [rounds_succ]
  go_wp2
  go_ret
  exact ⟨rfl, by repeat (first | exact Below.refl _ _ | refine Below.alloc ?_ (by first | omega | (simp; omega)) _)⟩

set_option maxHeartbeats 4000000 in
/-- errors.as at a placed refusal that wraps an excess. -/
theorem as2_hitL (p : Int) (a : Addr) (tb : Nat) (x0 x1 : Int) (B : Nat) (w : World) (hB : B ≤ tb) (hBw : B ≤ w.heap.size) (ha : w.cell? a = some (.pointer (some ⟨tb, 0, none⟩))) (ht : w.heap[tb]? = some (.cells #[.int .i64 0, .int .i64 0] 158 (0, 0))) :
    Calls Tryz.prog 138 #[.iface 174 (.agg #[.int .i64 p, .iface 158 (.agg #[.int .i64 x0, .int .i64 x1])]), .iface 160 (.pointer (some ⟨tb, 0, none⟩)), asV a, asT] w fun e w' => e = .returned (.bool true) ∧ Below B w w' := by
  have h6 := @run_callFunc_extern Tryz.prog 135 _ (fun args => ReflectliteValue.unpack (args.getD 0 (.tuple #[]))) Tryz.func135 (by kernel_rfl) (by kernel_rfl) (by kernel_rfl) (by kernel_rfl)
  have h10 := @run_callFunc_extern Tryz.prog 139 _ ReflectliteType.typeOf Tryz.func139 (by kernel_rfl) (by kernel_rfl) (by kernel_rfl) (by kernel_rfl)
  have h35 := @run_callFunc_extern Tryz.prog 223 _ (ReflectliteType.relation "AssignableTo" ReflectliteType.assignableTo) Tryz.func223 (by kernel_rfl) (by kernel_rfl) (by kernel_rfl) (by kernel_rfl)
  have h11 := @run_callFunc_extern Tryz.prog 152 _ (ReflectliteValue.method (ReflectliteValue.valueError "reflectlite.Value.Elem" 0) ReflectliteValue.elem) Tryz.func152 (by kernel_rfl) (by kernel_rfl) (by kernel_rfl) (by kernel_rfl)
  have h12 := @run_callFunc_extern Tryz.prog 153 _ ReflectliteValue.set Tryz.func153 (by kernel_rfl) (by kernel_rfl) (by kernel_rfl) (by kernel_rfl)
  have tO := ef_typeOfX
  have tL := ef_typeOfL
  have mA := ef_mAssignable
  have aX := ef_assX
  have aL := ef_assL
  have vX := ef_valueOfX x0 x1
  have nA := fun v xT => ef_noAs 174 v xT (Or.inl rfl)
  have uL := ef_hasUnwrapL
  have mU := ef_mUnwrap
  have hlt : tb < w.heap.size := (Array.getElem?_eq_some_iff.1 ht).1
  have hal : a.block < w.heap.size := World.block_lt_of_cell? _ _ ha
  have w1a : ∀ o o', ((w.alloc o).alloc o').cell? a = some (.pointer (some ⟨tb, 0, none⟩)) := fun o o' => by rw [World.cell?_alloc_lt _ _ a (by simp; omega), World.cell?_alloc_lt _ _ a hal]; exact ha
  have el := fun o o' => ef_elemVP a ⟨tb, 0, none⟩ ((w.alloc o).alloc o') (w1a o o')
  have ht2 : ∀ o o' o'', (((w.alloc o).alloc o').alloc o'').heap[tb]? = some (.cells #[.int .i64 0, .int .i64 0] 158 (0, 0)) := fun o o' o'' => by
    rw [Below.heap_alloc _ _ _ (by simp; omega), Below.heap_alloc _ _ _ (by simp; omega), Below.heap_alloc _ _ _ hlt]; exact ht
  have c0 : ∀ o o' o'', (((w.alloc o).alloc o').alloc o'').cell? ⟨tb, 0, none⟩ = some (.int .i64 0) := fun o o' o'' => by simp [World.cell?, ht2]
  have c1 : ∀ o o' o'', (((w.alloc o).alloc o').alloc o'').cell? ⟨tb, 1, none⟩ = some (.int .i64 0) := fun o o' o'' => by simp [World.cell?, ht2]
  have z0 : ∀ o o' o'', (((w.alloc o).alloc o').alloc o'').frozen? ⟨tb, 0, none⟩ = false := fun o o' o'' => by simp [World.frozen?, ht2]
  have z1 : ∀ o o' o'', (((w.alloc o).alloc o').alloc o'').frozen? ⟨tb, 1, none⟩ = false := fun o o' o'' => by simp [World.frozen?, ht2]
  have st := fun o o' => ef_set tb ⟨w.heap.size + 1 + 1, 0, none⟩ x0 x1 (.int .i64 0) (.int .i64 0) (((w.alloc o).alloc o').alloc (.cells #[.int .i64 x0, .int .i64 x1] 158)) (by rw [World.cell?_alloc_at _ _ _ _ (by simp)]; rfl) (by show (World.alloc _ _).cell? ⟨w.heap.size + 1 + 1, 1, none⟩ = _; rw [World.cell?_alloc_at _ _ _ _ (by simp)]; rfl) (c0 _ _ _) (c1 _ _ _) (z0 _ _ _) (z1 _ _ _)
  clear c0 c1 z0 z1 ht2 ha ht w1a
  go_enter Tryz.func138, Tryz.ntmps138
  go_wp2
  refine wp_loop_rounds 2 ?_
  rw [rounds_succ]
  go_wp2
  rw [rounds_succ]
  go_wp2
  go_ret
  exact ⟨rfl, by repeat (first | exact Below.refl _ _ | refine Below.alloc ?_ (by first | omega | (simp; omega)) _ | refine Below.setCell ?_ hB _)⟩

set_option maxHeartbeats 4000000 in
/-- errors.as at a placed refusal that wraps an error of errors.New's make. -/
theorem as2_missL (p : Int) (a t e : Addr) (B : Nat) (w : World) (hBw : B ≤ w.heap.size) :
    Calls Tryz.prog 138 #[.iface 174 (.agg #[.int .i64 p, .iface 253 (.pointer (some e))]), .iface 160 (.pointer (some t)), asV a, asT] w fun e w' => e = .returned (.bool false) ∧ Below B w w' := by
  have h10 := @run_callFunc_extern Tryz.prog 139 _ ReflectliteType.typeOf Tryz.func139 (by kernel_rfl) (by kernel_rfl) (by kernel_rfl) (by kernel_rfl)
  have h35 := @run_callFunc_extern Tryz.prog 223 _ (ReflectliteType.relation "AssignableTo" ReflectliteType.assignableTo) Tryz.func223 (by kernel_rfl) (by kernel_rfl) (by kernel_rfl) (by kernel_rfl)
  have tO := ef_typeOfE
  have tL := ef_typeOfL
  have mA := ef_mAssignable
  have aE := ef_assE
  have aL := ef_assL
  have nA := fun v xT => ef_noAs 253 v xT (Or.inr rfl)
  have nL := fun v xT => ef_noAs 174 v xT (Or.inl rfl)
  have uE := ef_noUnwrapE
  have vE := ef_noUnwrapsE
  have uL := ef_hasUnwrapL
  have mU := ef_mUnwrap
  go_enter Tryz.func138, Tryz.ntmps138
  go_wp2
  refine wp_loop_rounds 2 ?_
  rw [rounds_succ]
  go_wp2
  rw [rounds_succ]
  go_wp2
  go_ret
  exact ⟨rfl, by repeat (first | exact Below.refl _ _ | refine Below.alloc ?_ (by first | omega | (simp; omega)) _)⟩
end Go.Proofs.YtepcaglekgeamaaGreatDoor
namespace Go.Proofs.YtepcaglekgeamaaGreatDoor
open Go.RowKit Go.Extern.Stop Go.Stop Go.Extern

set_option maxHeartbeats 4000000 in
/-- errors.As at octet's target, by what errors.as answers. -/
theorem as_by (err : Value) (r : Bool) (tb : Nat) (B : Nat) (w : World) (hn : (∃ T v, err = .iface T v)) (hBw : B ≤ w.heap.size) (hg : w.cell? ⟨5, 0, none⟩ = some (.iface 198 (.agg #[.pointer (some ⟨13, 110, none⟩)])))
    (ht : w.heap[tb]? = some (.cells #[.int .i64 0, .int .i64 0] 158 (0, 0)))
    (hs : ∀ (a : Addr) (w : World), B ≤ w.heap.size → w.cell? a = some (.pointer (some ⟨tb, 0, none⟩)) → w.heap[tb]? = some (.cells #[.int .i64 0, .int .i64 0] 158 (0, 0)) →
      Calls Tryz.prog 138 #[err, .iface 160 (.pointer (some ⟨tb, 0, none⟩)), asV a, asT] w fun e w' => e = .returned (.bool r) ∧ Below B w w') :
    Calls Tryz.prog 120 #[err, .iface 160 (.pointer (some ⟨tb, 0, none⟩))] w fun e w' => e = .returned (.bool r) ∧ Below B w w' := by
  obtain ⟨T, v, rfl⟩ := hn
  have h6 := @run_callFunc_extern Tryz.prog 135 _ (fun args => ReflectliteValue.unpack (args.getD 0 (.tuple #[]))) Tryz.func135 (by kernel_rfl) (by kernel_rfl) (by kernel_rfl) (by kernel_rfl)
  have h7 := @run_callFunc_extern Tryz.prog 136 _ (ReflectliteValue.methodAny (ReflectliteValue.valueError "reflectlite.Value.Type" 0) (fun t _ _ _ => ReflectliteType.toType t)) Tryz.func136 (by kernel_rfl) (by kernel_rfl) (by kernel_rfl) (by kernel_rfl)
  have h8 := @run_callFunc_extern Tryz.prog 137 _ (ReflectliteValue.method (ReflectliteValue.valueError "reflectlite.Value.IsNil" 0) ReflectliteValue.isNil) Tryz.func137 (by kernel_rfl) (by kernel_rfl) (by kernel_rfl) (by kernel_rfl)
  have h27 := @run_callFunc_extern Tryz.prog 212 _ (ReflectliteType.abiMethod fun t => do pure (.int .u8 (← Rtype.kind t))) Tryz.func212 (by kernel_rfl) (by kernel_rfl) (by kernel_rfl) (by kernel_rfl)
  have h37 := @run_callFunc_extern Tryz.prog 225 _ (ReflectliteType.method ReflectliteType.elem) Tryz.func225 (by kernel_rfl) (by kernel_rfl) (by kernel_rfl) (by kernel_rfl)
  have h38 := @run_callFunc_extern Tryz.prog 226 _ (ReflectliteType.relation "Implements" ReflectliteType.implements_) Tryz.func226 (by kernel_rfl) (by kernel_rfl) (by kernel_rfl) (by kernel_rfl)
  have f6 := ef_valueOfP
  have f7 := ef_typeP
  have mK := ef_mKind
  have mE := ef_mElem
  have mI := ef_mImplements
  have kP := ef_kindP
  have kX := ef_kindX
  have eP := ef_elemP
  have iX := ef_implX
  have hg0 : (⟨5, 0, none⟩ : Addr).block < w.heap.size := World.block_lt_of_cell? _ _ hg
  have hlt : tb < w.heap.size := (Array.getElem?_eq_some_iff.1 ht).1
  have n8 := fun o => ef_isNilP ⟨w.heap.size, 0, none⟩ ⟨tb, 0, none⟩ ((w.alloc (.cells #[.pointer (some ⟨tb, 0, none⟩)] 160)).alloc o) (by rw [World.cell?_alloc_lt _ _ ⟨w.heap.size, 0, none⟩ (by simp)]; rw [World.cell?_alloc_at _ _ _ _ (by simp)]; rfl)
  have hg2 : ∀ o o', ((w.alloc o).alloc o').cell? ⟨5, 0, none⟩ = some (.iface 198 (.agg #[.pointer (some ⟨13, 110, none⟩)])) := fun o o' => by
    rw [World.cell?_alloc_lt _ _ _ (by simp at hg0 ⊢; omega), World.cell?_alloc_lt _ _ _ hg0]; exact hg
  have H := Lib.hid hs
  clear hs
  have ht2 : ∀ o o', ((w.alloc o).alloc o').heap[tb]? = some (.cells #[.int .i64 0, .int .i64 0] 158 (0, 0)) := fun o o' => by
    rw [Below.heap_alloc _ _ _ (by simp; omega), Below.heap_alloc _ _ _ hlt]; exact ht
  have HT := Lib.hid ht2
  clear ht2 ht hg
  go_enter Tryz.func120, Tryz.ntmps120
  go_wp2_with fail
  refine (H.out ⟨w.heap.size, 0, none⟩ _ (by simp; omega) ?_ (HT.out _ _)).mono ?_
  · rw [World.cell?_alloc_lt _ _ _ (by simp), World.cell?_alloc_at _ _ _ _ (by simp)]; rfl
  rintro e w' ⟨rfl, hb⟩
  go_wp2
  go_ret
  exact ⟨rfl, (((Below.refl _ _).alloc hBw _).alloc (by simp; omega) _).trans hb⟩

theorem is_same (a : Addr) (w : World) :
    Calls Tryz.prog 121 #[.iface 253 (.pointer (some a)), .iface 253 (.pointer (some a))] w fun e w' => e = .returned (.bool true) ∧ w = w' := by
  obtain ⟨i, hi, hcmp⟩ := Option.map_eq_some_iff.1 ef_isComp
  obtain ⟨j, hj, hjs⟩ := Option.map_eq_some_iff.1 ef_isSize
  have h8 := @run_callFunc_extern Tryz.prog 139 _ Extern.ReflectliteType.typeOf Tryz.func139 (by kernel_rfl) (by kernel_rfl) (by kernel_rfl) (by kernel_rfl)
  have h32 := ef_callComparable
  have tT := ef_typeOfE
  have cT := ef_comparable
  have mR := ef_mComparable
  have heq := run_eql_iface_ptr_same (P := Tryz.prog) w a Tryz.underlying110 Tryz.underlying253 hi hcmp hj
  go_enter Tryz.func121, Tryz.ntmps121
  go_wp2
  refine wp_loop_rounds 1 ?_
  rw [rounds_succ]
  go_wp2
  go_ret
  exact ⟨rfl, rfl⟩

theorem is_other (a b : Addr) (ca cb : Array Value) (ta tb : TypeId) (w : World) (hne : a ≠ b) (ha : w.heap[a.block]? = some (.cells ca ta (0, 0))) (hb : w.heap[b.block]? = some (.cells cb tb (0, 0))) :
    Calls Tryz.prog 121 #[.iface 253 (.pointer (some a)), .iface 253 (.pointer (some b))] w fun e w' => e = .returned (.bool false) ∧ w = w' := by
  obtain ⟨i, hi, hcmp⟩ := Option.map_eq_some_iff.1 ef_isComp
  obtain ⟨j, hj, hjs⟩ := Option.map_eq_some_iff.1 ef_isSize
  have h8 := @run_callFunc_extern Tryz.prog 139 _ Extern.ReflectliteType.typeOf Tryz.func139 (by kernel_rfl) (by kernel_rfl) (by kernel_rfl) (by kernel_rfl)
  have h32 := ef_callComparable
  have tT := ef_typeOfE
  have cT := ef_comparable
  have mR := ef_mComparable
  have nE := fun v xT => ef_noIs 253 v xT (Or.inr rfl)
  have uE := ef_noUnwrapE
  have vE := ef_noUnwrapsE
  have heq := run_eql_iface_ptr_other (P := Tryz.prog) w Tryz.underlying110 Tryz.underlying253 hi hcmp hj (by rw [hjs]; decide) hne ha hb
  go_enter Tryz.func121, Tryz.ntmps121
  go_wp2
  refine wp_loop_rounds 1 ?_
  rw [rounds_succ]
  go_wp2
  go_ret
  exact ⟨rfl, rfl⟩

theorem is_wrap_same (p : Int) (a : Addr) (w : World) :
    Calls Tryz.prog 121 #[.iface 174 (.agg #[.int .i64 p, .iface 253 (.pointer (some a))]), .iface 253 (.pointer (some a))] w fun e w' => e = .returned (.bool true) ∧ Below w.heap.size w w' := by
  obtain ⟨i, hi, hcmp⟩ := Option.map_eq_some_iff.1 ef_isComp
  obtain ⟨j, hj, hjs⟩ := Option.map_eq_some_iff.1 ef_isSize
  have h8 := @run_callFunc_extern Tryz.prog 139 _ Extern.ReflectliteType.typeOf Tryz.func139 (by kernel_rfl) (by kernel_rfl) (by kernel_rfl) (by kernel_rfl)
  have h32 := ef_callComparable
  have tT := ef_typeOfE
  have cT := ef_comparable
  have mR := ef_mComparable
  have nL := fun v xT => ef_noIs 174 v xT (Or.inl rfl)
  have uL := ef_hasUnwrapL
  have mU := ef_mUnwrap
  have heq := fun o => run_eql_iface_ptr_same (P := Tryz.prog) (w.alloc o) a Tryz.underlying110 Tryz.underlying253 hi hcmp hj
  have hty := run_eql_iface_types (P := Tryz.prog) 174 253 (.agg #[.int .i64 p, .iface 253 (.pointer (some a))]) (.pointer (some a)) Tryz.underlying110 (by decide) w
  go_enter Tryz.func121, Tryz.ntmps121
  go_wp2
  refine wp_loop_rounds 2 ?_
  rw [rounds_succ]
  go_wp2
  rw [rounds_succ]
  go_wp2
  go_ret
  exact ⟨rfl, (Below.refl _ _).alloc (by omega) _⟩

theorem is_wrap_other (p : Int) (a b : Addr) (ca cb : Array Value) (ta tb : TypeId) (w : World) (hne : a ≠ b) (ha : w.heap[a.block]? = some (.cells ca ta (0, 0))) (hb : w.heap[b.block]? = some (.cells cb tb (0, 0))) :
    Calls Tryz.prog 121 #[.iface 174 (.agg #[.int .i64 p, .iface 253 (.pointer (some a))]), .iface 253 (.pointer (some b))] w fun e w' => e = .returned (.bool false) ∧ Below w.heap.size w w' := by
  obtain ⟨i, hi, hcmp⟩ := Option.map_eq_some_iff.1 ef_isComp
  obtain ⟨j, hj, hjs⟩ := Option.map_eq_some_iff.1 ef_isSize
  have h8 := @run_callFunc_extern Tryz.prog 139 _ Extern.ReflectliteType.typeOf Tryz.func139 (by kernel_rfl) (by kernel_rfl) (by kernel_rfl) (by kernel_rfl)
  have h32 := ef_callComparable
  have tT := ef_typeOfE
  have cT := ef_comparable
  have mR := ef_mComparable
  have nE := fun v xT => ef_noIs 253 v xT (Or.inr rfl)
  have uE := ef_noUnwrapE
  have vE := ef_noUnwrapsE
  have nL := fun v xT => ef_noIs 174 v xT (Or.inl rfl)
  have uL := ef_hasUnwrapL
  have mU := ef_mUnwrap
  have heq := fun o => run_eql_iface_ptr_other (P := Tryz.prog) (w.alloc o) Tryz.underlying110 Tryz.underlying253 hi hcmp hj (by rw [hjs]; decide) hne ((Below.heap_alloc _ _ _ (Array.getElem?_eq_some_iff.1 ha).1).trans ha) ((Below.heap_alloc _ _ _ (Array.getElem?_eq_some_iff.1 hb).1).trans hb)
  have hty := run_eql_iface_types (P := Tryz.prog) 174 253 (.agg #[.int .i64 p, .iface 253 (.pointer (some a))]) (.pointer (some b)) Tryz.underlying110 (by decide) w
  go_enter Tryz.func121, Tryz.ntmps121
  go_wp2
  refine wp_loop_rounds 2 ?_
  rw [rounds_succ]
  go_wp2
  rw [rounds_succ]
  go_wp2
  go_ret
  exact ⟨rfl, (Below.refl _ _).alloc (by omega) _⟩

structure Env (w : World) (aD aS aZ : Addr) : Prop where
  gT : w.cell? ⟨5, 0, none⟩ = some (.iface 198 (.agg #[.pointer (some ⟨13, 110, none⟩)]))
  gD : w.cell? ⟨2, 0, none⟩ = some (.iface 253 (.pointer (some aD)))
  gS : w.cell? ⟨3, 0, none⟩ = some (.iface 253 (.pointer (some aS)))
  bD : ∃ c t, w.heap[aD.block]? = some (.cells c t (0, 0))
  bS : ∃ c t, w.heap[aS.block]? = some (.cells c t (0, 0))
  bZ : ∃ c t, w.heap[aZ.block]? = some (.cells c t (0, 0))
  nDS : aD ≠ aS
  nDZ : aD ≠ aZ
  nSZ : aS ≠ aZ

theorem Env.keep {w w' : World} {aD aS aZ : Addr} (h : Env w aD aS aZ) (hb : Below w.heap.size w w') : Env w' aD aS aZ where
  gT := (hb.cell (World.block_lt_of_cell? _ _ h.gT)).trans h.gT
  gD := (hb.cell (World.block_lt_of_cell? _ _ h.gD)).trans h.gD
  gS := (hb.cell (World.block_lt_of_cell? _ _ h.gS)).trans h.gS
  bD := by obtain ⟨c, t, e⟩ := h.bD; exact ⟨c, t, (hb.block _ (Array.getElem?_eq_some_iff.1 e).1).trans e⟩
  bS := by obtain ⟨c, t, e⟩ := h.bS; exact ⟨c, t, (hb.block _ (Array.getElem?_eq_some_iff.1 e).1).trans e⟩
  bZ := by obtain ⟨c, t, e⟩ := h.bZ; exact ⟨c, t, (hb.block _ (Array.getElem?_eq_some_iff.1 e).1).trans e⟩
  nDS := h.nDS
  nDZ := h.nDZ
  nSZ := h.nSZ

def Refuses (aD aS aZ : Addr) (v : Value) (n : Int) : Prop :=
  (∃ a b, v = .iface 158 (.agg #[.int .i64 a, .int .i64 b]) ∧ n = 2) ∨ (∃ a, v = .iface 253 (.pointer (some a)) ∧ (a = aS ∧ n = 3 ∨ a = aD ∧ n = 4 ∨ a = aZ ∧ n = 1)) ∨
  (∃ p a b, v = .iface 174 (.agg #[.int .i64 p, .iface 158 (.agg #[.int .i64 a, .int .i64 b])]) ∧ n = 2) ∨ (∃ p a, v = .iface 174 (.agg #[.int .i64 p, .iface 253 (.pointer (some a))]) ∧ (a = aS ∧ n = 3 ∨ a = aD ∧ n = 4 ∨ a = aZ ∧ n = 1))

theorem errno_nil (w : World) : Calls Tryz.prog 97 #[.nilIface] w fun e w' => e = .returned (.int .i64 0) ∧ Below w.heap.size w w' := by
  go_enter Tryz.func97, Tryz.ntmps97
  go_wp2
  go_ret
  exact ⟨rfl, (Below.refl _ _).alloc (by omega) _⟩

theorem errno_as (aD aS aZ : Addr) (err : Value) (r : Bool) (w : World) (he : Env w aD aS aZ) (hn : (∃ T v, err = .iface T v))
    (hs : ∀ (a : Addr) (w' : World), w.heap.size ≤ w'.heap.size → w'.cell? a = some (.pointer (some ⟨w.heap.size, 0, none⟩)) → w'.heap[w.heap.size]? = some (.cells #[.int .i64 0, .int .i64 0] 158 (0, 0)) →
      Calls Tryz.prog 138 #[err, .iface 160 (.pointer (some ⟨w.heap.size, 0, none⟩)), asV a, asT] w' fun e w'' => e = .returned (.bool r) ∧ Below w.heap.size w' w'') :
    Calls Tryz.prog 120 #[err, .iface 160 (.pointer (some ⟨w.heap.size, 0, none⟩))] (w.alloc (.cells #[.int .i64 0, .int .i64 0] 158)) fun e w' => e = .returned (.bool r) ∧ Below w.heap.size (w.alloc (.cells #[.int .i64 0, .int .i64 0] 158)) w' := by
  refine as_by err r w.heap.size w.heap.size _ hn (by simp) ?_ ?_ hs
  · rw [World.cell?_alloc_lt _ _ _ (World.block_lt_of_cell? _ _ he.gT)]; exact he.gT
  · show (w.heap.push _)[w.heap.size]? = _
    simp

set_option maxHeartbeats 1000000 in
theorem errno_excess (aD aS aZ : Addr) (a b : Int) (w : World) (he : Env w aD aS aZ) : Calls Tryz.prog 97 #[.iface 158 (.agg #[.int .i64 a, .int .i64 b])] w fun e w' => e = .returned (.int .i64 2) ∧ Below w.heap.size w w' := by
  have H := errno_as aD aS aZ (.iface 158 (.agg #[.int .i64 a, .int .i64 b])) true w he ⟨_, _, rfl⟩ (fun x w' h1 h2 h3 => as2_hit x w.heap.size a b w.heap.size w' (Nat.le_refl _) h1 h2 h3)
  have H2 := Lib.hid H
  clear H
  go_enter Tryz.func97, Tryz.ntmps97
  go_wp2_with fail
  refine H2.out.mono ?_
  rintro e w' ⟨rfl, hb⟩
  go_wp2
  go_ret
  exact ⟨rfl, ((Below.refl _ _).alloc (by omega) _).trans hb⟩

set_option maxHeartbeats 1000000 in
theorem errno_excessL (aD aS aZ : Addr) (p a b : Int) (w : World) (he : Env w aD aS aZ) : Calls Tryz.prog 97 #[.iface 174 (.agg #[.int .i64 p, .iface 158 (.agg #[.int .i64 a, .int .i64 b])])] w fun e w' => e = .returned (.int .i64 2) ∧ Below w.heap.size w w' := by
  have H := errno_as aD aS aZ (.iface 174 (.agg #[.int .i64 p, .iface 158 (.agg #[.int .i64 a, .int .i64 b])])) true w he ⟨_, _, rfl⟩ (fun x w' h1 h2 h3 => as2_hitL p x w.heap.size a b w.heap.size w' (Nat.le_refl _) h1 h2 h3)
  have H2 := Lib.hid H
  clear H
  go_enter Tryz.func97, Tryz.ntmps97
  go_wp2_with fail
  refine H2.out.mono ?_
  rintro e w' ⟨rfl, hb⟩
  go_wp2
  go_ret
  exact ⟨rfl, ((Below.refl _ _).alloc (by omega) _).trans hb⟩

theorem is_any (a b : Addr) (w : World) (r : Bool) (err : Value) (h : err = .iface 253 (.pointer (some a)) ∨ ∃ p, err = .iface 174 (.agg #[.int .i64 p, .iface 253 (.pointer (some a))]))
    (hr : r = true ∧ a = b ∨ r = false ∧ a ≠ b) (ha : ∃ c t, w.heap[a.block]? = some (.cells c t (0, 0))) (hb : ∃ c t, w.heap[b.block]? = some (.cells c t (0, 0))) :
    Calls Tryz.prog 121 #[err, .iface 253 (.pointer (some b))] w fun e w' => e = .returned (.bool r) ∧ Below w.heap.size w w' := by
  obtain ⟨ca, ta, ha⟩ := ha
  obtain ⟨cb, tb, hb⟩ := hb
  rcases hr with ⟨rfl, rfl⟩ | ⟨rfl, hne⟩
  · rcases h with rfl | ⟨p, rfl⟩
    · exact (is_same a w).mono fun e w' ⟨h1, h2⟩ => ⟨h1, h2 ▸ Below.refl _ _⟩
    · exact is_wrap_same p a w
  · rcases h with rfl | ⟨p, rfl⟩
    · exact (is_other a b ca cb ta tb w hne ha hb).mono fun e w' ⟨h1, h2⟩ => ⟨h1, h2 ▸ Below.refl _ _⟩
    · exact is_wrap_other p a b ca cb ta tb w hne ha hb

theorem as2_missAny (x t a : Addr) (B : Nat) (w : World) (hBw : B ≤ w.heap.size) (err : Value) (h : err = .iface 253 (.pointer (some a)) ∨ ∃ p, err = .iface 174 (.agg #[.int .i64 p, .iface 253 (.pointer (some a))])) :
    Calls Tryz.prog 138 #[err, .iface 160 (.pointer (some t)), asV x, asT] w fun e w' => e = .returned (.bool false) ∧ Below B w w' := by
  rcases h with rfl | ⟨p, rfl⟩
  · exact as2_miss x t a B w hBw
  · exact as2_missL p x t a B w hBw

set_option maxHeartbeats 2000000 in
theorem errno_sent (aD aS aZ a : Addr) (err : Value) (n : Int) (w : World) (he : Env w aD aS aZ) (h : err = .iface 253 (.pointer (some a)) ∨ ∃ p, err = .iface 174 (.agg #[.int .i64 p, .iface 253 (.pointer (some a))]))
    (ha : a = aS ∧ n = 3 ∨ a = aD ∧ n = 4 ∨ a = aZ ∧ n = 1) :
    Calls Tryz.prog 97 #[err] w fun e w' => e = .returned (.int .i64 n) ∧ Below w.heap.size w w' := by
  have hv : ∃ T v, err = .iface T v := by rcases h with rfl | ⟨p, rfl⟩ <;> exact ⟨_, _, rfl⟩
  have H := errno_as aD aS aZ err false w he hv (fun x w' h1 h2 h3 => as2_missAny x _ a w.heap.size w' h1 err h)
  have H2 := Lib.hid H
  clear H
  have hba : ∀ w' : World, Env w' aD aS aZ → ∃ c t, w'.heap[a.block]? = some (.cells c t (0, 0)) := fun w' e' => by
    rcases ha with ⟨rfl, _⟩ | ⟨rfl, _⟩ | ⟨rfl, _⟩
    · exact e'.bS
    · exact e'.bD
    · exact e'.bZ
  obtain ⟨T, v, hv⟩ := hv
  have HH := Lib.hid h
  clear h
  subst hv
  have HA := Lib.hid hba
  have hE := Lib.hid he
  clear he hba
  have b0 : Below w.heap.size w (w.alloc (.cells #[.int .i64 0, .int .i64 0] 158)) := (Below.refl _ _).alloc (by omega) _
  rcases ha with ⟨ea, rfl⟩ | ⟨ea, rfl⟩ | ⟨ea, rfl⟩
  · have HN := Lib.hid ea
    clear ea
    go_enter Tryz.func97, Tryz.ntmps97
    go_wp2_with fail
    refine H2.out.mono ?_
    rintro e w1 ⟨rfl, hb1⟩
    have hE1 := Lib.hid (hE.out.keep (b0.trans hb1))
    have k1 := hE1.out.gS
    have k2 := hE1.out.gD
    go_wp2_with fail
    refine (is_any a aS w1 true _ HH.out (Or.inl ⟨rfl, HN.out⟩) (HA.out _ hE1.out) hE1.out.bS).mono ?_
    rintro e w2 ⟨rfl, hb2⟩
    go_wp2
    go_ret
    exact ⟨rfl, (b0.trans hb1).trans (hb2.mono (by have := hb1.size; simp at this; omega))⟩
  · have HN := Lib.hid ea
    clear ea
    go_enter Tryz.func97, Tryz.ntmps97
    go_wp2_with fail
    refine H2.out.mono ?_
    rintro e w1 ⟨rfl, hb1⟩
    have hE1 := Lib.hid (hE.out.keep (b0.trans hb1))
    have k1 := hE1.out.gS
    go_wp2_with fail
    refine (is_any a aS w1 false _ HH.out (Or.inr ⟨rfl, fun e => hE.out.nDS (HN.out ▸ e)⟩) (HA.out _ hE1.out) hE1.out.bS).mono ?_
    rintro e w2 ⟨rfl, hb2⟩
    have hE2 := Lib.hid (hE1.out.keep hb2)
    have k2 := hE2.out.gD
    clear k1
    go_wp2_with fail
    refine (is_any a aD w2 true _ HH.out (Or.inl ⟨rfl, HN.out⟩) (HA.out _ hE2.out) hE2.out.bD).mono ?_
    rintro e w3 ⟨rfl, hb3⟩
    go_wp2
    go_ret
    exact ⟨rfl, ((b0.trans hb1).trans (hb2.mono (by have := hb1.size; simp at this; omega))).trans (hb3.mono (by have := hb1.size; have := hb2.size; simp at *; omega))⟩
  · have HN := Lib.hid ea
    clear ea
    go_enter Tryz.func97, Tryz.ntmps97
    go_wp2_with fail
    refine H2.out.mono ?_
    rintro e w1 ⟨rfl, hb1⟩
    have hE1 := Lib.hid (hE.out.keep (b0.trans hb1))
    have k1 := hE1.out.gS
    go_wp2_with fail
    refine (is_any a aS w1 false _ HH.out (Or.inr ⟨rfl, fun e => hE.out.nSZ (e.symm.trans HN.out)⟩) (HA.out _ hE1.out) hE1.out.bS).mono ?_
    rintro e w2 ⟨rfl, hb2⟩
    have hE2 := Lib.hid (hE1.out.keep hb2)
    have k2 := hE2.out.gD
    clear k1
    go_wp2_with fail
    refine (is_any a aD w2 false _ HH.out (Or.inr ⟨rfl, fun e => hE.out.nDZ (e.symm.trans HN.out)⟩) (HA.out _ hE2.out) hE2.out.bD).mono ?_
    rintro e w3 ⟨rfl, hb3⟩
    go_wp2
    go_ret
    exact ⟨rfl, ((b0.trans hb1).trans (hb2.mono (by have := hb1.size; simp at this; omega))).trans (hb3.mono (by have := hb1.size; have := hb2.size; simp at *; omega))⟩

theorem errno_any (aD aS aZ : Addr) (v : Value) (n : Int) (w : World) (he : Env w aD aS aZ) (h : Refuses aD aS aZ v n) :
    Calls Tryz.prog 97 #[v] w fun e w' => e = .returned (.int .i64 n) ∧ Below w.heap.size w w' := by
  rcases h with ⟨a, b, rfl, rfl⟩ | ⟨a, rfl, ha⟩ | ⟨p, a, b, rfl, rfl⟩ | ⟨p, a, rfl, ha⟩
  · exact errno_excess aD aS aZ a b w he
  · exact errno_sent aD aS aZ a _ n w he (Or.inl rfl) ha
  · exact errno_excessL aD aS aZ p a b w he
  · exact errno_sent aD aS aZ a _ n w he (Or.inr ⟨p, rfl⟩) ha
end Go.Proofs.YtepcaglekgeamaaGreatDoor
namespace Go.Proofs.YtepcaglekgeamaaGreatDoor
end Go.Proofs.YtepcaglekgeamaaGreatDoor
