/-
  Closed facts on the model's entries for internal/reflectlite, and on method sets, at this program's types; small laws on the entries that read or write memory. No conditions.
  Errors in errors: a list of places around a last error, as it lies in memory; what errors.as makes of it. No conditions beyond those stated.
  errors.As, errors.Is and package fault's New, Wrap, itself and Code by their contracts. No conditions beyond those stated.
-/
import Derived.Test.YtnkoblhdbccbeaaGreatDoorChecked
import Derived.WalkKit
import Derived.LaidEql
import Derived.Stop.Asserts
import Derived.RowKitTokens
import Derived.Deep.LoopGhost
import Derived.Below
namespace Go.Proofs.YtnkoblhdbccbeaaGreatDoor
open Go.RowKit Go.Extern.Stop Go.Stop Go.Extern

theorem Tryz.methodKind (h : Value) (w : World) : (Go.method 343 138 (.agg #[h]) "Kind").run Tryz.prog w = .ok (165, h) w := by kernel_rfl
theorem Tryz.methodElem (h : Value) (w : World) : (Go.method 343 138 (.agg #[h]) "Elem").run Tryz.prog w = .ok (178, .agg #[h]) w := by kernel_rfl
theorem Tryz.methodImplements (h : Value) (w : World) : (Go.method 343 138 (.agg #[h]) "Implements").run Tryz.prog w = .ok (179, .agg #[h]) w := by kernel_rfl
theorem Tryz.methodAssignableTo (h : Value) (w : World) : (Go.method 343 138 (.agg #[h]) "AssignableTo").run Tryz.prog w = .ok (176, .agg #[h]) w := by kernel_rfl
theorem Tryz.methodComparable (h : Value) (w : World) : (Go.method 343 138 (.agg #[h]) "Comparable").run Tryz.prog w = .ok (177, .agg #[h]) w := by kernel_rfl
theorem Tryz.methodUnwrap (v : Value) (w : World) : (Go.method 343 84 v "Unwrap").run Tryz.prog w = .ok (171, v) w := by kernel_rfl
theorem Tryz.methodErrorF (v : Value) (w : World) : (Go.method 343 84 v "Error").run Tryz.prog w = .ok (170, v) w := by kernel_rfl
theorem Tryz.methodErrorE (v : Value) (w : World) : (Go.method 343 38 v "Error").run Tryz.prog w = .ok (168, v) w := by kernel_rfl

/- ValueOf a pointer to the target; its Type; IsNil; Elem -/
theorem Tryz.valueOf45 (t : Addr) (w : World) : (ReflectliteValue.unpack (.iface 68 (.pointer (some t)))).run Tryz.prog w
    = .ok (.agg #[.pointer (some ⟨11, 68, none⟩), .pointer (some ⟨w.heap.size, 0, none⟩), .int .u64 150]) (w.alloc (.cells #[.pointer (some t)] 68)) := by kernel_rfl
theorem Tryz.valueOf39 (t : Addr) (w : World) : (ReflectliteValue.unpack (.iface 84 (.pointer (some t)))).run Tryz.prog w
    = .ok (.agg #[.pointer (some ⟨11, 84, none⟩), .pointer (some ⟨w.heap.size, 0, none⟩), .int .u64 150]) (w.alloc (.cells #[.pointer (some t)] 84)) := by kernel_rfl
theorem Tryz.valueOf27 (c : Int) (w : World) : (ReflectliteValue.unpack (.iface 38 (.int .i64 c))).run Tryz.prog w
    = .ok (.agg #[.pointer (some ⟨11, 38, none⟩), .pointer (some ⟨w.heap.size, 0, none⟩), .int .u64 130]) (w.alloc (.cells #[.int .i64 c] 38)) := by kernel_rfl
theorem Tryz.type45 (a : Addr) (w : World) : (ReflectliteValue.methodAny (ReflectliteValue.valueError "reflectlite.Value.Type" 0) (fun t _ _ _ => ReflectliteType.toType t) #[.agg #[.pointer (some ⟨11, 68, none⟩), .pointer (some a), .int .u64 150]]).run Tryz.prog w
    = .ok (.iface 138 (.agg #[.pointer (some ⟨11, 68, none⟩)])) w := by kernel_rfl
theorem Tryz.kind45 (w : World) : ((ReflectliteType.abiMethod fun t => (fun a : Nat => Value.int IntKind.u8 (a : Int)) <$> Rtype.kind t) #[.pointer (some ⟨11, 68, none⟩)]).run Tryz.prog w = .ok (.int .u8 22) w := by kernel_rfl
theorem Tryz.kind39 (w : World) : ((ReflectliteType.abiMethod fun t => (fun a : Nat => Value.int IntKind.u8 (a : Int)) <$> Rtype.kind t) #[.pointer (some ⟨11, 84, none⟩)]).run Tryz.prog w = .ok (.int .u8 22) w := by kernel_rfl
theorem Tryz.kind27 (w : World) : ((ReflectliteType.abiMethod fun t => (fun a : Nat => Value.int IntKind.u8 (a : Int)) <$> Rtype.kind t) #[.pointer (some ⟨11, 38, none⟩)]).run Tryz.prog w = .ok (.int .u8 2) w := by kernel_rfl
theorem rlm (z : Sem Value) (f : TypeId → Addr → Nat → Nat → Sem Value) (v : Value) :
    ReflectliteValue.method z f #[v] = (do match ← ReflectliteValue.parts v with | none => z | some (t, a, fl) => f t a fl (fl % 32)) := rfl
theorem Tryz.parts45 (a : Addr) (w : World) : (ReflectliteValue.parts (.agg #[.pointer (some ⟨11, 68, none⟩), .pointer (some a), .int .u64 150])).run Tryz.prog w = .ok (some (68, a, 150)) w := by kernel_rfl
theorem Tryz.isNil45 (a p : Addr) (W : World) (ha : W.cell? a = some (.pointer (some p))) :
    (ReflectliteValue.method (ReflectliteValue.valueError "reflectlite.Value.IsNil" 0) ReflectliteValue.isNil #[.agg #[.pointer (some ⟨11, 68, none⟩), .pointer (some a), .int .u64 150]]).run Tryz.prog W = .ok (.bool false) W := by
  rw [rlm]
  simp only [Sem.run_bind, Tryz.parts45, Result.andThen]
  simp [ReflectliteValue.isNil, loadVar, isAgg, underlying, Tryz.underlying68, ha, Result.andThen]
theorem Tryz.elem45 (w : World) : (ReflectliteType.method ReflectliteType.elem #[.agg #[.pointer (some ⟨11, 68, none⟩)]]).run Tryz.prog w = .ok (.iface 138 (.agg #[.pointer (some ⟨11, 38, none⟩)])) w := by kernel_rfl
theorem Tryz.implements27 (w : World) : (ReflectliteType.relation "Implements" ReflectliteType.implements_ #[.agg #[.pointer (some ⟨11, 38, none⟩)], .iface 138 (.agg #[.pointer (some ⟨11, 35, none⟩)])]).run Tryz.prog w = .ok (.bool true) w := by kernel_rfl
theorem Tryz.implements39 (w : World) : (ReflectliteType.relation "Implements" ReflectliteType.implements_ #[.agg #[.pointer (some ⟨11, 84, none⟩)], .iface 138 (.agg #[.pointer (some ⟨11, 35, none⟩)])]).run Tryz.prog w = .ok (.bool true) w := by kernel_rfl
theorem Tryz.typeOf39 (v : Value) (w : World) : (ReflectliteType.typeOf #[.iface 84 v]).run Tryz.prog w = .ok (.iface 138 (.agg #[.pointer (some ⟨11, 84, none⟩)])) w := by kernel_rfl
theorem Tryz.typeOf27 (v : Value) (w : World) : (ReflectliteType.typeOf #[.iface 38 v]).run Tryz.prog w = .ok (.iface 138 (.agg #[.pointer (some ⟨11, 38, none⟩)])) w := by kernel_rfl
theorem Tryz.asg39_39 (w : World) : (ReflectliteType.relation "AssignableTo" ReflectliteType.assignableTo #[.agg #[.pointer (some ⟨11, 84, none⟩)], .iface 138 (.agg #[.pointer (some ⟨11, 84, none⟩)])]).run Tryz.prog w = .ok (.bool true) w := by kernel_rfl
theorem Tryz.asg27_27 (w : World) : (ReflectliteType.relation "AssignableTo" ReflectliteType.assignableTo #[.agg #[.pointer (some ⟨11, 38, none⟩)], .iface 138 (.agg #[.pointer (some ⟨11, 38, none⟩)])]).run Tryz.prog w = .ok (.bool true) w := by kernel_rfl
theorem Tryz.asg39_27 (w : World) : (ReflectliteType.relation "AssignableTo" ReflectliteType.assignableTo #[.agg #[.pointer (some ⟨11, 84, none⟩)], .iface 138 (.agg #[.pointer (some ⟨11, 38, none⟩)])]).run Tryz.prog w = .ok (.bool false) w := by kernel_rfl
theorem Tryz.asg27_39 (w : World) : (ReflectliteType.relation "AssignableTo" ReflectliteType.assignableTo #[.agg #[.pointer (some ⟨11, 38, none⟩)], .iface 138 (.agg #[.pointer (some ⟨11, 84, none⟩)])]).run Tryz.prog w = .ok (.bool false) w := by kernel_rfl
theorem Tryz.comparable27 (w : World) : ((ReflectliteType.method fun t => (fun a => Value.bool a.comparable) <$> typeInfo t) #[.agg #[.pointer (some ⟨11, 38, none⟩)]]).run Tryz.prog w = .ok (.bool true) w := by kernel_rfl
theorem Tryz.elemOf45 (w : World) : (Rtype.elem? 68).run Tryz.prog w = .ok (some 38) w := by kernel_rfl
theorem Tryz.mk27 (p : Addr) (w : World) : (ReflectliteValue.mk 38 p ReflectliteValue.flagAddr).run Tryz.prog w = .ok (.agg #[.pointer (some ⟨11, 38, none⟩), .pointer (some p), .int .u64 386]) w := by kernel_rfl
theorem Tryz.mk39 (p : Addr) (w : World) : (ReflectliteValue.mk 84 p ReflectliteValue.flagAddr).run Tryz.prog w = .ok (.agg #[.pointer (some ⟨11, 84, none⟩), .pointer (some p), .int .u64 406]) w := by kernel_rfl
theorem Tryz.elemV45 (a p : Addr) (W : World) (ha : W.cell? a = some (.pointer (some p))) :
    (ReflectliteValue.method (ReflectliteValue.valueError "reflectlite.Value.Elem" 0) ReflectliteValue.elem #[.agg #[.pointer (some ⟨11, 68, none⟩), .pointer (some a), .int .u64 150]]).run Tryz.prog W
      = .ok (.agg #[.pointer (some ⟨11, 38, none⟩), .pointer (some p), .int .u64 386]) W := by
  rw [rlm]
  simp only [Sem.run_bind, Tryz.parts45, Result.andThen]
  simp [ReflectliteValue.elem, loadVar, isAgg, underlying, Tryz.underlying68, ha, Result.andThen, Tryz.elemOf45, Tryz.mk27]
theorem rls (v x : Value) : ReflectliteValue.set #[v, x] = (do
    let (some (dst, a, fl), some (src, b, _)) := (← ReflectliteValue.parts v, ← ReflectliteValue.parts x)
      | unsupported (.noEntry "extern/(internal/reflectlite.Value).Set.zeroValue")
    if fl / ReflectliteValue.flagAddr % 2 == 0 then unsupported (.noEntry "extern/(internal/reflectlite.Value).Set.unaddressable")
    let val ← loadVar src b
    if ← Rtype.directlyAssignable dst src then storeVar dst a val
    else if ← Rtype.implements dst src then
      if (← Rtype.kind src) == 20 then
        match val with
        | .nilIface => unsupported (.noEntry "extern/reflectlite: a nil value of one interface type handed on as a value of another")
        | _ => storeVar dst a val
      else storeVar dst a (.iface src val)
    else panicString ("reflectlite.Set: value of type " ++ (← Rtype.spelt src) ++ " is not assignable to type " ++ (← Rtype.spelt dst))
    pure (.tuple #[])) := rfl
theorem Tryz.parts39a (a : Addr) (w : World) : (ReflectliteValue.parts (.agg #[.pointer (some ⟨11, 84, none⟩), .pointer (some a), .int .u64 406])).run Tryz.prog w = .ok (some (84, a, 406)) w := by kernel_rfl
theorem Tryz.parts39 (a : Addr) (w : World) : (ReflectliteValue.parts (.agg #[.pointer (some ⟨11, 84, none⟩), .pointer (some a), .int .u64 150])).run Tryz.prog w = .ok (some (84, a, 150)) w := by kernel_rfl
theorem Tryz.parts27a (a : Addr) (w : World) : (ReflectliteValue.parts (.agg #[.pointer (some ⟨11, 38, none⟩), .pointer (some a), .int .u64 386])).run Tryz.prog w = .ok (some (38, a, 386)) w := by kernel_rfl
theorem Tryz.parts27 (a : Addr) (w : World) : (ReflectliteValue.parts (.agg #[.pointer (some ⟨11, 38, none⟩), .pointer (some a), .int .u64 130])).run Tryz.prog w = .ok (some (38, a, 130)) w := by kernel_rfl
theorem Tryz.direct39 (w : World) : (Rtype.directlyAssignable 84 84).run Tryz.prog w = .ok true w := by kernel_rfl
theorem Tryz.direct27 (w : World) : (Rtype.directlyAssignable 38 38).run Tryz.prog w = .ok true w := by kernel_rfl
theorem Tryz.set39 (ta b e : Addr) (old : Value) (W : World) (hb : W.cell? b = some (.pointer (some e))) (ht : W.cell? ta = some old) (hf : W.frozen? ta = false) :
    (ReflectliteValue.set #[.agg #[.pointer (some ⟨11, 84, none⟩), .pointer (some ta), .int .u64 406], .agg #[.pointer (some ⟨11, 84, none⟩), .pointer (some b), .int .u64 150]]).run Tryz.prog W
      = .ok (.tuple #[]) (W.setCell ta (.pointer (some e))) := by
  rw [rls]
  simp only [Sem.run_bind, Tryz.parts39a, Tryz.parts39, Result.andThen]
  simp [ReflectliteValue.flagAddr, loadVar, isAgg, underlying, Tryz.underlying84, hb, Result.andThen, Tryz.direct39, storeVar, Value.cells, storeCells, Addr.add]
  rw [run_store Tryz.prog W ta _ _ (by rfl)]
  simp [ht, hf]
theorem Tryz.set27 (ta b : Addr) (c : Int) (old : Value) (W : World) (hb : W.cell? b = some (.int .i64 c)) (ht : W.cell? ta = some old) (hf : W.frozen? ta = false) :
    (ReflectliteValue.set #[.agg #[.pointer (some ⟨11, 38, none⟩), .pointer (some ta), .int .u64 386], .agg #[.pointer (some ⟨11, 38, none⟩), .pointer (some b), .int .u64 130]]).run Tryz.prog W
      = .ok (.tuple #[]) (W.setCell ta (.int .i64 c)) := by
  rw [rls]
  simp only [Sem.run_bind, Tryz.parts27a, Tryz.parts27, Result.andThen]
  simp [ReflectliteValue.flagAddr, loadVar, isAgg, underlying, Tryz.underlying38, hb, Result.andThen, Tryz.direct27, storeVar, Value.cells, storeCells, Addr.add]
  rw [run_store Tryz.prog W ta _ _ (by rfl)]
  simp [ht, hf]

/- the assertions of errors.as and errors.is -/
theorem Tryz.noAsF (v : Value) (xT : TypeId) (w : World) : (Instr.typeAssert (.iface 84 v) xT 142 true).run Tryz.prog w = .ok (.tuple #[.nilIface, .bool false]) w := run_typeAssert_lacksB Tryz.underlying142 (by kernel_rfl) (by kernel_rfl) v xT w
theorem Tryz.noAsE (v : Value) (xT : TypeId) (w : World) : (Instr.typeAssert (.iface 38 v) xT 142 true).run Tryz.prog w = .ok (.tuple #[.nilIface, .bool false]) w := run_typeAssert_lacksB Tryz.underlying142 (by kernel_rfl) (by kernel_rfl) v xT w
theorem Tryz.hasUnwrapF (v : Value) (xT : TypeId) (w : World) : (Instr.typeAssert (.iface 84 v) xT 145 true).run Tryz.prog w = .ok (.tuple #[.iface 84 v, .bool true]) w := run_typeAssert_hasB Tryz.underlying145 (by kernel_rfl) v xT w
theorem Tryz.noUnwrapE (v : Value) (xT : TypeId) (w : World) : (Instr.typeAssert (.iface 38 v) xT 145 true).run Tryz.prog w = .ok (.tuple #[.nilIface, .bool false]) w := run_typeAssert_lacksB Tryz.underlying145 (by kernel_rfl) (by kernel_rfl) v xT w
theorem Tryz.noUnwrapsE (v : Value) (xT : TypeId) (w : World) : (Instr.typeAssert (.iface 38 v) xT 147 true).run Tryz.prog w = .ok (.tuple #[.nilIface, .bool false]) w := run_typeAssert_lacksB Tryz.underlying147 (by kernel_rfl) (by kernel_rfl) v xT w
theorem Tryz.noIsE (v : Value) (xT : TypeId) (w : World) : (Instr.typeAssert (.iface 38 v) xT 161 true).run Tryz.prog w = .ok (.tuple #[.nilIface, .bool false]) w := run_typeAssert_lacksB Tryz.underlying161 (by kernel_rfl) (by kernel_rfl) v xT w

/- the library functions without a Go body -/
theorem Tryz.ext55 (args : Array Value) (w : World) : (callFunc 55 args).run Tryz.prog w = (((fun args => ReflectliteValue.unpack (args.getD 0 (.tuple #[]))) args : Sem Value).run Tryz.prog w).andThen fun v w' => .ok (.value v) w' :=
  @run_callFunc_extern Tryz.prog 55 _ (fun args => ReflectliteValue.unpack (args.getD 0 (.tuple #[]))) Tryz.func55 (by kernel_rfl) (by kernel_rfl) (by kernel_rfl) (by kernel_rfl) args w
theorem Tryz.ext56 (args : Array Value) (w : World) : (callFunc 56 args).run Tryz.prog w = (((ReflectliteValue.methodAny (ReflectliteValue.valueError "reflectlite.Value.Type" 0) (fun t _ _ _ => ReflectliteType.toType t)) args : Sem Value).run Tryz.prog w).andThen fun v w' => .ok (.value v) w' :=
  run_callFunc_extern Tryz.func56 (by kernel_rfl) (by kernel_rfl) (by kernel_rfl) (by kernel_rfl) args w
theorem Tryz.ext57 (args : Array Value) (w : World) : (callFunc 57 args).run Tryz.prog w = (((ReflectliteValue.method (ReflectliteValue.valueError "reflectlite.Value.IsNil" 0) ReflectliteValue.isNil) args : Sem Value).run Tryz.prog w).andThen fun v w' => .ok (.value v) w' :=
  run_callFunc_extern Tryz.func57 (by kernel_rfl) (by kernel_rfl) (by kernel_rfl) (by kernel_rfl) args w
theorem Tryz.ext178 (args : Array Value) (w : World) : (callFunc 178 args).run Tryz.prog w = (((ReflectliteType.method ReflectliteType.elem) args : Sem Value).run Tryz.prog w).andThen fun v w' => .ok (.value v) w' :=
  run_callFunc_extern Tryz.func178 (by kernel_rfl) (by kernel_rfl) (by kernel_rfl) (by kernel_rfl) args w
theorem Tryz.ext179 (args : Array Value) (w : World) : (callFunc 179 args).run Tryz.prog w = (((ReflectliteType.relation "Implements" ReflectliteType.implements_) args : Sem Value).run Tryz.prog w).andThen fun v w' => .ok (.value v) w' :=
  run_callFunc_extern Tryz.func179 (by kernel_rfl) (by kernel_rfl) (by kernel_rfl) (by kernel_rfl) args w
theorem Tryz.ext72 (args : Array Value) (w : World) : (callFunc 72 args).run Tryz.prog w = ((ReflectliteType.typeOf args : Sem Value).run Tryz.prog w).andThen fun v w' => .ok (.value v) w' :=
  run_callFunc_extern Tryz.func72 (by kernel_rfl) (by kernel_rfl) (by kernel_rfl) (by kernel_rfl) args w
theorem Tryz.ext176 (args : Array Value) (w : World) : (callFunc 176 args).run Tryz.prog w = (((ReflectliteType.relation "AssignableTo" ReflectliteType.assignableTo) args : Sem Value).run Tryz.prog w).andThen fun v w' => .ok (.value v) w' :=
  run_callFunc_extern Tryz.func176 (by kernel_rfl) (by kernel_rfl) (by kernel_rfl) (by kernel_rfl) args w
theorem Tryz.ext85 (args : Array Value) (w : World) : (callFunc 85 args).run Tryz.prog w = (((ReflectliteValue.method (ReflectliteValue.valueError "reflectlite.Value.Elem" 0) ReflectliteValue.elem) args : Sem Value).run Tryz.prog w).andThen fun v w' => .ok (.value v) w' :=
  run_callFunc_extern Tryz.func85 (by kernel_rfl) (by kernel_rfl) (by kernel_rfl) (by kernel_rfl) args w
theorem Tryz.ext86 (args : Array Value) (w : World) : (callFunc 86 args).run Tryz.prog w = ((ReflectliteValue.set args : Sem Value).run Tryz.prog w).andThen fun v w' => .ok (.value v) w' :=
  run_callFunc_extern Tryz.func86 (by kernel_rfl) (by kernel_rfl) (by kernel_rfl) (by kernel_rfl) args w
end Go.Proofs.YtnkoblhdbccbeaaGreatDoor

namespace Go.Proofs.YtnkoblhdbccbeaaGreatDoor
open Go.RowKit Go.Extern.Stop Go.Stop Go.Extern

/-- 'v' is an error of the places 'ps', the outermost first, around 'fin'. -/
def Chain (w : World) (fin : Value) : List ByteArray → Value → Prop
  | [], v => v = fin
  | p :: ps, v => ∃ (b : Nat) (x : Value), v = .iface 84 (.pointer (some ⟨b, 0, none⟩)) ∧ w.heap[b]? = some (.cells #[.string p, x] 86 (0, 0)) ∧ Chain w fin ps x

theorem Chain.below {w w' : World} {fin : Value} (hb : Below w.heap.size w w') : ∀ {ps : List ByteArray} {v : Value}, Chain w fin ps v → Chain w' fin ps v
  | [], _, h => h
  | p :: ps, v, ⟨b, x, e, hc, h⟩ => by
    have hlt : b < w.heap.size := by
      rcases Nat.lt_or_ge b w.heap.size with h' | h'
      · exact h'
      · rw [Array.getElem?_eq_none h'] at hc; cases hc
    exact ⟨b, x, e, by rw [hb.block b hlt]; exact hc, Chain.below hb h⟩

theorem Chain.iface {w : World} {t : TypeId} {y : Value} {ps : List ByteArray} {v : Value} (h : Chain w (.iface t y) ps v) : ∃ u z, v = .iface u z := by
  cases ps with
  | nil => exact ⟨t, y, h⟩
  | cons p ps => obtain ⟨b, x, e, _⟩ := h; exact ⟨_, _, e⟩

theorem lt_of_cellT {w : World} {a : Addr} {v : Value} (h : w.cell? a = some v) : a.block < w.heap.size := by
  rcases Nat.lt_or_ge a.block w.heap.size with h' | h'
  · exact h'
  · simp [World.cell?, Array.getElem?_eq_none h'] at h
theorem cell_alloc_old {w : World} {a : Addr} {v : Value} (h : w.cell? a = some v) (o : Obj) : (w.alloc o).cell? a = some v := by
  rw [World.cell?_alloc_lt _ _ a (lt_of_cellT h)]; exact h
theorem frozen_alloc_old {w : World} {a : Addr} {v : Value} (h : w.cell? a = some v) (o : Obj) : (w.alloc o).frozen? a = w.frozen? a :=
  World.frozen?_alloc_old _ _ a (Nat.ne_of_lt (lt_of_cellT h))
theorem cell_of_heap {w : World} {b : Nat} {cs : Array Value} {t : TypeId} {x : Value} {k : Nat} (h : w.heap[b]? = some (.cells cs t (0, 0))) (hk : cs[k]? = some x) : w.cell? ⟨b, k, none⟩ = some x := by
  simp [World.cell?, h, hk]

set_option maxHeartbeats 1000000 in
theorem as_code (ps : List ByteArray) (c : Int) (v : Value) (t a : Addr) (old : Value) (w : World) (hch : Chain w (.iface 38 (.int .i64 c)) ps v) (ha : w.cell? a = some (.pointer (some t))) (ht : w.cell? t = some old) (hf : w.frozen? t = false) :
    Calls Tryz.prog 58 #[v, .iface 68 (.pointer (some t)), .agg #[.pointer (some ⟨11, 68, none⟩), .pointer (some a), .int .u64 150], .iface 138 (.agg #[.pointer (some ⟨11, 38, none⟩)])] w
      fun e w' => e = .returned (.bool true) ∧ ∃ w1, Below w.heap.size w w1 ∧ w' = w1.setCell t (.int .i64 c) := by
  have h31 := Tryz.ext72
  have h74 := Tryz.ext176
  have h34 := Tryz.ext85
  have h25 := Tryz.ext55
  have h35 := Tryz.ext86
  have mA := Tryz.methodAssignableTo
  have mU := Tryz.methodUnwrap
  have tO := Tryz.typeOf27
  have tF := Tryz.typeOf39
  have aE := Tryz.asg27_27
  have aF := Tryz.asg39_27
  have nA := Tryz.noAsF
  have hU := Tryz.hasUnwrapF
  have vE := Tryz.valueOf27
  go_enter Tryz.func58, Tryz.ntmps58
  go_wp2
  go_loopg [0] ps.length (fun k e wr => wr = w.alloc (.cells #[.pointer (some ⟨11, 68, none⟩), .pointer (some a), .int .u64 150] 99) ∧ ∃ qs : List ByteArray, qs.length = k ∧ Chain w (.iface 38 (.int .i64 c)) qs e)
  case atStart => exact ⟨rfl, ps, rfl, hch⟩
  case round =>
    obtain ⟨rfl, qs, hk, hq⟩ := hrel
    have HK : Hid (qs.length = gk) := hk
    clear hk hch
    cases qs with
    | nil =>
      obtain rfl : _ = Value.iface 38 (.int .i64 c) := hq
      have el := Tryz.elemV45 a t (w.alloc (.cells #[.pointer (some ⟨11, 68, none⟩), .pointer (some a), .int .u64 150] 99)) (cell_alloc_old ha _)
      have st := Tryz.set27 t ⟨w.heap.size + 1, 0, none⟩ c old ((w.alloc (.cells #[.pointer (some ⟨11, 68, none⟩), .pointer (some a), .int .u64 150] 99)).alloc (.cells #[.int .i64 c] 38)) (by rw [World.cell?_alloc_at _ _ _ _ (by simp)]; rfl) (cell_alloc_old (cell_alloc_old ht _) _) (by rw [frozen_alloc_old (cell_alloc_old ht _), frozen_alloc_old ht]; exact hf)
      go_wp2
      go_ret
      exact ⟨rfl, _, ((Below.refl _ _).alloc (Nat.le_refl _) _).alloc (by simp) _, rfl⟩
    | cons p qs =>
      obtain ⟨b, x, rfl, hcell, hq⟩ := hq
      obtain ⟨u, z, rfl⟩ := hq.iface
      have hc1 : (w.alloc (.cells #[.pointer (some ⟨11, 68, none⟩), .pointer (some a), .int .u64 150] 99)).cell? ⟨b, 1, none⟩ = some (.iface u z) := cell_alloc_old (cell_of_heap hcell rfl) _
      go_wp2
      go_roundg qs.length
      case measure => have := HK.out; simp at this; omega
      case rel => exact ⟨rfl, qs, rfl, hq⟩
end Go.Proofs.YtnkoblhdbccbeaaGreatDoor

namespace Go.Proofs.YtnkoblhdbccbeaaGreatDoor
open Go.RowKit Go.Extern.Stop Go.Stop Go.Extern

theorem as_nil (t : Value) (w : World) :
    Calls Tryz.prog 32 #[.nilIface, t] w fun e w' => e = .returned (.bool false) ∧ w' = w := by
  go_enter Tryz.func32, Tryz.ntmps32
  go_wp2
  go_ret
  exact ⟨rfl, rfl⟩

/-- the variable errors.errorType holds the handle of the type error. -/
def Handle (w : World) : Prop := w.cell? ⟨2, 0, none⟩ = some (.iface 138 (.agg #[.pointer (some ⟨11, 35, none⟩)]))

theorem Handle.below {w w' : World} (h : Handle w) (hb : Below w.heap.size w w') : Handle w' := by
  have hlt := lt_of_cellT h
  unfold Handle
  rw [hb.cell hlt]; exact h

set_option maxHeartbeats 1000000 in
theorem As_code (ps : List ByteArray) (c : Int) (v : Value) (t : Addr) (old : Value) (w : World) (hg : Handle w) (hch : Chain w (.iface 38 (.int .i64 c)) ps v) (ht : w.cell? t = some old) (hf : w.frozen? t = false) :
    Calls Tryz.prog 32 #[v, .iface 68 (.pointer (some t))] w
      fun e w' => e = .returned (.bool true) ∧ ∃ w1, Below w.heap.size w w1 ∧ w' = w1.setCell t (.int .i64 c) := by
  obtain ⟨u, z, rfl⟩ := hch.iface
  have h65 := @run_callFunc_extern Tryz.prog 165 _ (ReflectliteType.abiMethod fun t => do pure (.int .u8 (← Rtype.kind t))) Tryz.func165 (by kernel_rfl) (by kernel_rfl) (by kernel_rfl) (by kernel_rfl)
  have h25 := Tryz.ext55
  have h26 := Tryz.ext56
  have h27 := Tryz.ext57
  have h76 := Tryz.ext178
  have h77 := Tryz.ext179
  have f6 := Tryz.valueOf45
  have f7 := Tryz.type45
  have mK := Tryz.methodKind
  have mE := Tryz.methodElem
  have mI := Tryz.methodImplements
  have k45 := Tryz.kind45
  have k27 := Tryz.kind27
  have e45 := Tryz.elem45
  have i27 := Tryz.implements27
  have n8 := Tryz.isNil45 ⟨w.heap.size, 0, none⟩ t ((w.alloc (.cells #[.pointer (some t)] 68)).alloc (.cells #[.pointer (some ⟨11, 68, none⟩), .pointer (some ⟨w.heap.size, 0, none⟩), .int .u64 150] 99)) (by simp)
  have hg2 : ((w.alloc (.cells #[.pointer (some t)] 68)).alloc (.cells #[.pointer (some ⟨11, 68, none⟩), .pointer (some ⟨w.heap.size, 0, none⟩), .int .u64 150] 99)).cell? ⟨2, 0, none⟩ = some (.iface 138 (.agg #[.pointer (some ⟨11, 35, none⟩)])) := cell_alloc_old (cell_alloc_old hg _) _
  have hB : Below w.heap.size w ((w.alloc (.cells #[.pointer (some t)] 68)).alloc (.cells #[.pointer (some ⟨11, 68, none⟩), .pointer (some ⟨w.heap.size, 0, none⟩), .int .u64 150] 99)) := ((Below.refl _ _).alloc (Nat.le_refl _) _).alloc (by simp) _
  go_enter Tryz.func32, Tryz.ntmps32
  go_wp2_with (go_at_call 58; refine (as_code ps c _ t ⟨w.heap.size, 0, none⟩ old _ (hch.below hB) (by simp) (cell_alloc_old (cell_alloc_old ht _) _) (by rw [frozen_alloc_old (cell_alloc_old ht _), frozen_alloc_old ht]; exact hf)).mono ?_; rintro e w' ⟨rfl, w1, hb1, rfl⟩)
  go_ret
  exact ⟨rfl, w1, hB.trans (hb1.mono (by simp; omega)), rfl⟩
section
variable {P : Program} (w : World)
theorem run_equalIn_iface_int (d : Nat) {ti tn : TypeId} {ms : Array (String × TypeId)} {i : TypeInfo} {k : IntKind} (a b : Int)
    (hi : P.underlying ti = some (.interface ms)) (hn : P.underlying tn = some (.int k)) (hinfo : P.info? tn = some i) (hcomp : i.comparable = true) :
    (Op.equalIn (d + 2) ti (.iface tn (.int k a)) (.iface tn (.int k b))).run P w = .ok (a == b) w := by
  simp [Op.equalIn, run_underlying hi, run_underlying hn, typeInfo, hinfo, hcomp]
theorem run_eql_iface_int {ti tn : TypeId} {ms : Array (String × TypeId)} {i : TypeInfo} {k : IntKind} (a b : Int)
    (hi : P.underlying ti = some (.interface ms)) (hn : P.underlying tn = some (.int k)) (hinfo : P.info? tn = some i) (hcomp : i.comparable = true) :
    (binOp .eql ti (.iface tn (.int k a)) (.iface tn (.int k b))).run P w = .ok (.bool (a == b)) w := by
  simp only [binOp]
  simp [Op.equal, Op.maxDepth, run_equalIn_iface_int w 9998 a b hi hn hinfo hcomp]
end
theorem Tryz.comp27 : (Tryz.prog.info? 38).map (·.comparable) = some true := by kernel_rfl
set_option maxHeartbeats 1000000 in
theorem is_codes (a b : Int) (w : World) :
    Calls Tryz.prog 73 #[.iface 38 (.int .i64 a), .iface 38 (.int .i64 b), .bool true] w fun e w' => e = .returned (.bool (a == b)) ∧ w' = w := by
  obtain ⟨i, hi, hcmp⟩ := Option.map_eq_some_iff.1 Tryz.comp27
  have heq := run_eql_iface_int (P := Tryz.prog) w a b Tryz.underlying35 Tryz.underlying38 hi hcmp
  have nE := Tryz.noIsE
  have uE := Tryz.noUnwrapE
  have sE := Tryz.noUnwrapsE
  cases hab : (a == b)
  · rw [hab] at heq
    go_enter Tryz.func73, Tryz.ntmps73
    go_wp2
    refine wp_loop_rounds 1 ?_
    rw [rounds_succ]
    go_wp2
    go_ret
    exact ⟨rfl, rfl⟩
  · rw [hab] at heq
    go_enter Tryz.func73, Tryz.ntmps73
    go_wp2
    refine wp_loop_rounds 1 ?_
    rw [rounds_succ]
    go_wp2
    go_ret
    exact ⟨rfl, rfl⟩

theorem call75 (w : World) : (callFunc 177 #[.agg #[.pointer (some ⟨11, 38, none⟩)]]).run Tryz.prog w = .ok (.value (.bool true)) w := by
  rw [@run_callFunc_extern Tryz.prog 177 _ (ReflectliteType.method fun t => do Rtype.noPackHeld "Comparable" t; pure (.bool (← typeInfo t).comparable)) Tryz.func177 (by kernel_rfl) (by kernel_rfl) (by kernel_rfl) (by kernel_rfl)]
  kernel_rfl

set_option maxHeartbeats 1000000 in
theorem Is_codes (a b : Int) (w : World) :
    Calls Tryz.prog 42 #[.iface 38 (.int .i64 a), .iface 38 (.int .i64 b)] w fun e w' => e = .returned (.bool (a == b)) ∧ w' = w := by
  have h31 := Tryz.ext72
  have h75 := call75
  have tT := Tryz.typeOf27
  have mR := Tryz.methodComparable
  go_enter Tryz.func42, Tryz.ntmps42
  go_wp2_with (go_at_call 73; refine (is_codes a b _).mono ?_; rintro e w' ⟨rfl, rfl⟩)
  go_ret
  exact ⟨rfl, rfl⟩

theorem New_none (p : ByteArray) (w : World) : Calls Tryz.prog 26 #[.int .i64 0, .string p] w fun e w' => e = .returned .nilIface ∧ w' = w := by
  go_enter Tryz.func26, Tryz.ntmps26
  go_wp2_with (go_at_call 42; refine (Is_codes _ _ _).mono ?_; rintro e w' ⟨rfl, rfl⟩)
  go_ret
  exact ⟨rfl, rfl⟩
theorem New_some (c : Int) (hc : (c == 0) = false) (p : ByteArray) (w : World) : Calls Tryz.prog 26 #[.int .i64 c, .string p] w fun e w' => e = .returned (.iface 84 (.pointer (some ⟨w.heap.size, 0, none⟩))) ∧ w' = w.alloc (.cells #[.string p, .iface 38 (.int .i64 c)] 86) := by
  go_enter Tryz.func26, Tryz.ntmps26
  go_wp2_with (go_at_call 42; refine (Is_codes _ _ _).mono ?_; rintro e w' ⟨rfl, rfl⟩)
  go_ret
  exact ⟨rfl, rfl⟩
/-- what a store into the target leaves. -/
theorem set_cell {w w1 : World} {t : Addr} {old v : Value} (hb : Below w.heap.size w w1) (ht : w.cell? t = some old) : (w1.setCell t v).cell? t = some v :=
  World.cell?_setCell_same _ _ _ (hb.cell (lt_of_cellT ht) ▸ ht)

theorem Code_none (w : World) : Calls Tryz.prog 17 #[.nilIface] w fun e w' => e = .returned (.int .i64 0) ∧ w' = w := by
  go_enter Tryz.func17, Tryz.ntmps17
  go_wp2
  go_ret
  exact ⟨rfl, rfl⟩

set_option maxHeartbeats 1000000 in
theorem Code_some (ps : List ByteArray) (c : Int) (v : Value) (w : World) (hg : Handle w) (hch : Chain w (.iface 38 (.int .i64 c)) ps v) :
    Calls Tryz.prog 17 #[v] w fun e w' => e = .returned (.int .i64 c) ∧ Below w.heap.size w w' := by
  obtain ⟨u, z, rfl⟩ := hch.iface
  have hB : Below w.heap.size w (w.alloc (.cells #[.int .i64 0] 38)) := (Below.refl _ _).alloc (Nat.le_refl _) _
  have ht : (w.alloc (.cells #[.int .i64 0] 38)).cell? ⟨w.heap.size, 0, none⟩ = some (.int .i64 0) := by simp
  have hf : (w.alloc (.cells #[.int .i64 0] 38)).frozen? ⟨w.heap.size, 0, none⟩ = false := by simp
  go_enter Tryz.func17, Tryz.ntmps17
  go_wp2_with fail
  refine (As_code ps c _ ⟨w.heap.size, 0, none⟩ (.int .i64 0) _ (hg.below hB) (hch.below hB) ht hf).mono ?_
  rintro e w' ⟨rfl, w1, hb1, rfl⟩
  have hc := set_cell (v := .int .i64 c) hb1 ht
  have hb2 : Below w.heap.size w (w1.setCell ⟨w.heap.size, 0, none⟩ (.int .i64 c)) := (hB.trans (hb1.mono (by simp))).setCell (Nat.le_refl _) _
  clear hb1 hf ht
  generalize w1.setCell ⟨w.heap.size, 0, none⟩ (.int .i64 c) = W2 at *
  go_wp2
  go_ret
  exact ⟨rfl, hb2⟩

end Go.Proofs.YtnkoblhdbccbeaaGreatDoor
