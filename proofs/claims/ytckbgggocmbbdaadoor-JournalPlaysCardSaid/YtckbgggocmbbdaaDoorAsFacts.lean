/-
  errors.As over a chain of faults, where the target is a number's variable or a fault's.
-/
import Derived.Test.YtckbgggocmbbdaaDoorChain
namespace Go.Proofs.YtckbgggocmbbdaaDoor
open Go.RowKit Go.Extern.Stop Go.Stop Go.Extern

theorem rlm (z : Sem Value) (f : TypeId → Addr → Nat → Nat → Sem Value) (v : Value) :
    ReflectliteValue.method z f #[v] = (do match ← ReflectliteValue.parts v with | none => z | some (t, a, fl) => f t a fl (fl % 32)) := rfl
theorem rls (v x : Value) : ReflectliteValue.set #[v, x] = (do
    let (some (dst, a, fl), some (src, b, _)) := (← ReflectliteValue.parts v, ← ReflectliteValue.parts x)
      | unsupported (.noEntry "extern/(internal/reflectlite.Value).Set.zeroValue")
    if fl / ReflectliteValue.flagAddr % 2 == 0 then unsupported (.noEntry "extern/(internal/reflectlite.Value).Set.unaddressable")
    let val ← loadVar src b
    if ← Rtype.directlyAssignable dst src then storeVar dst a val
    else if ← Rtype.implements dst src then
      if (← Rtype.kind src) == 20 then
        match val with
        | .nilIface => unsupported (.noEntry "extern/reflectlite: a nil value of one interface type handed on as a value of another")
        | _ => storeVar dst a val
      else storeVar dst a (.iface src val)
    else panicString ("reflectlite.Set: value of type " ++ (← Rtype.spelt src) ++ " is not assignable to type " ++ (← Rtype.spelt dst))
    pure (.tuple #[])) := rfl
theorem Tryd.methodKind (h : Value) (w : World) : (Go.method 239 88 (.agg #[h]) "Kind").run Tryd.prog w = .ok (62, h) w := by kernel_rfl
theorem Tryd.methodElem (h : Value) (w : World) : (Go.method 239 88 (.agg #[h]) "Elem").run Tryd.prog w = .ok (76, .agg #[h]) w := by kernel_rfl
theorem Tryd.methodImplements (h : Value) (w : World) : (Go.method 239 88 (.agg #[h]) "Implements").run Tryd.prog w = .ok (77, .agg #[h]) w := by kernel_rfl
theorem Tryd.methodAssignableTo (h : Value) (w : World) : (Go.method 239 88 (.agg #[h]) "AssignableTo").run Tryd.prog w = .ok (74, .agg #[h]) w := by kernel_rfl
theorem Tryd.noAs24 (v : Value) (xT : TypeId) (w : World) : (Instr.typeAssert (.iface 55 v) xT 105 true).run Tryd.prog w = .ok (.tuple #[.nilIface, .bool false]) w := run_typeAssert_lacksB Tryd.underlying105 (by kernel_rfl) (by kernel_rfl) v xT w
theorem Tryd.noAs40 (v : Value) (xT : TypeId) (w : World) : (Instr.typeAssert (.iface 98 v) xT 105 true).run Tryd.prog w = .ok (.tuple #[.nilIface, .bool false]) w := run_typeAssert_lacksB Tryd.underlying105 (by kernel_rfl) (by kernel_rfl) v xT w
theorem Tryd.noUnwrapA24 (v : Value) (xT : TypeId) (w : World) : (Instr.typeAssert (.iface 55 v) xT 93 true).run Tryd.prog w = .ok (.tuple #[.nilIface, .bool false]) w := run_typeAssert_lacksB Tryd.underlying93 (by kernel_rfl) (by kernel_rfl) v xT w
theorem Tryd.noUnwrapsA24 (v : Value) (xT : TypeId) (w : World) : (Instr.typeAssert (.iface 55 v) xT 95 true).run Tryd.prog w = .ok (.tuple #[.nilIface, .bool false]) w := run_typeAssert_lacksB Tryd.underlying95 (by kernel_rfl) (by kernel_rfl) v xT w
theorem Tryd.hasUnwrapA40 (v : Value) (xT : TypeId) (w : World) : (Instr.typeAssert (.iface 98 v) xT 93 true).run Tryd.prog w = .ok (.tuple #[.iface 98 v, .bool true]) w := run_typeAssert_hasB Tryd.underlying93 (by kernel_rfl) v xT w
theorem Tryd.typeOfA24 (v : Value) (w : World) : (callFunc 33 #[.iface 55 v]).run Tryd.prog w = .ok (Next.value (.iface 88 (.agg #[.pointer (some ⟨2, 55, none⟩)]))) w := by kernel_rfl
theorem Tryd.typeOfA40 (v : Value) (w : World) : (callFunc 33 #[.iface 98 v]).run Tryd.prog w = .ok (Next.value (.iface 88 (.agg #[.pointer (some ⟨2, 98, none⟩)]))) w := by kernel_rfl
theorem Tryd.ext18 (args : Array Value) (w : World) : (callFunc 40 args).run Tryd.prog w = ((ReflectliteValue.method (ReflectliteValue.valueError "reflectlite.Value.IsNil" 0) ReflectliteValue.isNil args).run Tryd.prog w).andThen fun v w' => .ok (Next.value v) w' := run_callFunc_extern Tryd.func40 (by kernel_rfl) (by kernel_rfl) (by kernel_rfl) (by kernel_rfl) args w
theorem Tryd.ext25 (args : Array Value) (w : World) : (callFunc 45 args).run Tryd.prog w = ((ReflectliteValue.method (ReflectliteValue.valueError "reflectlite.Value.Elem" 0) ReflectliteValue.elem args).run Tryd.prog w).andThen fun v w' => .ok (Next.value v) w' := run_callFunc_extern Tryd.func45 (by kernel_rfl) (by kernel_rfl) (by kernel_rfl) (by kernel_rfl) args w
theorem Tryd.ext26 (args : Array Value) (w : World) : (callFunc 46 args).run Tryd.prog w = ((ReflectliteValue.set args).run Tryd.prog w).andThen fun v w' => .ok (Next.value v) w' := run_callFunc_extern Tryd.func46 (by kernel_rfl) (by kernel_rfl) (by kernel_rfl) (by kernel_rfl) args w

/-! the target's type 31, its element's 24 -/
theorem Tryd.valueOf31 (t : Addr) (w : World) : (callFunc 38 #[.iface 66 (.pointer (some t))]).run Tryd.prog w = .ok (Next.value (.agg #[.pointer (some ⟨2, 66, none⟩), .pointer (some ⟨w.heap.size, 0, none⟩), .int .u64 150])) (w.alloc (.cells #[.pointer (some t)] 66)) := by kernel_rfl
theorem Tryd.type31 (a : Addr) (w : World) : (callFunc 39 #[.agg #[.pointer (some ⟨2, 66, none⟩), .pointer (some a), .int .u64 150]]).run Tryd.prog w = .ok (Next.value (.iface 88 (.agg #[.pointer (some ⟨2, 66, none⟩)]))) w := by kernel_rfl
theorem Tryd.kind31 (w : World) : (callFunc 62 #[.pointer (some ⟨2, 66, none⟩)]).run Tryd.prog w = .ok (Next.value (.int .u8 22)) w := by kernel_rfl
theorem Tryd.kind24 (w : World) : (callFunc 62 #[.pointer (some ⟨2, 55, none⟩)]).run Tryd.prog w = .ok (Next.value (.int .u8 2)) w := by kernel_rfl
theorem Tryd.elem31 (w : World) : (callFunc 76 #[.agg #[.pointer (some ⟨2, 66, none⟩)]]).run Tryd.prog w = .ok (Next.value (.iface 88 (.agg #[.pointer (some ⟨2, 55, none⟩)]))) w := by kernel_rfl
theorem Tryd.implements24 (w : World) : (callFunc 77 #[.agg #[.pointer (some ⟨2, 55, none⟩)], .iface 88 (.agg #[.pointer (some ⟨2, 29, none⟩)])]).run Tryd.prog w = .ok (Next.value (.bool true)) w := by kernel_rfl
theorem Tryd.assignable24 (w : World) : (callFunc 74 #[.agg #[.pointer (some ⟨2, 55, none⟩)], .iface 88 (.agg #[.pointer (some ⟨2, 55, none⟩)])]).run Tryd.prog w = .ok (Next.value (.bool true)) w := by kernel_rfl
theorem Tryd.assignable40to24 (w : World) : (callFunc 74 #[.agg #[.pointer (some ⟨2, 98, none⟩)], .iface 88 (.agg #[.pointer (some ⟨2, 55, none⟩)])]).run Tryd.prog w = .ok (Next.value (.bool false)) w := by kernel_rfl
theorem Tryd.valueOf24 (c : Int) (w : World) : (callFunc 38 #[.iface 55 (.int .i64 c)]).run Tryd.prog w = .ok (Next.value (.agg #[.pointer (some ⟨2, 55, none⟩), .pointer (some ⟨w.heap.size, 0, none⟩), .int .u64 130])) (w.alloc (.cells #[.int .i64 c] 55)) := by kernel_rfl
theorem Tryd.parts31 (a : Addr) (w : World) : (ReflectliteValue.parts (.agg #[.pointer (some ⟨2, 66, none⟩), .pointer (some a), .int .u64 150])).run Tryd.prog w = .ok (some (66, a, 150)) w := by kernel_rfl
theorem Tryd.isNil31 (a p : Addr) (W : World) (ha : W.cell? a = some (.pointer (some p))) :
    (callFunc 40 #[.agg #[.pointer (some ⟨2, 66, none⟩), .pointer (some a), .int .u64 150]]).run Tryd.prog W = .ok (Next.value (.bool false)) W := by
  have h : (ReflectliteValue.method (ReflectliteValue.valueError "reflectlite.Value.IsNil" 0) ReflectliteValue.isNil #[.agg #[.pointer (some ⟨2, 66, none⟩), .pointer (some a), .int .u64 150]]).run Tryd.prog W = .ok (.bool false) W := by
    rw [rlm]
    simp only [Sem.run_bind, Tryd.parts31, Result.andThen]
    simp [ReflectliteValue.isNil, loadVar, isAgg, underlying, Tryd.underlying66, ha, Result.andThen]
  rw [Tryd.ext18, h]; rfl
theorem Tryd.elemOf31 (w : World) : (Rtype.elem? 66).run Tryd.prog w = .ok (some 55) w := by kernel_rfl
theorem Tryd.mk24 (p : Addr) (w : World) : (ReflectliteValue.mk 55 p ReflectliteValue.flagAddr).run Tryd.prog w = .ok (.agg #[.pointer (some ⟨2, 55, none⟩), .pointer (some p), .int .u64 386]) w := by kernel_rfl
theorem Tryd.elemV31 (a p : Addr) (W : World) (ha : W.cell? a = some (.pointer (some p))) :
    (callFunc 45 #[.agg #[.pointer (some ⟨2, 66, none⟩), .pointer (some a), .int .u64 150]]).run Tryd.prog W = .ok (Next.value (.agg #[.pointer (some ⟨2, 55, none⟩), .pointer (some p), .int .u64 386])) W := by
  have h : (ReflectliteValue.method (ReflectliteValue.valueError "reflectlite.Value.Elem" 0) ReflectliteValue.elem #[.agg #[.pointer (some ⟨2, 66, none⟩), .pointer (some a), .int .u64 150]]).run Tryd.prog W = .ok (.agg #[.pointer (some ⟨2, 55, none⟩), .pointer (some p), .int .u64 386]) W := by
    rw [rlm]
    simp only [Sem.run_bind, Tryd.parts31, Result.andThen]
    simp [ReflectliteValue.elem, loadVar, isAgg, underlying, Tryd.underlying66, ha, Result.andThen, Tryd.elemOf31, Tryd.mk24]
  rw [Tryd.ext25, h]; rfl
theorem Tryd.parts24a (a : Addr) (w : World) : (ReflectliteValue.parts (.agg #[.pointer (some ⟨2, 55, none⟩), .pointer (some a), .int .u64 386])).run Tryd.prog w = .ok (some (55, a, 386)) w := by kernel_rfl
theorem Tryd.parts24 (a : Addr) (w : World) : (ReflectliteValue.parts (.agg #[.pointer (some ⟨2, 55, none⟩), .pointer (some a), .int .u64 130])).run Tryd.prog w = .ok (some (55, a, 130)) w := by kernel_rfl
theorem Tryd.direct24 (w : World) : (Rtype.directlyAssignable 55 55).run Tryd.prog w = .ok true w := by kernel_rfl
theorem Tryd.set24 (ta b : Addr) (c : Int) (old : Value) (W : World) (hb : W.cell? b = some (.int .i64 c)) (ht : W.cell? ta = some old) (hf : W.frozen? ta = false) :
    (callFunc 46 #[.agg #[.pointer (some ⟨2, 55, none⟩), .pointer (some ta), .int .u64 386], .agg #[.pointer (some ⟨2, 55, none⟩), .pointer (some b), .int .u64 130]]).run Tryd.prog W = .ok (Next.value (.tuple #[])) (W.setCell ta (.int .i64 c)) := by
  have h : (ReflectliteValue.set #[.agg #[.pointer (some ⟨2, 55, none⟩), .pointer (some ta), .int .u64 386], .agg #[.pointer (some ⟨2, 55, none⟩), .pointer (some b), .int .u64 130]]).run Tryd.prog W = .ok (.tuple #[]) (W.setCell ta (.int .i64 c)) := by
    rw [rls]
    simp only [Sem.run_bind, Tryd.parts24a, Tryd.parts24, Result.andThen]
    simp [ReflectliteValue.flagAddr, loadVar, isAgg, underlying, Tryd.underlying55, hb, Result.andThen, Tryd.direct24, storeVar, Value.cells, storeCells, Addr.add]
    rw [run_store Tryd.prog W ta _ _ (by rfl)]
    simp [ht, hf]
  rw [Tryd.ext26, h]; rfl

/-! the target's type 80, its element's 40 -/
theorem Tryd.kind40 (w : World) : (callFunc 62 #[.pointer (some ⟨2, 98, none⟩)]).run Tryd.prog w = .ok (Next.value (.int .u8 22)) w := by kernel_rfl
theorem Tryd.implements40 (w : World) : (callFunc 77 #[.agg #[.pointer (some ⟨2, 98, none⟩)], .iface 88 (.agg #[.pointer (some ⟨2, 29, none⟩)])]).run Tryd.prog w = .ok (Next.value (.bool true)) w := by kernel_rfl
theorem Tryd.assignable40 (w : World) : (callFunc 74 #[.agg #[.pointer (some ⟨2, 98, none⟩)], .iface 88 (.agg #[.pointer (some ⟨2, 98, none⟩)])]).run Tryd.prog w = .ok (Next.value (.bool true)) w := by kernel_rfl
theorem Tryd.assignable24to40 (w : World) : (callFunc 74 #[.agg #[.pointer (some ⟨2, 55, none⟩)], .iface 88 (.agg #[.pointer (some ⟨2, 98, none⟩)])]).run Tryd.prog w = .ok (Next.value (.bool false)) w := by kernel_rfl
theorem Tryd.valueOf40 (e : Addr) (w : World) : (callFunc 38 #[.iface 98 (.pointer (some e))]).run Tryd.prog w = .ok (Next.value (.agg #[.pointer (some ⟨2, 98, none⟩), .pointer (some ⟨w.heap.size, 0, none⟩), .int .u64 150])) (w.alloc (.cells #[.pointer (some e)] 98)) := by kernel_rfl
theorem Tryd.mk40 (p : Addr) (w : World) : (ReflectliteValue.mk 98 p ReflectliteValue.flagAddr).run Tryd.prog w = .ok (.agg #[.pointer (some ⟨2, 98, none⟩), .pointer (some p), .int .u64 406]) w := by kernel_rfl
theorem Tryd.parts40a (a : Addr) (w : World) : (ReflectliteValue.parts (.agg #[.pointer (some ⟨2, 98, none⟩), .pointer (some a), .int .u64 406])).run Tryd.prog w = .ok (some (98, a, 406)) w := by kernel_rfl
theorem Tryd.parts40 (a : Addr) (w : World) : (ReflectliteValue.parts (.agg #[.pointer (some ⟨2, 98, none⟩), .pointer (some a), .int .u64 150])).run Tryd.prog w = .ok (some (98, a, 150)) w := by kernel_rfl
theorem Tryd.direct40 (w : World) : (Rtype.directlyAssignable 98 98).run Tryd.prog w = .ok true w := by kernel_rfl
theorem Tryd.set40 (ta b : Addr) (e : Addr) (old : Value) (W : World) (hb : W.cell? b = some (.pointer (some e))) (ht : W.cell? ta = some old) (hf : W.frozen? ta = false) :
    (callFunc 46 #[.agg #[.pointer (some ⟨2, 98, none⟩), .pointer (some ta), .int .u64 406], .agg #[.pointer (some ⟨2, 98, none⟩), .pointer (some b), .int .u64 150]]).run Tryd.prog W = .ok (Next.value (.tuple #[])) (W.setCell ta (.pointer (some e))) := by
  have h : (ReflectliteValue.set #[.agg #[.pointer (some ⟨2, 98, none⟩), .pointer (some ta), .int .u64 406], .agg #[.pointer (some ⟨2, 98, none⟩), .pointer (some b), .int .u64 150]]).run Tryd.prog W = .ok (.tuple #[]) (W.setCell ta (.pointer (some e))) := by
    rw [rls]
    simp only [Sem.run_bind, Tryd.parts40a, Tryd.parts40, Result.andThen]
    simp [ReflectliteValue.flagAddr, loadVar, isAgg, underlying, Tryd.underlying98, hb, Result.andThen, Tryd.direct40, storeVar, Value.cells, storeCells, Addr.add]
    rw [run_store Tryd.prog W ta _ _ (by rfl)]
    simp [ht, hf]
  rw [Tryd.ext26, h]; rfl
end Go.Proofs.YtckbgggocmbbdaaDoor
