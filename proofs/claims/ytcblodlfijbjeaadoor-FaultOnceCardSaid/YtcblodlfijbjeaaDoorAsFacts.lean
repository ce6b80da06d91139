/-
  errors.As over a chain of faults, where the target is a number's variable or a fault's.
-/
import Derived.Test.YtcblodlfijbjeaaDoorChain
namespace Go.Proofs.YtcblodlfijbjeaaDoor
open Go.RowKit Go.Extern.Stop Go.Stop Go.Extern

theorem rlm (z : Sem Value) (f : TypeId → Addr → Nat → Nat → Sem Value) (v : Value) :
    ReflectliteValue.method z f #[v] = (do match ← ReflectliteValue.parts v with | none => z | some (t, a, fl) => f t a fl (fl % 32)) := rfl
theorem rls (v x : Value) : ReflectliteValue.set #[v, x] = (do
    let (some (dst, a, fl), some (src, b, _)) := (← ReflectliteValue.parts v, ← ReflectliteValue.parts x)
      | unsupported (.noEntry "extern/(internal/reflectlite.Value).Set.zeroValue")
    if fl / ReflectliteValue.flagAddr % 2 == 0 then unsupported (.noEntry "extern/(internal/reflectlite.Value).Set.unaddressable")
    let val ← loadVar src b
    if ← Rtype.directlyAssignable dst src then storeVar dst a val
    else if ← Rtype.implements dst src then
      if (← Rtype.kind src) == 20 then
        match val with
        | .nilIface => unsupported (.noEntry "extern/reflectlite: a nil value of one interface type handed on as a value of another")
        | _ => storeVar dst a val
      else storeVar dst a (.iface src val)
    else panicString ("reflectlite.Set: value of type " ++ (← Rtype.spelt src) ++ " is not assignable to type " ++ (← Rtype.spelt dst))
    pure (.tuple #[])) := rfl
theorem Tryd.methodKind (h : Value) (w : World) : (Go.method 237 62 (.agg #[h]) "Kind").run Tryd.prog w = .ok (56, h) w := by kernel_rfl
theorem Tryd.methodElem (h : Value) (w : World) : (Go.method 237 62 (.agg #[h]) "Elem").run Tryd.prog w = .ok (77, .agg #[h]) w := by kernel_rfl
theorem Tryd.methodImplements (h : Value) (w : World) : (Go.method 237 62 (.agg #[h]) "Implements").run Tryd.prog w = .ok (78, .agg #[h]) w := by kernel_rfl
theorem Tryd.methodAssignableTo (h : Value) (w : World) : (Go.method 237 62 (.agg #[h]) "AssignableTo").run Tryd.prog w = .ok (75, .agg #[h]) w := by kernel_rfl
theorem Tryd.noAs24 (v : Value) (xT : TypeId) (w : World) : (Instr.typeAssert (.iface 24 v) xT 66 true).run Tryd.prog w = .ok (.tuple #[.nilIface, .bool false]) w := run_typeAssert_lacksB Tryd.underlying66 (by kernel_rfl) (by kernel_rfl) v xT w
theorem Tryd.noAs40 (v : Value) (xT : TypeId) (w : World) : (Instr.typeAssert (.iface 40 v) xT 66 true).run Tryd.prog w = .ok (.tuple #[.nilIface, .bool false]) w := run_typeAssert_lacksB Tryd.underlying66 (by kernel_rfl) (by kernel_rfl) v xT w
theorem Tryd.noUnwrapA24 (v : Value) (xT : TypeId) (w : World) : (Instr.typeAssert (.iface 24 v) xT 69 true).run Tryd.prog w = .ok (.tuple #[.nilIface, .bool false]) w := run_typeAssert_lacksB Tryd.underlying69 (by kernel_rfl) (by kernel_rfl) v xT w
theorem Tryd.noUnwrapsA24 (v : Value) (xT : TypeId) (w : World) : (Instr.typeAssert (.iface 24 v) xT 71 true).run Tryd.prog w = .ok (.tuple #[.nilIface, .bool false]) w := run_typeAssert_lacksB Tryd.underlying71 (by kernel_rfl) (by kernel_rfl) v xT w
theorem Tryd.hasUnwrapA40 (v : Value) (xT : TypeId) (w : World) : (Instr.typeAssert (.iface 40 v) xT 69 true).run Tryd.prog w = .ok (.tuple #[.iface 40 v, .bool true]) w := run_typeAssert_hasB Tryd.underlying69 (by kernel_rfl) v xT w
theorem Tryd.typeOfA24 (v : Value) (w : World) : (callFunc 20 #[.iface 24 v]).run Tryd.prog w = .ok (Next.value (.iface 62 (.agg #[.pointer (some ⟨5, 24, none⟩)]))) w := by kernel_rfl
theorem Tryd.typeOfA40 (v : Value) (w : World) : (callFunc 20 #[.iface 40 v]).run Tryd.prog w = .ok (Next.value (.iface 62 (.agg #[.pointer (some ⟨5, 40, none⟩)]))) w := by kernel_rfl
theorem Tryd.ext18 (args : Array Value) (w : World) : (callFunc 18 args).run Tryd.prog w = ((ReflectliteValue.method (ReflectliteValue.valueError "reflectlite.Value.IsNil" 0) ReflectliteValue.isNil args).run Tryd.prog w).andThen fun v w' => .ok (Next.value v) w' := run_callFunc_extern Tryd.func18 (by kernel_rfl) (by kernel_rfl) (by kernel_rfl) (by kernel_rfl) args w
theorem Tryd.ext25 (args : Array Value) (w : World) : (callFunc 25 args).run Tryd.prog w = ((ReflectliteValue.method (ReflectliteValue.valueError "reflectlite.Value.Elem" 0) ReflectliteValue.elem args).run Tryd.prog w).andThen fun v w' => .ok (Next.value v) w' := run_callFunc_extern Tryd.func25 (by kernel_rfl) (by kernel_rfl) (by kernel_rfl) (by kernel_rfl) args w
theorem Tryd.ext26 (args : Array Value) (w : World) : (callFunc 26 args).run Tryd.prog w = ((ReflectliteValue.set args).run Tryd.prog w).andThen fun v w' => .ok (Next.value v) w' := run_callFunc_extern Tryd.func26 (by kernel_rfl) (by kernel_rfl) (by kernel_rfl) (by kernel_rfl) args w

/-! the target's type 31, its element's 24 -/
theorem Tryd.valueOf31 (t : Addr) (w : World) : (callFunc 16 #[.iface 31 (.pointer (some t))]).run Tryd.prog w = .ok (Next.value (.agg #[.pointer (some ⟨5, 31, none⟩), .pointer (some ⟨w.heap.size, 0, none⟩), .int .u64 150])) (w.alloc (.cells #[.pointer (some t)] 31)) := by kernel_rfl
theorem Tryd.type31 (a : Addr) (w : World) : (callFunc 17 #[.agg #[.pointer (some ⟨5, 31, none⟩), .pointer (some a), .int .u64 150]]).run Tryd.prog w = .ok (Next.value (.iface 62 (.agg #[.pointer (some ⟨5, 31, none⟩)]))) w := by kernel_rfl
theorem Tryd.kind31 (w : World) : (callFunc 56 #[.pointer (some ⟨5, 31, none⟩)]).run Tryd.prog w = .ok (Next.value (.int .u8 22)) w := by kernel_rfl
theorem Tryd.kind24 (w : World) : (callFunc 56 #[.pointer (some ⟨5, 24, none⟩)]).run Tryd.prog w = .ok (Next.value (.int .u8 2)) w := by kernel_rfl
theorem Tryd.elem31 (w : World) : (callFunc 77 #[.agg #[.pointer (some ⟨5, 31, none⟩)]]).run Tryd.prog w = .ok (Next.value (.iface 62 (.agg #[.pointer (some ⟨5, 24, none⟩)]))) w := by kernel_rfl
theorem Tryd.implements24 (w : World) : (callFunc 78 #[.agg #[.pointer (some ⟨5, 24, none⟩)], .iface 62 (.agg #[.pointer (some ⟨5, 26, none⟩)])]).run Tryd.prog w = .ok (Next.value (.bool true)) w := by kernel_rfl
theorem Tryd.assignable24 (w : World) : (callFunc 75 #[.agg #[.pointer (some ⟨5, 24, none⟩)], .iface 62 (.agg #[.pointer (some ⟨5, 24, none⟩)])]).run Tryd.prog w = .ok (Next.value (.bool true)) w := by kernel_rfl
theorem Tryd.assignable40to24 (w : World) : (callFunc 75 #[.agg #[.pointer (some ⟨5, 40, none⟩)], .iface 62 (.agg #[.pointer (some ⟨5, 24, none⟩)])]).run Tryd.prog w = .ok (Next.value (.bool false)) w := by kernel_rfl
theorem Tryd.valueOf24 (c : Int) (w : World) : (callFunc 16 #[.iface 24 (.int .i64 c)]).run Tryd.prog w = .ok (Next.value (.agg #[.pointer (some ⟨5, 24, none⟩), .pointer (some ⟨w.heap.size, 0, none⟩), .int .u64 130])) (w.alloc (.cells #[.int .i64 c] 24)) := by kernel_rfl
theorem Tryd.parts31 (a : Addr) (w : World) : (ReflectliteValue.parts (.agg #[.pointer (some ⟨5, 31, none⟩), .pointer (some a), .int .u64 150])).run Tryd.prog w = .ok (some (31, a, 150)) w := by kernel_rfl
theorem Tryd.isNil31 (a p : Addr) (W : World) (ha : W.cell? a = some (.pointer (some p))) :
    (callFunc 18 #[.agg #[.pointer (some ⟨5, 31, none⟩), .pointer (some a), .int .u64 150]]).run Tryd.prog W = .ok (Next.value (.bool false)) W := by
  have h : (ReflectliteValue.method (ReflectliteValue.valueError "reflectlite.Value.IsNil" 0) ReflectliteValue.isNil #[.agg #[.pointer (some ⟨5, 31, none⟩), .pointer (some a), .int .u64 150]]).run Tryd.prog W = .ok (.bool false) W := by
    rw [rlm]
    simp only [Sem.run_bind, Tryd.parts31, Result.andThen]
    simp [ReflectliteValue.isNil, loadVar, isAgg, underlying, Tryd.underlying31, ha, Result.andThen]
  rw [Tryd.ext18, h]; rfl
theorem Tryd.elemOf31 (w : World) : (Rtype.elem? 31).run Tryd.prog w = .ok (some 24) w := by kernel_rfl
theorem Tryd.mk24 (p : Addr) (w : World) : (ReflectliteValue.mk 24 p ReflectliteValue.flagAddr).run Tryd.prog w = .ok (.agg #[.pointer (some ⟨5, 24, none⟩), .pointer (some p), .int .u64 386]) w := by kernel_rfl
theorem Tryd.elemV31 (a p : Addr) (W : World) (ha : W.cell? a = some (.pointer (some p))) :
    (callFunc 25 #[.agg #[.pointer (some ⟨5, 31, none⟩), .pointer (some a), .int .u64 150]]).run Tryd.prog W = .ok (Next.value (.agg #[.pointer (some ⟨5, 24, none⟩), .pointer (some p), .int .u64 386])) W := by
  have h : (ReflectliteValue.method (ReflectliteValue.valueError "reflectlite.Value.Elem" 0) ReflectliteValue.elem #[.agg #[.pointer (some ⟨5, 31, none⟩), .pointer (some a), .int .u64 150]]).run Tryd.prog W = .ok (.agg #[.pointer (some ⟨5, 24, none⟩), .pointer (some p), .int .u64 386]) W := by
    rw [rlm]
    simp only [Sem.run_bind, Tryd.parts31, Result.andThen]
    simp [ReflectliteValue.elem, loadVar, isAgg, underlying, Tryd.underlying31, ha, Result.andThen, Tryd.elemOf31, Tryd.mk24]
  rw [Tryd.ext25, h]; rfl
theorem Tryd.parts24a (a : Addr) (w : World) : (ReflectliteValue.parts (.agg #[.pointer (some ⟨5, 24, none⟩), .pointer (some a), .int .u64 386])).run Tryd.prog w = .ok (some (24, a, 386)) w := by kernel_rfl
theorem Tryd.parts24 (a : Addr) (w : World) : (ReflectliteValue.parts (.agg #[.pointer (some ⟨5, 24, none⟩), .pointer (some a), .int .u64 130])).run Tryd.prog w = .ok (some (24, a, 130)) w := by kernel_rfl
theorem Tryd.direct24 (w : World) : (Rtype.directlyAssignable 24 24).run Tryd.prog w = .ok true w := by kernel_rfl
theorem Tryd.set24 (ta b : Addr) (c : Int) (old : Value) (W : World) (hb : W.cell? b = some (.int .i64 c)) (ht : W.cell? ta = some old) (hf : W.frozen? ta = false) :
    (callFunc 26 #[.agg #[.pointer (some ⟨5, 24, none⟩), .pointer (some ta), .int .u64 386], .agg #[.pointer (some ⟨5, 24, none⟩), .pointer (some b), .int .u64 130]]).run Tryd.prog W = .ok (Next.value (.tuple #[])) (W.setCell ta (.int .i64 c)) := by
  have h : (ReflectliteValue.set #[.agg #[.pointer (some ⟨5, 24, none⟩), .pointer (some ta), .int .u64 386], .agg #[.pointer (some ⟨5, 24, none⟩), .pointer (some b), .int .u64 130]]).run Tryd.prog W = .ok (.tuple #[]) (W.setCell ta (.int .i64 c)) := by
    rw [rls]
    simp only [Sem.run_bind, Tryd.parts24a, Tryd.parts24, Result.andThen]
    simp [ReflectliteValue.flagAddr, loadVar, isAgg, underlying, Tryd.underlying24, hb, Result.andThen, Tryd.direct24, storeVar, Value.cells, storeCells, Addr.add]
    rw [run_store Tryd.prog W ta _ _ (by rfl)]
    simp [ht, hf]
  rw [Tryd.ext26, h]; rfl

/-! the target's type 80, its element's 40 -/
theorem Tryd.valueOf80 (t : Addr) (w : World) : (callFunc 16 #[.iface 80 (.pointer (some t))]).run Tryd.prog w = .ok (Next.value (.agg #[.pointer (some ⟨5, 80, none⟩), .pointer (some ⟨w.heap.size, 0, none⟩), .int .u64 150])) (w.alloc (.cells #[.pointer (some t)] 80)) := by kernel_rfl
theorem Tryd.type80 (a : Addr) (w : World) : (callFunc 17 #[.agg #[.pointer (some ⟨5, 80, none⟩), .pointer (some a), .int .u64 150]]).run Tryd.prog w = .ok (Next.value (.iface 62 (.agg #[.pointer (some ⟨5, 80, none⟩)]))) w := by kernel_rfl
theorem Tryd.kind80 (w : World) : (callFunc 56 #[.pointer (some ⟨5, 80, none⟩)]).run Tryd.prog w = .ok (Next.value (.int .u8 22)) w := by kernel_rfl
theorem Tryd.kind40 (w : World) : (callFunc 56 #[.pointer (some ⟨5, 40, none⟩)]).run Tryd.prog w = .ok (Next.value (.int .u8 22)) w := by kernel_rfl
theorem Tryd.elem80 (w : World) : (callFunc 77 #[.agg #[.pointer (some ⟨5, 80, none⟩)]]).run Tryd.prog w = .ok (Next.value (.iface 62 (.agg #[.pointer (some ⟨5, 40, none⟩)]))) w := by kernel_rfl
theorem Tryd.implements40 (w : World) : (callFunc 78 #[.agg #[.pointer (some ⟨5, 40, none⟩)], .iface 62 (.agg #[.pointer (some ⟨5, 26, none⟩)])]).run Tryd.prog w = .ok (Next.value (.bool true)) w := by kernel_rfl
theorem Tryd.assignable40 (w : World) : (callFunc 75 #[.agg #[.pointer (some ⟨5, 40, none⟩)], .iface 62 (.agg #[.pointer (some ⟨5, 40, none⟩)])]).run Tryd.prog w = .ok (Next.value (.bool true)) w := by kernel_rfl
theorem Tryd.assignable24to40 (w : World) : (callFunc 75 #[.agg #[.pointer (some ⟨5, 24, none⟩)], .iface 62 (.agg #[.pointer (some ⟨5, 40, none⟩)])]).run Tryd.prog w = .ok (Next.value (.bool false)) w := by kernel_rfl
theorem Tryd.valueOf40 (e : Addr) (w : World) : (callFunc 16 #[.iface 40 (.pointer (some e))]).run Tryd.prog w = .ok (Next.value (.agg #[.pointer (some ⟨5, 40, none⟩), .pointer (some ⟨w.heap.size, 0, none⟩), .int .u64 150])) (w.alloc (.cells #[.pointer (some e)] 40)) := by kernel_rfl
theorem Tryd.parts80 (a : Addr) (w : World) : (ReflectliteValue.parts (.agg #[.pointer (some ⟨5, 80, none⟩), .pointer (some a), .int .u64 150])).run Tryd.prog w = .ok (some (80, a, 150)) w := by kernel_rfl
theorem Tryd.isNil80 (a p : Addr) (W : World) (ha : W.cell? a = some (.pointer (some p))) :
    (callFunc 18 #[.agg #[.pointer (some ⟨5, 80, none⟩), .pointer (some a), .int .u64 150]]).run Tryd.prog W = .ok (Next.value (.bool false)) W := by
  have h : (ReflectliteValue.method (ReflectliteValue.valueError "reflectlite.Value.IsNil" 0) ReflectliteValue.isNil #[.agg #[.pointer (some ⟨5, 80, none⟩), .pointer (some a), .int .u64 150]]).run Tryd.prog W = .ok (.bool false) W := by
    rw [rlm]
    simp only [Sem.run_bind, Tryd.parts80, Result.andThen]
    simp [ReflectliteValue.isNil, loadVar, isAgg, underlying, Tryd.underlying80, ha, Result.andThen]
  rw [Tryd.ext18, h]; rfl
theorem Tryd.elemOf80 (w : World) : (Rtype.elem? 80).run Tryd.prog w = .ok (some 40) w := by kernel_rfl
theorem Tryd.mk40 (p : Addr) (w : World) : (ReflectliteValue.mk 40 p ReflectliteValue.flagAddr).run Tryd.prog w = .ok (.agg #[.pointer (some ⟨5, 40, none⟩), .pointer (some p), .int .u64 406]) w := by kernel_rfl
theorem Tryd.elemV80 (a p : Addr) (W : World) (ha : W.cell? a = some (.pointer (some p))) :
    (callFunc 25 #[.agg #[.pointer (some ⟨5, 80, none⟩), .pointer (some a), .int .u64 150]]).run Tryd.prog W = .ok (Next.value (.agg #[.pointer (some ⟨5, 40, none⟩), .pointer (some p), .int .u64 406])) W := by
  have h : (ReflectliteValue.method (ReflectliteValue.valueError "reflectlite.Value.Elem" 0) ReflectliteValue.elem #[.agg #[.pointer (some ⟨5, 80, none⟩), .pointer (some a), .int .u64 150]]).run Tryd.prog W = .ok (.agg #[.pointer (some ⟨5, 40, none⟩), .pointer (some p), .int .u64 406]) W := by
    rw [rlm]
    simp only [Sem.run_bind, Tryd.parts80, Result.andThen]
    simp [ReflectliteValue.elem, loadVar, isAgg, underlying, Tryd.underlying80, ha, Result.andThen, Tryd.elemOf80, Tryd.mk40]
  rw [Tryd.ext25, h]; rfl
theorem Tryd.parts40a (a : Addr) (w : World) : (ReflectliteValue.parts (.agg #[.pointer (some ⟨5, 40, none⟩), .pointer (some a), .int .u64 406])).run Tryd.prog w = .ok (some (40, a, 406)) w := by kernel_rfl
theorem Tryd.parts40 (a : Addr) (w : World) : (ReflectliteValue.parts (.agg #[.pointer (some ⟨5, 40, none⟩), .pointer (some a), .int .u64 150])).run Tryd.prog w = .ok (some (40, a, 150)) w := by kernel_rfl
theorem Tryd.direct40 (w : World) : (Rtype.directlyAssignable 40 40).run Tryd.prog w = .ok true w := by kernel_rfl
theorem Tryd.set40 (ta b : Addr) (e : Addr) (old : Value) (W : World) (hb : W.cell? b = some (.pointer (some e))) (ht : W.cell? ta = some old) (hf : W.frozen? ta = false) :
    (callFunc 26 #[.agg #[.pointer (some ⟨5, 40, none⟩), .pointer (some ta), .int .u64 406], .agg #[.pointer (some ⟨5, 40, none⟩), .pointer (some b), .int .u64 150]]).run Tryd.prog W = .ok (Next.value (.tuple #[])) (W.setCell ta (.pointer (some e))) := by
  have h : (ReflectliteValue.set #[.agg #[.pointer (some ⟨5, 40, none⟩), .pointer (some ta), .int .u64 406], .agg #[.pointer (some ⟨5, 40, none⟩), .pointer (some b), .int .u64 150]]).run Tryd.prog W = .ok (.tuple #[]) (W.setCell ta (.pointer (some e))) := by
    rw [rls]
    simp only [Sem.run_bind, Tryd.parts40a, Tryd.parts40, Result.andThen]
    simp [ReflectliteValue.flagAddr, loadVar, isAgg, underlying, Tryd.underlying40, hb, Result.andThen, Tryd.direct40, storeVar, Value.cells, storeCells, Addr.add]
    rw [run_store Tryd.prog W ta _ _ (by rfl)]
    simp [ht, hf]
  rw [Tryd.ext26, h]; rfl
end Go.Proofs.YtcblodlfijbjeaaDoor
