/-
  frame's own error, that wraps a chain: errors.As to a variable of its type, and its facts for the search of a number.
-/
import Derived.Test.YtckbgggocmbbdaaDoorFault
namespace Go.Proofs.YtckbgggocmbbdaaDoor
open Go.RowKit Go.Extern.Stop Go.Stop Go.Extern

/-- v is frame's own error, of place i, over an error of this number. -/
def Broke (w : World) (v : Value) (i : Int) (ws : List ByteArray) (c : Int) : Prop := ∃ v', v = .iface 61 (.agg #[.int .i64 i, v']) ∧ Chain w v' ws c
theorem Broke.later {w w' : World} {v : Value} {i : Int} {ws : List ByteArray} {c : Int} (h : Broke w v i ws c) (hb : Below w.heap.size w w') : Broke w' v i ws c := by
  obtain ⟨v', e, h⟩ := h
  exact ⟨v', e, h.later hb⟩

theorem Tryd.noAsB (v : Value) (xT : TypeId) (w : World) : (Instr.typeAssert (.iface 61 v) xT 105 true).run Tryd.prog w = .ok (.tuple #[.nilIface, .bool false]) w := run_typeAssert_lacksB Tryd.underlying105 (by kernel_rfl) (by kernel_rfl) v xT w
theorem Tryd.hasUnwrapB (v : Value) (xT : TypeId) (w : World) : (Instr.typeAssert (.iface 61 v) xT 93 true).run Tryd.prog w = .ok (.tuple #[.iface 61 v, .bool true]) w := run_typeAssert_hasB Tryd.underlying93 (by kernel_rfl) v xT w
theorem Tryd.typeOfB (v : Value) (w : World) : (callFunc 33 #[.iface 61 v]).run Tryd.prog w = .ok (Next.value (.iface 88 (.agg #[.pointer (some ⟨2, 61, none⟩)]))) w := by kernel_rfl
theorem Tryd.methodUnwrapB (v : Value) (w : World) : (Go.method 239 61 v "Unwrap").run Tryd.prog w = .ok (67, v) w := by kernel_rfl
theorem Tryd.assignableBtoNum (w : World) : (callFunc 74 #[.agg #[.pointer (some ⟨2, 61, none⟩)], .iface 88 (.agg #[.pointer (some ⟨2, 55, none⟩)])]).run Tryd.prog w = .ok (Next.value (.bool false)) w := by kernel_rfl

/-- (broken).Unwrap. -/
theorem unwrapB_any (i : Int) (v : Value) (t : TypeId) (x : Value) (hv : v = .iface t x) (w : World) : Calls Tryd.prog 67 #[.agg #[.int .i64 i, v]] w fun e w' => e = .returned v ∧ w.alloc (.cells #[.int .i64 i, v] 61) = w' := by
  subst hv
  go_enter Tryd.func67, Tryd.ntmps67
  go_wp2
  go_ret
  exact ⟨rfl, rfl⟩

/-! the target's type: a pointer to frame's own error -/
theorem Tryd.valueOfPB (t : Addr) (w : World) : (callFunc 38 #[.iface 65 (.pointer (some t))]).run Tryd.prog w = .ok (Next.value (.agg #[.pointer (some ⟨2, 65, none⟩), .pointer (some ⟨w.heap.size, 0, none⟩), .int .u64 150])) (w.alloc (.cells #[.pointer (some t)] 65)) := by kernel_rfl
theorem Tryd.typePB (a : Addr) (w : World) : (callFunc 39 #[.agg #[.pointer (some ⟨2, 65, none⟩), .pointer (some a), .int .u64 150]]).run Tryd.prog w = .ok (Next.value (.iface 88 (.agg #[.pointer (some ⟨2, 65, none⟩)]))) w := by kernel_rfl
theorem Tryd.kindPB (w : World) : (callFunc 62 #[.pointer (some ⟨2, 65, none⟩)]).run Tryd.prog w = .ok (Next.value (.int .u8 22)) w := by kernel_rfl
theorem Tryd.kindB (w : World) : (callFunc 62 #[.pointer (some ⟨2, 61, none⟩)]).run Tryd.prog w = .ok (Next.value (.int .u8 25)) w := by kernel_rfl
theorem Tryd.elemPB (w : World) : (callFunc 76 #[.agg #[.pointer (some ⟨2, 65, none⟩)]]).run Tryd.prog w = .ok (Next.value (.iface 88 (.agg #[.pointer (some ⟨2, 61, none⟩)]))) w := by kernel_rfl
theorem Tryd.implementsB (w : World) : (callFunc 77 #[.agg #[.pointer (some ⟨2, 61, none⟩)], .iface 88 (.agg #[.pointer (some ⟨2, 29, none⟩)])]).run Tryd.prog w = .ok (Next.value (.bool true)) w := by kernel_rfl
theorem Tryd.assignableB (w : World) : (callFunc 74 #[.agg #[.pointer (some ⟨2, 61, none⟩)], .iface 88 (.agg #[.pointer (some ⟨2, 61, none⟩)])]).run Tryd.prog w = .ok (Next.value (.bool true)) w := by kernel_rfl
theorem Tryd.valueOfB (i : Int) (t : TypeId) (x : Value) (w : World) : (callFunc 38 #[.iface 61 (.agg #[.int .i64 i, .iface t x])]).run Tryd.prog w = .ok (Next.value (.agg #[.pointer (some ⟨2, 61, none⟩), .pointer (some ⟨w.heap.size, 0, none⟩), .int .u64 153])) (w.alloc (.cells #[.int .i64 i, .iface t x] 61)) := by kernel_rfl
theorem Tryd.partsPB (a : Addr) (w : World) : (ReflectliteValue.parts (.agg #[.pointer (some ⟨2, 65, none⟩), .pointer (some a), .int .u64 150])).run Tryd.prog w = .ok (some (65, a, 150)) w := by kernel_rfl
theorem Tryd.isNilPB (a p : Addr) (W : World) (ha : W.cell? a = some (.pointer (some p))) :
    (callFunc 40 #[.agg #[.pointer (some ⟨2, 65, none⟩), .pointer (some a), .int .u64 150]]).run Tryd.prog W = .ok (Next.value (.bool false)) W := by
  have h : (ReflectliteValue.method (ReflectliteValue.valueError "reflectlite.Value.IsNil" 0) ReflectliteValue.isNil #[.agg #[.pointer (some ⟨2, 65, none⟩), .pointer (some a), .int .u64 150]]).run Tryd.prog W = .ok (.bool false) W := by
    rw [rlm]
    simp only [Sem.run_bind, Tryd.partsPB, Result.andThen]
    simp [ReflectliteValue.isNil, loadVar, isAgg, underlying, Tryd.underlying65, ha, Result.andThen]
  rw [Tryd.ext18, h]; rfl
theorem Tryd.elemOfPB (w : World) : (Rtype.elem? 65).run Tryd.prog w = .ok (some 61) w := by kernel_rfl
theorem Tryd.mkB (p : Addr) (w : World) : (ReflectliteValue.mk 61 p ReflectliteValue.flagAddr).run Tryd.prog w = .ok (.agg #[.pointer (some ⟨2, 61, none⟩), .pointer (some p), .int .u64 409]) w := by kernel_rfl
theorem Tryd.elemVPB (a p : Addr) (W : World) (ha : W.cell? a = some (.pointer (some p))) :
    (callFunc 45 #[.agg #[.pointer (some ⟨2, 65, none⟩), .pointer (some a), .int .u64 150]]).run Tryd.prog W = .ok (Next.value (.agg #[.pointer (some ⟨2, 61, none⟩), .pointer (some p), .int .u64 409])) W := by
  have h : (ReflectliteValue.method (ReflectliteValue.valueError "reflectlite.Value.Elem" 0) ReflectliteValue.elem #[.agg #[.pointer (some ⟨2, 65, none⟩), .pointer (some a), .int .u64 150]]).run Tryd.prog W = .ok (.agg #[.pointer (some ⟨2, 61, none⟩), .pointer (some p), .int .u64 409]) W := by
    rw [rlm]
    simp only [Sem.run_bind, Tryd.partsPB, Result.andThen]
    simp [ReflectliteValue.elem, loadVar, isAgg, underlying, Tryd.underlying65, ha, Result.andThen, Tryd.elemOfPB, Tryd.mkB]
  rw [Tryd.ext25, h]; rfl
theorem Tryd.partsBa (a : Addr) (w : World) : (ReflectliteValue.parts (.agg #[.pointer (some ⟨2, 61, none⟩), .pointer (some a), .int .u64 409])).run Tryd.prog w = .ok (some (61, a, 409)) w := by kernel_rfl
theorem Tryd.partsB (a : Addr) (w : World) : (ReflectliteValue.parts (.agg #[.pointer (some ⟨2, 61, none⟩), .pointer (some a), .int .u64 153])).run Tryd.prog w = .ok (some (61, a, 153)) w := by kernel_rfl
theorem Tryd.directB (w : World) : (Rtype.directlyAssignable 61 61).run Tryd.prog w = .ok true w := by kernel_rfl
theorem Tryd.loadB {b : Nat} {i : Int} {v : Value} {w : World} (l0' : w.cell? ⟨b, 0, none⟩ = some (.int .i64 i)) (l1' : w.cell? ⟨b, 1, none⟩ = some v) :
    (loadVar 61 ⟨b, 0, none⟩).run Tryd.prog w = .ok (.agg #[.int .i64 i, v]) w := by
  have ha : (isAgg 61).run Tryd.prog w = .ok true w := by kernel_rfl
  have hs : (sizeOf 61).run Tryd.prog w = .ok 2 w := by kernel_rfl
  have l0 : (load ⟨b, 0, none⟩).run Tryd.prog w = .ok (.int .i64 i) w := by simp [l0']
  have l1 : (load ⟨b, 1, none⟩).run Tryd.prog w = .ok v w := by simp [l1']
  simp [loadVar, Sem.run_bind, ha, hs, Result.andThen, loadCells, loadCellsFrom, l0, l1, Addr.add]
theorem Tryd.storeB {b : Nat} {i : Int} {t : TypeId} {x : Value} {w : World} {o0 o1 : Value} (l0 : w.cell? ⟨b, 0, none⟩ = some o0) (l1 : w.cell? ⟨b, 1, none⟩ = some o1) (f0 : w.frozen? ⟨b, 0, none⟩ = false) (f1 : w.frozen? ⟨b, 1, none⟩ = false) :
    (storeVar 61 ⟨b, 0, none⟩ (.agg #[.int .i64 i, .iface t x])).run Tryd.prog w = .ok () ((w.setCell ⟨b, 0, none⟩ (.int .i64 i)).setCell ⟨b, 1, none⟩ (.iface t x)) := by
  have l1' : (w.setCell ⟨b, 0, none⟩ (.int .i64 i)).cell? ⟨b, 1, none⟩ = some o1 := (World.cell?_setCell_other _ ⟨b, 0, none⟩ ⟨b, 1, none⟩ _ (by simp)).trans l1
  have f1' : (w.setCell ⟨b, 0, none⟩ (.int .i64 i)).frozen? ⟨b, 1, none⟩ = false := by rw [World.frozen?_setCell]; exact f1
  simp [storeVar, Value.cells, storeCells, Addr.add]
  rw [run_store Tryd.prog w _ _ _ (by rfl)]
  simp [l0, f0]
  rw [run_store Tryd.prog _ _ _ _ (by rfl)]
  simp [l1', f1']
theorem Tryd.setB (tb b : Nat) (i : Int) (t : TypeId) (x : Value) (o0 o1 : Value) (W : World) (h0 : W.cell? ⟨b, 0, none⟩ = some (.int .i64 i)) (h1 : W.cell? ⟨b, 1, none⟩ = some (.iface t x)) (l0 : W.cell? ⟨tb, 0, none⟩ = some o0) (l1 : W.cell? ⟨tb, 1, none⟩ = some o1) (f0 : W.frozen? ⟨tb, 0, none⟩ = false) (f1 : W.frozen? ⟨tb, 1, none⟩ = false) :
    (callFunc 46 #[.agg #[.pointer (some ⟨2, 61, none⟩), .pointer (some ⟨tb, 0, none⟩), .int .u64 409], .agg #[.pointer (some ⟨2, 61, none⟩), .pointer (some ⟨b, 0, none⟩), .int .u64 153]]).run Tryd.prog W = .ok (Next.value (.tuple #[])) ((W.setCell ⟨tb, 0, none⟩ (.int .i64 i)).setCell ⟨tb, 1, none⟩ (.iface t x)) := by
  have h : (ReflectliteValue.set #[.agg #[.pointer (some ⟨2, 61, none⟩), .pointer (some ⟨tb, 0, none⟩), .int .u64 409], .agg #[.pointer (some ⟨2, 61, none⟩), .pointer (some ⟨b, 0, none⟩), .int .u64 153]]).run Tryd.prog W = .ok (.tuple #[]) ((W.setCell ⟨tb, 0, none⟩ (.int .i64 i)).setCell ⟨tb, 1, none⟩ (.iface t x)) := by
    rw [rls]
    simp only [Sem.run_bind, Tryd.partsBa, Tryd.partsB, Result.andThen]
    simp [ReflectliteValue.flagAddr, Tryd.loadB h0 h1, Result.andThen, Tryd.directB, Tryd.storeB l0 l1 f0 f1]
  rw [Tryd.ext26, h]; rfl
end Go.Proofs.YtckbgggocmbbdaaDoor
