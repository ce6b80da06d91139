/-
  What a chain of faults looks like in memory, and what stays of it: no program text is walked here but two small methods.
-/
import Derived.Test.YtcblodlfijbjeaaDoorProg
import Derived.WalkKit
import Derived.LaidEql
import Derived.Stop.Asserts
import Derived.RowKitTokens
import Derived.Below
import Derived.Lib.IfaceEq
import Derived.Lib.Hide
import Derived.Deep.LoopGhost
import Derived.BigFrame
import Derived.Outline
namespace Go.Proofs.YtcblodlfijbjeaaDoor
open Go.RowKit Go.Extern.Stop Go.Stop Go.Extern

/-- v is an error of the number c that was wrapped with these wheres, the outermost first. -/
def Chain (w : World) : Value → List ByteArray → Int → Prop
  | v, [], c => v = .iface 24 (.int .i64 c)
  | v, s :: ws, c => ∃ (b : Nat) (v' : Value), v = .iface 40 (.pointer (some ⟨b, 0, none⟩)) ∧ w.heap[b]? = some (.cells #[.string s, v'] 42 (0, 0)) ∧ Chain w v' ws c

theorem Chain.num {w : World} (c : Int) : Chain w (.iface 24 (.int .i64 c)) [] c := rfl
theorem Chain.fault {w : World} (b : Nat) (s : ByteArray) (v : Value) (ws : List ByteArray) (c : Int) (h0 : w.heap[b]? = some (.cells #[.string s, v] 42 (0, 0))) (h1 : Chain w v ws c) : Chain w (.iface 40 (.pointer (some ⟨b, 0, none⟩))) (s :: ws) c := ⟨b, v, rfl, h0, h1⟩
theorem Chain.parts {w : World} {v : Value} : ∀ {ws : List ByteArray} {c : Int}, Chain w v ws c → (v = .iface 24 (.int .i64 c) ∧ ws = []) ∨ ∃ (b : Nat) (s : ByteArray) (v' : Value) (r : List ByteArray), v = .iface 40 (.pointer (some ⟨b, 0, none⟩)) ∧ ws = s :: r ∧ w.heap[b]? = some (.cells #[.string s, v'] 42 (0, 0)) ∧ Chain w v' r c
  | [], _, h => .inl ⟨h, rfl⟩
  | s :: r, _, ⟨b, v', e, h0, h1⟩ => .inr ⟨b, s, v', r, e, rfl, h0, h1⟩

theorem Chain.later {w w' : World} (hb : Below w.heap.size w w') : ∀ {ws : List ByteArray} {v : Value} {c : Int}, Chain w v ws c → Chain w' v ws c
  | [], _, _, h => h
  | _ :: _, _, _, ⟨b, v', e, h0, h1⟩ => ⟨b, v', e, by rw [hb.block b ((Array.getElem?_eq_some_iff.1 h0).1)]; exact h0, Chain.later hb h1⟩

theorem Chain.shape {w : World} {v : Value} {ws : List ByteArray} {c : Int} (h : Chain w v ws c) : ∃ t x, v = .iface t x := by
  rcases h.parts with ⟨rfl, _⟩ | ⟨b, s, v', r, rfl, _, _, _⟩
  · exact ⟨_, _, rfl⟩
  · exact ⟨_, _, rfl⟩
theorem Chain.head {w : World} {b : Nat} {s : ByteArray} {ws : List ByteArray} {c : Int} (h : Chain w (.iface 40 (.pointer (some ⟨b, 0, none⟩))) (s :: ws) c) : ∃ v, w.heap[b]? = some (.cells #[.string s, v] 42 (0, 0)) ∧ Chain w v ws c := by
  obtain ⟨b', v', e, h0, h1⟩ := h
  injection e with _ e
  injection e with e
  injection e with e
  injection e with e _ _
  subst e
  exact ⟨v', h0, h1⟩

theorem alloc_here (w : World) (o : Obj) : (w.alloc o).heap[w.heap.size]? = some o := by
  unfold World.alloc; simp
theorem lt_of_cell {w : World} {a : Addr} {v : Value} (h : w.cell? a = some v) : a.block < w.heap.size := by
  rcases Nat.lt_or_ge a.block w.heap.size with h1 | h1
  · exact h1
  · simp [World.cell?, Array.getElem?_eq_none h1] at h
/-- New blocks were made, and then the variable at t was set to x. -/
def SetBelow (w : World) (t : Addr) (x : Value) (w' : World) : Prop := ∃ w1, Below w.heap.size w w1 ∧ w' = w1.setCell t x

theorem cells_of_block {w : World} {b : Nat} {s : ByteArray} {v : Value} (h : w.heap[b]? = some (.cells #[.string s, v] 42 (0, 0))) : w.cell? ⟨b, 0, none⟩ = some (.string s) ∧ w.cell? ⟨b, 1, none⟩ = some v := by
  constructor <;> simp [World.cell?, h]

/-! Methods of a pointer whose receiver is a value. -/
theorem run_receiver_deref {P : Program} {t e : TypeId} (hu : P.underlying t = some (.pointer e)) (a : Addr) (w : World) (s : String) : (receiverAt t (.val (.pointer (some a))) false (some s)).run P w = ((loadVar e a).run P w) := by
  have r2 : (Builtin.ssaWrapNilChk_ #[t] t #[.pointer (some a), strVal "", strVal s]).run P w = .ok (.pointer (some a)) w := rfl
  simp [receiverAt, Sem.run_bind, underlying, hu, Result.andThen, Place.get, asAddr, r2]
theorem run_method_deref {P : Program} {fuel : Nat} {t e : TypeId} {name : String} {f : FuncId} (hm : (P.info? t).map (fun i => (i.methods.find? (·.name == name)).map fun m => (m.path, m.func)) = some (some (#[], some (f, false)))) (hu : P.underlying t = some (.pointer e)) (a : Addr) (w : World) :
    (Go.method (fuel + 1) t (.pointer (some a)) name).run P w = ((loadVar e a).run P w).andThen (fun x w => .ok (f, x) w) := by
  obtain ⟨i, hi, hi2⟩ := Option.map_eq_some_iff.1 hm
  obtain ⟨m, hm1, hm2⟩ := Option.map_eq_some_iff.1 hi2
  have hp : m.path = #[] := congrArg Prod.fst hm2
  have hf : m.func = some (f, false) := congrArg Prod.snd hm2
  simp [Go.method, Sem.run_bind, typeInfo, hi, Result.andThen, hm1, hf, hp, follow, run_receiver_deref hu]
theorem Tryd.load42 {b : Nat} {s : ByteArray} {v : Value} {w : World} (h : w.heap[b]? = some (.cells #[.string s, v] 42 (0, 0))) :
    (loadVar 42 ⟨b, 0, none⟩).run Tryd.prog w = .ok (.agg #[.string s, v]) w := by
  have ha : (isAgg 42).run Tryd.prog w = .ok true w := by kernel_rfl
  have hs : (sizeOf 42).run Tryd.prog w = .ok 2 w := by kernel_rfl
  obtain ⟨h0, h1⟩ := cells_of_block h
  have l0 : (load ⟨b, 0, none⟩).run Tryd.prog w = .ok (.string s) w := by simp [h0]
  have l1 : (load ⟨b, 1, none⟩).run Tryd.prog w = .ok v w := by simp [h1]
  simp [loadVar, Sem.run_bind, ha, hs, Result.andThen, loadCells, loadCellsFrom, l0, l1, Addr.add]
theorem Tryd.methodUnwrap {b : Nat} {s : ByteArray} {v : Value} {w : World} (h : w.heap[b]? = some (.cells #[.string s, v] 42 (0, 0))) :
    (Go.method 237 40 (.pointer (some ⟨b, 0, none⟩)) "Unwrap").run Tryd.prog w = .ok (60, .agg #[.string s, v]) w := by
  rw [run_method_deref (fuel := 236) (f := 60) (by kernel_rfl) Tryd.underlying40, Tryd.load42 h]; rfl
theorem Tryd.methodError {b : Nat} {s : ByteArray} {v : Value} {w : World} (h : w.heap[b]? = some (.cells #[.string s, v] 42 (0, 0))) :
    (Go.method 237 40 (.pointer (some ⟨b, 0, none⟩)) "Error").run Tryd.prog w = .ok (59, .agg #[.string s, v]) w := by
  rw [run_method_deref (fuel := 236) (f := 59) (by kernel_rfl) Tryd.underlying40, Tryd.load42 h]; rfl
theorem Tryd.nilUnwrap (a : Addr) (w : World) : (Go.nilAhead 237 40 (.pointer (some a)) "Unwrap").run Tryd.prog w = .ok (some false) w := by kernel_rfl
theorem Tryd.nilError (a : Addr) (w : World) : (Go.nilAhead 237 40 (.pointer (some a)) "Error").run Tryd.prog w = .ok (some false) w := by kernel_rfl

/-- (Fault).Unwrap. -/
theorem unwrap_any (s : ByteArray) (v : Value) (w : World) : Calls Tryd.prog 60 #[.agg #[.string s, v]] w fun e w' => e = .returned v ∧ w.alloc (.cells #[.string s, v] 42) = w' := by
  go_enter Tryd.func60, Tryd.ntmps60
  go_wp2
  go_ret
  exact ⟨rfl, rfl⟩
end Go.Proofs.YtcblodlfijbjeaaDoor
