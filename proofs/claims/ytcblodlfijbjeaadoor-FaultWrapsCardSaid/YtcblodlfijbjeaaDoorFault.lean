/-
  The calls of package fault, but its text, over a chain of faults.
-/
import Derived.Test.YtcblodlfijbjeaaDoorWalk
import Derived.Test.YtcblodlfijbjeaaDoorIs
namespace Go.Proofs.YtcblodlfijbjeaaDoor
open Go.RowKit Go.Extern.Stop Go.Stop Go.Extern

/-- The variable errors.errorType as it was laid. -/
def Handle (w : World) : Prop := w.cell? ⟨0, 0, none⟩ = some (.iface 62 (.agg #[.pointer (some ⟨5, 26, none⟩)]))
theorem Handle.later {w w' : World} (h : Handle w) (hb : Below w.heap.size w w') : Handle w' := by
  have h' : w.cell? ⟨0, 0, none⟩ = _ := h
  show w'.cell? _ = _
  rw [hb.cell (lt_of_cell h')]; exact h'

/-! ### Wrap, New -/
theorem wrap_nil (s : ByteArray) (w : World) : Calls Tryd.prog 8 #[.nilIface, .string s] w fun e w' => e = .returned .nilIface ∧ w = w' := by
  go_enter Tryd.func8, Tryd.ntmps8
  go_wp2
  go_ret
  exact ⟨rfl, rfl⟩
theorem wrap_some (t : TypeId) (x : Value) (s : ByteArray) (w : World) : Calls Tryd.prog 8 #[.iface t x, .string s] w fun e w' => e = .returned (.iface 40 (.pointer (some ⟨w.heap.size, 0, none⟩))) ∧ w.alloc (.cells #[.string s, .iface t x] 42) = w' := by
  go_enter Tryd.func8, Tryd.ntmps8
  go_wp2
  go_ret
  exact ⟨rfl, rfl⟩
theorem new_ok (s : ByteArray) (w : World) : Calls Tryd.prog 6 #[.int .i64 0, .string s] w fun e w' => e = .returned .nilIface ∧ w = w' := by
  go_enter Tryd.func6, Tryd.ntmps6
  go_wp2
  go_ret
  exact ⟨rfl, rfl⟩
theorem new_some (c : Int) (hc : (c == 0) = false) (s : ByteArray) (w : World) : Calls Tryd.prog 6 #[.int .i64 c, .string s] w fun e w' => e = .returned (.iface 40 (.pointer (some ⟨w.heap.size, 0, none⟩))) ∧ w.alloc (.cells #[.string s, .iface 24 (.int .i64 c)] 42) = w' := by
  go_enter Tryd.func6, Tryd.ntmps6
  go_wp2_with (go_at_call 8; refine (wrap_some _ _ _ _).mono ?_; rintro e w' ⟨rfl, rfl⟩)
  go_ret
  exact ⟨rfl, rfl⟩

/-! ### a nil error -/
theorem As_nil (t : Value) (w : World) : Calls Tryd.prog 9 #[.nilIface, t] w fun e w' => e = .returned (.bool false) ∧ w = w' := by
  go_enter Tryd.func9, Tryd.ntmps9
  go_wp2
  go_ret
  exact ⟨rfl, rfl⟩
theorem find_nil (w : World) : Calls Tryd.prog 28 #[.nilIface] w fun e w' => e = .returned (.tuple #[.pointer none, .bool false]) ∧ Below w.heap.size w w' := by
  have hmf : ∀ (fn : Fn) (first cap : Array Value) (w : World), (Instr.makeFunc fn first cap).run Tryd.prog w = .ok (.func fn first cap) w := fun _ _ _ _ => rfl
  go_enter_defers Tryd.func28, Tryd.ntmps28
  go_wp2_with (go_at_call 9; refine (As_nil _ _).mono ?_; rintro e w' ⟨rfl, rfl⟩)
  refine leaves_cons (f := 30) (args := #[]) (by simp) (by simp [go_sem]) ?_
  refine (catch30 _).mono ?_
  rintro e u' w'' ⟨rfl, rfl, rfl⟩
  simp [Leaves, settle, results, Tryd.results28, go_sem]
  exact (Below.refl _ _).alloc (Nat.le_refl _) _
theorem walk_nil (w : World) : Calls Tryd.prog 23 #[.nilIface] w fun e w' => e = .returned (.tuple #[.slice none 0 0, .nilIface]) ∧ Below w.heap.size w w' := by
  go_enter Tryd.func23, Tryd.ntmps23
  go_wp2
  refine wp_loop_rounds 1 ?_
  rw [rounds_succ]
  go_wp2_with (go_at_call 28; refine (find_nil _).mono ?_; rintro e w' ⟨rfl, hb⟩)
  go_ret2
  exact ⟨rfl, hb⟩
theorem where_nil (w : World) : Calls Tryd.prog 14 #[.nilIface] w fun e w' => e = .returned (.slice none 0 0) ∧ Below w.heap.size w w' := by
  go_enter Tryd.func14, Tryd.ntmps14
  go_wp2_with (go_at_call 23; refine (walk_nil _).mono ?_; rintro e w' ⟨rfl, hb⟩)
  go_ret
  exact ⟨rfl, hb⟩
theorem code_nil (w : World) : Calls Tryd.prog 11 #[.nilIface] w fun e w' => e = .returned (.int .i64 0) ∧ w = w' := by
  go_enter Tryd.func11, Tryd.ntmps11
  go_wp2
  go_ret
  exact ⟨rfl, rfl⟩
theorem isCode_nil (c : Int) (w : World) : Calls Tryd.prog 12 #[.nilIface, .int .i64 c] w fun e w' => e = .returned (.bool false) ∧ w = w' := by
  go_enter Tryd.func12, Tryd.ntmps12
  go_wp2
  go_ret
  exact ⟨rfl, rfl⟩

/-! ### a chain -/
/-- What Where hands back. -/
def WhereIs (w : World) (ws : List ByteArray) (e : Ending) (w' : World) : Prop :=
  ∃ sv, e = .returned sv ∧ w'.ownsRow w.heap.size 9 1 sv ws.length (ws.map .string) ∧ Below w.heap.size w w'
theorem where_any (v : Value) (ws : List ByteArray) (c : Int) (w : World) (hlen : ws.length ≤ 1000000) (hch : Chain w v ws c) (hg : Handle w) : Calls Tryd.prog 14 #[v] w (WhereIs w ws) := by
  have C := walk_any v ws c w hlen hch hg
  obtain ⟨tv, xv, rfl⟩ := hch.shape
  clear hch
  go_enter Tryd.func14, Tryd.ntmps14
  go_wp2_with (go_at_call 23; refine C.mono ?_; rintro e w' ⟨sv, rfl, ho, hb⟩)
  go_ret
  exact ⟨sv, rfl, ho, hb⟩
theorem code_any (v : Value) (ws : List ByteArray) (c : Int) (w : World) (hch : Chain w v ws c) (hg : Handle w) : Calls Tryd.prog 11 #[v] w fun e w' => e = .returned (.int .i64 c) ∧ Below w.heap.size w w' := by
  have C := find_num v ws c w hch hg
  obtain ⟨tv, xv, rfl⟩ := hch.shape
  clear hch
  go_enter Tryd.func11, Tryd.ntmps11
  go_wp2_with (go_at_call 22; refine C.mono ?_; rintro e w' ⟨rfl, hb⟩)
  go_ret
  exact ⟨rfl, hb⟩
theorem isCode_any (v : Value) (ws : List ByteArray) (c d : Int) (w : World) (hch : Chain w v ws c) (hg : Handle w) : Calls Tryd.prog 12 #[v, .int .i64 d] w fun e w' => e = .returned (.bool (c == d)) ∧ Below w.heap.size w w' := by
  have C := code_any v ws c w hch hg
  obtain ⟨tv, xv, rfl⟩ := hch.shape
  clear hch
  go_enter Tryd.func12, Tryd.ntmps12
  go_wp2_with (first | (go_at_call 11; refine C.mono ?_; rintro e w' ⟨rfl, hb⟩) | (go_at_call 10; refine (Is_num d _ [] c _ (.num c)).mono ?_; rintro e w2 ⟨rfl, hb2⟩))
  go_ret
  exact ⟨rfl, hb.trans (hb2.mono hb.size)⟩
end Go.Proofs.YtcblodlfijbjeaaDoor
