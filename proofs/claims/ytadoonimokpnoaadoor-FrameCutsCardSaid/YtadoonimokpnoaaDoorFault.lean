/-
  The calls of package fault, but Where and its text, over a chain of faults.
-/
import Derived.Test.YtadoonimokpnoaaDoorFind
import Derived.Test.YtadoonimokpnoaaDoorIs
namespace Go.Proofs.YtadoonimokpnoaaDoor
open Go.RowKit Go.Extern.Stop Go.Stop Go.Extern

/-- The variable errors.errorType as it was laid. -/
def Handle (w : World) : Prop := w.cell? ⟨0, 0, none⟩ = some (.iface 72 (.agg #[.pointer (some ⟨2, 34, none⟩)]))
theorem Handle.later {w w' : World} (h : Handle w) (hb : Below w.heap.size w w') : Handle w' := by
  have h' : w.cell? ⟨0, 0, none⟩ = _ := h
  show w'.cell? _ = _
  rw [hb.cell (lt_of_cell h')]; exact h'

/-! ### Wrap, New -/
theorem wrap_nil (s : ByteArray) (w : World) : Calls Tryd.prog 28 #[.nilIface, .string s] w fun e w' => e = .returned .nilIface ∧ w = w' := by
  go_enter Tryd.func28, Tryd.ntmps28
  go_wp2
  go_ret
  exact ⟨rfl, rfl⟩
theorem wrap_some (t : TypeId) (x : Value) (s : ByteArray) (w : World) : Calls Tryd.prog 28 #[.iface t x, .string s] w fun e w' => e = .returned (.iface 90 (.pointer (some ⟨w.heap.size, 0, none⟩))) ∧ w.alloc (.cells #[.string s, .iface t x] 92) = w' := by
  go_enter Tryd.func28, Tryd.ntmps28
  go_wp2
  go_ret
  exact ⟨rfl, rfl⟩
/-! ### a nil error -/
theorem As_nil (t : Value) (w : World) : Calls Tryd.prog 15 #[.nilIface, t] w fun e w' => e = .returned (.bool false) ∧ w = w' := by
  go_enter Tryd.func15, Tryd.ntmps15
  go_wp2
  go_ret
  exact ⟨rfl, rfl⟩
theorem code_nil (w : World) : Calls Tryd.prog 17 #[.nilIface] w fun e w' => e = .returned (.int .i64 0) ∧ w = w' := by
  go_enter Tryd.func17, Tryd.ntmps17
  go_wp2
  go_ret
  exact ⟨rfl, rfl⟩
theorem isCode_nil (c : Int) (w : World) : Calls Tryd.prog 11 #[.nilIface, .int .i64 c] w fun e w' => e = .returned (.bool false) ∧ w = w' := by
  go_enter Tryd.func11, Tryd.ntmps11
  go_wp2
  go_ret
  exact ⟨rfl, rfl⟩

/-! ### a chain -/
theorem code_any (v : Value) (ws : List ByteArray) (c : Int) (w : World) (hch : Chain w v ws c) (hg : Handle w) : Calls Tryd.prog 17 #[v] w fun e w' => e = .returned (.int .i64 c) ∧ Below w.heap.size w w' := by
  have C := find_num v ws c w hch hg
  obtain ⟨tv, xv, rfl⟩ := hch.shape
  clear hch
  go_enter Tryd.func17, Tryd.ntmps17
  go_wp2_with (go_at_call 26; refine C.mono ?_; rintro e w' ⟨rfl, hb⟩)
  go_ret
  exact ⟨rfl, hb⟩
theorem isCode_any (v : Value) (ws : List ByteArray) (c d : Int) (w : World) (hch : Chain w v ws c) (hg : Handle w) : Calls Tryd.prog 11 #[v, .int .i64 d] w fun e w' => e = .returned (.bool (c == d)) ∧ Below w.heap.size w w' := by
  have C := code_any v ws c w hch hg
  obtain ⟨tv, xv, rfl⟩ := hch.shape
  clear hch
  go_enter Tryd.func11, Tryd.ntmps11
  go_wp2_with (first | (go_at_call 17; refine C.mono ?_; rintro e w' ⟨rfl, hb⟩) | (go_at_call 16; refine (Is_num d _ [] c _ (.num c)).mono ?_; rintro e w2 ⟨rfl, hb2⟩))
  go_ret
  exact ⟨rfl, hb.trans (hb2.mono hb.size)⟩
end Go.Proofs.YtadoonimokpnoaaDoor
