/-
  The calls of package fault, but Where and its text, over a chain of faults.
-/
import Derived.Test.YtaljaibkmhnleaaDoorFind
import Derived.Test.YtaljaibkmhnleaaDoorIs
namespace Go.Proofs.YtaljaibkmhnleaaDoor
open Go.RowKit Go.Extern.Stop Go.Stop Go.Extern

/-- The variable errors.errorType as it was laid. -/
def Handle (w : World) : Prop := w.cell? ⟨0, 0, none⟩ = some (.iface 69 (.agg #[.pointer (some ⟨1, 29, none⟩)]))
theorem Handle.later {w w' : World} (h : Handle w) (hb : Below w.heap.size w w') : Handle w' := by
  have h' : w.cell? ⟨0, 0, none⟩ = _ := h
  show w'.cell? _ = _
  rw [hb.cell (lt_of_cell h')]; exact h'

/-! ### Wrap, New -/
theorem wrap_nil (s : ByteArray) (w : World) : Calls Tryd.prog 20 #[.nilIface, .string s] w fun e w' => e = .returned .nilIface ∧ w = w' := by
  go_enter Tryd.func20, Tryd.ntmps20
  go_wp2
  go_ret
  exact ⟨rfl, rfl⟩
theorem wrap_some (t : TypeId) (x : Value) (s : ByteArray) (w : World) : Calls Tryd.prog 20 #[.iface t x, .string s] w fun e w' => e = .returned (.iface 65 (.pointer (some ⟨w.heap.size, 0, none⟩))) ∧ w.alloc (.cells #[.string s, .iface t x] 67) = w' := by
  go_enter Tryd.func20, Tryd.ntmps20
  go_wp2
  go_ret
  exact ⟨rfl, rfl⟩
theorem new_ok (s : ByteArray) (w : World) : Calls Tryd.prog 16 #[.int .i64 0, .string s] w fun e w' => e = .returned .nilIface ∧ w = w' := by
  go_enter Tryd.func16, Tryd.ntmps16
  go_wp2
  go_ret
  exact ⟨rfl, rfl⟩
theorem new_some (c : Int) (hc : (c == 0) = false) (s : ByteArray) (w : World) : Calls Tryd.prog 16 #[.int .i64 c, .string s] w fun e w' => e = .returned (.iface 65 (.pointer (some ⟨w.heap.size, 0, none⟩))) ∧ w.alloc (.cells #[.string s, .iface 37 (.int .i64 c)] 67) = w' := by
  go_enter Tryd.func16, Tryd.ntmps16
  go_wp2_with (go_at_call 20; refine (wrap_some _ _ _ _).mono ?_; rintro e w' ⟨rfl, rfl⟩)
  go_ret
  exact ⟨rfl, rfl⟩

/-! ### a nil error -/
theorem As_nil (t : Value) (w : World) : Calls Tryd.prog 17 #[.nilIface, t] w fun e w' => e = .returned (.bool false) ∧ w = w' := by
  go_enter Tryd.func17, Tryd.ntmps17
  go_wp2
  go_ret
  exact ⟨rfl, rfl⟩
theorem code_nil (w : World) : Calls Tryd.prog 14 #[.nilIface] w fun e w' => e = .returned (.int .i64 0) ∧ w = w' := by
  go_enter Tryd.func14, Tryd.ntmps14
  go_wp2
  go_ret
  exact ⟨rfl, rfl⟩
theorem isCode_nil (c : Int) (w : World) : Calls Tryd.prog 15 #[.nilIface, .int .i64 c] w fun e w' => e = .returned (.bool false) ∧ w = w' := by
  go_enter Tryd.func15, Tryd.ntmps15
  go_wp2
  go_ret
  exact ⟨rfl, rfl⟩

/-! ### a chain -/
theorem code_any (v : Value) (ws : List ByteArray) (c : Int) (w : World) (hch : Chain w v ws c) (hg : Handle w) : Calls Tryd.prog 14 #[v] w fun e w' => e = .returned (.int .i64 c) ∧ Below w.heap.size w w' := by
  have C := find_num v ws c w hch hg
  obtain ⟨tv, xv, rfl⟩ := hch.shape
  clear hch
  go_enter Tryd.func14, Tryd.ntmps14
  go_wp2_with (go_at_call 18; refine C.mono ?_; rintro e w' ⟨rfl, hb⟩)
  go_ret
  exact ⟨rfl, hb⟩
theorem isCode_any (v : Value) (ws : List ByteArray) (c d : Int) (w : World) (hch : Chain w v ws c) (hg : Handle w) : Calls Tryd.prog 15 #[v, .int .i64 d] w fun e w' => e = .returned (.bool (c == d)) ∧ Below w.heap.size w w' := by
  have C := code_any v ws c w hch hg
  obtain ⟨tv, xv, rfl⟩ := hch.shape
  clear hch
  go_enter Tryd.func15, Tryd.ntmps15
  go_wp2_with (first | (go_at_call 14; refine C.mono ?_; rintro e w' ⟨rfl, hb⟩) | (go_at_call 19; refine (Is_num d _ [] c _ (.num c)).mono ?_; rintro e w2 ⟨rfl, hb2⟩))
  go_ret
  exact ⟨rfl, hb.trans (hb2.mono hb.size)⟩
end Go.Proofs.YtaljaibkmhnleaaDoor
