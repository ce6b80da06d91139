/-
  An error that may be nil: Wrap, New, Code, Is of it.
-/
import Derived.Test.YtckbgggocmbbdaaDoorFault
namespace Go.Proofs.YtckbgggocmbbdaaDoor
open Go.RowKit Go.Extern.Stop Go.Stop Go.Extern

/-- What the loop holds of the error. -/
def ErrIs (w : World) (v : Value) (ws : List ByteArray) (c : Int) : Prop := (c = 0 ∧ v = .nilIface) ∨ (c ≠ 0 ∧ Chain w v ws c)
theorem ErrIs.later {w w' : World} {v : Value} {ws : List ByteArray} {c : Int} (h : ErrIs w v ws c) (hb : Below w.heap.size w w') : ErrIs w' v ws c := by
  rcases h with ⟨h1, h2⟩ | ⟨h1, h2⟩
  · exact .inl ⟨h1, h2⟩
  · exact .inr ⟨h1, h2.later hb⟩
def WrapTo (w : World) (ws : List ByteArray) (c : Int) (e : Ending) (w' : World) : Prop := ∃ v, e = .returned v ∧ ErrIs w' v ws c ∧ Below w.heap.size w w'
theorem new_any (c : Int) (s : ByteArray) (w : World) : Calls Tryd.prog 28 #[.int .i64 c, .string s] w (WrapTo w [s] c) := by
  by_cases hc : c = 0
  · subst hc
    refine (new_ok s w).mono ?_
    rintro e w' ⟨rfl, rfl⟩
    exact ⟨_, rfl, .inl ⟨rfl, rfl⟩, Below.refl _ _⟩
  · refine (new_some c (by simpa using hc) s w).mono ?_
    rintro e w' ⟨rfl, rfl⟩
    exact ⟨_, rfl, .inr ⟨hc, .fault _ _ _ _ _ (alloc_here _ _) (.num c)⟩, (Below.refl _ _).alloc (Nat.le_refl _) _⟩
theorem wrap_any (v : Value) (ws : List ByteArray) (c : Int) (s : ByteArray) (w : World) (h : ErrIs w v ws c) : Calls Tryd.prog 36 #[v, .string s] w (WrapTo w (s :: ws) c) := by
  rcases h with ⟨h1, rfl⟩ | ⟨h1, h2⟩
  · refine (wrap_nil s w).mono ?_
    rintro e w' ⟨rfl, rfl⟩
    exact ⟨_, rfl, .inl ⟨h1, rfl⟩, Below.refl _ _⟩
  · obtain ⟨t, x, rfl⟩ := h2.shape
    refine (wrap_some t x s w).mono ?_
    rintro e w' ⟨rfl, rfl⟩
    have hb : Below w.heap.size w (w.alloc (.cells #[.string s, .iface t x] 100)) := (Below.refl _ _).alloc (Nat.le_refl _) _
    exact ⟨_, rfl, .inr ⟨h1, .fault _ _ _ _ _ (alloc_here _ _) (h2.later hb)⟩, hb⟩

theorem chain_head {w : World} {v : Value} {ws : List ByteArray} {c : Int} (h : Chain w v ws c) (hl : 0 < ws.length) : ∃ b s r, v = .iface 98 (.pointer (some ⟨b, 0, none⟩)) ∧ ws = s :: r := by
  rcases h.parts with ⟨_, rfl⟩ | ⟨b, s, v', r, rfl, rfl, _, _⟩
  · simp at hl
  · exact ⟨b, s, r, rfl, rfl⟩
end Go.Proofs.YtckbgggocmbbdaaDoor
