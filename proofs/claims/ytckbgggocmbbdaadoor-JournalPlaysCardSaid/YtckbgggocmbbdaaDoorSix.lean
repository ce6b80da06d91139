/-
  pack's six: the bits that one byte of a number has.
-/
import Derived.Test.YtckbgggocmbbdaaDoorErrs
import Derived.Test.YtckbgggocmbbdaaDoorPackMath
import Derived.Deep.QuietTactic
import Derived.BigQuiet
namespace Go.Proofs.YtckbgggocmbbdaaDoor
open Go.RowKit Go.Extern.Stop Go.Stop Go.Extern

/-- pack.errOn as it was laid: a pointer to an errorString. -/
def OnErr (w : World) (a : Addr) : Prop := w.cell? ⟨1, 0, none⟩ = some (.iface 110 (.pointer (some a)))
theorem OnErr.later {w w' : World} {a : Addr} (h : OnErr w a) (hb : Below w.heap.size w w') : OnErr w' a := by
  have h' : w.cell? ⟨1, 0, none⟩ = _ := h
  show w'.cell? _ = _
  rw [hb.cell (lt_of_cell h')]; exact h'

set_option maxRecDepth 100000 in
set_option maxHeartbeats 1000000 in
theorem six_end (s : ByteArray) (i : Nat) (w : World) (h : s.size ≤ i) :
    Calls Tryd.prog 47 #[.string s, .int .i64 i] w fun e w' => e = .returned (.tuple #[.int .i64 0, .iface 55 (.int .i64 11)]) ∧ w = w' := by
  go_enter Tryd.func47, Tryd.ntmps47
  go_wp2
  go_ret2
  exact ⟨rfl, rfl⟩

set_option maxRecDepth 100000 in
set_option maxHeartbeats 1000000 in
theorem six_last (s : ByteArray) (i : Nat) (w : World) (h : i < s.size) (hb : s[i].toNat < 64) (h0 : s[i].toNat ≠ 0 ∨ i = 0) :
    Calls Tryd.prog 47 #[.string s, .int .i64 i] w fun e w' => e = .returned (.tuple #[.int .i64 s[i].toNat, .nilIface]) ∧ w = w' := by
  have h1 : ¬ s.size ≤ i := by omega
  rcases h0 with h0 | h0
  · have n0 : ¬ s[i].toNat = 0 := h0
    clear h0
    go_enter Tryd.func47, Tryd.ntmps47
    go_wp2
    go_ret2
    exact ⟨rfl, rfl⟩
  · have n0 : ¬ 0 < i := by omega
    clear h0
    by_cases h00 : s[i].toNat = 0
    · go_enter Tryd.func47, Tryd.ntmps47
      go_wp2
      go_ret2
      exact ⟨by rw [h00]; rfl, rfl⟩
    · go_enter Tryd.func47, Tryd.ntmps47
      go_wp2
      go_ret2
      exact ⟨rfl, rfl⟩

set_option maxRecDepth 100000 in
set_option maxHeartbeats 1000000 in
theorem six_bad (s : ByteArray) (i : Nat) (w : World) (h : i < s.size) (hb : 128 ≤ s[i].toNat ∨ (s[i].toNat = 0 ∧ 0 < i) ∨ (64 ≤ s[i].toNat ∧ i = 7)) :
    Calls Tryd.prog 47 #[.string s, .int .i64 i] w fun e w' => e = .returned (.tuple #[.int .i64 0, .iface 55 (.int .i64 10)]) ∧ w = w' := by
  have h1 : ¬ s.size ≤ i := by omega
  have hlt : s[i].toNat < 256 := s[i].toNat_lt
  by_cases h8 : 128 ≤ s[i].toNat
  · clear hb
    go_enter Tryd.func47, Tryd.ntmps47
    go_wp2
    go_ret2
    exact ⟨rfl, rfl⟩
  · by_cases h00 : s[i].toNat = 0
    · have hi : 0 < i := by omega
      clear hb
      go_enter Tryd.func47, Tryd.ntmps47
      go_wp2
      go_ret2
      exact ⟨rfl, rfl⟩
    · obtain ⟨h6, h7⟩ : 64 ≤ s[i].toNat ∧ i = 7 := by omega
      subst h7
      clear hb
      go_enter Tryd.func47, Tryd.ntmps47
      go_wp2
      go_ret2
      exact ⟨rfl, rfl⟩

set_option maxRecDepth 100000 in
set_option maxHeartbeats 1000000 in
theorem six_on (s : ByteArray) (i : Nat) (a : Addr) (w : World) (h : i < s.size) (h6 : 64 ≤ s[i].toNat) (h8 : s[i].toNat < 128) (h7 : ¬ i = 7) (ho : OnErr w a) :
    Calls Tryd.prog 47 #[.string s, .int .i64 i] w fun e w' => e = .returned (.tuple #[.int .i64 ((s[i].toNat : Int) - 64), .iface 110 (.pointer (some a))]) ∧ Below w.heap.size w w' := by
  have h1 : ¬ s.size ≤ i := by omega
  have n0 : ¬ s[i].toNat = 0 := by omega
  have n7 : ((i : Int) == 7) = false := by simp; omega
  have hc : w.cell? ⟨1, 0, none⟩ = some (.iface 110 (.pointer (some a))) := ho
  clear ho
  go_enter Tryd.func47, Tryd.ntmps47
  go_wp2
  go_quiet (fail)
  go_wp2
  go_ret2
  exact ⟨rfl, (Below.refl _ _).trans ⟨rfl, rfl, rfl, Nat.le_refl _, fun _ _ => rfl⟩⟩
theorem six_onN (s : ByteArray) (i c : Nat) (a : Addr) (w : World) (h : i < s.size) (hc : s[i].toNat = c + 64) (h8 : s[i].toNat < 128) (h7 : ¬ i = 7) (ho : OnErr w a) :
    Calls Tryd.prog 47 #[.string s, .int .i64 i] w fun e w' => e = .returned (.tuple #[.int .i64 c, .iface 110 (.pointer (some a))]) ∧ Below w.heap.size w w' := by
  have := six_on s i a w h (by omega) h8 h7 ho
  have e : (s[i].toNat : Int) - 64 = c := by omega
  rw [e] at this
  exact this
end Go.Proofs.YtckbgggocmbbdaaDoor
