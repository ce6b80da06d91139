/-
  Two rows of texts that are one are told to be one.
-/
import Derived.Test.YtckbgggocmbbdaaDoorErrs
import Derived.OwnWalk
import Derived.Deep.QuietTactic
import Derived.BigQuiet
namespace Go.Proofs.YtckbgggocmbbdaaDoor
open Go.RowKit Go.Extern.Stop Go.Stop Go.Extern

/-- v is a slice of these texts. -/
def Texts (w : World) (v : Value) (xs : List ByteArray) : Prop := ∃ p c, v = .slice p xs.length c ∧ ∀ (j : Nat) (x : ByteArray), xs[j]? = some x → ∃ b o, p = some ⟨b, o, none⟩ ∧ w.cell? ⟨b, o + j, none⟩ = some (.string x)
theorem Texts.later {w w' : World} {v : Value} {xs : List ByteArray} (h : Texts w v xs) (hb : Below w.heap.size w w') : Texts w' v xs := by
  obtain ⟨p, c, rfl, h⟩ := h
  refine ⟨p, c, rfl, fun j x hx => ?_⟩
  obtain ⟨b, o, e, hc⟩ := h j x hx
  exact ⟨b, o, e, by rw [hb.cell (lt_of_cell hc)]; exact hc⟩
theorem Texts.of_row {w : World} {base n : Nat} {v : Value} {xs : List ByteArray} (h : w.ownsRow base 9 1 v n (xs.map .string)) : Texts w v xs := by
  have hl : xs.length = n := by have := h.1; simpa using this
  subst hl
  rcases h.2 with ⟨rfl, h0⟩ | ⟨g, cap, cur, rfl, _⟩
  · refine ⟨none, 0, by rw [h0], fun j x hx => ?_⟩
    rw [List.eq_nil_of_length_eq_zero h0] at hx
    simp at hx
  · refine ⟨some ⟨g, 0, none⟩, cap, rfl, fun j x hx => ⟨g, 0, rfl, ?_⟩⟩
    have := h.cells (g := g) rfl j (.string x) (by simp [hx])
    have e : (⟨g, 0, none⟩ : Addr).add j = ⟨g, 0 + j, none⟩ := by unfold Addr.add; split <;> simp_all
    rw [← e]; exact this
theorem Texts.take {w : World} {p : Option Addr} {c : Nat} {xs : List ByteArray} (h : Texts w (.slice p xs.length c) xs) (k c' : Nat) (hk : k ≤ xs.length) : Texts w (.slice p k c') (xs.take k) := by
  obtain ⟨p', c2, e, h⟩ := h
  injection e with e1 e2 e3
  subst e1
  refine ⟨p, c', by rw [List.length_take, Nat.min_eq_left hk], fun j x hx => h j x ?_⟩
  rw [List.getElem?_take] at hx
  split at hx
  · exact hx
  · cases hx
theorem Texts.take' {w : World} {p : Option Addr} {l c : Nat} {xs : List ByteArray} (h : Texts w (.slice p l c) xs) (k c' : Nat) (hk : k ≤ xs.length) : Texts w (.slice p k c') (xs.take k) := by
  obtain ⟨p', c2, e, h2⟩ := h
  injection e with e1 e2 e3
  subst e1 e2
  exact Texts.take (c := c2) ⟨_, c2, rfl, h2⟩ k c' hk

set_option maxHeartbeats 1000000 in
theorem sameTexts_true (v1 v2 : Value) (xs : List ByteArray) (w : World) (hn : xs.length ≤ 1000000) (h1 : Texts w v1 xs) (h2 : Texts w v2 xs) :
    Calls Tryd.prog 14 #[v1, v2] w fun e w' => e = .returned (.bool true) ∧ Below w.heap.size w w' := by
  obtain ⟨p1, c1, rfl, h1⟩ := h1
  obtain ⟨p2, c2, rfl, h2⟩ := h2
  generalize hL : xs.length = n at hn
  have HL := Lib.hid hL
  have H1 := Lib.hid h1
  have H2 := Lib.hid h2
  clear hL h1 h2
  go_enter Tryd.func14, Tryd.ntmps14
  go_wp2
  go_loopw [5] (fun i wr => ∃ k : Nat, k ≤ n ∧ i = .int .i64 k ∧ Below w.heap.size w wr) (fun i _ => n - (intOf i).toNat)
  case atStart => exact ⟨0, Nat.zero_le _, rfl, Below.refl _ _⟩
  case round =>
    obtain ⟨k, hk, rfl, hb⟩ := hrel
    rename World => wr
    by_cases hlt : k < n
    · obtain ⟨x, hx⟩ : ∃ x, xs[k]? = some x := ⟨_, List.getElem?_eq_getElem (by rw [HL.out]; exact hlt)⟩
      obtain ⟨g1, o1, rfl, d1⟩ := H1.out k x hx
      obtain ⟨g2, o2, rfl, d2⟩ := H2.out k x hx
      rw [← hb.cell (lt_of_cell d1)] at d1
      rw [← hb.cell (lt_of_cell d2)] at d2
      have HB := Lib.hid hb
      have i0 : (0 : Int) ≤ (k : Int) := by omega
      have i1 : (k : Int) < (n : Int) := by omega
      clear hb hx
      go_wp2
      go_quiet (fail)
      go_wp2
      go_roundw
      case rel => exact ⟨k + 1, by omega, by go_num, HB.out.trans ⟨rfl, rfl, rfl, Nat.le_refl _, fun _ _ => rfl⟩⟩
      case measure => simp [intOf]; omega
    · obtain rfl : k = n := by omega
      have HB := Lib.hid hb
      clear hb
      go_wp2
      go_ret
      exact ⟨rfl, HB.out⟩
end Go.Proofs.YtckbgggocmbbdaaDoor
