/-
  Two rows of texts that are one are told to be one; strconv.Itoa where its table is as it was laid, and where it is not read.
-/
import Derived.Test.YtcblodlfijbjeaaDoorText
import Derived.Deep.QuietTactic
import Derived.BigQuiet
namespace Go.Proofs.YtcblodlfijbjeaaDoor
open Go.RowKit Go.Extern.Stop Go.Stop Go.Extern

theorem ownsRow_cell {w : World} {base g n cap : Nat} {xs : List ByteArray} (h : w.ownsRow base 9 1 (.slice (some ⟨g, 0, none⟩) n cap) n (xs.map .string)) (k : Nat) (x : ByteArray) (hx : xs[k]? = some x) : w.cell? ⟨g, k, none⟩ = some (.string x) := by
  have := h.cells (g := g) rfl k (.string x) (by simp [hx])
  have e : (⟨g, 0, none⟩ : Addr).add k = ⟨g, k, none⟩ := by unfold Addr.add; split <;> simp_all
  rw [← e]; exact this

theorem below_drewN {B : Nat} {a w : World} (h : Below B a w) (n : Nat) : Below B a (w.drewN n) := by
  induction n with
  | zero => exact h
  | succ n ih => exact ih.drew

set_option maxHeartbeats 1000000 in
theorem same_true (b1 b2 g1 g2 n c1 c2 : Nat) (xs : List ByteArray) (w : World) (hn : n ≤ 1000000) (h1 : w.ownsRow b1 9 1 (.slice (some ⟨g1, 0, none⟩) n c1) n (xs.map .string)) (h2 : w.ownsRow b2 9 1 (.slice (some ⟨g2, 0, none⟩) n c2) n (xs.map .string)) :
    Calls Tryd.prog 13 #[.slice (some ⟨g1, 0, none⟩) n c1, .slice (some ⟨g2, 0, none⟩) n c2] w fun e w' => e = .returned (.bool true) ∧ Below w.heap.size w w' := by
  have hlen : xs.length = n := by have := h1.1; simpa using this
  have HL := Lib.hid hlen
  have H1 := Lib.hid h1
  have H2 := Lib.hid h2
  clear hlen h1 h2
  go_enter Tryd.func13, Tryd.ntmps13
  go_wp2
  go_loopw [5] (fun i wr => ∃ k : Nat, k ≤ n ∧ i = .int .i64 k ∧ Below w.heap.size w wr) (fun i _ => n - (intOf i).toNat)
  case atStart => exact ⟨0, Nat.zero_le _, rfl, Below.refl _ _⟩
  case round =>
    obtain ⟨k, hk, rfl, hb⟩ := hrel
    rename World => wr
    by_cases hlt : k < n
    · obtain ⟨x, hx⟩ : ∃ x, xs[k]? = some x := ⟨_, List.getElem?_eq_getElem (by rw [HL.out]; exact hlt)⟩
      have d1 : wr.cell? ⟨g1, k, none⟩ = some (.string x) := by
        have := ownsRow_cell H1.out k x hx
        rw [hb.cell (lt_of_cell this)]; exact this
      have d2 : wr.cell? ⟨g2, k, none⟩ = some (.string x) := by
        have := ownsRow_cell H2.out k x hx
        rw [hb.cell (lt_of_cell this)]; exact this
      have HB := Lib.hid hb
      have i0 : (0 : Int) ≤ (k : Int) := by omega
      have i1 : (k : Int) < (n : Int) := by omega
      clear hb hx
      go_wp2
      go_quiet (fail)
      go_wp2
      go_roundw
      case rel => exact ⟨k + 1, by omega, by go_num, below_drewN HB.out _⟩
      case measure => simp [intOf]; omega
    · obtain rfl : k = n := by omega
      have HB := Lib.hid hb
      clear hb
      go_wp2
      go_ret
      exact ⟨rfl, HB.out⟩

/-! ### strconv.Itoa -/
theorem below_grow {B : Nat} {a w : World} (h : Below B a w) (hB : B ≤ w.heap.size) (os : Array Obj) : Below B a (Go.Sort.grow w os) := by
  refine ⟨h.os, h.tape, h.output, ?_, fun k hk => ?_⟩
  · have := h.size
    simp [Go.Sort.grow]; omega
  · rw [← h.block k hk]
    simp [Go.Sort.grow, Array.getElem?_append, show k < w.heap.size by omega]
theorem itoaIs_small (i : Nat) (hi : i < 100) (w : World) : ItoaIs w i ⟨(Lib.decDigits i).toArray⟩ := fun w' _ => by
  refine (Tryd.strconv_Itoa_small i hi w').mono ?_
  rintro e w2 ⟨rfl, rfl⟩
  exact ⟨rfl, Below.refl _ _⟩
theorem tabIs_later {w w' : World} {name : String} {k : IntKind} {zs : List Int} (h : Lib.TabIs Tryd.prog w name k zs) (hb : Below w.heap.size w w') : Lib.TabIs Tryd.prog w' name k zs := by
  unfold Lib.TabIs World.var? at h ⊢
  rcases hg : Tryd.prog.globalNamed name with _ | g
  · rw [hg] at h; exact h
  · rw [hg] at h
    rcases hh : w.heap[g]? with _ | o
    · simp [hh] at h
    · have e : w'.heap[g]? = some o := by rw [hb.block g (Array.getElem?_eq_some_iff.1 hh).1]; exact hh
      simp only [Option.bind_some, hh, e] at h ⊢
      exact h
theorem itoaIs_tab (c : Int) (h0 : -9223372036854775808 ≤ c) (h1 : c ≤ 9223372036854775807) (w : World) (h : Lib.TabIs Tryd.prog w "internal/strconv.uint64pow10" .u64 Lib.pow10Tab) : ItoaIs w c ⟨(Lib.itoa c).toArray⟩ := fun w' hb => by
  refine (Tryd.strconv_Itoa c h0 h1 w' (tabIs_later h hb)).mono ?_
  rintro e w2 ⟨rfl, k, os, rfl⟩
  exact ⟨rfl, below_grow (below_drewN (Below.refl _ _) k) (by simp) os⟩
end Go.Proofs.YtcblodlfijbjeaaDoor
