/-
  What the statements' arguments hold: a list of texts, a list of steps, out of the readings of them.
-/
import Derived.Test.YtckbgggocmbbdaaDoorJPlaysWalk
import Derived.Test.YtckbgggocmbbdaaDoorGroundOn
import Derived.ProofKit
import Derived.ChangeMaps5
import Derived.SliceStrings
import Derived.ChangeSlices
import Derived.Deep.Slices
namespace Go.Proofs.YtckbgggocmbbdaaDoor
open Go.ChangeShapes Go.WideShapes Go.ChangeAt Go.RowKit Go.ChangeMaps

/-- A list of texts as it lies in memory, out of the reading of the argument. -/
theorem open_texts {H : Type} {enc : TypeId × Value → H} {W : World} {fuel l lc : Nat} {sa : Option Addr} {x : DataW H × List MemPlace} (h : DataW.trod enc Tryd.prog W 0 (fun _ => true) true fuel 27 [.slice sa l lc] = some x) :
    ∃ ss : List ByteArray, ss.length = l ∧ Texts W (.slice sa l lc) ss := by
  rcases open_strings Tryd.underlying27 Tryd.underlying9 Tryd.cells9 h with ⟨hcs, _⟩ | ⟨b, len', cap', ss, hcs, _, hl, hm, hz, hx, hcell, hws⟩
  · simp at hcs
    obtain ⟨rfl, rfl, rfl⟩ := hcs
    exact ⟨[], rfl, none, 0, rfl, fun j x h => by simp at h⟩
  · simp at hcs
    obtain ⟨rfl, rfl, rfl⟩ := hcs
    simp only [if_true] at hz
    obtain ⟨sb, so, spot⟩ := b
    by_cases hl0 : l = 0
    · subst hl0
      exact ⟨[], rfl, _, lc, rfl, fun j x h => by simp at h⟩
    · have hspot : spot = none := by simpa [Addr.add] using World.cell?_spot (hcell 0 (by omega))
      subst hspot
      have hlen : (ss.take l).length = l := by simp; omega
      refine ⟨ss.take l, hlen, some ⟨sb, so, none⟩, lc, by rw [hlen], fun j x hx => ⟨sb, so, rfl, ?_⟩⟩
      have hj : j < l := by have := (List.getElem?_eq_some_iff.1 hx).1; simp at this; omega
      have h4 := hcell j (by omega)
      rw [List.getElem?_take_of_lt hj] at hx
      rw [List.getD_eq_getElem?_getD, hx] at h4
      rw [← add_plain]
      simpa using h4

set_option maxRecDepth 100000 in
/-- A list of steps as it lies in memory, out of the reading of the argument. -/
theorem open_jsteps {H : Type} {enc : TypeId × Value → H} {W : World} {fuel l lc : Nat} {sa : Option Addr} {x : DataW H × List MemPlace} (h : DataW.trod enc Tryd.prog W 0 (fun _ => true) true fuel 22 [.slice sa l lc] = some x) :
    ∃ ss : List (Int × ByteArray), ss.length = l ∧ ∀ (j : Nat) s, ss[j]? = some s → JStepAt W sa j s := by
  rcases Go.Deep.open_slice Tryd.underlying22 h with ⟨hcs, _⟩ | ⟨a, len, cap, m, n, D, Pl, hcs, _, hl, _, hm, _, hx⟩
  · simp at hcs
    obtain ⟨rfl, rfl, rfl⟩ := hcs
    exact ⟨[], rfl, fun j s h => by simp at h⟩
  · simp at hcs
    obtain ⟨rfl, rfl, rfl⟩ := hcs
    simp only [if_true] at hm
    have hcell : Tryd.prog.cellsOf 33 = 2 := by kernel_rfl
    have hint : Tryd.prog.cellsOf 3 = 1 := by kernel_rfl
    have hstr : Tryd.prog.cellsOf 9 = 1 := by kernel_rfl
    obtain ⟨sb, so, spot⟩ := a
    have hspot : 0 < l → spot = none := fun h0 => by
      obtain ⟨cs, hc, _⟩ := hx 0 (by omega)
      rw [hcell, Nat.zero_mul] at hc
      obtain ⟨_, hlen, hat⟩ := World.cells?_some hc
      have h1 := hat 0 (by decide)
      rw [List.getElem?_eq_getElem (by omega)] at h1
      simpa [Addr.add] using World.cell?_spot h1
    have each : ∀ i, i < l → ∃ s : Int × ByteArray, JStepAt W (some ⟨sb, so, spot⟩) i s := by
      intro i hi
      obtain rfl := hspot (by omega)
      obtain ⟨cs, hc, ht⟩ := hx i (by omega)
      rw [hcell] at hc
      obtain ⟨_, hlen, hat⟩ := World.cells?_some hc
      obtain ⟨xs, k, _, _, _, hxl, hf⟩ := DataW.trod_struct Tryd.underlying33 ht
      match cs, hlen with
      | [c0, c1], _ =>
        have f0 : DataW.trod enc Tryd.prog W 0 (fun _ => true) true k 3 (([c0, c1].drop 0).take (Tryd.prog.cellsOf 3)) = xs[0]? := hf 0 _ rfl
        have f1 : DataW.trod enc Tryd.prog W 0 (fun _ => true) true k 9 (([c0, c1].drop 1).take (Tryd.prog.cellsOf 9)) = xs[1]? := hf 1 _ rfl
        rw [hint] at f0
        rw [hstr] at f1
        rw [List.getElem?_eq_getElem (show 0 < xs.length by rw [hxl]; decide)] at f0
        rw [List.getElem?_eq_getElem (show 1 < xs.length by rw [hxl]; decide)] at f1
        obtain ⟨z0, e0, _, _⟩ := DataW.trod_int Tryd.underlying3 f0
        obtain ⟨b, e1, _, _⟩ := DataW.trod_string Tryd.underlying9 f1
        simp only [List.drop_zero, List.drop_succ_cons, List.take_succ_cons, List.take_zero, List.cons.injEq, and_true] at e0 e1
        subst e0 e1
        have h0 := hat 0 (by decide)
        have h1 := hat 1 (by decide)
        rw [add_plain, add_plain] at h0 h1
        exact ⟨(z0, b), ⟨sb, so, rfl, h0, h1⟩⟩
    obtain ⟨f, hfs⟩ := Go.Deep.choose_lt each
    refine ⟨(List.range l).map f, by simp, fun j s hs => ?_⟩
    have hj : j < l := by have := (List.getElem?_eq_some_iff.1 hs).1; simpa using this
    rw [List.getElem?_map, List.getElem?_range hj] at hs
    simp at hs
    subst hs
    exact hfs j hj
end Go.Proofs.YtckbgggocmbbdaaDoor
