/-
  PackRows: for every list of numbers and every list of texts the law returns true, and its arguments read as they did; on the condition that errors.errorType and pack.errOn are as the program's text lays them.
-/
import Derived.Test.YtamneoflfllagaaDoorRows
import Derived.Test.YtamneoflfllagaaDoorCards
import Derived.Test.YtamneoflfllagaaDoorTie
import Derived.Test.YtamneoflfllagaaDoorRow
import Derived.Test.YtamneoflfllagaaDoorGroundOn
import Derived.ProofKit
import Derived.SizedLaws
import Derived.SevenTiedAt
import Derived.ChangeMaps5
import Derived.SliceStrings
import Derived.ChangeSlices
namespace Go.Proofs.YtamneoflfllagaaDoor
open Go.ChangeShapes Go.WideShapes Go.ChangeAt Go.RowKit Go.ChangeMaps

theorem Tryd.cells38 : Tryd.prog.cellsOf 38 = 1 := by kernel_rfl

set_option maxRecDepth 100000 in
theorem rows_lifted (os : Os) (started : os.Started) (H : Type) (enc : TypeId × Value → H) :
    ReturnsInHanded {} Tryd.checked os 4 .any (fun w args => (Rows.packRowsSpec.pre enc Tryd.prog Tryd.f4 [] false w args ∧ laidMetH Tryd.prog Rows.packRowsRow.laid w) ∧ sizedMet enc Tryd.prog Tryd.f4 (OpenSpec.ofChange Rows.packRowsSpec) false w args)
      (Rows.packRowsSpec.post enc Tryd.prog Tryd.f4 false true false false) := by
  refine returnsInHanded_of_change_and (C := Tryd.checked) (X := fun w _ => laidMetH Tryd.prog Rows.packRowsRow.laid w) (fun _ _ _ hh h => h.of_heap hh) Tryd.own started (by kernel_rfl) Tryd.func4
    (ChangeSpec.witness_at (enc := enc) (C := Tryd.checked) (os := os) (X := fun w _ => laidMetH Tryd.prog Rows.packRowsRow.laid w) false (onWorld os) #[.slice none 0 0, .slice none 0 0] 8 rfl (by kernel_rfl) (by kernel_rfl) (by kernel_rfl) (by kernel_rfl) (by kernel_rfl) (onWorld_met os _)) ?_
  intro W base args ds gs before hval0 hW _ hsz0 hL _
  have hsz : (DataW.weightsEach Tryd.prog (Tryd.f4.params.toList ++ Rows.packRowsSpec.plain.varTypes Tryd.prog) (ds ++ gs)).all (· ≤ reachBytes) = true := hsz0
  have hval : ∀ (j : Nat) t v, Tryd.f4.params[j]? = some t → args[j]? = some v → Value.okWide Tryd.prog W .any base t v := hval0
  have hW' := hW
  obtain ⟨p, q, hA0, hV, rfl, _, _⟩ := hW
  have hA : DataW.TrodAll enc Tryd.prog W 0 (fun _ => true) true Tryd.f4.params.toList args.toList ds p := hA0
  rw [Tryd.params4] at hA hval hsz
  obtain ⟨v0, v1, d0, d1, p0, p1, rfl, rfl, rfl, h0, h1⟩ := trodAll_two hA
  obtain ⟨rfl, rfl⟩ := trodVars_none hV
  obtain ⟨na, n, nc, rfl⟩ := okWide_slice Tryd.underlying36 (hval 0 36 v0 rfl rfl)
  obtain ⟨sa, l, lc, rfl⟩ := okWide_slice Tryd.underlying37 (hval 1 37 v1 rfl rfl)
  have h0k := h0
  have h1k := h1
  obtain ⟨fuel0, hf0⟩ := h0
  obtain ⟨fuel1, hf1⟩ := h1
  clear hA0 hval0 hsz0
  simp only [List.append_nil] at hW'
  have hlt0 : ∀ x ∈ p0, x.block < W.heap.size := fun x hx => hW'.lt x (List.mem_append_left _ hx)
  have hlt1 : ∀ x ∈ p1, x.block < W.heap.size := fun x hx => hW'.lt x (List.mem_append_right _ hx)
  obtain ⟨hg, a, ho⟩ := on_both (W := W) hL
  have fin : ∀ (W' : World), Below W.heap.size W W' →
      Rows.packRowsSpec.post enc Tryd.checked.prog Tryd.f4 false true false false W #[.slice na n nc, .slice sa l lc] (.bool true) W' := by
    intro W' hnx
    refine ⟨_, _, _, [], p0 ++ p1, [], hW', ?_, ?_, by rfl, hnx.frame _, fun h => by cases h⟩
    · exact trodAll_mk1 (shut_bool Tryd.underlying4 true)
    · exact trodAll_mk2 (Below.trod Tryd.laidOut (by kernel_rfl) (of_decide_eq_true (by kernel_rfl)) h0k hnx hlt0) (Below.trod Tryd.laidOut (by kernel_rfl) (of_decide_eq_true (by kernel_rfl)) h1k hnx hlt1)
  have done : ∀ (e : Ending) (W' : World), (e = .returned (.bool true) ∧ Below W.heap.size W W') → ∃ v, e = .returned v ∧ Rows.packRowsSpec.post enc Tryd.checked.prog Tryd.f4 false true false false W #[.slice na n nc, .slice sa l lc] v W' := by
    rintro e W' ⟨rfl, hnx⟩
    exact ⟨_, rfl, fin W' hnx⟩
  obtain ⟨ss, hsl, hs, hl47⟩ : ∃ ss : List ByteArray, ss.length = l ∧ (∀ (j : Nat) (x : ByteArray), ss[j]? = some x → ∃ sb so, sa = some ⟨sb, so, none⟩ ∧ W.cell? ⟨sb, so + j, none⟩ = some (.string x)) ∧ l ≤ 9223372036854775807 := by
    rcases open_strings Tryd.underlying37 Tryd.underlying9 Tryd.cells9 hf1 with ⟨hcs, _⟩ | ⟨b, len', cap', ss, hcs, _, hl, hm, hz, hx, hcell, hws⟩
    · simp [Value.cells] at hcs
      obtain ⟨rfl, rfl, rfl⟩ := hcs
      exact ⟨[], rfl, fun j x h => by simp at h, by omega⟩
    · simp [Value.cells] at hcs
      obtain ⟨rfl, rfl, rfl⟩ := hcs
      simp only [if_true] at hz
      simp only [Prod.mk.injEq] at hx
      obtain ⟨rfl, rfl⟩ := hx
      have h47 : l ≤ 9223372036854775807 := by
        unfold maxLen at hm
        omega
      obtain ⟨sb, so, spot⟩ := b
      by_cases hl0 : l = 0
      · subst hl0
        exact ⟨[], rfl, fun j x h => by simp at h, by omega⟩
      · have hspot : spot = none := by simpa [Addr.add] using World.cell?_spot (hcell 0 (by omega))
        subst hspot
        refine ⟨ss.take l, by simp; omega, fun j x hx => ⟨sb, so, rfl, ?_⟩, h47⟩
        have hj : j < l := by have := (List.getElem?_eq_some_iff.1 hx).1; simp at this; omega
        have h4 := hcell j (by omega)
        rw [List.getElem?_take_of_lt hj] at hx
        rw [List.getD_eq_getElem?_getD, hx] at h4
        rw [← add_plain]
        simpa using h4
  rcases open_ints Tryd.underlying36 Tryd.underlying38 Tryd.cells38 hf0 with ⟨hcs, _⟩ | ⟨b, len', cap', zs, hcs, _, hl, hm, hz, hx, hcell, hws⟩
  · simp [Value.cells] at hcs
    obtain ⟨rfl, rfl, rfl⟩ := hcs
    exact (rows_out none sa 0 0 l lc a W hg ho (by omega) hl47 (.inl rfl)).mono done
  · simp [Value.cells] at hcs
    obtain ⟨rfl, rfl, rfl⟩ := hcs
    simp only [if_true] at hz
    by_cases hout : n = 0 ∨ 20 < n ∨ 20 < l
    · exact (rows_out (some b) sa n nc l lc a W hg ho (by unfold maxLen at hm; omega) hl47 hout).mono done
    · obtain ⟨nb, no, spot⟩ := b
      have hspot : spot = none := by simpa [Addr.add] using World.cell?_spot (hcell 0 (by omega))
      subst hspot
      refine (rows_in nb no n nc sa l lc ((zs.take n).map Int.toNat) ss a W hg ho (by omega) (by omega) (by simp; omega) hsl (fun j z hz2 => ?_) hs).mono done
      have hj : j < n := by have := (List.getElem?_eq_some_iff.1 hz2).1; simp at this; omega
      have h4 := hcell j (by omega)
      have hjz : j < zs.length := by omega
      rw [List.getElem?_map, List.getElem?_take_of_lt hj, List.getElem?_eq_getElem hjz] at hz2
      simp only [Option.map_some, Option.some.injEq] at hz2
      subst hz2
      have hwf := hws zs[j] (List.getElem_mem hjz)
      have hr : 0 ≤ zs[j] ∧ zs[j] ≤ 4294967295 := by
        have e1 : IntKind.u32.min = 0 := rfl
        have e2 : IntKind.u32.max = 4294967295 := rfl
        simp only [Lit.wf, Bool.and_eq_true, decide_eq_true_eq] at hwf
        omega
      rw [List.getD_eq_getElem?_getD, List.getElem?_eq_getElem hjz] at h4
      have e5 : ((zs[j].toNat : Nat) : Int) = zs[j] := by omega
      refine ⟨?_, by omega⟩
      rw [e5, ← add_plain]
      simpa using h4

theorem rows_said : Rows.PackRowsSaid :=
  OpenClaim.holds_of_wide 4 Tryd.f4 rfl rfl rfl rfl rfl rfl rfl ⟨rfl, rfl, rfl, rfl, rfl⟩ rfl rfl rfl rfl rfl (by kernel_rfl) Tryd.func4 (by kernel_rfl)
    (of_decide_eq_true (by kernel_rfl)) (by unfold Func.isWrapper; rw [if_neg (of_decide_eq_false (by kernel_rfl))]; exact ⟨rfl, rfl⟩)
    (fun os started H enc _ => rows_lifted os started H enc)

/-- THE CARD: the row, its two listed variables tied to the program's text. -/
theorem rows_card : Rows.PackRowsCardSaid :=
  Claim7.holds_tied_plain_at .later [] [.handle, .sentinel] true _ true
    rows_said (fun _ h => by cases h) (by kernel_rfl) (fun _ h => by cases h) packRows_row_tie rfl ⟨rfl, rfl⟩ (by kernel_rfl) rfl
    (fun f fn hf hfn => by
      obtain rfl : f = 4 := Option.some.inj ((show Tryd.prog.funcNamed "estuary/estuarylaw4.PackRows" = some 4 by kernel_rfl).symm.trans hf) |>.symm
      obtain rfl : fn = Tryd.f4 := (Option.some.inj (Tryd.func4.symm.trans hfn)).symm
      exact ⟨by kernel_rfl, fun j t ht => by
        rw [Tryd.params4] at ht
        have h3 : t = 36 ∨ t = 37 := by
          rcases j with _ | _ | j
          · exact .inl (by simpa using ht.symm)
          · exact .inr (by simpa using ht.symm)
          · simp at ht
        rcases h3 with rfl | rfl
        · exact (show Tryd.prog.wantsStandIn 36 = false by kernel_rfl)
        · exact (show Tryd.prog.wantsStandIn 37 = false by kernel_rfl)⟩)
    (by kernel_rfl)
#print axioms rows_card
end Go.Proofs.YtamneoflfllagaaDoor
