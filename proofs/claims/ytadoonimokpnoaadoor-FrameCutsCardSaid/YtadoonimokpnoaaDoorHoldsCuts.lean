/-
  FrameCuts: for every list of texts and every cut the law returns true, and its arguments read as they did; on the condition that errors.errorType and pack.errOn are as the program's text lays them.
-/
import Derived.Test.YtadoonimokpnoaaDoorRows
import Derived.Test.YtadoonimokpnoaaDoorCards
import Derived.Test.YtadoonimokpnoaaDoorTie
import Derived.Test.YtadoonimokpnoaaDoorCutsWalk
import Derived.Test.YtadoonimokpnoaaDoorGroundOn
import Derived.ProofKit
import Derived.SizedLaws
import Derived.SevenTiedAt
import Derived.ChangeMaps5
import Derived.SliceStrings
import Derived.ChangeSlices
namespace Go.Proofs.YtadoonimokpnoaaDoor
open Go.ChangeShapes Go.WideShapes Go.ChangeAt Go.RowKit Go.ChangeMaps

set_option maxRecDepth 100000 in
theorem cuts_lifted (os : Os) (started : os.Started) (H : Type) (enc : TypeId × Value → H) :
    ReturnsInHanded {} Tryd.checked os 3 .any (fun w args => (Rows.frameCutsSpec.pre enc Tryd.prog Tryd.f3 [] false w args ∧ laidMetH Tryd.prog Rows.frameCutsRow.laid w) ∧ sizedMet enc Tryd.prog Tryd.f3 (OpenSpec.ofChange Rows.frameCutsSpec) false w args)
      (Rows.frameCutsSpec.post enc Tryd.prog Tryd.f3 false true false false) := by
  refine returnsInHanded_of_change_and (C := Tryd.checked) (X := fun w _ => laidMetH Tryd.prog Rows.frameCutsRow.laid w) (fun _ _ _ hh h => h.of_heap hh) Tryd.own started (by kernel_rfl) Tryd.func3
    (ChangeSpec.witness_at (enc := enc) (C := Tryd.checked) (os := os) (X := fun w _ => laidMetH Tryd.prog Rows.frameCutsRow.laid w) false (onWorld os) #[.slice none 0 0, .int .u16 0] 8 rfl (by kernel_rfl) (by kernel_rfl) (by kernel_rfl) (by kernel_rfl) (by kernel_rfl) (onWorld_met os _)) ?_
  intro W base args ds gs before hval0 hW _ hsz0 hL _
  have hval : ∀ (j : Nat) t v, Tryd.f3.params[j]? = some t → args[j]? = some v → Value.okWide Tryd.prog W .any base t v := hval0
  have hW' := hW
  obtain ⟨p, q, hA0, hV, rfl, _, _⟩ := hW
  have hA : DataW.TrodAll enc Tryd.prog W 0 (fun _ => true) true Tryd.f3.params.toList args.toList ds p := hA0
  rw [Tryd.params3] at hA hval
  obtain ⟨v0, v1, d0, d1, p0, p1, rfl, rfl, rfl, h0, h1⟩ := trodAll_two hA
  obtain ⟨rfl, rfl⟩ := trodVars_none hV
  obtain ⟨sa, l, lc, rfl⟩ := okWide_slice Tryd.underlying22 (hval 0 22 v0 rfl rfl)
  obtain ⟨c, rfl, rfl, rfl, hwc⟩ := open_int Tryd.underlying23 (hval 1 23 v1 rfl rfl) h1
  have h0k := h0
  obtain ⟨fuel0, hf0⟩ := h0
  clear hA0 hval0 hsz0
  simp only [List.append_nil] at hW'
  have hlt0 : ∀ x ∈ p0, x.block < W.heap.size := fun x hx => hW'.lt x hx
  obtain ⟨hg, a, ho⟩ := on_both (W := W) hL
  have hc : 0 ≤ c ∧ c ≤ 65535 := by
    have e1 : IntKind.u16.min = 0 := rfl
    have e2 : IntKind.u16.max = 65535 := rfl
    simp only [Lit.wf, Bool.and_eq_true, decide_eq_true_eq] at hwc
    omega
  have fin : ∀ (W' : World), Below W.heap.size W W' →
      Rows.frameCutsSpec.post enc Tryd.checked.prog Tryd.f3 false true false false W #[.slice sa l lc, .int .u16 c] (.bool true) W' := by
    intro W' hnx
    refine ⟨_, _, _, [], p0 ++ [], [], by simpa using hW', ?_, ?_, by rfl, hnx.frame _, fun h => by cases h⟩
    · exact trodAll_mk1 (shut_bool Tryd.underlying4 true)
    · exact trodAll_mk2 (Below.trod Tryd.laidOut (by kernel_rfl) (of_decide_eq_true (by kernel_rfl)) h0k hnx hlt0) (shut_int Tryd.underlying23 hwc)
  have done : ∀ (e : Ending) (W' : World), (e = .returned (.bool true) ∧ Below W.heap.size W W') → ∃ v, e = .returned v ∧ Rows.frameCutsSpec.post enc Tryd.checked.prog Tryd.f3 false true false false W #[.slice sa l lc, .int .u16 c] v W' := by
    rintro e W' ⟨rfl, hnx⟩
    exact ⟨_, rfl, fin W' hnx⟩
  obtain ⟨ss, hsl, hs, hl47, hlc⟩ : ∃ ss : List ByteArray, ss.length = l ∧ (∀ (j : Nat) (x : ByteArray), ss[j]? = some x → ∃ sb so, sa = some ⟨sb, so, none⟩ ∧ W.cell? ⟨sb, so + j, none⟩ = some (.string x)) ∧ l ≤ 9223372036854775807 ∧ l ≤ lc := by
    rcases open_strings Tryd.underlying22 Tryd.underlying9 Tryd.cells9 hf0 with ⟨hcs, _⟩ | ⟨b, len', cap', ss, hcs, _, hl, hm, hz, hx, hcell, hws⟩
    · simp [Value.cells] at hcs
      obtain ⟨rfl, rfl, rfl⟩ := hcs
      exact ⟨[], rfl, fun j x h => by simp at h, by omega, by omega⟩
    · simp [Value.cells] at hcs
      obtain ⟨rfl, rfl, rfl⟩ := hcs
      simp only [if_true] at hz
      simp only [Prod.mk.injEq] at hx
      obtain ⟨rfl, rfl⟩ := hx
      have h47 : l ≤ 9223372036854775807 := by
        unfold maxLen at hm
        omega
      obtain ⟨sb, so, spot⟩ := b
      by_cases hl0 : l = 0
      · subst hl0
        exact ⟨[], rfl, fun j x h => by simp at h, by omega, by omega⟩
      · have hspot : spot = none := by simpa [Addr.add] using World.cell?_spot (hcell 0 (by omega))
        subst hspot
        refine ⟨ss.take l, by simp; omega, fun j x hx => ⟨sb, so, rfl, ?_⟩, h47, hl⟩
        have hj : j < l := by have := (List.getElem?_eq_some_iff.1 hx).1; simp at this; omega
        have h4 := hcell j (by omega)
        rw [List.getElem?_take_of_lt hj] at hx
        rw [List.getD_eq_getElem?_getD, hx] at h4
        rw [← add_plain]
        simpa using h4
  by_cases hout : 10 < l
  · exact (cuts_out sa l lc c a W hg ho hl47 hout).mono done
  · obtain ⟨c, rfl⟩ : ∃ k : Nat, c = k := ⟨c.toNat, by omega⟩
    exact (cuts_in sa l lc c ss a W hg ho (by omega) hlc (by omega) hsl hs).mono done

theorem cuts_said : Rows.FrameCutsSaid :=
  OpenClaim.holds_of_wide 3 Tryd.f3 rfl rfl rfl rfl rfl rfl rfl ⟨rfl, rfl, rfl, rfl, rfl⟩ rfl rfl rfl rfl rfl (by kernel_rfl) Tryd.func3 (by kernel_rfl)
    (of_decide_eq_true (by kernel_rfl)) (by unfold Func.isWrapper; rw [if_neg (of_decide_eq_false (by kernel_rfl))]; exact ⟨rfl, rfl⟩)
    (fun os started H enc _ => cuts_lifted os started H enc)

/-- THE CARD: the row, its two listed variables tied to the program's text. -/
theorem cuts_card : Rows.FrameCutsCardSaid :=
  Claim7.holds_tied_plain_at .later [] [.handle, .sentinel] true _ true
    cuts_said (fun _ h => by cases h) (by kernel_rfl) (fun _ h => by cases h) frameCuts_row_tie rfl ⟨rfl, rfl⟩ (by kernel_rfl) rfl
    (fun f fn hf hfn => by
      obtain rfl : f = 3 := Option.some.inj ((show Tryd.prog.funcNamed "estuary/estuarylaw5.FrameCuts" = some 3 by kernel_rfl).symm.trans hf) |>.symm
      obtain rfl : fn = Tryd.f3 := (Option.some.inj (Tryd.func3.symm.trans hfn)).symm
      exact ⟨by kernel_rfl, fun j t ht => by
        rw [Tryd.params3] at ht
        have h3 : t = 22 ∨ t = 23 := by
          rcases j with _ | _ | j
          · exact .inl (by simpa using ht.symm)
          · exact .inr (by simpa using ht.symm)
          · simp at ht
        rcases h3 with rfl | rfl
        · exact (show Tryd.prog.wantsStandIn 22 = false by kernel_rfl)
        · exact (show Tryd.prog.wantsStandIn 23 = false by kernel_rfl)⟩)
    (by kernel_rfl)
#print axioms cuts_card
end Go.Proofs.YtadoonimokpnoaaDoor
