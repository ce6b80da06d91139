/-
  FrameAfter: for every two lists of texts, every byte and every text the law returns true, and its arguments read as they did; on the condition that errors.errorType and pack.errOn are as the program's text lays them.
-/
import Derived.Test.YtadoonimokpnoaaDoorRows
import Derived.Test.YtadoonimokpnoaaDoorCards
import Derived.Test.YtadoonimokpnoaaDoorTie
import Derived.Test.YtadoonimokpnoaaDoorAfterWalk
import Derived.Test.YtadoonimokpnoaaDoorGroundOn
import Derived.ProofKit
import Derived.SizedLaws
import Derived.SevenTiedAt
import Derived.ChangeMaps5
import Derived.SliceStrings
import Derived.ChangeSlices
namespace Go.Proofs.YtadoonimokpnoaaDoor
open Go.ChangeShapes Go.WideShapes Go.ChangeAt Go.RowKit Go.ChangeMaps

set_option maxRecDepth 100000 in
theorem after_lifted (os : Os) (started : os.Started) (H : Type) (enc : TypeId × Value → H) :
    ReturnsInHanded {} Tryd.checked os 4 .any (fun w args => (Rows.frameAfterSpec.pre enc Tryd.prog Tryd.f4 [] false w args ∧ laidMetH Tryd.prog Rows.frameAfterRow.laid w) ∧ sizedMet enc Tryd.prog Tryd.f4 (OpenSpec.ofChange Rows.frameAfterSpec) false w args)
      (Rows.frameAfterSpec.post enc Tryd.prog Tryd.f4 false true false false) := by
  refine returnsInHanded_of_change_and (C := Tryd.checked) (X := fun w _ => laidMetH Tryd.prog Rows.frameAfterRow.laid w) (fun _ _ _ hh h => h.of_heap hh) Tryd.own started (by kernel_rfl) Tryd.func4
    (ChangeSpec.witness_at (enc := enc) (C := Tryd.checked) (os := os) (X := fun w _ => laidMetH Tryd.prog Rows.frameAfterRow.laid w) false (onWorld os) #[.slice none 0 0, .slice none 0 0, .int .u8 0, .string ⟨#[]⟩] 8 rfl (by kernel_rfl) (by kernel_rfl) (by kernel_rfl) (by kernel_rfl) (by kernel_rfl) (onWorld_met os _)) ?_
  intro W base args ds gs before hval0 hW _ hsz0 hL _
  have hval : ∀ (j : Nat) t v, Tryd.f4.params[j]? = some t → args[j]? = some v → Value.okWide Tryd.prog W .any base t v := hval0
  have hW' := hW
  obtain ⟨p, q, hA0, hV, rfl, _, _⟩ := hW
  have hA : DataW.TrodAll enc Tryd.prog W 0 (fun _ => true) true Tryd.f4.params.toList args.toList ds p := hA0
  rw [Tryd.params4] at hA hval
  obtain ⟨v0, v1, v2, v3, d0, d1, d2, d3, p0, p1, p2, p3, rfl, rfl, rfl, h0, h1, h2, h3⟩ := trodAll_four hA
  obtain ⟨rfl, rfl⟩ := trodVars_none hV
  obtain ⟨aa, la, ca, rfl⟩ := okWide_slice Tryd.underlying22 (hval 0 22 v0 rfl rfl)
  obtain ⟨ba, lb, cb, rfl⟩ := okWide_slice Tryd.underlying22 (hval 1 22 v1 rfl rfl)
  obtain ⟨c, rfl, rfl, rfl, hwc⟩ := open_int Tryd.underlying5 (hval 2 5 v2 rfl rfl) h2
  obtain ⟨m, rfl, rfl, rfl, hwm⟩ := open_string Tryd.underlying9 (hval 3 9 v3 rfl rfl) h3
  have h0k := h0
  have h1k := h1
  obtain ⟨fuel0, hf0⟩ := h0
  obtain ⟨fuel1, hf1⟩ := h1
  clear hA0 hval0 hsz0
  have hlt0 : ∀ x ∈ p0, x.block < W.heap.size := fun x hx => hW'.lt x (by simp [hx])
  have hlt1 : ∀ x ∈ p1, x.block < W.heap.size := fun x hx => hW'.lt x (by simp [hx])
  obtain ⟨hg, a, ho⟩ := on_both (W := W) hL
  have hc : 0 ≤ c ∧ c ≤ 255 := by
    have e1 : IntKind.u8.min = 0 := rfl
    have e2 : IntKind.u8.max = 255 := rfl
    simp only [Lit.wf, Bool.and_eq_true, decide_eq_true_eq] at hwc
    omega
  have fin : ∀ (W' : World), Below W.heap.size W W' →
      Rows.frameAfterSpec.post enc Tryd.checked.prog Tryd.f4 false true false false W #[.slice aa la ca, .slice ba lb cb, .int .u8 c, .string m] (.bool true) W' := by
    intro W' hnx
    refine ⟨_, _, _, [], p0 ++ (p1 ++ ([] ++ [])), [], hW', ?_, ?_, by rfl, hnx.frame _, fun h => by cases h⟩
    · exact trodAll_mk1 (shut_bool Tryd.underlying4 true)
    · exact trodAll_mk4 (Below.trod Tryd.laidOut (by kernel_rfl) (of_decide_eq_true (by kernel_rfl)) h0k hnx hlt0) (Below.trod Tryd.laidOut (by kernel_rfl) (of_decide_eq_true (by kernel_rfl)) h1k hnx hlt1) (shut_int Tryd.underlying5 hwc) (shut_string Tryd.underlying9 hwm)
  have done : ∀ (e : Ending) (W' : World), (e = .returned (.bool true) ∧ Below W.heap.size W W') → ∃ v, e = .returned v ∧ Rows.frameAfterSpec.post enc Tryd.checked.prog Tryd.f4 false true false false W #[.slice aa la ca, .slice ba lb cb, .int .u8 c, .string m] v W' := by
    rintro e W' ⟨rfl, hnx⟩
    exact ⟨_, rfl, fin W' hnx⟩
  obtain ⟨us, hal, has, _⟩ : ∃ ss : List ByteArray, ss.length = la ∧ (∀ (j : Nat) (x : ByteArray), ss[j]? = some x → ∃ sb so, aa = some ⟨sb, so, none⟩ ∧ W.cell? ⟨sb, so + j, none⟩ = some (.string x)) ∧ la ≤ 9223372036854775807 := by
    rcases open_strings Tryd.underlying22 Tryd.underlying9 Tryd.cells9 hf0 with ⟨hcs, _⟩ | ⟨b, len', cap', ss, hcs, _, hl, hm, hz, hx, hcell, hws⟩
    · simp [Value.cells] at hcs
      obtain ⟨rfl, rfl, rfl⟩ := hcs
      exact ⟨[], rfl, fun j x h => by simp at h, by omega⟩
    · simp [Value.cells] at hcs
      obtain ⟨rfl, rfl, rfl⟩ := hcs
      simp only [if_true] at hz
      simp only [Prod.mk.injEq] at hx
      obtain ⟨rfl, rfl⟩ := hx
      have h47 : la ≤ 9223372036854775807 := by
        unfold maxLen at hm
        omega
      obtain ⟨sb, so, spot⟩ := b
      by_cases hl0 : la = 0
      · subst hl0
        exact ⟨[], rfl, fun j x h => by simp at h, by omega⟩
      · have hspot : spot = none := by simpa [Addr.add] using World.cell?_spot (hcell 0 (by omega))
        subst hspot
        refine ⟨ss.take la, by simp; omega, fun j x hx => ⟨sb, so, rfl, ?_⟩, h47⟩
        have hj : j < la := by have := (List.getElem?_eq_some_iff.1 hx).1; simp at this; omega
        have h4 := hcell j (by omega)
        rw [List.getElem?_take_of_lt hj] at hx
        rw [List.getD_eq_getElem?_getD, hx] at h4
        rw [← add_plain]
        simpa using h4
  obtain ⟨vs, hbl, hbs, _⟩ : ∃ ss : List ByteArray, ss.length = lb ∧ (∀ (j : Nat) (x : ByteArray), ss[j]? = some x → ∃ sb so, ba = some ⟨sb, so, none⟩ ∧ W.cell? ⟨sb, so + j, none⟩ = some (.string x)) ∧ lb ≤ 9223372036854775807 := by
    rcases open_strings Tryd.underlying22 Tryd.underlying9 Tryd.cells9 hf1 with ⟨hcs, _⟩ | ⟨b, len', cap', ss, hcs, _, hl, hm, hz, hx, hcell, hws⟩
    · simp [Value.cells] at hcs
      obtain ⟨rfl, rfl, rfl⟩ := hcs
      exact ⟨[], rfl, fun j x h => by simp at h, by omega⟩
    · simp [Value.cells] at hcs
      obtain ⟨rfl, rfl, rfl⟩ := hcs
      simp only [if_true] at hz
      simp only [Prod.mk.injEq] at hx
      obtain ⟨rfl, rfl⟩ := hx
      have h47 : lb ≤ 9223372036854775807 := by
        unfold maxLen at hm
        omega
      obtain ⟨sb, so, spot⟩ := b
      by_cases hl0 : lb = 0
      · subst hl0
        exact ⟨[], rfl, fun j x h => by simp at h, by omega⟩
      · have hspot : spot = none := by simpa [Addr.add] using World.cell?_spot (hcell 0 (by omega))
        subst hspot
        refine ⟨ss.take lb, by simp; omega, fun j x hx => ⟨sb, so, rfl, ?_⟩, h47⟩
        have hj : j < lb := by have := (List.getElem?_eq_some_iff.1 hx).1; simp at this; omega
        have h4 := hcell j (by omega)
        rw [List.getElem?_take_of_lt hj] at hx
        rw [List.getD_eq_getElem?_getD, hx] at h4
        rw [← add_plain]
        simpa using h4
  by_cases hout : 8 < la ∨ 8 < lb ∨ 50 < m.size
  · exact (after_out aa ba la ca lb cb c m a W hg ho hout).mono done
  · obtain ⟨c, rfl⟩ : ∃ k : Nat, c = k := ⟨c.toNat, by omega⟩
    exact (after_in aa ba la ca lb cb c m us vs a W hg ho (by omega) (by omega) (by omega) (by omega) hal hbl has hbs).mono done

theorem after_said : Rows.FrameAfterSaid :=
  OpenClaim.holds_of_wide 4 Tryd.f4 rfl rfl rfl rfl rfl rfl rfl ⟨rfl, rfl, rfl, rfl, rfl⟩ rfl rfl rfl rfl rfl (by kernel_rfl) Tryd.func4 (by kernel_rfl)
    (of_decide_eq_true (by kernel_rfl)) (by unfold Func.isWrapper; rw [if_neg (of_decide_eq_false (by kernel_rfl))]; exact ⟨rfl, rfl⟩)
    (fun os started H enc _ => after_lifted os started H enc)

/-- THE CARD: the row, its two listed variables tied to the program's text. -/
theorem after_card : Rows.FrameAfterCardSaid :=
  Claim7.holds_tied_plain_at .later [] [.handle, .sentinel] true _ true
    after_said (fun _ h => by cases h) (by kernel_rfl) (fun _ h => by cases h) frameAfter_row_tie rfl ⟨rfl, rfl⟩ (by kernel_rfl) rfl
    (fun f fn hf hfn => by
      obtain rfl : f = 4 := Option.some.inj ((show Tryd.prog.funcNamed "estuary/estuarylaw5.FrameAfter" = some 4 by kernel_rfl).symm.trans hf) |>.symm
      obtain rfl : fn = Tryd.f4 := (Option.some.inj (Tryd.func4.symm.trans hfn)).symm
      exact ⟨by kernel_rfl, fun j t ht => by
        rw [Tryd.params4] at ht
        have h3 : t = 22 ∨ t = 5 ∨ t = 9 := by
          rcases j with _ | _ | _ | _ | j
          · exact .inl (by simpa using ht.symm)
          · exact .inl (by simpa using ht.symm)
          · exact .inr (.inl (by simpa using ht.symm))
          · exact .inr (.inr (by simpa using ht.symm))
          · simp at ht
        rcases h3 with rfl | rfl | rfl
        · exact (show Tryd.prog.wantsStandIn 22 = false by kernel_rfl)
        · exact (show Tryd.prog.wantsStandIn 5 = false by kernel_rfl)
        · exact (show Tryd.prog.wantsStandIn 9 = false by kernel_rfl)⟩)
    (by kernel_rfl)
#print axioms after_card
end Go.Proofs.YtadoonimokpnoaaDoor
