/-
  DiskPlays: for every list of steps the law returns true, and its arguments read as they did; on the condition that errors.errorType is as the program's text lays it.
-/
import Derived.Test.YtaljaibkmhnleaaDoorRows
import Derived.Test.YtaljaibkmhnleaaDoorCards
import Derived.Test.YtaljaibkmhnleaaDoorTie
import Derived.Test.YtaljaibkmhnleaaDoorPlaysWalk
import Derived.Deep.Slices
import Derived.Test.YtaljaibkmhnleaaDoorGroundType
import Derived.ProofKit
import Derived.SizedLaws
import Derived.SevenTiedAt
import Derived.ChangeMaps5
import Derived.ChangeSlices
namespace Go.Proofs.YtaljaibkmhnleaaDoor
open Go.ChangeShapes Go.WideShapes Go.ChangeAt Go.RowKit Go.ChangeMaps

/-- A step as it lies in memory, out of the reading of the argument. -/
theorem open_steps {H : Type} {enc : TypeId × Value → H} {W : World} {fuel l lc : Nat} {sa : Option Addr} {x : DataW H × List MemPlace} (h : DataW.trod enc Tryd.prog W 0 (fun _ => true) true fuel 22 [.slice sa l lc] = some x) :
    ∃ ss : List (Int × Int × ByteArray), ss.length = l ∧ ∀ (j : Nat) s, ss[j]? = some s → StepAt W sa j s := by
  rcases Go.Deep.open_slice Tryd.underlying22 h with ⟨hcs, _⟩ | ⟨a, len, cap, m, n, D, Pl, hcs, _, hl, _, hm, _, hx⟩
  · simp at hcs
    obtain ⟨rfl, rfl, rfl⟩ := hcs
    exact ⟨[], rfl, fun j s h => by simp at h⟩
  · simp at hcs
    obtain ⟨rfl, rfl, rfl⟩ := hcs
    simp only [if_true] at hm
    have hcell : Tryd.prog.cellsOf 27 = 3 := by kernel_rfl
    have hint : Tryd.prog.cellsOf 3 = 1 := by kernel_rfl
    have hstr : Tryd.prog.cellsOf 9 = 1 := by kernel_rfl
    obtain ⟨sb, so, spot⟩ := a
    have hspot : 0 < l → spot = none := fun h0 => by
      obtain ⟨cs, hc, _⟩ := hx 0 (by omega)
      rw [hcell, Nat.zero_mul] at hc
      obtain ⟨_, hlen, hat⟩ := World.cells?_some hc
      have h1 := hat 0 (by decide)
      rw [List.getElem?_eq_getElem (by omega)] at h1
      simpa [Addr.add] using World.cell?_spot h1
    have each : ∀ i, i < l → ∃ s : Int × Int × ByteArray, StepAt W (some ⟨sb, so, spot⟩) i s := by
      intro i hi
      obtain rfl := hspot (by omega)
      obtain ⟨cs, hc, ht⟩ := hx i (by omega)
      rw [hcell] at hc
      obtain ⟨_, hlen, hat⟩ := World.cells?_some hc
      obtain ⟨xs, k, _, _, _, hxl, hf⟩ := DataW.trod_struct Tryd.underlying27 ht
      match cs, hlen with
      | [c0, c1, c2], _ =>
        have f0 : DataW.trod enc Tryd.prog W 0 (fun _ => true) true k 3 (([c0, c1, c2].drop 0).take (Tryd.prog.cellsOf 3)) = xs[0]? := hf 0 _ rfl
        have f1 : DataW.trod enc Tryd.prog W 0 (fun _ => true) true k 3 (([c0, c1, c2].drop 1).take (Tryd.prog.cellsOf 3)) = xs[1]? := hf 1 _ rfl
        have f2 : DataW.trod enc Tryd.prog W 0 (fun _ => true) true k 9 (([c0, c1, c2].drop 2).take (Tryd.prog.cellsOf 9)) = xs[2]? := hf 2 _ rfl
        rw [hint] at f0 f1
        rw [hstr] at f2
        rw [List.getElem?_eq_getElem (show 0 < xs.length by rw [hxl]; decide)] at f0
        rw [List.getElem?_eq_getElem (show 1 < xs.length by rw [hxl]; decide)] at f1
        rw [List.getElem?_eq_getElem (show 2 < xs.length by rw [hxl]; decide)] at f2
        obtain ⟨z0, e0, _, _⟩ := DataW.trod_int Tryd.underlying3 f0
        obtain ⟨z1, e1, _, _⟩ := DataW.trod_int Tryd.underlying3 f1
        obtain ⟨b, e2, _, _⟩ := DataW.trod_string Tryd.underlying9 f2
        simp only [List.drop_zero, List.drop_succ_cons, List.take_succ_cons, List.take_zero, List.cons.injEq, and_true] at e0 e1 e2
        subst e0 e1 e2
        have h0 := hat 0 (by decide)
        have h1 := hat 1 (by decide)
        have h2 := hat 2 (by decide)
        rw [add_plain, add_plain] at h0 h1 h2
        exact ⟨(z0, z1, b), ⟨sb, so, rfl, h0, h1, h2⟩⟩
    obtain ⟨f, hfs⟩ := Go.Deep.choose_lt each
    refine ⟨(List.range l).map f, by simp, fun j s hs => ?_⟩
    have hj : j < l := by have := (List.getElem?_eq_some_iff.1 hs).1; simpa using this
    rw [List.getElem?_map, List.getElem?_range hj] at hs
    simp at hs
    subst hs
    exact hfs j hj

set_option maxRecDepth 100000 in
theorem plays_lifted (os : Os) (started : os.Started) (H : Type) (enc : TypeId × Value → H) :
    ReturnsInHanded {} Tryd.checked os 3 .any (fun w args => (Rows.diskPlaysSpec.pre enc Tryd.prog Tryd.f3 [] false w args ∧ laidMetH Tryd.prog Rows.diskPlaysRow.laid w) ∧ sizedMet enc Tryd.prog Tryd.f3 (OpenSpec.ofChange Rows.diskPlaysSpec) false w args)
      (Rows.diskPlaysSpec.post enc Tryd.prog Tryd.f3 false true false false) := by
  refine returnsInHanded_of_change_and (C := Tryd.checked) (X := fun w _ => laidMetH Tryd.prog Rows.diskPlaysRow.laid w) (fun _ _ _ hh h => h.of_heap hh) Tryd.own started (by kernel_rfl) Tryd.func3
    (ChangeSpec.witness_at (enc := enc) (C := Tryd.checked) (os := os) (X := fun w _ => laidMetH Tryd.prog Rows.diskPlaysRow.laid w) false (typeWorld os) #[.slice none 0 0] 8 rfl (by kernel_rfl) (by kernel_rfl) (by kernel_rfl) (by kernel_rfl) (by kernel_rfl) (typeWorld_met os _)) ?_
  intro W base args ds gs before hval0 hW _ _ hL _
  have hval : ∀ (j : Nat) t v, Tryd.f3.params[j]? = some t → args[j]? = some v → Value.okWide Tryd.prog W .any base t v := hval0
  have hW' := hW
  obtain ⟨p, q, hA0, hV, rfl, _, _⟩ := hW
  have hA : DataW.TrodAll enc Tryd.prog W 0 (fun _ => true) true Tryd.f3.params.toList args.toList ds p := hA0
  rw [Tryd.params3] at hA hval
  obtain ⟨v0, d0, rfl, rfl, h0⟩ := trodAll_one hA
  obtain ⟨rfl, rfl⟩ := trodVars_none hV
  obtain ⟨sa, l, lc, rfl⟩ := okWide_slice Tryd.underlying22 (hval 0 22 v0 rfl rfl)
  have h0k := h0
  obtain ⟨fuel, hf⟩ := h0
  clear hA0 hval0
  have hlt : ∀ x ∈ p, x.block < W.heap.size := fun x hx => hW'.lt x (by simp [hx])
  have fin : ∀ (W' : World), Below W.heap.size W W' →
      Rows.diskPlaysSpec.post enc Tryd.checked.prog Tryd.f3 false true false false W #[.slice sa l lc] (.bool true) W' := by
    intro W' hnx
    refine ⟨_, _, _, [], p, [], hW', ?_, ?_, by rfl, hnx.frame _, fun h => by cases h⟩
    · exact trodAll_mk1 (shut_bool Tryd.underlying4 true)
    · exact trodAll_mk1 (Below.trod Tryd.laidOut (by kernel_rfl) (of_decide_eq_true (by kernel_rfl)) h0k hnx hlt)
  have done : ∀ (e : Ending) (W' : World), (e = .returned (.bool true) ∧ Below W.heap.size W W') → ∃ v, e = .returned v ∧ Rows.diskPlaysSpec.post enc Tryd.checked.prog Tryd.f3 false true false false W #[.slice sa l lc] v W' := by
    rintro e W' ⟨rfl, hnx⟩
    exact ⟨_, rfl, fin W' hnx⟩
  by_cases hout : 100 < l
  · exact (plays_out sa l lc W hout).mono done
  · obtain ⟨ss, hsl, hss⟩ := open_steps hf
    exact (plays_in sa l lc ss W (by omega) hsl hss).mono done

theorem plays_said : Rows.DiskPlaysSaid :=
  OpenClaim.holds_of_wide 3 Tryd.f3 rfl rfl rfl rfl rfl rfl rfl ⟨rfl, rfl, rfl, rfl, rfl⟩ rfl rfl rfl rfl rfl (by kernel_rfl) Tryd.func3 (by kernel_rfl)
    (of_decide_eq_true (by kernel_rfl)) (by unfold Func.isWrapper; rw [if_neg (of_decide_eq_false (by kernel_rfl))]; exact ⟨rfl, rfl⟩)
    (fun os started H enc _ => plays_lifted os started H enc)

/-- THE CARD: the row, its listed variable tied to the program's text. -/
theorem plays_card : Rows.DiskPlaysCardSaid :=
  Claim7.holds_tied_plain_at .later [] [.handle] true _ true
    plays_said (fun _ h => by cases h) (by kernel_rfl) (fun _ h => by cases h) diskPlays_row_tie rfl ⟨rfl, rfl⟩ (by kernel_rfl) rfl
    (fun f fn hf hfn => by
      obtain rfl : f = 3 := Option.some.inj ((show Tryd.prog.funcNamed "estuary/estuarylaw9.DiskPlays" = some 3 by kernel_rfl).symm.trans hf) |>.symm
      obtain rfl : fn = Tryd.f3 := (Option.some.inj (Tryd.func3.symm.trans hfn)).symm
      exact ⟨by kernel_rfl, fun j t ht => by
        rw [Tryd.params3] at ht
        have h3 : t = 22 := by
          rcases j with _ | j
          · exact by simpa using ht.symm
          · simp at ht
        subst h3
        exact (show Tryd.prog.wantsStandIn 22 = false by kernel_rfl)⟩)
    (by kernel_rfl)
#print axioms plays_card

end Go.Proofs.YtaljaibkmhnleaaDoor
