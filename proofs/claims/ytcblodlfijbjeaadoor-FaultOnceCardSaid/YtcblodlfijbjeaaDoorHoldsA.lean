/-
  FaultWraps: for every number and every list of texts the law returns true, and its arguments read as they did; on the condition that errors.errorType and strconv's tables are as the program's text lays them.
-/
import Derived.Test.YtcblodlfijbjeaaDoorRows
import Derived.Test.YtcblodlfijbjeaaDoorCards
import Derived.Test.YtcblodlfijbjeaaDoorTie
import Derived.Test.YtcblodlfijbjeaaDoorWraps
import Derived.ProofKit
import Derived.SizedLaws
import Derived.LaidSub
import Derived.LaidHandle
import Derived.Lib.LaidTab
import Derived.SliceStrings
import Derived.SevenTiedAt
namespace Go.Proofs.YtcblodlfijbjeaaDoor
open Go.ChangeShapes Go.WideShapes Go.ChangeAt Go.RowKit

theorem Tryd.own : ownKnob Tryd.prog.godebug = none := by kernel_rfl
theorem Tryd.laidOut : laidOutB Tryd.prog = true := by kernel_rfl
theorem Tryd.et : Tryd.prog.globalNamed "errors.errorType" = some 0 := by kernel_rfl
theorem Tryd.rt : (Tryd.prog.cutTypes.find? (·.1 == "internal/reflectlite.rtype")).map (·.2) = some 62 := by kernel_rfl
theorem Tryd.oneRow : ((List.range 137).filter fun t => Tryd.prog.rowNamed t [101, 114, 114, 111, 114]) = [26] := by kernel_rfl
theorem Tryd.size : Tryd.prog.types.size = 137 := by kernel_rfl
theorem Tryd.cells9 : Tryd.prog.cellsOf 9 = 1 := by kernel_rfl

/-- The variable errors.errorType as the condition has it. -/
theorem handle_one {W : World} (h : laidMetH Tryd.prog [("errors.errorType", Rows.laid_errors_errorType)] W) : Handle W := by
  have h' : laidMet Tryd.prog [] W ∧ handlesMet Tryd.prog [("errors.errorType", Rows.laid_errors_errorType)] W := h
  obtain ⟨name, u, ty, e1, e2, e3, e4, e5⟩ := h'.2 _ (List.mem_singleton.2 rfl)
  have en : name = [101, 114, 114, 111, 114] := (Option.some.inj e1).symm
  subst en
  obtain rfl := Option.some.inj (Tryd.rt.symm.trans e2)
  have hm : ty ∈ (List.range 137).filter fun t => Tryd.prog.rowNamed t [101, 114, 114, 111, 114] := List.mem_filter.2 ⟨List.mem_range.2 (by rw [← Tryd.size]; exact e3), e4⟩
  rw [Tryd.oneRow] at hm
  obtain rfl := List.mem_singleton.1 hm
  have hh : typeHandle Tryd.prog 26 = .pointer (some ⟨5, 26, none⟩) := by kernel_rfl
  rw [hh] at e5
  show W.cell? ⟨0, 0, none⟩ = _
  simpa using World.var?_cell Tryd.et e5 0

theorem wraps_handle {W : World} (h : laidMetH Tryd.prog Rows.faultWrapsRow.laid W) : Handle W := by
  have h1 := h.filter (fun x => x.1 == "errors.errorType")
  have e : (Rows.faultWrapsRow.laid.filter (fun x => x.1 == "errors.errorType")) = [("errors.errorType", Rows.laid_errors_errorType)] := by kernel_rfl
  rw [e] at h1
  exact handle_one h1
theorem wraps_table {W : World} (h : laidMetH Tryd.prog Rows.faultWrapsRow.laid W) : Lib.TabIs Tryd.prog W "internal/strconv.uint64pow10" .u64 Lib.pow10Tab := by
  have h1 := h.filter (fun x => x.1 == "internal/strconv.uint64pow10")
  have e : (Rows.faultWrapsRow.laid.filter (fun x => x.1 == "internal/strconv.uint64pow10")) = [("internal/strconv.uint64pow10", Rows.laid_internal_strconv_uint64pow10)] := by kernel_rfl
  rw [e] at h1
  have h2 : laidMet Tryd.prog [("internal/strconv.uint64pow10", Rows.laid_internal_strconv_uint64pow10)] W := h1
  exact Lib.tabIs_of_head (g := 1) (t := 90) (e := 82) (n := 20) (by kernel_rfl) (by kernel_rfl) Tryd.underlying90 Tryd.underlying82 (by kernel_rfl) (by kernel_rfl) h2

/-- A world that meets the condition. -/
noncomputable def lay (w : World) (g : Nat) (cs : Array Value) : World :=
  { w with heap := w.heap.modify g fun
      | .cells _ t frozen => .cells cs t frozen
      | o => o }
def ints {H : Type} : DataW H → Array Value
  | .agg ds => (ds.map fun | .lit (.int k n) => Value.int k n | _ => .nilIface).toArray
  | _ => #[]
noncomputable def wrapsWorld (os : Os) : World :=
  lay (lay (lay (lay (World.holding Tryd.prog os ⟨#[], #[], []⟩) 0 #[.iface 62 (.agg #[.pointer (some ⟨5, 26, none⟩)])]) 1 (ints (H := Unit) Rows.laid_internal_strconv_uint64pow10)) 2 (ints (H := Unit) Rows.laid_math_bits_deBruijn32tab)) 3 (ints (H := Unit) Rows.laid_math_bits_deBruijn64tab)
theorem wrapsWorld_met (os : Os) (args : Array Value) : laidMetH Tryd.prog Rows.faultWrapsRow.laid ((wrapsWorld os).forCall (fun _ _ => 0) ⟨#[], args, []⟩).memory :=
  laidMetH_of_parts (laidMet_of_run' 8 (by kernel_rfl) (by kernel_rfl)) (by kernel_rfl)

theorem weights_strs {H : Type} (e : TypeId) (P : Program) : ∀ (ss : List ByteArray) (s : ByteArray), s ∈ ss → s.data.toList.length ∈ DataW.weightsAll P e (strs (H := H) ss)
  | [], _, h => by cases h
  | x :: r, s, h => by
    have e1 : DataW.weightsAll P e (strs (H := H) (x :: r)) = [x.data.toList.length] ++ DataW.weightsAll P e (strs (H := H) r) := rfl
    rw [e1]
    rcases List.mem_cons.1 h with rfl | h
    · simp
    · exact List.mem_append_right _ (weights_strs e P r s h)

set_option maxRecDepth 100000 in
theorem wraps_lifted (os : Os) (started : os.Started) (H : Type) (enc : TypeId × Value → H) :
    ReturnsInHanded {} Tryd.checked os 3 .any (fun w args => (Rows.faultWrapsSpec.pre enc Tryd.prog Tryd.f3 [] false w args ∧ laidMetH Tryd.prog Rows.faultWrapsRow.laid w) ∧ sizedMet enc Tryd.prog Tryd.f3 (OpenSpec.ofChange Rows.faultWrapsSpec) false w args)
      (Rows.faultWrapsSpec.post enc Tryd.prog Tryd.f3 false true false false) := by
  refine returnsInHanded_of_change_and (C := Tryd.checked) (X := fun w _ => laidMetH Tryd.prog Rows.faultWrapsRow.laid w) (fun _ _ _ hh h => h.of_heap hh) Tryd.own started (by kernel_rfl) Tryd.func3
    (ChangeSpec.witness_at (enc := enc) (C := Tryd.checked) (os := os) (X := fun w _ => laidMetH Tryd.prog Rows.faultWrapsRow.laid w) false (wrapsWorld os) #[.int .i64 0, .slice none 0 0] 8 rfl (by kernel_rfl) (by kernel_rfl) (by kernel_rfl) (by kernel_rfl) (by kernel_rfl) (wrapsWorld_met os _)) ?_
  intro W base args ds gs before hval0 hW _ hsz0 hL _
  have hsz : (DataW.weightsEach Tryd.prog (Tryd.f3.params.toList ++ Rows.faultWrapsSpec.plain.varTypes Tryd.prog) (ds ++ gs)).all (· ≤ reachBytes) = true := hsz0
  have hval : ∀ (j : Nat) t v, Tryd.f3.params[j]? = some t → args[j]? = some v → Value.okWide Tryd.prog W .any base t v := hval0
  have hW' := hW
  obtain ⟨p, q, hA0, hV, rfl, _, _⟩ := hW
  have hA : DataW.TrodAll enc Tryd.prog W 0 (fun _ => true) true Tryd.f3.params.toList args.toList ds p := hA0
  rw [Tryd.params3] at hA hval hsz
  obtain ⟨v0, v1, d0, d1, p0, p1, rfl, rfl, rfl, h0, h1⟩ := trodAll_two hA
  obtain ⟨rfl, rfl⟩ := trodVars_none hV
  obtain ⟨code, rfl, rfl, rfl, hwc⟩ := open_int Tryd.underlying3 (hval 0 3 v0 rfl rfl) h0
  obtain ⟨a0, len, cap, rfl⟩ := okWide_slice Tryd.underlying22 (hval 1 22 v1 rfl rfl)
  have h1k := h1
  obtain ⟨fuel, hf⟩ := h1
  clear hA0 hval0 hsz0
  simp only [List.append_nil] at hW'
  have hlt : ∀ x ∈ p1, x.block < W.heap.size := fun x hx => by simpa using hW'.lt x (by simpa using hx)
  have hg := wraps_handle hL
  have ht := wraps_table hL
  have hc : -9223372036854775808 ≤ code ∧ code ≤ 9223372036854775807 := by
    have h1 : IntKind.i64.min = -9223372036854775808 := rfl
    have h2 : IntKind.i64.max = 9223372036854775807 := rfl
    simp only [Lit.wf, Bool.and_eq_true, decide_eq_true_eq] at hwc
    omega
  have fin : ∀ (W' : World), Below W.heap.size W W' →
      Rows.faultWrapsSpec.post enc Tryd.checked.prog Tryd.f3 false true false false W #[.int .i64 code, .slice a0 len cap] (.bool true) W' := by
    intro W' hnx
    refine ⟨_, _, _, [], [] ++ p1, [], hW', ?_, ?_, by rfl, hnx.frame _, fun h => by cases h⟩
    · exact trodAll_mk1 (shut_bool Tryd.underlying4 true)
    · exact trodAll_mk2 (shut_int Tryd.underlying3 hwc) (Below.trod Tryd.laidOut (by kernel_rfl) (of_decide_eq_true (by kernel_rfl)) h1k hnx hlt)
  rcases open_strings Tryd.underlying22 Tryd.underlying9 Tryd.cells9 hf with ⟨hcs, hx⟩ | ⟨a, len', cap', ss, hcs, _, hl, hm, hz, hx, hcell, hws⟩
  · simp [Value.cells] at hcs
    obtain ⟨rfl, rfl, rfl⟩ := hcs
    refine (wraps_few code none 0 0 W hg (.inl rfl)).mono fun e W' ⟨he, hnx⟩ => ?_
    subst he
    exact ⟨_, rfl, fin W' hnx⟩
  · simp [Value.cells] at hcs
    obtain ⟨rfl, rfl, rfl⟩ := hcs
    simp only [Prod.mk.injEq] at hx
    obtain ⟨rfl, rfl⟩ := hx
    simp only [if_true] at hz
    by_cases hfew : len = 0 ∨ 12 < len
    · refine (wraps_few code (some a) len cap W hg hfew).mono fun e W' ⟨he, hnx⟩ => ?_
      subst he
      exact ⟨_, rfl, fin W' hnx⟩
    · obtain ⟨b, off, spot⟩ := a
      have hspot : spot = none := by simpa [Addr.add] using World.cell?_spot (hcell 0 (by omega))
      subst hspot
      have htl : (ss.take len).length = len := by simp; omega
      have hsizes : ∀ x ∈ ss.take len, x.size ≤ 140737488351232 := fun x hx => by
        have h2 : x.data.toList.length ∈ DataW.weightsEach Tryd.prog (#[3, 22].toList ++ DataSpec.varTypes Tryd.prog Rows.faultWrapsSpec.plain) ([.lit (.int .i64 code), DataW.slice (H := H) (strs (ss.take len)) (strs (ss.drop len))] ++ []) := by
          refine DataW.weights_mem_each (j := 1) rfl rfl _ ?_
          have e2 : DataW.weights Tryd.prog 22 (DataW.slice (H := H) (strs (ss.take len)) (strs (ss.drop len))) = ((strs (H := H) (ss.take len)).length + (strs (H := H) (ss.drop len)).length) * Tryd.prog.bytesOf 9 :: (DataW.weightsAll Tryd.prog 9 (strs (H := H) (ss.take len)) ++ DataW.weightsAll Tryd.prog 9 (strs (H := H) (ss.drop len))) := by
            simp [DataW.weights, Tryd.underlying22]
          rw [e2]
          exact List.mem_cons_of_mem _ (List.mem_append_left _ (weights_strs 9 Tryd.prog _ _ hx))
        have h3 := of_decide_eq_true (List.all_eq_true.1 hsz _ h2)
        have e3 : reachBytes = 140737488351232 := rfl
        rw [e3, Array.length_toList] at h3
        exact h3
      refine (wraps_many code b off len cap (ss.take len) W hc.1 hc.2 htl (by omega) (by omega) (fun j x hx => ?_) hsizes hg ht).mono fun e W' ⟨he, hnx⟩ => ?_
      · have hj : j < len := by have := (List.getElem?_eq_some_iff.1 hx).1; omega
        have h4 := hcell j (by omega)
        rw [List.getElem?_take_of_lt hj] at hx
        rw [List.getD_eq_getElem?_getD, hx] at h4
        rw [← add_plain]
        simpa using h4
      subst he
      exact ⟨_, rfl, fin W' hnx⟩

theorem wraps_said : Rows.FaultWrapsSaid :=
  OpenClaim.holds_of_wide 3 Tryd.f3 rfl rfl rfl rfl rfl rfl rfl ⟨rfl, rfl, rfl, rfl, rfl⟩ rfl rfl rfl rfl rfl (by kernel_rfl) Tryd.func3 (by kernel_rfl)
    (of_decide_eq_true (by kernel_rfl)) (by unfold Func.isWrapper; rw [if_neg (of_decide_eq_false (by kernel_rfl))]; exact ⟨rfl, rfl⟩)
    (fun os started H enc _ => wraps_lifted os started H enc)

/-- THE CARD: the row, its four listed variables tied to the program's text. -/
theorem wraps_card : Rows.FaultWrapsCardSaid :=
  Claim7.holds_tied_plain_at .later [] [.data, .data, .data, .handle] true (true, "bba3bbdd9cbe40e5eed67db296d13de882226b788af62dfaea0c88ee477f7838") true
    wraps_said (fun _ h => by cases h) (by kernel_rfl) (fun _ h => by cases h) faultWraps_row_tie rfl ⟨rfl, rfl⟩ (by kernel_rfl) rfl
    (fun f fn hf hfn => by
      obtain rfl : f = 3 := Option.some.inj ((show Tryd.prog.funcNamed "estuary/estuarylaw3.FaultWraps" = some 3 by kernel_rfl).symm.trans hf) |>.symm
      obtain rfl : fn = Tryd.f3 := (Option.some.inj (Tryd.func3.symm.trans hfn)).symm
      exact ⟨by kernel_rfl, fun j t ht => by
        rw [Tryd.params3] at ht
        have h3 : t = 3 ∨ t = 22 := by
          rcases j with _ | _ | j
          · exact .inl (by simpa using ht.symm)
          · exact .inr (by simpa using ht.symm)
          · simp at ht
        rcases h3 with rfl | rfl
        · exact (show Tryd.prog.wantsStandIn 3 = false by kernel_rfl)
        · exact (show Tryd.prog.wantsStandIn 22 = false by kernel_rfl)⟩)
    (by kernel_rfl)
#print axioms wraps_card
end Go.Proofs.YtcblodlfijbjeaaDoor
