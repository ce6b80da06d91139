/-
  FaultOnce: for every number of a byte and every two texts the law returns true, and its arguments read as they did; on the condition that errors.errorType is as the program's text lays it. Of strconv's table of powers nothing is asked: whatever well-typed numbers it holds, both texts are made with the same one.
-/
import Derived.Test.YtcblodlfijbjeaaDoorRows
import Derived.Test.YtcblodlfijbjeaaDoorCards
import Derived.Test.YtcblodlfijbjeaaDoorTie
import Derived.Test.YtcblodlfijbjeaaDoorHoldsA
import Derived.Test.YtcblodlfijbjeaaDoorOnce
import Derived.HandedShaped
import Derived.ChangeMaps5
namespace Go.Proofs.YtcblodlfijbjeaaDoor
open Go.ChangeShapes Go.WideShapes Go.ChangeAt Go.RowKit Go.ChangeMaps

set_option maxRecDepth 100000 in
/-- The table's third entry is some number, in each world that the row speaks of. -/
theorem entry_of_shaped {w : World} (h : w.ShapedOpen Tryd.prog) : ∃ x, Entry w x := by
  obtain ⟨cs, hh, hs, hr⟩ := h.1 1 (Array.replicate 20 (.int .u64 0)) 90 (of_decide_eq_true (by kernel_rfl)) (by kernel_rfl)
  obtain ⟨ts, hts, _, hall⟩ := hr (by kernel_rfl)
  have hc : Tryd.prog.cellTypes Tryd.prog.depth 90 = some (List.replicate 20 82) := by kernel_rfl
  rw [hc] at hts
  cases hts
  have h2 : 2 < cs.size := by rw [hs]; decide
  obtain ⟨u, hu, hok⟩ := hall 2 cs[2] (by simp [h2])
  have e : u = 82 := by simpa using hu.symm
  subst e
  have hcell : w.cell? ⟨1, 2, none⟩ = some cs[2] := by simp [World.cell?, hh, h2]
  unfold Cell.ok at hok
  rw [Tryd.underlying82] at hok
  cases hv : cs[2] <;> rw [hv] at hok <;> simp at hok
  case int k n => exact ⟨n, by unfold Entry; rw [hcell, hv, hok.1]⟩

noncomputable def onceWorld (os : Os) : World :=
  lay (World.holding Tryd.prog os ⟨#[], #[], []⟩) 0 #[.iface 62 (.agg #[.pointer (some ⟨5, 26, none⟩)])]
theorem onceWorld_met (os : Os) (args : Array Value) : laidMetH Tryd.prog Rows.faultOnceRow.laid ((onceWorld os).forCall (fun _ _ => 0) ⟨#[], args, []⟩).memory :=
  laidMetH_of_parts (laidMet_nil _ _) (by kernel_rfl)

set_option maxRecDepth 100000 in
theorem once_lifted (os : Os) (started : os.Started) (H : Type) (enc : TypeId × Value → H) :
    ReturnsInHanded {} Tryd.checked os 4 .any (fun w args => (Rows.faultOnceSpec.pre enc Tryd.prog Tryd.f4 [] false w args ∧ laidMetH Tryd.prog Rows.faultOnceRow.laid w) ∧ sizedMet enc Tryd.prog Tryd.f4 (OpenSpec.ofChange Rows.faultOnceSpec) false w args)
      (Rows.faultOnceSpec.post enc Tryd.prog Tryd.f4 false true false false) := by
  refine returnsInHanded_of_calls (C := Tryd.checked) Tryd.own started (by kernel_rfl)
    (ChangeSpec.witness_at (enc := enc) (C := Tryd.checked) (os := os) (X := fun w _ => laidMetH Tryd.prog Rows.faultOnceRow.laid w) false (onceWorld os) #[.int .u8 0, .string ⟨#[]⟩, .string ⟨#[]⟩] 8 rfl (by kernel_rfl) (by kernel_rfl) (by kernel_rfl) (by kernel_rfl) (by kernel_rfl) (onceWorld_met os _)) ?_
  intro W0 tape i _ hsh _ hok hpre _
  obtain ⟨_, _, _, fn, hfn, _, _, _, _, hval0⟩ := hok
  obtain rfl : fn = Tryd.f4 := Option.some.inj (hfn.symm.trans Tryd.func4)
  obtain ⟨⟨⟨ds, gs, before, hw0, _⟩, hl0⟩, hz⟩ := hpre
  have hsz0 := hz.weights hw0
  have hL0 : laidMetH Tryd.prog Rows.faultOnceRow.laid (W0.forCall tape i) := hl0.of_heap (by rfl)
  have hW := DataW.Whole.of_heap (w' := W0.forCall tape i) (by rfl) hw0
  have hval1 : ∀ (j : Nat) t v, Tryd.f4.params[j]? = some t → i.args[j]? = some v → Value.okWide Tryd.prog (W0.forCall tape i) .any W0.heap.size t v := hval0
  obtain ⟨x, hx⟩ := entry_of_shaped hsh
  generalize i.args = args at hval1 hW ⊢
  have hsz : (DataW.weightsEach Tryd.prog (Tryd.f4.params.toList ++ Rows.faultOnceSpec.plain.varTypes Tryd.prog) (ds ++ gs)).all (· ≤ reachBytes) = true := hsz0
  clear hsz0 hz hw0 hl0 hval0 hfn
  have main : Calls Tryd.checked.prog 4 args (W0.forCall tape i) fun e W' => ∃ v, e = .returned v ∧ Rows.faultOnceSpec.post enc Tryd.checked.prog Tryd.f4 false true false false (W0.forCall tape i) args v W' := by
    generalize W0.forCall tape i = W at hL0 hW hval1 hx hsh ⊢
    have hW' := hW
    obtain ⟨p, q, hA0, hV, rfl, _, _⟩ := hW
    have hA : DataW.TrodAll enc Tryd.prog W 0 (fun _ => true) true Tryd.f4.params.toList args.toList ds p := hA0
    rw [Tryd.params4] at hA hval1 hsz
    obtain ⟨v0, v1, v2, d0, d1, d2, p0, p1, p2, rfl, rfl, rfl, h0, h1, h2⟩ := trodAll_three hA
    obtain ⟨rfl, rfl⟩ := trodVars_none hV
    obtain ⟨c, rfl, rfl, rfl, hwc⟩ := open_int Tryd.underlying5 (hval1 0 5 v0 rfl rfl) h0
    obtain ⟨a, rfl, rfl, rfl, hwa⟩ := open_string Tryd.underlying9 (hval1 1 9 v1 rfl rfl) h1
    obtain ⟨b, rfl, rfl, rfl, hwb⟩ := open_string Tryd.underlying9 (hval1 2 9 v2 rfl rfl) h2
    have hg := handle_one hL0
    have hcr : 0 ≤ c ∧ c ≤ 255 := by
      have e1 : IntKind.u8.min = 0 := rfl
      have e2 : IntKind.u8.max = 255 := rfl
      simp only [Lit.wf, Bool.and_eq_true, decide_eq_true_eq] at hwc
      omega
    have hda : a.size ≤ 140737488351232 := by
      have h := sized_string hsz (j := 1) (t := 9) (bytes := a.data.toList) rfl rfl
      have e3 : reachBytes = 140737488351232 := rfl
      rw [e3, Array.length_toList] at h
      exact h
    have hdb : b.size ≤ 140737488351232 := by
      have h := sized_string hsz (j := 2) (t := 9) (bytes := b.data.toList) rfl rfl
      have e3 : reachBytes = 140737488351232 := rfl
      rw [e3, Array.length_toList] at h
      exact h
    have fin : ∀ (W' : World), Below W.heap.size W W' →
        Rows.faultOnceSpec.post enc Tryd.checked.prog Tryd.f4 false true false false W #[.int .u8 c, .string a, .string b] (.bool true) W' := by
      intro W' hnx
      refine ⟨_, _, _, [], [] ++ ([] ++ []), [], hW', ?_, ?_, by rfl, hnx.frame _, fun h => by cases h⟩
      · exact trodAll_mk1 (shut_bool Tryd.underlying4 true)
      · exact trodAll_mk3 (shut_int Tryd.underlying5 hwc) (shut_string Tryd.underlying9 hwa) (shut_string Tryd.underlying9 hwb)
    by_cases hout : (c == 0) = true ∨ ((c == 0) = false ∧ 30 < a.size) ∨ ((c == 0) = false ∧ a.size ≤ 30 ∧ 30 < b.size)
    · refine (once_out c a b W hg hda hdb hout).mono fun e W' ⟨he, hnx⟩ => ?_
      subst he
      exact ⟨_, rfl, fin W' hnx⟩
    · have h0 : (c == 0) = false := by
        cases hc : (c == 0) with
        | true => exact absurd (.inl hc) hout
        | false => rfl
      have hc0 : c ≠ 0 := by simpa using h0
      have ha : a.size ≤ 30 := by
        rcases Nat.lt_or_ge 30 a.size with h | h
        · exact absurd (.inr (.inl ⟨h0, h⟩)) hout
        · exact h
      have hb : b.size ≤ 30 := by
        rcases Nat.lt_or_ge 30 b.size with h | h
        · exact absurd (.inr (.inr ⟨h0, ha, h⟩)) hout
        · exact h
      obtain ⟨n, rfl⟩ : ∃ n : Nat, c = n := ⟨c.toNat, by omega⟩
      obtain ⟨t, hi, ht⟩ : ∃ t, ItoaIs W (n : Int) t ∧ t.size ≤ 30 := by
        by_cases hn : n < 100
        · refine ⟨_, itoaIs_small n hn W, ?_⟩
          have := itoa_short (n : Int) (by omega) (by omega)
          rw [Lib.itoa_nonneg] at this
          exact this
        · exact ⟨_, itoaIs_odd n x W (by omega) (by omega) hx, oddText_short n x (by omega) (by omega)⟩
      refine (once_in (n : Int) a b t W h0 hcr.1 hcr.2 ha hb hg hi ht).mono fun e W' ⟨he, hnx⟩ => ?_
      subst he
      exact ⟨_, rfl, fin W' hnx⟩
  refine main.mono fun e W' ⟨v, he, hp⟩ => ?_
  subst he
  exact ChangeSpec.post_blind hp

theorem once_said : Rows.FaultOnceSaid :=
  OpenClaim.holds_of_wide 4 Tryd.f4 rfl rfl rfl rfl rfl rfl rfl ⟨rfl, rfl, rfl, rfl, rfl⟩ rfl rfl rfl rfl rfl (by kernel_rfl) Tryd.func4 (by kernel_rfl)
    (of_decide_eq_true (by kernel_rfl)) (by unfold Func.isWrapper; rw [if_neg (of_decide_eq_false (by kernel_rfl))]; exact ⟨rfl, rfl⟩)
    (fun os started H enc _ => once_lifted os started H enc)

/-- THE CARD: the row, its one listed variable tied to the program's text. -/
theorem once_card : Rows.FaultOnceCardSaid :=
  Claim7.holds_tied_plain_at .later [] [.handle] true (true, "bba3bbdd9cbe40e5eed67db296d13de882226b788af62dfaea0c88ee477f7838") true
    once_said (fun _ h => by cases h) (by kernel_rfl) (fun _ h => by cases h) faultOnce_row_tie rfl ⟨rfl, rfl⟩ (by kernel_rfl) rfl
    (fun f fn hf hfn => by
      obtain rfl : f = 4 := Option.some.inj ((show Tryd.prog.funcNamed "estuary/estuarylaw3.FaultOnce" = some 4 by kernel_rfl).symm.trans hf) |>.symm
      obtain rfl : fn = Tryd.f4 := (Option.some.inj (Tryd.func4.symm.trans hfn)).symm
      exact ⟨by kernel_rfl, fun j t ht => by
        rw [Tryd.params4] at ht
        have h3 : t = 5 ∨ t = 9 := by
          rcases j with _ | _ | _ | j
          · exact .inl (by simpa using ht.symm)
          · exact .inr (by simpa using ht.symm)
          · exact .inr (by simpa using ht.symm)
          · simp at ht
        rcases h3 with rfl | rfl
        · exact (show Tryd.prog.wantsStandIn 5 = false by kernel_rfl)
        · exact (show Tryd.prog.wantsStandIn 9 = false by kernel_rfl)⟩)
    (by kernel_rfl)
#print axioms once_card
end Go.Proofs.YtcblodlfijbjeaaDoor
