/-
  errors.Is, the target pack.errOn.
-/
import Derived.Test.YtadoonimokpnoaaDoorSix
namespace Go.Proofs.YtadoonimokpnoaaDoor
open Go.RowKit Go.Extern.Stop Go.Stop Go.Extern

theorem Tryd.isComp87 : (Tryd.prog.info? 93).map (·.comparable) = some true := by kernel_rfl
theorem Tryd.isSize108 : (Tryd.prog.info? 114).map (·.size) = some 1 := by kernel_rfl
theorem Tryd.typeOf87 (v : Value) (w : World) : (callFunc 24 #[.iface 93 v]).run Tryd.prog w = .ok (Next.value (.iface 72 (.agg #[.pointer (some ⟨2, 93, none⟩)]))) w := by kernel_rfl
theorem Tryd.comparable87 (w : World) : (callFunc 58 #[.agg #[.pointer (some ⟨2, 93, none⟩)]]).run Tryd.prog w = .ok (Next.value (.bool true)) w := by kernel_rfl
theorem Tryd.eqTypes3487 (a b : Value) (w : World) : (binOp .eql 34 (.iface 40 a) (.iface 93 b)).run Tryd.prog w = .ok (.bool false) w := run_eql_iface_types (P := Tryd.prog) 40 93 a b Tryd.underlying34 (by decide) w

set_option maxHeartbeats 1000000 in
/-- errors.Is of the sentinel itself. -/
theorem Is_on (a : Addr) (w : World) :
    Calls Tryd.prog 16 #[.iface 93 (.pointer (some a)), .iface 93 (.pointer (some a))] w fun e w' => e = .returned (.bool true) ∧ w = w' := by
  obtain ⟨i, hi, hcmp⟩ := Option.map_eq_some_iff.1 Tryd.isComp87
  obtain ⟨j, hj, hjs⟩ := Option.map_eq_some_iff.1 Tryd.isSize108
  have hsame := fun W => run_eql_iface_ptr_same (P := Tryd.prog) W a Tryd.underlying34 Tryd.underlying93 hi hcmp hj
  have tT := Tryd.typeOf87
  have cT := Tryd.comparable87
  have mR := Tryd.methodComparable
  clear hi hj hcmp hjs
  have C : Calls Tryd.prog 25 #[.iface 93 (.pointer (some a)), .iface 93 (.pointer (some a)), .bool true] w fun e w' => e = .returned (.bool true) ∧ w = w' := by
    go_enter Tryd.func25, Tryd.ntmps25
    go_wp2
    refine wp_loop_rounds 1 ?_
    rw [rounds_succ]
    go_wp2
    go_ret
    exact ⟨rfl, rfl⟩
  go_enter Tryd.func16, Tryd.ntmps16
  go_wp2_with (go_at_call 25; refine C.mono ?_; rintro e w' ⟨rfl, rfl⟩)
  go_ret
  exact ⟨rfl, rfl⟩

set_option maxHeartbeats 1000000 in
/-- errors.Is of a number: it is not the sentinel. -/
theorem Is_notOn (a : Addr) (c : Int) (w : World) :
    Calls Tryd.prog 16 #[.iface 40 (.int .i64 c), .iface 93 (.pointer (some a))] w fun e w' => e = .returned (.bool false) ∧ w = w' := by
  have eT := Tryd.eqTypes3487
  have n24 := Tryd.noIs24
  have u24 := Tryd.noUnwrap24
  have us24 := Tryd.noUnwraps24
  have tT := Tryd.typeOf87
  have cT := Tryd.comparable87
  have mR := Tryd.methodComparable
  have C : Calls Tryd.prog 25 #[.iface 40 (.int .i64 c), .iface 93 (.pointer (some a)), .bool true] w fun e w' => e = .returned (.bool false) ∧ w = w' := by
    go_enter Tryd.func25, Tryd.ntmps25
    go_wp2
    refine wp_loop_rounds 1 ?_
    rw [rounds_succ]
    go_wp2
    go_ret
    exact ⟨rfl, rfl⟩
  go_enter Tryd.func16, Tryd.ntmps16
  go_wp2_with (go_at_call 25; refine C.mono ?_; rintro e w' ⟨rfl, rfl⟩)
  go_ret
  exact ⟨rfl, rfl⟩
end Go.Proofs.YtadoonimokpnoaaDoor
