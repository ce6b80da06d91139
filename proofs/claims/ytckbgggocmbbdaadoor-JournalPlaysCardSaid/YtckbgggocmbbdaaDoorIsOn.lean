/-
  errors.Is, the target pack.errOn.
-/
import Derived.Test.YtckbgggocmbbdaaDoorSix
namespace Go.Proofs.YtckbgggocmbbdaaDoor
open Go.RowKit Go.Extern.Stop Go.Stop Go.Extern

theorem Tryd.isComp87 : (Tryd.prog.info? 110).map (·.comparable) = some true := by kernel_rfl
theorem Tryd.isSize108 : (Tryd.prog.info? 129).map (·.size) = some 1 := by kernel_rfl
theorem Tryd.typeOf87 (v : Value) (w : World) : (callFunc 33 #[.iface 110 v]).run Tryd.prog w = .ok (Next.value (.iface 88 (.agg #[.pointer (some ⟨2, 110, none⟩)]))) w := by kernel_rfl
theorem Tryd.comparable87 (w : World) : (callFunc 75 #[.agg #[.pointer (some ⟨2, 110, none⟩)]]).run Tryd.prog w = .ok (Next.value (.bool true)) w := by kernel_rfl
theorem Tryd.eqTypes3487 (a b : Value) (w : World) : (binOp .eql 29 (.iface 55 a) (.iface 110 b)).run Tryd.prog w = .ok (.bool false) w := run_eql_iface_types (P := Tryd.prog) 55 110 a b Tryd.underlying29 (by decide) w

set_option maxHeartbeats 1000000 in
/-- errors.Is of the sentinel itself. -/
theorem Is_on (a : Addr) (w : World) :
    Calls Tryd.prog 25 #[.iface 110 (.pointer (some a)), .iface 110 (.pointer (some a))] w fun e w' => e = .returned (.bool true) ∧ w = w' := by
  obtain ⟨i, hi, hcmp⟩ := Option.map_eq_some_iff.1 Tryd.isComp87
  obtain ⟨j, hj, hjs⟩ := Option.map_eq_some_iff.1 Tryd.isSize108
  have hsame := fun W => run_eql_iface_ptr_same (P := Tryd.prog) W a Tryd.underlying29 Tryd.underlying110 hi hcmp hj
  have tT := Tryd.typeOf87
  have cT := Tryd.comparable87
  have mR := Tryd.methodComparable
  clear hi hj hcmp hjs
  have C : Calls Tryd.prog 34 #[.iface 110 (.pointer (some a)), .iface 110 (.pointer (some a)), .bool true] w fun e w' => e = .returned (.bool true) ∧ w = w' := by
    go_enter Tryd.func34, Tryd.ntmps34
    go_wp2
    refine wp_loop_rounds 1 ?_
    rw [rounds_succ]
    go_wp2
    go_ret
    exact ⟨rfl, rfl⟩
  go_enter Tryd.func25, Tryd.ntmps25
  go_wp2_with (go_at_call 34; refine C.mono ?_; rintro e w' ⟨rfl, rfl⟩)
  go_ret
  exact ⟨rfl, rfl⟩

set_option maxHeartbeats 1000000 in
/-- errors.Is of a number: it is not the sentinel. -/
theorem Is_notOn (a : Addr) (c : Int) (w : World) :
    Calls Tryd.prog 25 #[.iface 55 (.int .i64 c), .iface 110 (.pointer (some a))] w fun e w' => e = .returned (.bool false) ∧ w = w' := by
  have eT := Tryd.eqTypes3487
  have n24 := Tryd.noIs24
  have u24 := Tryd.noUnwrap24
  have us24 := Tryd.noUnwraps24
  have tT := Tryd.typeOf87
  have cT := Tryd.comparable87
  have mR := Tryd.methodComparable
  have C : Calls Tryd.prog 34 #[.iface 55 (.int .i64 c), .iface 110 (.pointer (some a)), .bool true] w fun e w' => e = .returned (.bool false) ∧ w = w' := by
    go_enter Tryd.func34, Tryd.ntmps34
    go_wp2
    refine wp_loop_rounds 1 ?_
    rw [rounds_succ]
    go_wp2
    go_ret
    exact ⟨rfl, rfl⟩
  go_enter Tryd.func25, Tryd.ntmps25
  go_wp2_with (go_at_call 34; refine C.mono ?_; rintro e w' ⟨rfl, rfl⟩)
  go_ret
  exact ⟨rfl, rfl⟩
end Go.Proofs.YtckbgggocmbbdaaDoor
