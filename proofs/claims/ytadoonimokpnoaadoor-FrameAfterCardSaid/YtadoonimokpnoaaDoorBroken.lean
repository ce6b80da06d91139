/-
  errors.As of frame's own error to a variable of its type.
-/
import Derived.Test.YtadoonimokpnoaaDoorBrokenFacts
namespace Go.Proofs.YtadoonimokpnoaaDoor
open Go.RowKit Go.Extern.Stop Go.Stop Go.Extern

/-- New blocks were made, and then both cells of the variable at block b were set. -/
def SetTwo (w : World) (b : Nat) (x y : Value) (w' : World) : Prop := ∃ w1, Below w.heap.size w w1 ∧ w' = (w1.setCell ⟨b, 0, none⟩ x).setCell ⟨b, 1, none⟩ y
theorem SetTwo.from {w W w' : World} {b : Nat} {x y : Value} (h : SetTwo W b x y w') (hb : Below w.heap.size w W) : SetTwo w b x y w' := by
  obtain ⟨w1, h1, h2⟩ := h
  exact ⟨w1, hb.trans (h1.mono hb.size), h2⟩

set_option maxHeartbeats 2000000 in
/-- errors.as, the target a variable of the error's own type. -/
theorem as_broken (tb : Nat) (ap : Addr) (i : Int) (tv : TypeId) (xv : Value) (o0 o1 : Value) (w : World) (l0 : w.cell? ⟨tb, 0, none⟩ = some o0) (l1 : w.cell? ⟨tb, 1, none⟩ = some o1) (f0 : w.frozen? ⟨tb, 0, none⟩ = false) (f1 : w.frozen? ⟨tb, 1, none⟩ = false) (hap : w.cell? ap = some (.pointer (some ⟨tb, 0, none⟩))) :
    Calls Tryd.prog 23 #[.iface 42 (.agg #[.int .i64 i, .iface tv xv]), .iface 46 (.pointer (some ⟨tb, 0, none⟩)), .agg #[.pointer (some ⟨2, 46, none⟩), .pointer (some ap), .int .u64 150], .iface 72 (.agg #[.pointer (some ⟨2, 42, none⟩)])] w
      fun e w' => e = .returned (.bool true) ∧ SetTwo w tb (.int .i64 i) (.iface tv xv) w' := by
  have tO := Tryd.typeOfB
  have mA := Tryd.methodAssignableTo
  have aB := Tryd.assignableB
  have vB := Tryd.valueOfB
  have htl : tb < w.heap.size := lt_of_cell l0
  have hal := lt_of_cell hap
  have el := Tryd.elemVPB ap ⟨tb, 0, none⟩ (w.alloc (.cells #[.pointer (some ⟨2, 46, none⟩), .pointer (some ap), .int .u64 150] 55)) (by rw [World.cell?_alloc_lt _ _ ap hal]; exact hap)
  have hW2 : Below w.heap.size w ((w.alloc (.cells #[.pointer (some ⟨2, 46, none⟩), .pointer (some ap), .int .u64 150] 55)).alloc (.cells #[.int .i64 i, .iface tv xv] 42)) := ((Below.refl _ _).alloc (Nat.le_refl _) _).alloc (by simp) _
  have st := Tryd.setB tb (w.heap.size + 1) i tv xv o0 o1 ((w.alloc (.cells #[.pointer (some ⟨2, 46, none⟩), .pointer (some ap), .int .u64 150] 55)).alloc (.cells #[.int .i64 i, .iface tv xv] 42)) (by rw [World.cell?_alloc_at _ _ _ _ (by simp)]; rfl) (by rw [World.cell?_alloc_at _ _ _ _ (by simp)]; rfl) (by rw [hW2.cell htl]; exact l0) (by rw [hW2.cell htl]; exact l1) (by rw [hW2.frozen htl]; exact f0) (by rw [hW2.frozen htl]; exact f1)
  have HW2 := Lib.hid hW2
  clear hW2 l0 l1 f0 f1 hap htl hal
  go_enter Tryd.func23, Tryd.ntmps23
  go_wp2
  refine wp_loop_rounds 1 ?_
  rw [rounds_succ]
  go_wp2
  go_ret
  exact ⟨rfl, _, HW2.out, rfl⟩

set_option maxHeartbeats 2000000 in
/-- errors.As, the target a variable of the error's own type. -/
theorem As_broken (tb : Nat) (i : Int) (tv : TypeId) (xv : Value) (o0 o1 : Value) (w : World) (hg : Handle w) (l0 : w.cell? ⟨tb, 0, none⟩ = some o0) (l1 : w.cell? ⟨tb, 1, none⟩ = some o1) (f0 : w.frozen? ⟨tb, 0, none⟩ = false) (f1 : w.frozen? ⟨tb, 1, none⟩ = false) :
    Calls Tryd.prog 15 #[.iface 42 (.agg #[.int .i64 i, .iface tv xv]), .iface 46 (.pointer (some ⟨tb, 0, none⟩))] w fun e w' => e = .returned (.bool true) ∧ SetTwo w tb (.int .i64 i) (.iface tv xv) w' := by
  have vO := Tryd.valueOfPB
  have tY := Tryd.typePB
  have mK := Tryd.methodKind
  have mE := Tryd.methodElem
  have mI := Tryd.methodImplements
  have k1 := Tryd.kindPB
  have k2 := Tryd.kindB
  have e1 := Tryd.elemPB
  have i1 := Tryd.implementsB
  have htl : tb < w.heap.size := lt_of_cell l0
  have hW : Below w.heap.size w ((w.alloc (.cells #[.pointer (some ⟨tb, 0, none⟩)] 46)).alloc (.cells #[.pointer (some ⟨2, 46, none⟩), .pointer (some ⟨w.heap.size, 0, none⟩), .int .u64 150] 55)) := ((Below.refl _ _).alloc (Nat.le_refl _) _).alloc (by simp) _
  have n8 := Tryd.isNilPB ⟨w.heap.size, 0, none⟩ ⟨tb, 0, none⟩ ((w.alloc (.cells #[.pointer (some ⟨tb, 0, none⟩)] 46)).alloc (.cells #[.pointer (some ⟨2, 46, none⟩), .pointer (some ⟨w.heap.size, 0, none⟩), .int .u64 150] 55)) (by simp)
  have hg2 : ((w.alloc (.cells #[.pointer (some ⟨tb, 0, none⟩)] 46)).alloc (.cells #[.pointer (some ⟨2, 46, none⟩), .pointer (some ⟨w.heap.size, 0, none⟩), .int .u64 150] 55)).cell? ⟨0, 0, none⟩ = some (.iface 72 (.agg #[.pointer (some ⟨2, 34, none⟩)])) := hg.later hW
  have hap2 : ((w.alloc (.cells #[.pointer (some ⟨tb, 0, none⟩)] 46)).alloc (.cells #[.pointer (some ⟨2, 46, none⟩), .pointer (some ⟨w.heap.size, 0, none⟩), .int .u64 150] 55)).cell? ⟨w.heap.size, 0, none⟩ = some (.pointer (some ⟨tb, 0, none⟩)) := by simp
  have C := as_broken tb ⟨w.heap.size, 0, none⟩ i tv xv o0 o1 _ ((hW.cell (p := ⟨tb, 0, none⟩) htl).trans l0) ((hW.cell (p := ⟨tb, 1, none⟩) htl).trans l1) ((hW.frozen (p := ⟨tb, 0, none⟩) htl).trans f0) ((hW.frozen (p := ⟨tb, 1, none⟩) htl).trans f1) hap2
  have HW := Lib.hid hW
  clear l0 l1 f0 f1 htl hW
  go_enter Tryd.func15, Tryd.ntmps15
  go_wp2_with (go_at_call 23; refine C.mono ?_; rintro e w' ⟨rfl, hb⟩)
  go_ret
  exact ⟨rfl, hb.from HW.out⟩

end Go.Proofs.YtadoonimokpnoaaDoor
