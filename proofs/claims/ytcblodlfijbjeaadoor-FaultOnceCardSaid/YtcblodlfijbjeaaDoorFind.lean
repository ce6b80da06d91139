/-
  fault's own search of a chain: for its number, and for its outermost fault.
-/
import Derived.Test.YtcblodlfijbjeaaDoorAs2
import Derived.Defers
import Derived.Recover
namespace Go.Proofs.YtcblodlfijbjeaaDoor
open Go.RowKit Go.Extern.Stop Go.Stop Go.Extern

theorem catch27 (w : World) : CallsD Tryd.prog 27 #[] .returning w fun e u' w' => e = .returned (.tuple #[]) ∧ u' = .returning ∧ w' = w := by
  refine callsD_of_wpS Tryd.func27 rfl fun c₀ cs hu => ?_
  apply wpS_region
  simp [wpOpsS, go_sem, recoverD, hu, Tryd.ntmps27, bodyPostS, results, Tryd.results27]
  cases c₀; simp_all
theorem catch30 (w : World) : CallsD Tryd.prog 30 #[] .returning w fun e u' w' => e = .returned (.tuple #[]) ∧ u' = .returning ∧ w' = w := by
  refine callsD_of_wpS Tryd.func30 rfl fun c₀ cs hu => ?_
  apply wpS_region
  simp [wpOpsS, go_sem, recoverD, hu, Tryd.ntmps30, bodyPostS, results, Tryd.results30]
  cases c₀; simp_all

set_option maxHeartbeats 1000000 in
theorem find_num (v : Value) (ws : List ByteArray) (c : Int) (w : World) (hch : Chain w v ws c) (hg : w.cell? ⟨0, 0, none⟩ = some (.iface 62 (.agg #[.pointer (some ⟨5, 26, none⟩)]))) :
    Calls Tryd.prog 22 #[v] w fun e w' => e = .returned (.tuple #[.int .i64 c, .bool true]) ∧ Below w.heap.size w w' := by
  have hmf : ∀ (fn : Fn) (first cap : Array Value) (w : World), (Instr.makeFunc fn first cap).run Tryd.prog w = .ok (.func fn first cap) w := fun _ _ _ _ => rfl
  have hW : Below w.heap.size w (w.alloc (.cells #[.int .i64 0] 24)) := (Below.refl _ _).alloc (Nat.le_refl _) _
  have hlt := lt_of_cell hg
  have hg1 : (w.alloc (.cells #[.int .i64 0] 24)).cell? ⟨0, 0, none⟩ = some (.iface 62 (.agg #[.pointer (some ⟨5, 26, none⟩)])) := by rw [hW.cell hlt]; exact hg
  have HC := Lib.hid (hch.later hW)
  obtain ⟨tv, xv, rfl⟩ := hch.shape
  clear hch
  have HW := Lib.hid hW
  clear hW
  have C := As_num ⟨w.heap.size, 0, none⟩ (.int .i64 0) tv xv ws c (w.alloc (.cells #[.int .i64 0] 24)) HC.out hg1 (by simp) (by simp)
  clear hg hg1 hlt
  go_enter_defers Tryd.func22, Tryd.ntmps22
  go_wp2_with (go_at_call 9; refine C.mono ?_; rintro e w' ⟨rfl, w1, hb, rfl⟩; have hc1 : w1.cell? ⟨w.heap.size, 0, none⟩ = some (.int .i64 0) := (by rw [hb.cell (by simp)]; simp); have hf1 : w1.frozen? ⟨w.heap.size, 0, none⟩ = false := (by rw [hb.frozen (by simp)]; simp))
  refine leaves_cons (f := 27) (args := #[]) (by simp) (by simp [go_sem]) ?_
  refine (catch27 _).mono ?_
  rintro e u' w'' ⟨rfl, rfl, rfl⟩
  simp [Leaves, settle, results, Tryd.results22, go_sem, hc1]
  exact (((HW.out.trans (hb.mono (by simp))).setCell (by simp) _).setCell (by simp) _)

set_option maxHeartbeats 1000000 in
theorem find_fault (a : Addr) (w : World) (hg : w.cell? ⟨0, 0, none⟩ = some (.iface 62 (.agg #[.pointer (some ⟨5, 26, none⟩)]))) :
    Calls Tryd.prog 28 #[.iface 40 (.pointer (some a))] w fun e w' => e = .returned (.tuple #[.pointer (some a), .bool true]) ∧ Below w.heap.size w w' := by
  have hmf : ∀ (fn : Fn) (first cap : Array Value) (w : World), (Instr.makeFunc fn first cap).run Tryd.prog w = .ok (.func fn first cap) w := fun _ _ _ _ => rfl
  have hW : Below w.heap.size w (w.alloc (.cells #[.pointer none] 40)) := (Below.refl _ _).alloc (Nat.le_refl _) _
  have hlt := lt_of_cell hg
  have hg1 : (w.alloc (.cells #[.pointer none] 40)).cell? ⟨0, 0, none⟩ = some (.iface 62 (.agg #[.pointer (some ⟨5, 26, none⟩)])) := by rw [hW.cell hlt]; exact hg
  have HW := Lib.hid hW
  clear hW
  have C := As_fault ⟨w.heap.size, 0, none⟩ a (.pointer none) (w.alloc (.cells #[.pointer none] 40)) hg1 (by simp) (by simp)
  clear hg hg1 hlt
  go_enter_defers Tryd.func28, Tryd.ntmps28
  go_wp2_with (go_at_call 9; refine C.mono ?_; rintro e w' ⟨rfl, w1, hb, rfl⟩; have hc1 : w1.cell? ⟨w.heap.size, 0, none⟩ = some (.pointer none) := (by rw [hb.cell (by simp)]; simp); have hf1 : w1.frozen? ⟨w.heap.size, 0, none⟩ = false := (by rw [hb.frozen (by simp)]; simp))
  refine leaves_cons (f := 30) (args := #[]) (by simp) (by simp [go_sem]) ?_
  refine (catch30 _).mono ?_
  rintro e u' w'' ⟨rfl, rfl, rfl⟩
  simp [Leaves, settle, results, Tryd.results28, go_sem, hc1]
  exact (((HW.out.trans (hb.mono (by simp))).setCell (by simp) _).setCell (by simp) _)

set_option maxHeartbeats 1000000 in
theorem find_none (c : Int) (w : World) (hg : w.cell? ⟨0, 0, none⟩ = some (.iface 62 (.agg #[.pointer (some ⟨5, 26, none⟩)]))) :
    Calls Tryd.prog 28 #[.iface 24 (.int .i64 c)] w fun e w' => e = .returned (.tuple #[.pointer none, .bool false]) ∧ Below w.heap.size w w' := by
  have hmf : ∀ (fn : Fn) (first cap : Array Value) (w : World), (Instr.makeFunc fn first cap).run Tryd.prog w = .ok (.func fn first cap) w := fun _ _ _ _ => rfl
  have hW : Below w.heap.size w (w.alloc (.cells #[.pointer none] 40)) := (Below.refl _ _).alloc (Nat.le_refl _) _
  have hlt := lt_of_cell hg
  have hg1 : (w.alloc (.cells #[.pointer none] 40)).cell? ⟨0, 0, none⟩ = some (.iface 62 (.agg #[.pointer (some ⟨5, 26, none⟩)])) := by rw [hW.cell hlt]; exact hg
  have HW := Lib.hid hW
  clear hW
  have C := As_none ⟨w.heap.size, 0, none⟩ (.pointer none) c (w.alloc (.cells #[.pointer none] 40)) hg1 (by simp) (by simp)
  clear hg hg1 hlt
  go_enter_defers Tryd.func28, Tryd.ntmps28
  go_wp2_with (go_at_call 9; refine C.mono ?_; rintro e w' ⟨rfl, hb⟩; have hc1 : w'.cell? ⟨w.heap.size, 0, none⟩ = some (.pointer none) := (by rw [hb.cell (by simp)]; simp); have hf1 : w'.frozen? ⟨w.heap.size, 0, none⟩ = false := (by rw [hb.frozen (by simp)]; simp))
  refine leaves_cons (f := 30) (args := #[]) (by simp) (by simp [go_sem]) ?_
  refine (catch30 _).mono ?_
  rintro e u' w'' ⟨rfl, rfl, rfl⟩
  simp [Leaves, settle, results, Tryd.results28, go_sem, hc1]
  exact ((HW.out.trans (hb.mono (by simp))).setCell (by simp) _)
end Go.Proofs.YtcblodlfijbjeaaDoor
