/-
  fault's own search of a chain: for its number, and for its outermost fault.
-/
import Derived.Test.YtadoonimokpnoaaDoorAs2
import Derived.Defers
import Derived.Recover
namespace Go.Proofs.YtadoonimokpnoaaDoor
open Go.RowKit Go.Extern.Stop Go.Stop Go.Extern

theorem catch27 (w : World) : CallsD Tryd.prog 31 #[] .returning w fun e u' w' => e = .returned (.tuple #[]) ∧ u' = .returning ∧ w' = w := by
  refine callsD_of_wpS Tryd.func31 rfl fun c₀ cs hu => ?_
  apply wpS_region
  simp [wpOpsS, go_sem, recoverD, hu, Tryd.ntmps31, bodyPostS, results, Tryd.results31]
  cases c₀; simp_all
set_option maxHeartbeats 1000000 in
theorem find_num (v : Value) (ws : List ByteArray) (c : Int) (w : World) (hch : Chain w v ws c) (hg : w.cell? ⟨0, 0, none⟩ = some (.iface 72 (.agg #[.pointer (some ⟨2, 34, none⟩)]))) :
    Calls Tryd.prog 26 #[v] w fun e w' => e = .returned (.tuple #[.int .i64 c, .bool true]) ∧ Below w.heap.size w w' := by
  have hmf : ∀ (fn : Fn) (first cap : Array Value) (w : World), (Instr.makeFunc fn first cap).run Tryd.prog w = .ok (.func fn first cap) w := fun _ _ _ _ => rfl
  have hW : Below w.heap.size w (w.alloc (.cells #[.int .i64 0] 40)) := (Below.refl _ _).alloc (Nat.le_refl _) _
  have hlt := lt_of_cell hg
  have hg1 : (w.alloc (.cells #[.int .i64 0] 40)).cell? ⟨0, 0, none⟩ = some (.iface 72 (.agg #[.pointer (some ⟨2, 34, none⟩)])) := by rw [hW.cell hlt]; exact hg
  have HC := Lib.hid (hch.later hW)
  obtain ⟨tv, xv, rfl⟩ := hch.shape
  clear hch
  have HW := Lib.hid hW
  clear hW
  have C := As_num ⟨w.heap.size, 0, none⟩ (.int .i64 0) tv xv ws c (w.alloc (.cells #[.int .i64 0] 40)) HC.out hg1 (by simp) (by simp)
  clear hg hg1 hlt
  go_enter_defers Tryd.func26, Tryd.ntmps26
  go_wp2_with (go_at_call 15; refine C.mono ?_; rintro e w' ⟨rfl, w1, hb, rfl⟩; have hc1 : w1.cell? ⟨w.heap.size, 0, none⟩ = some (.int .i64 0) := (by rw [hb.cell (by simp)]; simp); have hf1 : w1.frozen? ⟨w.heap.size, 0, none⟩ = false := (by rw [hb.frozen (by simp)]; simp))
  refine leaves_cons (f := 31) (args := #[]) (by simp) (by simp [go_sem]) ?_
  refine (catch27 _).mono ?_
  rintro e u' w'' ⟨rfl, rfl, rfl⟩
  simp [Leaves, settle, results, Tryd.results26, go_sem, hc1]
  exact (((HW.out.trans (hb.mono (by simp))).setCell (by simp) _).setCell (by simp) _)

end Go.Proofs.YtadoonimokpnoaaDoor
