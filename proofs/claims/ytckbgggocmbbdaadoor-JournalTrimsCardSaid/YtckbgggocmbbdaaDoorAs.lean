/-
  errors.As over a chain of faults, where the target is a number's variable or a fault's.
-/
import Derived.Test.YtckbgggocmbbdaaDoorAsFacts
namespace Go.Proofs.YtckbgggocmbbdaaDoor
open Go.RowKit Go.Extern.Stop Go.Stop Go.Extern

set_option maxHeartbeats 2000000 in
/-- errors.as, the target a number's variable, and a chain of faults. -/
theorem as_num (t ap : Addr) (old : Value) (v : Value) (ws : List ByteArray) (c : Int) (w : World) (hch : Chain w v ws c) (ht : w.cell? t = some old) (hf : w.frozen? t = false) (hap : w.cell? ap = some (.pointer (some t))) :
    Calls Tryd.prog 41 #[v, .iface 66 (.pointer (some t)), .agg #[.pointer (some ⟨2, 66, none⟩), .pointer (some ap), .int .u64 150], .iface 88 (.agg #[.pointer (some ⟨2, 55, none⟩)])] w
      fun e w' => e = .returned (.bool true) ∧ SetBelow w t (.int .i64 c) w' := by
  have tO24 := Tryd.typeOfA24
  have tO40 := Tryd.typeOfA40
  have mA := Tryd.methodAssignableTo
  have a24 := Tryd.assignable24
  have a40 := Tryd.assignable40to24
  have n40 := Tryd.noAs40
  have u40 := Tryd.hasUnwrapA40
  have v24 := Tryd.valueOf24
  go_enter Tryd.func41, Tryd.ntmps41
  go_wp2
  have hb0 : Below w.heap.size w (w.alloc (.cells #[.pointer (some ⟨2, 66, none⟩), .pointer (some ap), .int .u64 150] 80)) := (Below.refl _ _).alloc (Nat.le_refl _) _
  go_loopg [0] ws.length (fun k p wr => ∃ vs, vs.length = k ∧ Chain wr p vs c ∧ Below (w.heap.size + 1) (w.alloc (.cells #[.pointer (some ⟨2, 66, none⟩), .pointer (some ap), .int .u64 150] 80)) wr)
  case atStart => exact ⟨ws, rfl, hch.later hb0, Below.refl _ _⟩
  case round =>
    obtain ⟨vs, hk, hc, hb⟩ := hrel
    have A : Aside (vs.length = gk) := hk
    clear hk
    have hlt : w.heap.size + 1 ≤ wr.heap.size := by have := hb.size; simpa using this
    have hbox : wr.heap[w.heap.size]? = some (.cells #[.pointer (some ⟨2, 66, none⟩), .pointer (some ap), .int .u64 150] 80 (0, 0)) := by
      rw [hb.block _ (by omega)]; exact alloc_here _ _
    have b0 : wr.cell? ⟨w.heap.size, 0, none⟩ = some (.pointer (some ⟨2, 66, none⟩)) := by simp [World.cell?, hbox]
    have b1 : wr.cell? ⟨w.heap.size, 1, none⟩ = some (.pointer (some ap)) := by simp [World.cell?, hbox]
    have b2 : wr.cell? ⟨w.heap.size, 2, none⟩ = some (.int .u64 150) := by simp [World.cell?, hbox]
    have hwr : Below w.heap.size w wr := hb0.trans (hb.mono (by omega))
    have htl := lt_of_cell ht
    have hal := lt_of_cell hap
    have ht' : wr.cell? t = some old := by rw [hwr.cell htl]; exact ht
    have hf' : wr.frozen? t = false := by rw [hwr.frozen htl]; exact hf
    have hap' : wr.cell? ap = some (.pointer (some t)) := by rw [hwr.cell hal]; exact hap
    have HB := Lib.hid hb
    have HW := Lib.hid hwr
    have HBOX := Lib.hid hbox
    have htl' : t.block < wr.heap.size := by omega
    clear hb hwr hbox
    rcases hc.parts with ⟨rfl, rfl⟩ | ⟨b, s, v, vs, rfl, rfl, h0, hc⟩
    · have el := Tryd.elemV31 ap t wr hap'
      have st := Tryd.set24 t ⟨wr.heap.size, 0, none⟩ c old (wr.alloc (.cells #[.int .i64 c] 55)) (by simp) (by rw [World.cell?_alloc_lt _ _ t htl']; exact ht') (by rw [World.frozen?_alloc_old _ _ t (Nat.ne_of_lt htl')]; exact hf')
      go_wp2
      go_ret
      exact ⟨rfl, _, HW.out.trans ((Below.refl _ _).alloc (Nat.le_refl _) _ |>.mono HW.out.size), rfl⟩
    · have mU := Tryd.methodUnwrap h0
      have nU := Tryd.nilUnwrap
      have H0 := Lib.hid h0; clear h0
      have HC := Lib.hid hc
      obtain ⟨tv, xv, rfl⟩ := hc.shape
      clear hc
      go_wp2_with (go_at_call 85; refine (unwrap_any _ _ _).mono ?_; rintro e w' ⟨rfl, rfl⟩)
      have hlt2 : Below wr.heap.size wr (wr.alloc (.cells #[.string s, .iface tv xv] 100)) := (Below.refl _ _).alloc (Nat.le_refl _) _
      go_roundg vs.length
      case measure => have := A.out; simp at this; omega
      case rel => exact ⟨vs, rfl, HC.out.later hlt2, HB.out.trans (hlt2.mono hlt)⟩
end Go.Proofs.YtckbgggocmbbdaaDoor
