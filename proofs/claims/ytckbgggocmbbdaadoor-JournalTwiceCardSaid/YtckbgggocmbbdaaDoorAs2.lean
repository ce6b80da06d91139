/-
  errors.As itself: its checks on the target, and then the chain.
-/
import Derived.Test.YtckbgggocmbbdaaDoorAs
namespace Go.Proofs.YtckbgggocmbbdaaDoor
open Go.RowKit Go.Extern.Stop Go.Stop Go.Extern

theorem SetBelow.from {w W w' : World} {t : Addr} {x : Value} (h : SetBelow W t x w') (hb : Below w.heap.size w W) : SetBelow w t x w' := by
  obtain ⟨w1, h1, h2⟩ := h
  exact ⟨w1, hb.trans (h1.mono hb.size), h2⟩

set_option maxHeartbeats 2000000 in
theorem As_num (t : Addr) (old : Value) (tv : TypeId) (xv : Value) (ws : List ByteArray) (c : Int) (w : World) (hch : Chain w (.iface tv xv) ws c) (hg : w.cell? ⟨0, 0, none⟩ = some (.iface 88 (.agg #[.pointer (some ⟨2, 29, none⟩)]))) (ht : w.cell? t = some old) (hf : w.frozen? t = false) :
    Calls Tryd.prog 30 #[.iface tv xv, .iface 66 (.pointer (some t))] w fun e w' => e = .returned (.bool true) ∧ SetBelow w t (.int .i64 c) w' := by
  have vO := Tryd.valueOf31
  have tY := Tryd.type31
  have mK := Tryd.methodKind
  have mE := Tryd.methodElem
  have mI := Tryd.methodImplements
  have k1 := Tryd.kind31
  have k2 := Tryd.kind24
  have e1 := Tryd.elem31
  have i1 := Tryd.implements24
  have htl := lt_of_cell ht
  have hlt := lt_of_cell hg
  have hW : Below w.heap.size w ((w.alloc (.cells #[.pointer (some t)] 66)).alloc (.cells #[.pointer (some ⟨2, 66, none⟩), .pointer (some ⟨w.heap.size, 0, none⟩), .int .u64 150] 80)) := ((Below.refl _ _).alloc (Nat.le_refl _) _).alloc (by simp) _
  have n8 := Tryd.isNil31 ⟨w.heap.size, 0, none⟩ t ((w.alloc (.cells #[.pointer (some t)] 66)).alloc (.cells #[.pointer (some ⟨2, 66, none⟩), .pointer (some ⟨w.heap.size, 0, none⟩), .int .u64 150] 80)) (by simp)
  have hg2 : ((w.alloc (.cells #[.pointer (some t)] 66)).alloc (.cells #[.pointer (some ⟨2, 66, none⟩), .pointer (some ⟨w.heap.size, 0, none⟩), .int .u64 150] 80)).cell? ⟨0, 0, none⟩ = some (.iface 88 (.agg #[.pointer (some ⟨2, 29, none⟩)])) := by
    rw [hW.cell hlt]; exact hg
  have ht2 : ((w.alloc (.cells #[.pointer (some t)] 66)).alloc (.cells #[.pointer (some ⟨2, 66, none⟩), .pointer (some ⟨w.heap.size, 0, none⟩), .int .u64 150] 80)).cell? t = some old := by rw [hW.cell htl]; exact ht
  have hf2 : ((w.alloc (.cells #[.pointer (some t)] 66)).alloc (.cells #[.pointer (some ⟨2, 66, none⟩), .pointer (some ⟨w.heap.size, 0, none⟩), .int .u64 150] 80)).frozen? t = false := by rw [hW.frozen htl]; exact hf
  have hap2 : ((w.alloc (.cells #[.pointer (some t)] 66)).alloc (.cells #[.pointer (some ⟨2, 66, none⟩), .pointer (some ⟨w.heap.size, 0, none⟩), .int .u64 150] 80)).cell? ⟨w.heap.size, 0, none⟩ = some (.pointer (some t)) := by simp
  have C := as_num t ⟨w.heap.size, 0, none⟩ old _ ws c _ (hch.later hW) ht2 hf2 hap2
  have HW := Lib.hid hW
  clear ht hf ht2 hf2 hap2 htl hlt hW
  go_enter Tryd.func30, Tryd.ntmps30
  go_wp2_with (go_at_call 41; refine C.mono ?_; rintro e w' ⟨rfl, hb⟩)
  go_ret
  exact ⟨rfl, hb.from HW.out⟩

end Go.Proofs.YtckbgggocmbbdaaDoor
