/-
  errors.As itself: its checks on the target, and then the chain.
-/
import Derived.Test.YtcblodlfijbjeaaDoorAs
namespace Go.Proofs.YtcblodlfijbjeaaDoor
open Go.RowKit Go.Extern.Stop Go.Stop Go.Extern

theorem SetBelow.from {w W w' : World} {t : Addr} {x : Value} (h : SetBelow W t x w') (hb : Below w.heap.size w W) : SetBelow w t x w' := by
  obtain ⟨w1, h1, h2⟩ := h
  exact ⟨w1, hb.trans (h1.mono hb.size), h2⟩

set_option maxHeartbeats 2000000 in
theorem As_num (t : Addr) (old : Value) (tv : TypeId) (xv : Value) (ws : List ByteArray) (c : Int) (w : World) (hch : Chain w (.iface tv xv) ws c) (hg : w.cell? ⟨0, 0, none⟩ = some (.iface 62 (.agg #[.pointer (some ⟨5, 26, none⟩)]))) (ht : w.cell? t = some old) (hf : w.frozen? t = false) :
    Calls Tryd.prog 9 #[.iface tv xv, .iface 31 (.pointer (some t))] w fun e w' => e = .returned (.bool true) ∧ SetBelow w t (.int .i64 c) w' := by
  have vO := Tryd.valueOf31
  have tY := Tryd.type31
  have mK := Tryd.methodKind
  have mE := Tryd.methodElem
  have mI := Tryd.methodImplements
  have k1 := Tryd.kind31
  have k2 := Tryd.kind24
  have e1 := Tryd.elem31
  have i1 := Tryd.implements24
  have htl := lt_of_cell ht
  have hlt := lt_of_cell hg
  have hW : Below w.heap.size w ((w.alloc (.cells #[.pointer (some t)] 31)).alloc (.cells #[.pointer (some ⟨5, 31, none⟩), .pointer (some ⟨w.heap.size, 0, none⟩), .int .u64 150] 46)) := ((Below.refl _ _).alloc (Nat.le_refl _) _).alloc (by simp) _
  have n8 := Tryd.isNil31 ⟨w.heap.size, 0, none⟩ t ((w.alloc (.cells #[.pointer (some t)] 31)).alloc (.cells #[.pointer (some ⟨5, 31, none⟩), .pointer (some ⟨w.heap.size, 0, none⟩), .int .u64 150] 46)) (by simp)
  have hg2 : ((w.alloc (.cells #[.pointer (some t)] 31)).alloc (.cells #[.pointer (some ⟨5, 31, none⟩), .pointer (some ⟨w.heap.size, 0, none⟩), .int .u64 150] 46)).cell? ⟨0, 0, none⟩ = some (.iface 62 (.agg #[.pointer (some ⟨5, 26, none⟩)])) := by
    rw [hW.cell hlt]; exact hg
  have ht2 : ((w.alloc (.cells #[.pointer (some t)] 31)).alloc (.cells #[.pointer (some ⟨5, 31, none⟩), .pointer (some ⟨w.heap.size, 0, none⟩), .int .u64 150] 46)).cell? t = some old := by rw [hW.cell htl]; exact ht
  have hf2 : ((w.alloc (.cells #[.pointer (some t)] 31)).alloc (.cells #[.pointer (some ⟨5, 31, none⟩), .pointer (some ⟨w.heap.size, 0, none⟩), .int .u64 150] 46)).frozen? t = false := by rw [hW.frozen htl]; exact hf
  have hap2 : ((w.alloc (.cells #[.pointer (some t)] 31)).alloc (.cells #[.pointer (some ⟨5, 31, none⟩), .pointer (some ⟨w.heap.size, 0, none⟩), .int .u64 150] 46)).cell? ⟨w.heap.size, 0, none⟩ = some (.pointer (some t)) := by simp
  have C := as_num t ⟨w.heap.size, 0, none⟩ old _ ws c _ (hch.later hW) ht2 hf2 hap2
  have HW := Lib.hid hW
  clear ht hf ht2 hf2 hap2 htl hlt hW
  go_enter Tryd.func9, Tryd.ntmps9
  go_wp2_with (go_at_call 19; refine C.mono ?_; rintro e w' ⟨rfl, hb⟩)
  go_ret
  exact ⟨rfl, hb.from HW.out⟩

set_option maxHeartbeats 2000000 in
theorem As_fault (t a : Addr) (old : Value) (w : World) (hg : w.cell? ⟨0, 0, none⟩ = some (.iface 62 (.agg #[.pointer (some ⟨5, 26, none⟩)]))) (ht : w.cell? t = some old) (hf : w.frozen? t = false) :
    Calls Tryd.prog 9 #[.iface 40 (.pointer (some a)), .iface 80 (.pointer (some t))] w fun e w' => e = .returned (.bool true) ∧ SetBelow w t (.pointer (some a)) w' := by
  have vO := Tryd.valueOf80
  have tY := Tryd.type80
  have mK := Tryd.methodKind
  have mE := Tryd.methodElem
  have mI := Tryd.methodImplements
  have k1 := Tryd.kind80
  have k2 := Tryd.kind40
  have e1 := Tryd.elem80
  have i1 := Tryd.implements40
  have htl := lt_of_cell ht
  have hlt := lt_of_cell hg
  have hW : Below w.heap.size w ((w.alloc (.cells #[.pointer (some t)] 80)).alloc (.cells #[.pointer (some ⟨5, 80, none⟩), .pointer (some ⟨w.heap.size, 0, none⟩), .int .u64 150] 46)) := ((Below.refl _ _).alloc (Nat.le_refl _) _).alloc (by simp) _
  have n8 := Tryd.isNil80 ⟨w.heap.size, 0, none⟩ t ((w.alloc (.cells #[.pointer (some t)] 80)).alloc (.cells #[.pointer (some ⟨5, 80, none⟩), .pointer (some ⟨w.heap.size, 0, none⟩), .int .u64 150] 46)) (by simp)
  have hg2 : ((w.alloc (.cells #[.pointer (some t)] 80)).alloc (.cells #[.pointer (some ⟨5, 80, none⟩), .pointer (some ⟨w.heap.size, 0, none⟩), .int .u64 150] 46)).cell? ⟨0, 0, none⟩ = some (.iface 62 (.agg #[.pointer (some ⟨5, 26, none⟩)])) := by
    rw [hW.cell hlt]; exact hg
  have ht2 : ((w.alloc (.cells #[.pointer (some t)] 80)).alloc (.cells #[.pointer (some ⟨5, 80, none⟩), .pointer (some ⟨w.heap.size, 0, none⟩), .int .u64 150] 46)).cell? t = some old := by rw [hW.cell htl]; exact ht
  have hf2 : ((w.alloc (.cells #[.pointer (some t)] 80)).alloc (.cells #[.pointer (some ⟨5, 80, none⟩), .pointer (some ⟨w.heap.size, 0, none⟩), .int .u64 150] 46)).frozen? t = false := by rw [hW.frozen htl]; exact hf
  have hap2 : ((w.alloc (.cells #[.pointer (some t)] 80)).alloc (.cells #[.pointer (some ⟨5, 80, none⟩), .pointer (some ⟨w.heap.size, 0, none⟩), .int .u64 150] 46)).cell? ⟨w.heap.size, 0, none⟩ = some (.pointer (some t)) := by simp
  have C := as_fault t ⟨w.heap.size, 0, none⟩ a old _ ht2 hf2 hap2
  have HW := Lib.hid hW
  clear ht hf ht2 hf2 hap2 htl hlt hW
  go_enter Tryd.func9, Tryd.ntmps9
  go_wp2_with (go_at_call 19; refine C.mono ?_; rintro e w' ⟨rfl, hb⟩)
  go_ret
  exact ⟨rfl, hb.from HW.out⟩

set_option maxHeartbeats 2000000 in
theorem As_none (t : Addr) (old : Value) (c : Int) (w : World) (hg : w.cell? ⟨0, 0, none⟩ = some (.iface 62 (.agg #[.pointer (some ⟨5, 26, none⟩)]))) (ht : w.cell? t = some old) (hf : w.frozen? t = false) :
    Calls Tryd.prog 9 #[.iface 24 (.int .i64 c), .iface 80 (.pointer (some t))] w fun e w' => e = .returned (.bool false) ∧ Below w.heap.size w w' := by
  have vO := Tryd.valueOf80
  have tY := Tryd.type80
  have mK := Tryd.methodKind
  have mE := Tryd.methodElem
  have mI := Tryd.methodImplements
  have k1 := Tryd.kind80
  have k2 := Tryd.kind40
  have e1 := Tryd.elem80
  have i1 := Tryd.implements40
  have htl := lt_of_cell ht
  have hlt := lt_of_cell hg
  have hW : Below w.heap.size w ((w.alloc (.cells #[.pointer (some t)] 80)).alloc (.cells #[.pointer (some ⟨5, 80, none⟩), .pointer (some ⟨w.heap.size, 0, none⟩), .int .u64 150] 46)) := ((Below.refl _ _).alloc (Nat.le_refl _) _).alloc (by simp) _
  have n8 := Tryd.isNil80 ⟨w.heap.size, 0, none⟩ t ((w.alloc (.cells #[.pointer (some t)] 80)).alloc (.cells #[.pointer (some ⟨5, 80, none⟩), .pointer (some ⟨w.heap.size, 0, none⟩), .int .u64 150] 46)) (by simp)
  have hg2 : ((w.alloc (.cells #[.pointer (some t)] 80)).alloc (.cells #[.pointer (some ⟨5, 80, none⟩), .pointer (some ⟨w.heap.size, 0, none⟩), .int .u64 150] 46)).cell? ⟨0, 0, none⟩ = some (.iface 62 (.agg #[.pointer (some ⟨5, 26, none⟩)])) := by
    rw [hW.cell hlt]; exact hg
  have ht2 : ((w.alloc (.cells #[.pointer (some t)] 80)).alloc (.cells #[.pointer (some ⟨5, 80, none⟩), .pointer (some ⟨w.heap.size, 0, none⟩), .int .u64 150] 46)).cell? t = some old := by rw [hW.cell htl]; exact ht
  have hf2 : ((w.alloc (.cells #[.pointer (some t)] 80)).alloc (.cells #[.pointer (some ⟨5, 80, none⟩), .pointer (some ⟨w.heap.size, 0, none⟩), .int .u64 150] 46)).frozen? t = false := by rw [hW.frozen htl]; exact hf
  have hap2 : ((w.alloc (.cells #[.pointer (some t)] 80)).alloc (.cells #[.pointer (some ⟨5, 80, none⟩), .pointer (some ⟨w.heap.size, 0, none⟩), .int .u64 150] 46)).cell? ⟨w.heap.size, 0, none⟩ = some (.pointer (some t)) := by simp
  have C := as_none t ⟨w.heap.size, 0, none⟩ c _ hap2
  have HW := Lib.hid hW
  clear ht hf ht2 hf2 hap2 htl hlt hW
  go_enter Tryd.func9, Tryd.ntmps9
  go_wp2_with (go_at_call 19; refine C.mono ?_; rintro e w' ⟨rfl, hb⟩)
  go_ret
  exact ⟨rfl, HW.out.trans (hb.mono HW.out.size)⟩
end Go.Proofs.YtcblodlfijbjeaaDoor
