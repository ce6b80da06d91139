/-
  The number below frame's own error, by fault's search; its Code and Is.
-/
import Derived.Test.YtadoonimokpnoaaDoorBroken
namespace Go.Proofs.YtadoonimokpnoaaDoor
open Go.RowKit Go.Extern.Stop Go.Stop Go.Extern

set_option maxHeartbeats 2000000 in
/-- errors.as, the target a number's variable, of frame's own error. -/
theorem as_numB (t ap : Addr) (old : Value) (i : Int) (v : Value) (ws : List ByteArray) (c : Int) (w : World) (hch : Chain w v ws c) (ht : w.cell? t = some old) (hf : w.frozen? t = false) (hap : w.cell? ap = some (.pointer (some t))) :
    Calls Tryd.prog 23 #[.iface 42 (.agg #[.int .i64 i, v]), .iface 87 (.pointer (some t)), .agg #[.pointer (some ⟨2, 87, none⟩), .pointer (some ap), .int .u64 150], .iface 72 (.agg #[.pointer (some ⟨2, 40, none⟩)])] w
      fun e w' => e = .returned (.bool true) ∧ SetBelow w t (.int .i64 c) w' := by
  have tO24 := Tryd.typeOfA24
  have tO40 := Tryd.typeOfA40
  have tOB := Tryd.typeOfB
  have mA := Tryd.methodAssignableTo
  have a24 := Tryd.assignable24
  have a40 := Tryd.assignable40to24
  have aB := Tryd.assignableBtoNum
  have n40 := Tryd.noAs40
  have u40 := Tryd.hasUnwrapA40
  have nB := Tryd.noAsB
  have uB := Tryd.hasUnwrapB
  have mB := Tryd.methodUnwrapB
  have v24 := Tryd.valueOf24
  go_enter Tryd.func23, Tryd.ntmps23
  go_wp2
  have hb0 : Below w.heap.size w (w.alloc (.cells #[.pointer (some ⟨2, 87, none⟩), .pointer (some ap), .int .u64 150] 55)) := (Below.refl _ _).alloc (Nat.le_refl _) _
  go_loopg [0] (ws.length + 1) (fun k p wr => (∃ vs, (vs.length = k ∧ Chain wr p vs c) ∨ (vs.length + 1 = k ∧ Broke wr p i vs c)) ∧ Below (w.heap.size + 1) (w.alloc (.cells #[.pointer (some ⟨2, 87, none⟩), .pointer (some ap), .int .u64 150] 55)) wr)
  case atStart => exact ⟨⟨ws, .inr ⟨rfl, v, rfl, hch.later hb0⟩⟩, Below.refl _ _⟩
  case round =>
    obtain ⟨⟨vs, hvs⟩, hb⟩ := hrel
    have hlt : w.heap.size + 1 ≤ wr.heap.size := by have := hb.size; simpa using this
    have hbox : wr.heap[w.heap.size]? = some (.cells #[.pointer (some ⟨2, 87, none⟩), .pointer (some ap), .int .u64 150] 55 (0, 0)) := by
      rw [hb.block _ (by omega)]; exact alloc_here _ _
    have b0 : wr.cell? ⟨w.heap.size, 0, none⟩ = some (.pointer (some ⟨2, 87, none⟩)) := by simp [World.cell?, hbox]
    have b1 : wr.cell? ⟨w.heap.size, 1, none⟩ = some (.pointer (some ap)) := by simp [World.cell?, hbox]
    have b2 : wr.cell? ⟨w.heap.size, 2, none⟩ = some (.int .u64 150) := by simp [World.cell?, hbox]
    have hwr : Below w.heap.size w wr := hb0.trans (hb.mono (by omega))
    have htl := lt_of_cell ht
    have hal := lt_of_cell hap
    have ht' : wr.cell? t = some old := by rw [hwr.cell htl]; exact ht
    have hf' : wr.frozen? t = false := by rw [hwr.frozen htl]; exact hf
    have hap' : wr.cell? ap = some (.pointer (some t)) := by rw [hwr.cell hal]; exact hap
    have HB := Lib.hid hb
    have HW := Lib.hid hwr
    have HBOX := Lib.hid hbox
    have htl' : t.block < wr.heap.size := by omega
    clear hb hwr hbox
    rcases hvs with ⟨hk, hc⟩ | ⟨hk, v', rfl, hc⟩
    · have A : Aside (vs.length = gk) := hk
      clear hk
      rcases hc.parts with ⟨rfl, rfl⟩ | ⟨b, s, v, vs, rfl, rfl, h0, hc⟩
      · have el := Tryd.elemV31 ap t wr hap'
        have st := Tryd.set24 t ⟨wr.heap.size, 0, none⟩ c old (wr.alloc (.cells #[.int .i64 c] 40)) (by simp) (by rw [World.cell?_alloc_lt _ _ t htl']; exact ht') (by rw [World.frozen?_alloc_old _ _ t (Nat.ne_of_lt htl')]; exact hf')
        go_wp2
        go_ret
        exact ⟨rfl, _, HW.out.trans ((Below.refl _ _).alloc (Nat.le_refl _) _ |>.mono HW.out.size), rfl⟩
      · have mU := Tryd.methodUnwrap h0
        have nU := Tryd.nilUnwrap
        have H0 := Lib.hid h0; clear h0
        have HC := Lib.hid hc
        obtain ⟨tv, xv, rfl⟩ := hc.shape
        clear hc
        go_wp2_with (go_at_call 68; refine (unwrap_any _ _ _).mono ?_; rintro e w' ⟨rfl, rfl⟩)
        have hlt2 : Below wr.heap.size wr (wr.alloc (.cells #[.string s, .iface tv xv] 92)) := (Below.refl _ _).alloc (Nat.le_refl _) _
        go_roundg vs.length
        case measure => have := A.out; simp at this; omega
        case rel => exact ⟨⟨vs, .inl ⟨rfl, HC.out.later hlt2⟩⟩, HB.out.trans (hlt2.mono hlt)⟩
    · have A : Aside (vs.length + 1 = gk) := hk
      clear hk
      have HC := Lib.hid hc
      obtain ⟨tv, xv, rfl⟩ := hc.shape
      clear hc
      go_wp2_with (go_at_call 52; refine (unwrapB_any _ _ _ _ rfl _).mono ?_; rintro e w' ⟨rfl, rfl⟩)
      have hlt2 : Below wr.heap.size wr (wr.alloc (.cells #[.int .i64 i, .iface tv xv] 42)) := (Below.refl _ _).alloc (Nat.le_refl _) _
      go_roundg vs.length
      case measure => have := A.out; omega
      case rel => exact ⟨⟨vs, .inl ⟨rfl, HC.out.later hlt2⟩⟩, HB.out.trans (hlt2.mono hlt)⟩

set_option maxHeartbeats 2000000 in
theorem As_numB (t : Addr) (old : Value) (i : Int) (v : Value) (ws : List ByteArray) (c : Int) (w : World) (hch : Chain w v ws c) (hg : Handle w) (ht : w.cell? t = some old) (hf : w.frozen? t = false) :
    Calls Tryd.prog 15 #[.iface 42 (.agg #[.int .i64 i, v]), .iface 87 (.pointer (some t))] w fun e w' => e = .returned (.bool true) ∧ SetBelow w t (.int .i64 c) w' := by
  have vO := Tryd.valueOf31
  have tY := Tryd.type31
  have mK := Tryd.methodKind
  have mE := Tryd.methodElem
  have mI := Tryd.methodImplements
  have k1 := Tryd.kind31
  have k2 := Tryd.kind24
  have e1 := Tryd.elem31
  have i1 := Tryd.implements24
  have htl := lt_of_cell ht
  have hW : Below w.heap.size w ((w.alloc (.cells #[.pointer (some t)] 87)).alloc (.cells #[.pointer (some ⟨2, 87, none⟩), .pointer (some ⟨w.heap.size, 0, none⟩), .int .u64 150] 55)) := ((Below.refl _ _).alloc (Nat.le_refl _) _).alloc (by simp) _
  have n8 := Tryd.isNil31 ⟨w.heap.size, 0, none⟩ t ((w.alloc (.cells #[.pointer (some t)] 87)).alloc (.cells #[.pointer (some ⟨2, 87, none⟩), .pointer (some ⟨w.heap.size, 0, none⟩), .int .u64 150] 55)) (by simp)
  have hg2 : ((w.alloc (.cells #[.pointer (some t)] 87)).alloc (.cells #[.pointer (some ⟨2, 87, none⟩), .pointer (some ⟨w.heap.size, 0, none⟩), .int .u64 150] 55)).cell? ⟨0, 0, none⟩ = some (.iface 72 (.agg #[.pointer (some ⟨2, 34, none⟩)])) := hg.later hW
  have hap2 : ((w.alloc (.cells #[.pointer (some t)] 87)).alloc (.cells #[.pointer (some ⟨2, 87, none⟩), .pointer (some ⟨w.heap.size, 0, none⟩), .int .u64 150] 55)).cell? ⟨w.heap.size, 0, none⟩ = some (.pointer (some t)) := by simp
  have C := as_numB t ⟨w.heap.size, 0, none⟩ old i v ws c _ (hch.later hW) ((hW.cell htl).trans ht) ((hW.frozen htl).trans hf) hap2
  have HW := Lib.hid hW
  clear ht hf htl hW hg
  go_enter Tryd.func15, Tryd.ntmps15
  go_wp2_with (go_at_call 23; refine C.mono ?_; rintro e w' ⟨rfl, hb⟩)
  go_ret
  exact ⟨rfl, hb.from HW.out⟩

set_option maxHeartbeats 1000000 in
theorem find_numB (i : Int) (v : Value) (ws : List ByteArray) (c : Int) (w : World) (hch : Chain w v ws c) (hg : Handle w) :
    Calls Tryd.prog 26 #[.iface 42 (.agg #[.int .i64 i, v])] w fun e w' => e = .returned (.tuple #[.int .i64 c, .bool true]) ∧ Below w.heap.size w w' := by
  have hmf : ∀ (fn : Fn) (first cap : Array Value) (w : World), (Instr.makeFunc fn first cap).run Tryd.prog w = .ok (.func fn first cap) w := fun _ _ _ _ => rfl
  have hW : Below w.heap.size w (w.alloc (.cells #[.int .i64 0] 40)) := (Below.refl _ _).alloc (Nat.le_refl _) _
  have C := As_numB ⟨w.heap.size, 0, none⟩ (.int .i64 0) i v ws c (w.alloc (.cells #[.int .i64 0] 40)) (hch.later hW) (hg.later hW) (by simp) (by simp)
  have HW := Lib.hid hW
  clear hW hg hch
  go_enter_defers Tryd.func26, Tryd.ntmps26
  go_wp2_with (go_at_call 15; refine C.mono ?_; rintro e w' ⟨rfl, w1, hb, rfl⟩; have hc1 : w1.cell? ⟨w.heap.size, 0, none⟩ = some (.int .i64 0) := (by rw [hb.cell (by simp)]; simp); have hf1 : w1.frozen? ⟨w.heap.size, 0, none⟩ = false := (by rw [hb.frozen (by simp)]; simp))
  refine leaves_cons (f := 31) (args := #[]) (by simp) (by simp [go_sem]) ?_
  refine (catch27 _).mono ?_
  rintro e u' w'' ⟨rfl, rfl, rfl⟩
  simp [Leaves, settle, results, Tryd.results26, go_sem, hc1]
  exact (((HW.out.trans (hb.mono (by simp))).setCell (by simp) _).setCell (by simp) _)

theorem code_B (i : Int) (v : Value) (ws : List ByteArray) (c : Int) (w : World) (hch : Chain w v ws c) (hg : Handle w) : Calls Tryd.prog 17 #[.iface 42 (.agg #[.int .i64 i, v])] w fun e w' => e = .returned (.int .i64 c) ∧ Below w.heap.size w w' := by
  have C := find_numB i v ws c w hch hg
  clear hch
  go_enter Tryd.func17, Tryd.ntmps17
  go_wp2_with (go_at_call 26; refine C.mono ?_; rintro e w' ⟨rfl, hb⟩)
  go_ret
  exact ⟨rfl, hb⟩
theorem isCode_B (v : Value) (i : Int) (ws : List ByteArray) (c d : Int) (w : World) (h : Broke w v i ws c) (hg : Handle w) : Calls Tryd.prog 11 #[v, .int .i64 d] w fun e w' => e = .returned (.bool (c == d)) ∧ Below w.heap.size w w' := by
  obtain ⟨v', rfl, hch⟩ := h
  have C := code_B i v' ws c w hch hg
  clear hch
  go_enter Tryd.func11, Tryd.ntmps11
  go_wp2_with (first | (go_at_call 17; refine C.mono ?_; rintro e w' ⟨rfl, hb⟩) | (go_at_call 16; refine (Is_num d _ [] c _ (.num c)).mono ?_; rintro e w2 ⟨rfl, hb2⟩))
  go_ret
  exact ⟨rfl, hb.trans (hb2.mono hb.size)⟩
end Go.Proofs.YtadoonimokpnoaaDoor
