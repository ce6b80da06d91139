/-
  errors.Is over a chain of faults, where the target is a number or a fault.
-/
import Derived.Test.YtckbgggocmbbdaaDoorChain
namespace Go.Proofs.YtckbgggocmbbdaaDoor
open Go.RowKit Go.Extern.Stop Go.Stop Go.Extern

theorem Tryd.isComp40 : (Tryd.prog.info? 98).map (·.comparable) = some true := by kernel_rfl
theorem Tryd.isComp24 : (Tryd.prog.info? 55).map (·.comparable) = some true := by kernel_rfl
theorem Tryd.isSize42 : (Tryd.prog.info? 100).map (·.size) = some 2 := by kernel_rfl
theorem Tryd.noIs24 (v : Value) (xT : TypeId) (w : World) : (Instr.typeAssert (.iface 55 v) xT 90 true).run Tryd.prog w = .ok (.tuple #[.nilIface, .bool false]) w := run_typeAssert_lacksB Tryd.underlying90 (by kernel_rfl) (by kernel_rfl) v xT w
theorem Tryd.noIs40 (v : Value) (xT : TypeId) (w : World) : (Instr.typeAssert (.iface 98 v) xT 90 true).run Tryd.prog w = .ok (.tuple #[.nilIface, .bool false]) w := run_typeAssert_lacksB Tryd.underlying90 (by kernel_rfl) (by kernel_rfl) v xT w
theorem Tryd.noUnwrap24 (v : Value) (xT : TypeId) (w : World) : (Instr.typeAssert (.iface 55 v) xT 93 true).run Tryd.prog w = .ok (.tuple #[.nilIface, .bool false]) w := run_typeAssert_lacksB Tryd.underlying93 (by kernel_rfl) (by kernel_rfl) v xT w
theorem Tryd.noUnwraps24 (v : Value) (xT : TypeId) (w : World) : (Instr.typeAssert (.iface 55 v) xT 95 true).run Tryd.prog w = .ok (.tuple #[.nilIface, .bool false]) w := run_typeAssert_lacksB Tryd.underlying95 (by kernel_rfl) (by kernel_rfl) v xT w
theorem Tryd.hasUnwrap40 (v : Value) (xT : TypeId) (w : World) : (Instr.typeAssert (.iface 98 v) xT 93 true).run Tryd.prog w = .ok (.tuple #[.iface 98 v, .bool true]) w := run_typeAssert_hasB Tryd.underlying93 (by kernel_rfl) v xT w
theorem Tryd.eqNum (a b : Int) (w : World) : (binOp .eql 29 (.iface 55 (.int .i64 a)) (.iface 55 (.int .i64 b))).run Tryd.prog w = .ok (.bool (a == b)) w := Lib.run_eql_iface_int w a b Tryd.underlying29 Tryd.isComp24 Tryd.underlying55
theorem Tryd.typeOf24 (v : Value) (w : World) : (callFunc 33 #[.iface 55 v]).run Tryd.prog w = .ok (Next.value (.iface 88 (.agg #[.pointer (some ⟨2, 55, none⟩)]))) w := by kernel_rfl
theorem Tryd.typeOf40 (v : Value) (w : World) : (callFunc 33 #[.iface 98 v]).run Tryd.prog w = .ok (Next.value (.iface 88 (.agg #[.pointer (some ⟨2, 98, none⟩)]))) w := by kernel_rfl
theorem Tryd.comparable24 (w : World) : (callFunc 75 #[.agg #[.pointer (some ⟨2, 55, none⟩)]]).run Tryd.prog w = .ok (Next.value (.bool true)) w := by kernel_rfl
theorem Tryd.comparable40 (w : World) : (callFunc 75 #[.agg #[.pointer (some ⟨2, 98, none⟩)]]).run Tryd.prog w = .ok (Next.value (.bool true)) w := by kernel_rfl
theorem Tryd.methodComparable (h : Value) (w : World) : (Go.method 239 88 (.agg #[h]) "Comparable").run Tryd.prog w = .ok (75, .agg #[h]) w := by kernel_rfl
theorem Tryd.eqTypes4024 (a b : Value) (w : World) : (binOp .eql 29 (.iface 98 a) (.iface 55 b)).run Tryd.prog w = .ok (.bool false) w := run_eql_iface_types (P := Tryd.prog) 98 55 a b Tryd.underlying29 (by decide) w

set_option maxHeartbeats 1000000 in
/-- errors.is, the target a number. -/
theorem is_num (d : Int) (v : Value) (ws : List ByteArray) (c : Int) (w : World) (hch : Chain w v ws c) :
    Calls Tryd.prog 34 #[v, .iface 55 (.int .i64 d), .bool true] w fun e w' => e = .returned (.bool (c == d)) ∧ Below w.heap.size w w' := by
  have n24 := Tryd.noIs24
  have n40 := Tryd.noIs40
  have u24 := Tryd.noUnwrap24
  have us24 := Tryd.noUnwraps24
  have u40 := Tryd.hasUnwrap40
  have eN := Tryd.eqNum
  have eT := Tryd.eqTypes4024
  go_enter Tryd.func34, Tryd.ntmps34
  go_wp2
  go_loopg [0] ws.length (fun k p wr => ∃ vs, vs.length = k ∧ Chain wr p vs c ∧ Below w.heap.size w wr)
  case atStart => exact ⟨ws, rfl, hch, Below.refl _ _⟩
  case round =>
    obtain ⟨vs, hk, hc, hb⟩ := hrel
    have A : Aside (vs.length = gk) := hk
    clear hk
    rcases hc.parts with ⟨rfl, rfl⟩ | ⟨b, s, v, vs, rfl, rfl, h0, hc⟩
    · have hW := Lib.hid hb; clear hb
      by_cases hcd : c = d
      · have e1 : (c == d) = true := by simpa using hcd
        have H := Lib.hid hcd; clear hcd
        go_wp2
        go_ret
        exact ⟨by rw [e1]; rfl, hW.out⟩
      · have e1 : (c == d) = false := by simpa using hcd
        have H := Lib.hid hcd; clear hcd
        go_wp2
        go_ret
        exact ⟨by rw [e1]; rfl, hW.out⟩
    · have mU := Tryd.methodUnwrap h0
      have nU := Tryd.nilUnwrap
      have hW := Lib.hid hb; clear hb
      have H0 := Lib.hid h0; clear h0
      have HC := Lib.hid hc
      obtain ⟨tv, xv, rfl⟩ := hc.shape
      clear hc
      go_wp2_with (go_at_call 85; refine (unwrap_any _ _ _).mono ?_; rintro e w' ⟨rfl, rfl⟩)
      have hlt : Below wr.heap.size wr (wr.alloc (.cells #[.string s, .iface tv xv] 100)) := (Below.refl _ _).alloc (Nat.le_refl _) _
      go_roundg vs.length
      case measure => have := A.out; simp at this; omega
      case rel => exact ⟨vs, rfl, HC.out.later hlt, hW.out.trans (hlt.mono hW.out.size)⟩

set_option maxHeartbeats 1000000 in
/-- errors.Is, the target a number. -/
theorem Is_num (d : Int) (v : Value) (ws : List ByteArray) (c : Int) (w : World) (hch : Chain w v ws c) :
    Calls Tryd.prog 25 #[v, .iface 55 (.int .i64 d)] w fun e w' => e = .returned (.bool (c == d)) ∧ Below w.heap.size w w' := by
  have tT := Tryd.typeOf24
  have cT := Tryd.comparable24
  have mR := Tryd.methodComparable
  have HC := Lib.hid hch
  obtain ⟨tv, xv, rfl⟩ := hch.shape
  clear hch
  go_enter Tryd.func25, Tryd.ntmps25
  go_wp2_with (go_at_call 34; refine (is_num d _ ws c _ HC.out).mono ?_; rintro e w' ⟨rfl, hb⟩)
  go_ret
  exact ⟨rfl, hb⟩
set_option maxHeartbeats 1000000 in
/-- errors.is, the target the very fault that is wrapped. -/
theorem is_inner (a b : Nat) (s r : ByteArray) (v : Value) (w : World) (hne : b ≠ a) (h0 : w.heap[b]? = some (.cells #[.string s, .iface 98 (.pointer (some ⟨a, 0, none⟩))] 100 (0, 0))) (h1 : w.heap[a]? = some (.cells #[.string r, v] 100 (0, 0))) :
    Calls Tryd.prog 34 #[.iface 98 (.pointer (some ⟨b, 0, none⟩)), .iface 98 (.pointer (some ⟨a, 0, none⟩)), .bool true] w fun e w' => e = .returned (.bool true) ∧ w.alloc (.cells #[.string s, .iface 98 (.pointer (some ⟨a, 0, none⟩))] 100) = w' := by
  obtain ⟨i, hi, hcmp⟩ := Option.map_eq_some_iff.1 Tryd.isComp40
  obtain ⟨j, hj, hjs⟩ := Option.map_eq_some_iff.1 Tryd.isSize42
  have n40 := Tryd.noIs40
  have u40 := Tryd.hasUnwrap40
  have mU := Tryd.methodUnwrap h0
  have nU := Tryd.nilUnwrap
  have heq := run_eql_iface_ptr_other (P := Tryd.prog) w (a := ⟨b, 0, none⟩) (b := ⟨a, 0, none⟩) Tryd.underlying29 Tryd.underlying98 hi hcmp hj (by rw [hjs]; decide) (fun h => hne (congrArg Addr.block h)) h0 h1
  have hsame := fun W => run_eql_iface_ptr_same (P := Tryd.prog) W ⟨a, 0, none⟩ Tryd.underlying29 Tryd.underlying98 hi hcmp hj
  have H0 := Lib.hid h0
  have H1 := Lib.hid h1
  clear h0 h1 hi hj hcmp hjs
  go_enter Tryd.func34, Tryd.ntmps34
  go_wp2
  refine wp_loop_rounds 2 ?_
  rw [rounds_succ]
  go_wp2_with (go_at_call 85; refine (unwrap_any _ _ _).mono ?_; rintro e w' ⟨rfl, rfl⟩)
  rw [rounds_succ]
  go_wp2
  go_ret
  exact ⟨rfl, rfl⟩

set_option maxHeartbeats 1000000 in
/-- errors.Is, the target the very fault that is wrapped. -/
theorem Is_inner (a b : Nat) (s r : ByteArray) (v : Value) (w : World) (hne : b ≠ a) (h0 : w.heap[b]? = some (.cells #[.string s, .iface 98 (.pointer (some ⟨a, 0, none⟩))] 100 (0, 0))) (h1 : w.heap[a]? = some (.cells #[.string r, v] 100 (0, 0))) :
    Calls Tryd.prog 25 #[.iface 98 (.pointer (some ⟨b, 0, none⟩)), .iface 98 (.pointer (some ⟨a, 0, none⟩))] w fun e w' => e = .returned (.bool true) ∧ w.alloc (.cells #[.string s, .iface 98 (.pointer (some ⟨a, 0, none⟩))] 100) = w' := by
  have tT := Tryd.typeOf40
  have cT := Tryd.comparable40
  have mR := Tryd.methodComparable
  have H0 := Lib.hid h0
  have H1 := Lib.hid h1
  clear h0 h1
  go_enter Tryd.func25, Tryd.ntmps25
  go_wp2_with (go_at_call 34; refine (is_inner a b s r v _ hne H0.out H1.out).mono ?_; rintro e w' ⟨rfl, rfl⟩)
  go_ret
  exact ⟨rfl, rfl⟩
end Go.Proofs.YtckbgggocmbbdaaDoor
