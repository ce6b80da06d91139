/-
  What a crash leaves of frames of which the last ones are loose; slices of texts; an append behind a guard.
-/
import Derived.Test.YtckbgggocmbbdaaDoorTrimsWalk
namespace Go.Proofs.YtckbgggocmbbdaaDoor
open Go.RowKit Go.Extern.Stop Go.Stop Go.Extern

theorem stay_nat (K l : Nat) : stay (K : Int) l = min K l := by unfold stay; omega
theorem cut_after (k l : ByteArray) (n : Nat) (hn : n ≤ l.size) : (k ++ l).extract 0 ((k ++ l).size - (l.size - n)) = k ++ l.extract 0 n := by
  have h1 : (k ++ l).size - (l.size - n) = k.size + n := by rw [ByteArray.size_append]; omega
  rw [h1, ByteArray.extract_append, ext_all (by omega), Nat.zero_sub, Nat.add_sub_cancel_left]
/-- Frames cut off at c, where k are whole: behind these stands what is no frame. -/
theorem cut_tail (ss : List ByteArray) (c k : Nat) (hs : ∀ t ∈ ss, t.size ≤ 200000) (hk : k ≤ ss.length) (h1 : endsAt ss k ≤ c) (h2 : k < ss.length → c < endsAt ss (k + 1)) :
    ∃ q, (framesOf ss).extract 0 c = framesOf (ss.take k) ++ q ∧ ∀ p : ByteArray, openL (p ++ q) p.size = .err 11 := by
  rcases Nat.lt_or_ge k ss.length with hlt | hge
  · have hx : ss[k]? = some ss[k] := List.getElem?_eq_getElem hlt
    have h3 := h2 hlt
    rw [endsAt_succ hx] at h3
    have h4 : (framesOf (ss.take k)).size ≤ c := h1
    have h5 : c < (framesOf (ss.take k)).size + (framed ss[k]).size := h3
    refine ⟨(framed ss[k]).extract 0 (c - (framesOf (ss.take k)).size), ?_, fun p => openL_cut p _ _ (hs _ (List.getElem_mem hlt)) (by omega)⟩
    have e : framesOf ss = framesOf (ss.take k) ++ (framed ss[k] ++ framesOf (ss.drop (k + 1))) := by
      conv => lhs; rw [← List.take_append_drop k ss, List.drop_eq_getElem_cons hlt]
      rw [framesOf_append]; rfl
    conv => lhs; rw [e]
    rw [ByteArray.extract_append, ext_all (by omega), ext_left (by omega)]
    have e0 : 0 - (framesOf (ss.take k)).size = 0 := by omega
    rw [e0]
  · have hkk : k = ss.length := by omega
    subst hkk
    rw [endsAt_all] at h1
    refine ⟨ByteArray.empty, ?_, fun p => ?_⟩
    · rw [ByteArray.append_empty, List.take_length, ext_all (by omega)]
    · rw [ByteArray.append_empty]; exact openL_end _
/-- A crash that keeps K bytes of the loose frames of B. -/
theorem crash_math (A B : List ByteArray) (K k : Nat) (hs : ∀ t ∈ B, t.size ≤ 200000) (hk : k ≤ B.length) (h1 : endsAt B k ≤ K) (h2 : k < B.length → K < endsAt B (k + 1)) :
    ∃ q, (framesOf (A ++ B)).extract 0 ((framesOf (A ++ B)).size - ((framesOf B).size - stay (K : Int) (framesOf B).size)) = framesOf (A ++ B.take k) ++ q ∧ openL (framesOf (A ++ B.take k) ++ q) (framesOf (A ++ B.take k)).size = .err 11 := by
  have h3 : endsAt B k ≤ (framesOf B).size := framesOf_take_le B k
  obtain ⟨q, hq, ho⟩ := cut_tail B (min K (framesOf B).size) k hs hk (by omega) (fun h => by have := h2 h; omega)
  refine ⟨q, ?_, ho _⟩
  rw [framesOf_append, stay_nat, cut_after _ _ _ (Nat.min_le_right _ _), hq, framesOf_append, ByteArray.append_assoc]
theorem take_both (A B : List ByteArray) (k : Nat) : (A ++ B).take (A.length + k) = A ++ B.take k := by
  rw [List.take_append, List.take_of_length_le (by omega), Nat.add_sub_cancel_left]
theorem at_second {A B : List ByteArray} {i : Nat} {x : ByteArray} (h : A.length ≤ i) (hx : (A ++ B)[i]? = some x) : B[i - A.length]? = some x := by
  rwa [List.getElem?_append_right h] at hx

set_option maxRecDepth 100000 in
/-- A list's first m. -/
theorem cut_texts (a : Option Addr) (n m c : Nat) (jv : Int) (hj : jv = m) (hm : m ≤ c) (W : World) :
    (Instr.slice 27 (.slice a n c) none (some (.int .i64 jv)) none).run Tryd.prog W = .ok (.slice a m c) W := by
  subst hj
  have h := run_slice_h (P := Tryd.prog) (w := W) 27 a n c Tryd.underlying27 .i64 (m : Int) (by omega) (by omega)
  rw [h]
  have hs : (sizeOf (Tryd.prog.elem 27)).run Tryd.prog W = .ok 1 W := by kernel_rfl
  rw [hs]
  have ha : (if c = 0 then a else a.map (·.add (0 * 1))) = a := by
    split
    · rfl
    · cases a <;> simp [Addr.add]
  simp only [Result.andThen, sliced, ha, Nat.sub_zero, Int.toNat_natCast]
theorem OwnTexts.cap {base : Nat} {w : World} {p : Option Addr} {n c : Nat} {xs : List ByteArray} (h : OwnTexts base w (.slice p n c) xs) : n = xs.length ∧ n ≤ c := by
  rcases h.2 with ⟨e, h0⟩ | ⟨g, cap, cur, e, _, _, hle, _⟩
  · injection e with e1 e2 e3
    exact ⟨by rw [e2, h0], by omega⟩
  · injection e with e1 e2 e3
    exact ⟨e2, by omega⟩

/-- An append whose run is known, behind a guard that says yes. -/
theorem wpList_append_want {P : Program} {w : World} {ops : Array Oper} {rest : List Oper} {o : Oper} {a : Act} {Q : Exit → Act → World → Prop} (hw : Region.wanted o (yielded ops a.tmps) = true) (s x : Operand) (t tx : TypeId)
    (ho : o.op = .call { callee := .builtin .append, args := #[s, x], argTypes := #[t, tx] }) (v u : Value) (hs : a.eval s = v) (hx : a.eval x = u) {v' : Value} {w' : World}
    (hr : (Builtin.append_ #[t, tx] o.type #[v, u]).run P w = .ok v' w') (h : wpList P ops Q rest (a.put o.dst v') w') : wpList P ops Q (o :: rest) a w := by
  refine BigFrame.wpList_want hw fun K hK => ?_
  unfold Oper.wp execOp
  simp only [ho, resolve, invoke, builtin, Sem.run_bind, Sem.run_pure, Result.andThen_ok, List.map_toArray, List.map_cons, List.map_nil, hs, hx, hr]
  exact hK _ _ h
end Go.Proofs.YtckbgggocmbbdaaDoor
