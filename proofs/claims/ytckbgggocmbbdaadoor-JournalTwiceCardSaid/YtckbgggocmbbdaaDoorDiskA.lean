/-
  A disk in memory, and what stays of it; the laws on its bytes that the kit lacks: an append of a string's bytes onto a row of the call's own; such a row as a string, and cut short.
-/
import Derived.Test.YtckbgggocmbbdaaDoorErrs
import Derived.Deep.AppendSrc
import Derived.Deep.LoopGhost
import Derived.Laws.BytesString
import Derived.OwnWalk
import Derived.Lib.MinMax
namespace Go.Proofs.YtckbgggocmbbdaaDoor
open Go.RowKit Go.Extern.Stop Go.Stop Go.Extern

/-! ### append(dst, s...), dst a row of the call's own, s a string -/
theorem run_append_room_str {P : Program} (w : World) (t tx ty e : TypeId) (i : TypeInfo) (ht : P.underlying t = some (.slice e)) (hk : P.underlying tx = some .string) (hi : P.info? e = some i) (hsz : i.size = 1)
    (g n cap : Nat) (cur : Array Value) (hg : w.heap[g]? = some (.cells cur e (0, 0))) (s : ByteArray) (hroom : n + s.size ≤ cap) (hfit : n + s.size ≤ cur.size) :
    (Builtin.append_ #[t, tx] ty #[.slice (some ⟨g, 0, none⟩) n cap, .string s]).run P w =
      .ok (.slice (some ⟨g, 0, none⟩) (n + s.size) cap) (w.setRow g (cur.toList.take n ++ byteCells s ++ cur.toList.drop (n + (byteCells s).length)).toArray) := by
  have hf := firstCells_string (P := P) s w
  have h1 : ∀ v ∈ byteCells s, v.oneCell' = true := fun u hu => by
    obtain ⟨_, _, rfl⟩ := List.mem_map.1 hu
    rfl
  have hst := run_storeCells_at P g n e (byteCells s) 0 cur w hg (by rw [byteCells_length]; omega) h1
  simp only [Nat.add_zero] at hst
  have hl : (Builtin.lenOf (.string s)).run P w = .ok s.size w := rfl
  simp [Builtin.append_, run_underlying ht, run_underlying hk, sizeOf, typeInfo, hi, hsz, hl, hroom, hf, Addr.add_lit, hst]

/-- A row told by what its block holds: the cells that are owned, and whatever stands behind them. -/
theorem owns_of {w : World} {base e g n cap : Nat} {cur : Array Value} {xs zs : List Value} (hb : base ≤ g) (hg : w.heap[g]? = some (.cells cur e (0, 0))) (hc : cur.size = cap) (hm : cap ≤ maxLen) (hx : cur.toList = xs ++ zs) (hl : xs.length = n) :
    w.ownsRow base e 1 (.slice (some ⟨g, 0, none⟩) n cap) n xs := by
  have hle : n ≤ cap := by
    have h := congrArg List.length hx
    rw [Array.length_toList, List.length_append] at h
    omega
  refine ⟨by omega, .inr ⟨g, cap, cur, rfl, hb, hg, hle, hm, by omega, ?_⟩⟩
  rw [hx, Nat.mul_one, ← hl]
  exact List.take_left
theorem owned_row {w : World} {base e n : Nat} {v : Value} {xs : List Value} (h : w.ownsRow base e 1 v n xs) :
    (v = .slice none 0 0 ∧ n = 0 ∧ xs = []) ∨ ∃ g cap cur zs, v = .slice (some ⟨g, 0, none⟩) n cap ∧ base ≤ g ∧ w.heap[g]? = some (.cells cur e (0, 0)) ∧ n ≤ cap ∧ cap ≤ maxLen ∧ cur.size = cap ∧ cur.toList = xs ++ zs := by
  obtain ⟨hl, h | ⟨g, cap, cur, hv, hb, hg, hn, hm, hc, ht⟩⟩ := h
  · obtain ⟨rfl, rfl⟩ := h
    exact .inl ⟨rfl, rfl, List.length_eq_zero_iff.1 (by omega)⟩
  · refine .inr ⟨g, cap, cur, cur.toList.drop n, hv, hb, hg, hn, hm, by omega, ?_⟩
    rw [Nat.mul_one] at ht
    rw [← ht, List.take_append_drop]

theorem run_append_own_str {P : Program} (w : World) (base : Nat) (t tx ty e : TypeId) (i : TypeInfo) (z : Value) (bytes : Nat) (ht : P.underlying t = some (.slice e)) (hk : P.underlying tx = some .string) (hi : P.info? e = some i) (hz : i.zero = some z)
    (hsize : i.size = 1) (hby : i.bytes = bytes) (hzs : z.cells.size = 1)
    (v : Value) (n : Nat) (xs : List Value) (hown : w.ownsRow base e 1 v n xs) (s : ByteArray)
    (h63 : n + s.size ≤ maxLen) (hbytes : (n + s.size) * bytes ≤ 140737488355328) (hbase : base ≤ w.heap.size) :
    ∃ v' w', (Builtin.append_ #[t, tx] ty #[v, .string s]).run P w = .ok v' w' ∧ w'.ownsRow base e 1 v' (n + s.size) (xs ++ byteCells s) ∧ w.grownBy w' v.ownBlock := by
  have h47 : n + s.size ≤ 9223372036854775807 := by unfold maxLen at h63; omega
  have hxl : xs.length = n := by rw [hown.1, Nat.mul_one]
  have hall : (xs ++ byteCells s).length = n + s.size := by rw [List.length_append, hxl, byteCells_length]
  have hsrc : Src P i.size tx (.string s) s.size (byteCells s) w := by rw [hsize]; exact Src.ofString w hk s
  -- a new block, wherever the old cells stood
  have fresh : ∀ (ad : Option Addr) (old : Nat), old < n + s.size → (Builtin.firstCells i.size n (.slice ad n old)).run P w.drew = .ok xs.toArray w.drew → v = .slice ad n old →
      ∃ v' w', (Builtin.append_ #[t, tx] ty #[v, .string s]).run P w = .ok v' w' ∧ w'.ownsRow base e 1 v' (n + s.size) (xs ++ byteCells s) ∧ w.grownBy w' v.ownBlock := by
    rintro ad old hlt hold rfl
    have hr := run_append_grow_src (P := P) w t tx ty e i z ht hi hz ad n old xs hold (.string s) s.size (byteCells s) hsrc hlt (by omega) (growslice_fits hlt (by rw [hby]; exact hbytes))
    have hC := grownCap_ge w (n + s.size) old e
    have hM := grownCap_le_maxLen w (n + s.size) old e h63
    generalize grownCap w (n + s.size) old e = C at hr hC hM
    refine ⟨_, _, hr, owns_of (zs := (Builtin.zeroCells z.cells (C - (n + s.size))).toList) hbase (heap_alloc_new w.drew _) ?_ hM ?_ hall, rfl, rfl, rfl, ?_, fun q hq _ => Below.heap_alloc w.drew _ q hq⟩
    · rw [Array.size_append, List.size_toArray, size_zeroCells, hzs, hall]; omega
    · rw [Array.toList_append]
    · rw [World.size_alloc]; exact Nat.le_succ _
  rcases owned_row hown with ⟨rfl, rfl, rfl⟩ | ⟨g, cap, cur, zs, rfl, hb, hg, hn, hm, hc, hcur⟩
  · by_cases hs : s.size = 0
    · have hn : byteCells s = [] := List.length_eq_zero_iff.1 (by rw [byteCells_length]; exact hs)
      rw [hn, hs]
      refine ⟨.slice none 0 0, w, ?_, World.ownsRow_nil w base e 1, World.grownBy.refl w _⟩
      simp [Builtin.append_, run_underlying ht, run_underlying hk, sizeOf, typeInfo, hi, Builtin.lenOf, Builtin.firstCells, hs]
    · exact fresh none 0 (by omega) (by simp [Builtin.firstCells]) rfl
  · by_cases hroom : n + s.size ≤ cap
    · have hr := run_append_room_str (P := P) w t tx ty e i ht hk hi hsize g n cap cur hg s hroom (by omega)
      have hnew := setRow_heap w g cur (cur.toList.take n ++ byteCells s ++ cur.toList.drop (n + (byteCells s).length)).toArray e _ hg
      refine ⟨_, _, hr, owns_of hb hnew ?_ hm (zs := cur.toList.drop (n + (byteCells s).length)) ?_ hall, rfl, rfl, rfl, Nat.le_of_eq (size_setRow _ _ _).symm, fun q _ hq => setRow_other w g q _ fun h => hq (by rw [h]; rfl)⟩
      · rw [List.size_toArray, List.length_append, List.length_append, List.length_take, List.length_drop, Array.length_toList, byteCells_length]; omega
      · have : cur.toList.take n = xs := by rw [hcur, ← hxl, List.take_left]
        rw [this]
    · refine fresh (some ⟨g, 0, none⟩) cap (by omega) ?_ rfl
      exact run_firstCells_some w.drew i.size n ⟨g, 0, none⟩ n cap xs (by rw [hsize]; exact hown.1) (World.ownsRow.cells (w := w) hown rfl)

/-- An append at the list of a plain region's operations, its run being known. -/
theorem wpList_append_run {P : Program} {w : World} {ops : Array Oper} {rest : List Oper} {o : Oper} {a : Act} {Q : Exit → Act → World → Prop} (hgd : o.guard = none) (s x : Operand) (t tx : TypeId)
    (ho : o.op = .call { callee := .builtin .append, args := #[s, x], argTypes := #[t, tx] }) (v u : Value) (hs : a.eval s = v) (hx : a.eval x = u) {v' : Value} {w' : World}
    (hr : (Builtin.append_ #[t, tx] o.type #[v, u]).run P w = .ok v' w') (h : wpList P ops Q rest (a.put o.dst v') w') : wpList P ops Q (o :: rest) a w := by
  refine wpList_plain hgd fun K hK => ?_
  unfold Oper.wp execOp
  simp only [ho, resolve, invoke, builtin, Sem.run_bind, Sem.run_pure, Result.andThen_ok, List.map_toArray, List.map_cons, List.map_nil, hs, hx, hr]
  exact hK _ _ h

/-! ### bytes cut short -/
theorem byteCells_take (s : ByteArray) (n : Nat) : (byteCells s).take n = byteCells (s.extract 0 n) := by
  unfold byteCells
  rw [← List.map_take]
  congr 1
  simp
theorem byteCells_append (a b : ByteArray) : byteCells (a ++ b) = byteCells a ++ byteCells b := by
  unfold byteCells
  simp [ByteArray.data_append]
theorem row_cut {w : World} {base e : Nat} {v : Value} {n : Nat} {xs : List Value} (h : w.ownsRow base e 1 v n xs) (m : Nat) (hm : m ≤ n) :
    ∃ a c, v = .slice a n c ∧ w.ownsRow base e 1 (.slice a m c) m (xs.take m) ∧ n ≤ c := by
  have h1 := h.1
  rcases h.2 with ⟨rfl, rfl⟩ | ⟨g, cap, cur, rfl, hbg, hg, hnc, hcm, hcs, htake⟩
  · obtain rfl : m = 0 := by omega
    exact ⟨none, 0, rfl, by simpa using World.ownsRow_nil w base e 1, Nat.le_refl _⟩
  · refine ⟨some ⟨g, 0, none⟩, cap, rfl, ⟨by rw [List.length_take, h1]; omega, .inr ⟨g, cap, cur, rfl, hbg, hg, by omega, hcm, hcs, ?_⟩⟩, hnc⟩
    rw [← htake, List.take_take]
    congr 1
    omega

/-! ### a disk -/
/-- At block d lies a disk: these bytes are there, in the row of v, so many of them loose; it and its row were made from block base on. -/
structure DiskAt (base d : Nat) (w : World) (v : Value) (all : ByteArray) (loose : Nat) : Prop where
  box : w.heap[d]? = some (.cells #[v, .int .i64 loose] 48 (0, 0))
  row : w.ownsRow base 5 1 v all.size (byteCells all)
  ge : base ≤ d
  le : loose ≤ all.size
  most : all.size ≤ 200000
def DiskIs (base d : Nat) (w : World) (all : ByteArray) (loose : Nat) : Prop := ∃ v, DiskAt base d w v all loose

/-- What a call on the disk at d leaves: nothing below base has turned, and no block but d that isn't of bytes. -/
structure Keeps (base d : Nat) (w w' : World) : Prop where
  below : Below base w w'
  far : ∀ (k : Nat) (cs : Array Value) (t : TypeId) (fr : Nat × Nat), w.heap[k]? = some (.cells cs t fr) → k ≠ d → t ≠ 5 → w'.heap[k]? = some (.cells cs t fr)
theorem Keeps.refl (base d : Nat) (w : World) : Keeps base d w w := ⟨Below.refl _ _, fun _ _ _ _ h _ _ => h⟩
theorem Keeps.trans {base d : Nat} {a b c : World} (h : Keeps base d a b) (k : Keeps base d b c) : Keeps base d a c :=
  ⟨h.below.trans k.below, fun i cs t fr hi h1 h2 => k.far i cs t fr (h.far i cs t fr hi h1 h2) h1 h2⟩
/-- What a call leaves that makes blocks alone. -/
theorem Keeps.of_below {base d : Nat} {w w' : World} (h : Below w.heap.size w w') (hb : base ≤ w.heap.size) : Keeps base d w w' :=
  ⟨h.mono hb, fun k cs t fr hk _ _ => by rw [h.block k (Array.getElem?_eq_some_iff.1 hk).1]; exact hk⟩
theorem Keeps.handle {base d : Nat} {w w' : World} (h : Keeps base d w w') (hg : Handle w) (h0 : 0 < base) : Handle w' := by
  have h' : w.cell? ⟨0, 0, none⟩ = _ := hg
  show w'.cell? _ = _
  rw [h.below.cell h0]; exact h'

theorem DiskAt.lt {base d : Nat} {w : World} {v : Value} {all : ByteArray} {loose : Nat} (h : DiskAt base d w v all loose) : d < w.heap.size := (Array.getElem?_eq_some_iff.1 h.box).1
theorem DiskAt.apart {base d : Nat} {w : World} {v : Value} {all : ByteArray} {loose : Nat} (h : DiskAt base d w v all loose) : v.ownBlock ≠ some d := by
  intro e
  rcases h.row.2 with ⟨rfl, _⟩ | ⟨g, cap, cur, rfl, hbg, hg, _⟩
  · simp [Value.ownBlock] at e
  · simp [Value.ownBlock] at e
    subst e
    have := h.box
    rw [hg] at this
    simp at this
theorem DiskAt.cells {base d : Nat} {w : World} {v : Value} {all : ByteArray} {loose : Nat} (h : DiskAt base d w v all loose) :
    w.cell? ⟨d, 0, none⟩ = some v ∧ w.cell? ⟨d, 1, none⟩ = some (.int .i64 loose) ∧ w.frozen? ⟨d, 0, none⟩ = false ∧ w.frozen? ⟨d, 1, none⟩ = false := by
  have hb := h.box
  refine ⟨?_, ?_, ?_, ?_⟩ <;> simp [World.cell?, World.frozen?, hb]
/-- A disk stays as it is where blocks alone are made. -/
theorem DiskAt.later {base d : Nat} {w w' : World} {v : Value} {all : ByteArray} {loose : Nat} (h : DiskAt base d w v all loose) (hb : Below w.heap.size w w') : DiskAt base d w' v all loose := by
  refine ⟨by rw [hb.block d h.lt]; exact h.box, ⟨h.row.1, ?_⟩, h.ge, h.le, h.most⟩
  rcases h.row.2 with h0 | ⟨g, cap, cur, h1, h2, h3, h4⟩
  · exact .inl h0
  · exact .inr ⟨g, cap, cur, h1, h2, by rw [hb.block g (Array.getElem?_eq_some_iff.1 h3).1]; exact h3, h4⟩
theorem DiskIs.later {base d : Nat} {w w' : World} {all : ByteArray} {loose : Nat} (h : DiskIs base d w all loose) (hb : Below w.heap.size w w') : DiskIs base d w' all loose := by
  obtain ⟨v, h⟩ := h
  exact ⟨v, h.later hb⟩
theorem DiskIs.lt {base d : Nat} {w : World} {all : ByteArray} {loose : Nat} (h : DiskIs base d w all loose) : d < w.heap.size := by
  obtain ⟨v, h⟩ := h
  exact h.lt
theorem DiskIs.ge {base d : Nat} {w : World} {all : ByteArray} {loose : Nat} (h : DiskIs base d w all loose) : base ≤ d := by
  obtain ⟨v, h⟩ := h
  exact h.ge
theorem DiskIs.le {base d : Nat} {w : World} {all : ByteArray} {loose : Nat} (h : DiskIs base d w all loose) : loose ≤ all.size := by
  obtain ⟨v, h⟩ := h
  exact h.le
theorem DiskIs.most {base d : Nat} {w : World} {all : ByteArray} {loose : Nat} (h : DiskIs base d w all loose) : all.size ≤ 200000 := by
  obtain ⟨v, h⟩ := h
  exact h.most
/-- A fact on what lies beside the disk: a box of another type. -/
theorem Keeps.cell {base d : Nat} {w w' : World} (h : Keeps base d w w') {k : Nat} {cs : Array Value} {t : TypeId} {fr : Nat × Nat} (hk : w.heap[k]? = some (.cells cs t fr)) (h1 : k ≠ d) (h2 : t ≠ 5) : w'.heap[k]? = some (.cells cs t fr) := h.far k cs t fr hk h1 h2

/-- A store into the disk's own block. -/
theorem Keeps.box {base d : Nat} {w w' : World} (h : Keeps base d w w') (hd : base ≤ d) (p : Nat) (u : Value) : Keeps base d w (w'.setCell ⟨d, p, none⟩ u) :=
  ⟨h.below.setCell hd u, fun k cs t fr hk h1 h2 => by rw [Below.heap_setCell _ _ _ _ (by simpa using h1)]; exact h.far k cs t fr hk h1 h2⟩
/-- Behind an append onto the disk's row. -/
theorem Keeps.grown {base d : Nat} {w w' : World} {v : Value} {all : ByteArray} {loose : Nat} (h : DiskAt base d w v all loose) (hb : base ≤ w.heap.size) (hg : w.grownBy w' v.ownBlock) : Keeps base d w w' := by
  refine ⟨(Below.refl base w).grown hg hb (fun k hk => (World.ownsRow.lt h.row k hk).1), fun k cs t fr hk _ h2 => ?_⟩
  rw [hg.block k (Array.getElem?_eq_some_iff.1 hk).1 ?_]
  · exact hk
  · intro e
    rcases h.row.2 with ⟨rfl, _⟩ | ⟨g, cap, cur, rfl, hbg, hh, _⟩
    · simp [Value.ownBlock] at e
    · simp [Value.ownBlock] at e
      subst e
      rw [hh] at hk
      simp at hk
      exact h2 hk.2.1.symm
theorem Keeps.size {base d : Nat} {w w' : World} (h : Keeps base d w w') : w.heap.size ≤ w'.heap.size := h.below.size

/-- The row lies apart from the disk's box, so it stays where the box is written. -/
theorem row_box {base d e n p : Nat} {w : World} {cs : Array Value} {t : TypeId} {fr : Nat × Nat} {v u : Value} {xs : List Value} (h : w.ownsRow base e 1 v n xs) (hb : w.heap[d]? = some (.cells cs t fr)) (he : e ≠ t) : (w.setCell ⟨d, p, none⟩ u).ownsRow base e 1 v n xs := by
  refine ownsRow_setCell_other h ?_ u
  intro hv
  rcases h.2 with ⟨rfl, _⟩ | ⟨g, cap, cur, rfl, hbg, hg, _⟩
  · simp [Value.ownBlock] at hv
  · simp [Value.ownBlock] at hv
    subst hv
    rw [hb] at hg
    simp at hg
    exact he hg.2.1.symm
/-- A disk whose box is written. -/
theorem DiskAt.build {base d : Nat} {w : World} {v0 l0 v : Value} {all : ByteArray} {loose : Nat} (hb : w.heap[d]? = some (.cells #[v0, l0] 48 (0, 0))) (hr : w.ownsRow base 5 1 v all.size (byteCells all)) (hd : base ≤ d) (hl : loose ≤ all.size) (hm : all.size ≤ 200000) :
    DiskAt base d ((w.setCell ⟨d, 0, none⟩ v).setCell ⟨d, 1, none⟩ (.int .i64 loose)) v all loose := by
  have h1 := heap_setCell_same w d 0 _ _ v hb
  have h2 := heap_setCell_same (w.setCell ⟨d, 0, none⟩ v) d 1 _ _ (.int .i64 loose) h1
  exact ⟨h2, row_box (row_box hr hb (by decide)) h1 (by decide), hd, hl, hm⟩
theorem DiskAt.loosed {base d : Nat} {w : World} {v l0 : Value} {all : ByteArray} {loose : Nat} (hb : w.heap[d]? = some (.cells #[v, l0] 48 (0, 0))) (hr : w.ownsRow base 5 1 v all.size (byteCells all)) (hd : base ≤ d) (hl : loose ≤ all.size) (hm : all.size ≤ 200000) :
    DiskAt base d (w.setCell ⟨d, 1, none⟩ (.int .i64 loose)) v all loose := by
  have h1 := heap_setCell_same w d 1 _ _ (.int .i64 loose) hb
  exact ⟨h1, row_box hr hb (by decide), hd, hl, hm⟩

/-- A row of bytes as a string. -/
theorem row_text {base : Nat} {w : World} {v : Value} {s : ByteArray} (h : w.ownsRow base 5 1 v s.size (byteCells s)) : (convert 46 9 v).run Tryd.prog w = .ok (.string s) w := by
  rcases h.2 with ⟨rfl, h0⟩ | ⟨g, cap, cur, rfl, hbg, hg, hnc, hcm, hcs, htake⟩
  · have e : s = ByteArray.empty := by
      apply ByteArray.ext
      exact Array.eq_empty_of_size_eq_zero h0
    subst e
    rw [run_convert_bytes_string (P := Tryd.prog) w 46 9 5 none 0 0 Tryd.underlying46 Tryd.underlying5 Tryd.underlying9]
    rfl
  · have C := run_convert_bytes_back (P := Tryd.prog) w 46 9 5 ⟨g, 0, none⟩ cap s.data.toList Tryd.underlying46 Tryd.underlying5 Tryd.underlying9 (fun j hj => by
      refine h.cells (g := g) rfl j _ ?_
      unfold byteCells
      rw [List.getElem?_map, List.getElem?_eq_getElem hj]; rfl)
    rw [Array.length_toList] at C
    exact C
/-- The disk's bytes as a string. -/
theorem DiskAt.text {base d : Nat} {w : World} {v : Value} {all : ByteArray} {loose : Nat} (h : DiskAt base d w v all loose) : (convert 46 9 v).run Tryd.prog w = .ok (.string all) w := row_text h.row
end Go.Proofs.YtckbgggocmbbdaaDoor
