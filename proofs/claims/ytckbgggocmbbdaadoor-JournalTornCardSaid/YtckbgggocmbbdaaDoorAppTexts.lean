/-
  A row of texts of the call's own: these texts appended to it at once; what stays of it beside a disk.
-/
import Derived.Test.YtckbgggocmbbdaaDoorAll
import Derived.Test.YtckbgggocmbbdaaDoorDiskD
namespace Go.Proofs.YtckbgggocmbbdaaDoor
open Go.RowKit Go.Extern.Stop Go.Stop Go.Extern

/-- A row of the call's own that holds these texts. -/
def OwnTexts (base : Nat) (w : World) (v : Value) (xs : List ByteArray) : Prop := w.ownsRow base 9 1 v xs.length (xs.map .string)
theorem OwnTexts.nil (base : Nat) (w : World) : OwnTexts base w (.slice none 0 0) [] := World.ownsRow_nil _ _ _ _
theorem OwnTexts.texts {base : Nat} {w : World} {v : Value} {xs : List ByteArray} (h : OwnTexts base w v xs) : Texts w v xs := Texts.of_row h
theorem OwnTexts.later {base : Nat} {w w' : World} {v : Value} {xs : List ByteArray} (h : OwnTexts base w v xs) (hb : Below w.heap.size w w') : OwnTexts base w' v xs := row_below h hb
theorem OwnTexts.shape {base : Nat} {w : World} {v : Value} {xs : List ByteArray} (h : OwnTexts base w v xs) : ∃ p c, v = .slice p xs.length c := by
  obtain ⟨p, c, e, _⟩ := h.texts
  exact ⟨p, c, e⟩
theorem add_at (b o j : Nat) : (⟨b, o, none⟩ : Addr).add j = ⟨b, o + j, none⟩ := by unfold Addr.add; split <;> simp_all

theorem run_append_texts (w : World) (base : Nat) (v sv : Value) (xs ys : List ByteArray) (hown : OwnTexts base w v xs) (hs : Texts w sv ys) (hn : xs.length + ys.length ≤ 1000000) (hbase : base ≤ w.heap.size) :
    ∃ v' w', (Builtin.append_ #[27, 27] 27 #[v, sv]).run Tryd.prog w = .ok v' w' ∧ OwnTexts base w' v' (xs ++ ys) ∧ w.grownBy w' v.ownBlock := by
  obtain ⟨i0, hi0, hz0, hz1, hz2⟩ := info_parts Tryd.infoStr
  obtain ⟨p, c, rfl, h⟩ := hs
  have e : ∀ v' W, W.ownsRow base 9 1 v' (xs.length + ys.length) (xs.map Value.string ++ ys.map Value.string) → OwnTexts base W v' (xs ++ ys) := fun v' W q => by
    unfold OwnTexts
    rw [List.length_append, List.map_append]
    exact q
  cases p with
  | some a =>
    obtain ⟨v', w', h1, h2, h3, _⟩ := run_append_own_at (P := Tryd.prog) w base 27 27 9 i0 _ 1 16 Tryd.underlying27 hi0 hz0 hz1 hz2 rfl (by decide) v xs.length (xs.map .string) hown a ys.length c (ys.map .string) (by simp)
      (fun j u hu => by
        rw [List.getElem?_map] at hu
        obtain ⟨x, hx, rfl⟩ := Option.map_eq_some_iff.1 hu
        obtain ⟨b, o, ea, hc⟩ := h j x hx
        obtain rfl := Option.some.inj ea
        rw [add_at]; exact hc)
      (fun u hu => by obtain ⟨_, _, rfl⟩ := List.mem_map.1 hu; rfl) (by unfold maxLen; omega) (by omega) hbase
    exact ⟨v', w', h1, e _ _ h2, h3⟩
  | none =>
    obtain rfl : ys = [] := by
      cases ys with
      | nil => rfl
      | cons x r =>
        obtain ⟨b, o, ea, _⟩ := h 0 x rfl
        cases ea
    rcases owned_row hown with ⟨rfl, h0, hx⟩ | ⟨g, cap, cur, zs, rfl, hb, hg, hle, hm, hc, hcur⟩
    · obtain rfl := List.eq_nil_of_length_eq_zero h0
      refine ⟨.slice none 0 0, w, ?_, OwnTexts.nil _ _, World.grownBy.refl w _⟩
      simp [Builtin.append_, run_underlying Tryd.underlying27, sizeOf, typeInfo, hi0, Builtin.lenOf, Builtin.firstCells]
    · have hr := run_append_room_src (P := Tryd.prog) w 27 27 27 9 i0 Tryd.underlying27 hi0 g 0 xs.length cap (.slice none 0 c) 0 [] (Src.ofNil w Tryd.underlying27 c) (by omega) (fun j hj => absurd hj (Nat.not_lt_zero _)) (fun j hj => absurd hj (Nat.not_lt_zero _))
      have es : w.setCells g (0 + xs.length * i0.size) [] = w := rfl
      rw [es] at hr
      refine ⟨_, w, hr, ?_, World.grownBy.refl w _⟩
      rw [List.append_nil]; exact hown

/-- Behind an append onto an own row of texts. -/
theorem row_kept {base b n m : Nat} {e e' : TypeId} {w w' : World} {v u : Value} {xs ys : List Value} (h : w.ownsRow base e 1 v n xs) (k : w.ownsRow b e' 1 u m ys) (he : e' ≠ e) (hg : w.grownBy w' v.ownBlock) : w'.ownsRow b e' 1 u m ys := by
  refine ⟨k.1, ?_⟩
  rcases k.2 with h0 | ⟨g, cap, cur, h1, h2, h3, h4⟩
  · exact .inl h0
  · refine .inr ⟨g, cap, cur, h1, h2, ?_, h4⟩
    rw [hg.block g (Array.getElem?_eq_some_iff.1 h3).1 ?_]
    · exact h3
    · intro ev
      rcases h.2 with ⟨rfl, _⟩ | ⟨g', cap', cur', rfl, _, hh, _⟩
      · simp [Value.ownBlock] at ev
      · simp [Value.ownBlock] at ev
        subst ev
        rw [hh] at h3
        simp at h3
        exact he h3.2.symm
theorem block_kept {base n k : Nat} {e t : TypeId} {w w' : World} {v : Value} {xs : List Value} {cs : Array Value} {fr : Nat × Nat} (h : w.ownsRow base e 1 v n xs) (hk : w.heap[k]? = some (.cells cs t fr)) (he : t ≠ e) (hg : w.grownBy w' v.ownBlock) : w'.heap[k]? = some (.cells cs t fr) := by
  rw [hg.block k (Array.getElem?_eq_some_iff.1 hk).1 ?_]
  · exact hk
  · intro ev
    rcases h.2 with ⟨rfl, _⟩ | ⟨g', cap', cur', rfl, _, hh, _⟩
    · simp [Value.ownBlock] at ev
    · simp [Value.ownBlock] at ev
      subst ev
      rw [hh] at hk
      simp at hk
      exact he hk.2.1.symm
theorem DiskIs.grown {base b d : Nat} {w w' : World} {v : Value} {xs : List ByteArray} {all : ByteArray} {loose : Nat} (h : DiskIs base d w all loose) (k : OwnTexts b w v xs) (hg : w.grownBy w' v.ownBlock) : DiskIs base d w' all loose := by
  obtain ⟨u, h⟩ := h
  exact ⟨u, block_kept k h.box (by decide) hg, row_kept k h.row (by decide) hg, h.ge, h.le, h.most⟩
/-- Beside a disk that is written. -/
theorem OwnTexts.keeps {base b d : Nat} {w w' : World} {v : Value} {xs : List ByteArray} (h : OwnTexts b w v xs) {cs : Array Value} {fr : Nat × Nat} (hd : w.heap[d]? = some (.cells cs 48 fr)) (hk : Keeps base d w w') : OwnTexts b w' v xs := by
  refine ⟨h.1, ?_⟩
  rcases h.2 with h0 | ⟨g, cap, cur, h1, h2, h3, h4⟩
  · exact .inl h0
  · refine .inr ⟨g, cap, cur, h1, h2, hk.far g _ _ _ h3 ?_ (by decide), h4⟩
    rintro rfl
    rw [hd] at h3
    simp at h3
theorem DiskIs.box {base d : Nat} {w : World} {all : ByteArray} {loose : Nat} (h : DiskIs base d w all loose) : ∃ cs, w.heap[d]? = some (.cells cs 48 (0, 0)) := by
  obtain ⟨v, h⟩ := h
  exact ⟨_, h.box⟩
theorem OwnTexts.beside {base b d : Nat} {w w' : World} {v : Value} {xs : List ByteArray} {all : ByteArray} {loose : Nat} (h : OwnTexts b w v xs) (hd : DiskIs base d w all loose) (hk : Keeps base d w w') : OwnTexts b w' v xs := by
  obtain ⟨cs, hb⟩ := hd.box
  exact h.keeps hb hk
end Go.Proofs.YtckbgggocmbbdaaDoor
