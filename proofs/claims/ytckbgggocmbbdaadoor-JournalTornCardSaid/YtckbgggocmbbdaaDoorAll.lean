/-
  frame.All: the texts of all frames from the front on, and how many bytes these are.
-/
import Derived.Test.YtckbgggocmbbdaaDoorOpenAt
import Derived.Test.YtckbgggocmbbdaaDoorSameTexts
import Derived.Deep.AppendLies
namespace Go.Proofs.YtckbgggocmbbdaaDoor
open Go.RowKit Go.Extern.Stop Go.Stop Go.Extern

theorem row_below {w w' : World} {base e size n : Nat} {v : Value} {xs : List Value} (h : w.ownsRow base e size v n xs) (hb : Below w.heap.size w w') : w'.ownsRow base e size v n xs := by
  refine ⟨h.1, ?_⟩
  rcases h.2 with h0 | ⟨g, cap, cur, h1, h2, h3, h4⟩
  · exact .inl h0
  · refine .inr ⟨g, cap, cur, h1, h2, ?_, h4⟩
    rw [hb.block g (Array.getElem?_eq_some_iff.1 h3).1]; exact h3
theorem row_low {w : World} {b b' e size n : Nat} {v : Value} {xs : List Value} (hb : b' ≤ b) (h : w.ownsRow b e size v n xs) : w.ownsRow b' e size v n xs := by
  refine ⟨h.1, ?_⟩
  rcases h.2 with h0 | ⟨g, cap, cur, h1, h2, h3⟩
  · exact .inl h0
  · exact .inr ⟨g, cap, cur, h1, Nat.le_trans hb h2, h3⟩
theorem Tryd.infoStr : (Tryd.prog.info? 9).map (fun i => (i.zero, i.size, i.bytes)) = some (some (.string ⟨#[]⟩), 1, 16) := by kernel_rfl
theorem Frames.parts {s : ByteArray} {i n : Nat} {ts : List ByteArray} (h : Frames s i ts n) : (ts = [] ∧ n = i ∧ ∃ c, openL s i = .err c) ∨ ∃ t r e, ts = t :: r ∧ openL s i = .ok t e ∧ Frames s e r n := by
  cases h with
  | done h => exact .inl ⟨rfl, rfl, _, h⟩
  | more h k => exact .inr ⟨_, _, _, rfl, h, k⟩

/-- The variable of frame's own error, new. -/
def newB (w : World) : World := w.alloc (.cells #[.int .i64 0, .nilIface] 61)
/-- What the loop holds when it has opened the first ones. -/
structure AllAt (s : ByteArray) (ts : List ByteArray) (n : Nat) (a : Addr) (w : World) (k : Nat) (av iv : Value) (wr : World) (done rest : List ByteArray) (i : Nat) : Prop where
  p1 : iv = .int .i64 i
  p2 : ts = done ++ rest
  p3 : rest.length = k
  p4 : Frames s i rest n
  p5 : i ≤ s.size
  p6 : wr.ownsRow (w.heap.size + 1) 9 1 av done.length (done.map .string)
  p7 : Below (w.heap.size + 1) (newB w) wr

set_option maxRecDepth 100000 in
set_option maxHeartbeats 4000000 in
theorem all_own (s : ByteArray) (ts : List ByteArray) (n : Nat) (a : Addr) (w : World) (hf : Frames s 0 ts n) (hl : ts.length ≤ 1000000) (hs : s.size ≤ 4000000000000000000) (hg : Handle w) (ho : OnErr w a) :
    Calls Tryd.prog 20 #[.string s] w fun e w' => ∃ sv, e = .returned (.tuple #[sv, .int .i64 n]) ∧ w'.ownsRow w.heap.size 9 1 sv ts.length (ts.map .string) ∧ Below w.heap.size w w' := by
  obtain ⟨i0, hi0, hz0, hz1, hz2⟩ := info_parts Tryd.infoStr
  have hW0 : Below w.heap.size w (newB w) := (Below.refl _ _).alloc (Nat.le_refl _) _
  have HF := Lib.hid hf
  have HG := Lib.hid hg
  have HO := Lib.hid ho
  have HW0 := Lib.hid hW0
  clear hf hg ho hW0
  go_enter Tryd.func20, Tryd.ntmps20
  go_wp2
  go_loopg [4, 6] ts.length (fun k av iv wr => ∃ done rest i, AllAt s ts n a w k av iv wr done rest i)
  case atStart => exact ⟨[], ts, 0, rfl, rfl, rfl, HF.out, Nat.zero_le _, World.ownsRow_nil _ _ _ _, Below.refl _ _⟩
  case round =>
    obtain ⟨done, rest, i, rfl, h2, h3, h4, h5, h6, h7⟩ := hrel
    have HB := Lib.hid (HW0.out.trans (h7.mono (Nat.le_succ _)))
    have hsz : w.heap.size + 1 ≤ wr.heap.size := by have := h7.size; simpa [newB] using this
    have hb0 : (newB w).heap[w.heap.size]? = some (.cells #[.int .i64 0, .nilIface] 61 (0, 0)) := alloc_here _ _
    have hbox : wr.heap[w.heap.size]? = some (.cells #[.int .i64 0, .nilIface] 61 (0, 0)) := by
      rw [h7.block _ (by omega)]; exact hb0
    have HBOX := Lib.hid hbox
    have H7 := Lib.hid h7
    have H6 := Lib.hid h6
    have H2 := Lib.hid h2
    have H3 := Lib.hid h3
    have hdl : done.length + rest.length ≤ 1000000 := by rw [h2] at hl; simpa using hl
    clear hb0 hbox h7 h6 h2 h3 hl
    rcases h4.parts with ⟨rfl, hni, c, hop⟩ | ⟨t, r, e, rfl, hop, hfr⟩
    · have C := openAt_err h5 hs (HO.out.later HB.out) hop
      have HNI := Lib.hid hni
      clear hop h4 hni
      go_wp2_with fail
      go_at_call 29
      ((with_reducible refine C.mono ?_); rintro e w1 ⟨v, rfl, ⟨ws, v', rfl, hch⟩, hb⟩)
      obtain ⟨tv, xv, rfl⟩ := hch.shape
      have hbox1 : w1.heap[w.heap.size]? = some (.cells #[.int .i64 0, .nilIface] 61 (0, 0)) := by rw [hb.block _ (by omega)]; exact HBOX.out
      have HB1 := Lib.hid hb
      have D := As_broken w.heap.size (i : Int) tv xv (.int .i64 0) .nilIface w1 (HG.out.later (HB.out.trans (hb.mono HB.out.size))) (by simp [World.cell?, hbox1]) (by simp [World.cell?, hbox1]) (by simp [World.frozen?, hbox1]) (by simp [World.frozen?, hbox1])
      have HBOX1 := Lib.hid hbox1
      clear hb hch hbox1 C
      go_wp2_with fail
      go_at_call 30
      ((with_reducible refine D.mono ?_); rintro e w2 ⟨rfl, w3, hb, rfl⟩)
      have hc0 : w3.cell? ⟨w.heap.size, 0, none⟩ = some (.int .i64 0) := by simp [World.cell?, hb.block _ (show w.heap.size < w1.heap.size by have := HB1.out.size; omega), HBOX1.out]
      have hc : ((w3.setCell ⟨w.heap.size, 0, none⟩ (.int .i64 i)).setCell ⟨w.heap.size, 1, none⟩ (.iface tv xv)).cell? ⟨w.heap.size, 0, none⟩ = some (.int .i64 i) :=
        (World.cell?_setCell_other _ ⟨w.heap.size, 1, none⟩ ⟨w.heap.size, 0, none⟩ _ (by simp)).trans (World.cell?_setCell_same _ _ _ hc0)
      have hrow : ((w3.setCell ⟨w.heap.size, 0, none⟩ (.int .i64 i)).setCell ⟨w.heap.size, 1, none⟩ (.iface tv xv)).ownsRow (w.heap.size + 1) 9 1 u4 done.length (done.map .string) :=
        ownsRow_setCell_below (ownsRow_setCell_below (row_below (row_below H6.out HB1.out) hb) (by simp) _) (by simp) _
      have hbl : Below w.heap.size w ((w3.setCell ⟨w.heap.size, 0, none⟩ (.int .i64 i)).setCell ⟨w.heap.size, 1, none⟩ (.iface tv xv)) :=
        ((HB.out.trans ((HB1.out.trans (hb.mono HB1.out.size)).mono HB.out.size)).setCell (by simp) _).setCell (by simp) _
      have HR := Lib.hid hrow
      have HBL := Lib.hid hbl
      clear hb hc0 hrow hbl
      generalize (w3.setCell ⟨w.heap.size, 0, none⟩ (.int .i64 i)).setCell ⟨w.heap.size, 1, none⟩ (.iface tv xv) = W at hc HR HBL ⊢
      go_wp2_with fail
      go_quiet (fail)
      go_wp2
      go_ret2
      have e2 : ts = done := by rw [H2.out, List.append_nil]
      subst e2
      refine ⟨u4, by rw [HNI.out]; rfl, ?_, HBL.out.trans ⟨rfl, rfl, rfl, Nat.le_refl _, fun _ _ => rfl⟩⟩
      exact row_low (Nat.le_succ _) (row_below HR.out ⟨rfl, rfl, rfl, Nat.le_refl _, fun _ _ => rfl⟩)
    · have C := openAt_ok h5 hs (HO.out.later HB.out) hop
      have HOP := Lib.hid hop
      have HFR := Lib.hid hfr
      clear hop hfr h4
      go_wp2_with fail
      go_at_call 29
      ((with_reducible refine C.mono ?_); rintro x w1 ⟨rfl, hb⟩)
      have HB1 := Lib.hid hb
      clear hb C
      go_wp2_with fail
      go_at_call 30
      ((with_reducible refine (As_nil _ _).mono ?_); rintro x w2 ⟨rfl, rfl⟩)
      have hsz1 : w.heap.size + 1 ≤ w1.heap.size := Nat.le_trans hsz HB1.out.size
      have H61 := Lib.hid (row_below H6.out HB1.out)
      go_wp2_with (at_builtin; refine wpList_append_lies _ rfl (.tmp 23) (.tmp 25) 27 rfl (w.heap.size + 1) 9 i0 _ 1 16 Tryd.underlying27 hi0 hz0 hz1 hz2 rfl (by decide) u4 done.length (done.map .string) rfl (World.ownsRow.alloc H61.out _) ⟨w1.heap.size, 0, none⟩ 1 1 [.string t] rfl rfl (World.news_of_block (cs := #[.string t]) (t := 9) (fr := (0, 0)) (alloc_here w1 _)) (by simp [Value.oneCell']) (by decide) (by simp [maxLen]; omega) (by omega) (by simp; omega) (w1.heap.size + 1) (by simp) ?_; intro gg cap w2 hown1 hgrow hat hlt)
      go_roundg r.length
      case measure => have := H3.out; simp at this; omega
      case rel =>
        have hb2 : Below (w.heap.size + 1) (newB w) w2 := ((H7.out.trans (HB1.out.mono hsz)).alloc hsz1 _).grown hgrow (by simp; omega) (fun q hq => (World.ownsRow.lt H61.out q hq).1)
        refine ⟨done ++ [t], r, e, rfl, by rw [H2.out]; simp, rfl, HFR.out, openL_le HOP.out, ?_, hb2⟩
        simpa using hown1
theorem all_any (s : ByteArray) (ts : List ByteArray) (n : Nat) (a : Addr) (w : World) (hf : Frames s 0 ts n) (hl : ts.length ≤ 1000000) (hs : s.size ≤ 4000000000000000000) (hg : Handle w) (ho : OnErr w a) :
    Calls Tryd.prog 20 #[.string s] w fun e w' => ∃ sv, e = .returned (.tuple #[sv, .int .i64 n]) ∧ Texts w' sv ts ∧ Below w.heap.size w w' := by
  refine (all_own s ts n a w hf hl hs hg ho).mono ?_
  rintro e w' ⟨sv, rfl, h, hb⟩
  exact ⟨sv, rfl, Texts.of_row h, hb⟩
end Go.Proofs.YtckbgggocmbbdaaDoor
