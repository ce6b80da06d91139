/-
  The call of package disk that puts others in the place of all bytes: Replace.
-/
import Derived.Test.YtckbgggocmbbdaaDoorDiskC
namespace Go.Proofs.YtckbgggocmbbdaaDoor
open Go.RowKit Go.Extern.Stop Go.Stop Go.Extern

theorem Keeps.swap {base d : Nat} {w w' : World} (h : Keeps base w.heap.size w w') : Keeps base d w w' :=
  ⟨h.below, fun k cs t fr hk _ h2 => h.far k cs t fr hk (Nat.ne_of_lt (Array.getElem?_eq_some_iff.1 hk).1) h2⟩
theorem empty_then (b : ByteArray) : ByteArray.empty ++ b = b := ByteArray.empty_append

/-- The world in which a disk and a number of its own have been laid beside. -/
def beside (w : World) : World := (w.alloc (.cells #[.slice none 0 0, .int .i64 0] 48)).alloc (.cells #[.int .i64 0] 55)
theorem beside_below (w : World) : Below w.heap.size w (beside w) := ((Below.refl _ _).alloc (Nat.le_refl _) _).alloc (by simp) _
theorem beside_size (w : World) : (beside w).heap.size = w.heap.size + 2 := by simp [beside]
theorem beside_disk (base : Nat) (w : World) (hb : base ≤ w.heap.size) : DiskIs base w.heap.size (beside w) ByteArray.empty 0 :=
  (newDisk base w hb).later ((Below.refl _ _).alloc (Nat.le_refl _) _)
theorem beside_why (w : World) : (beside w).heap[w.heap.size + 1]? = some (.cells #[.int .i64 0] 55 (0, 0)) := by
  have h := alloc_here (w.alloc (.cells #[.slice none 0 0, .int .i64 0] 48)) (.cells #[.int .i64 0] 55)
  simpa [beside] using h

set_option maxRecDepth 100000 in
set_option maxHeartbeats 4000000 in
/-- Replace, by no more bytes than may be. -/
theorem replace_ok {base d : Nat} {w : World} {all b : ByteArray} {loose : Nat} (h : DiskIs base d w all loose) (hm : b.size ≤ 200000) :
    Calls Tryd.prog 21 #[.pointer (some ⟨d, 0, none⟩), .string b] w fun e w' => e = .returned .nilIface ∧ DiskIs base d w' b 0 ∧ Keeps base d w w' := by
  have hlt := h.lt
  have hge := h.ge
  obtain ⟨v, h⟩ := h
  have hD := beside_disk base w (by omega)
  have C := append_ok (b := b) hD (by show 0 + b.size ≤ 200000; omega)
  rw [empty_then] at C
  have hK : Keeps base w.heap.size w (beside w) := Keeps.of_below (beside_below w) (by omega)
  have HBX := Lib.hid h.box
  have HK := Lib.hid hK
  clear hD hK h
  go_enter Tryd.func21, Tryd.ntmps21
  go_wp2_with fail
  go_at_call 8
  refine (diskNew_any _).mono ?_
  rintro e w1 ⟨rfl, rfl⟩
  go_wp2_with fail
  go_at_call 19
  refine C.mono ?_
  rintro e w1 ⟨rfl, hD, hK⟩
  have HD := Lib.hid hD
  have HK1 := Lib.hid (HK.out.trans hK)
  clear hD hK C HK
  go_wp2_with fail
  go_at_call 30
  refine (As_nil _ _).mono ?_
  rintro e w2 ⟨rfl, rfl⟩
  go_wp2_with fail
  go_at_call 24
  refine (sync_any HD.out).mono ?_
  rintro e w2 ⟨rfl, hD, hK⟩
  obtain ⟨v2, hD⟩ := hD
  obtain ⟨c0, c1, f0, f1⟩ := hD.cells
  have hK2 : Keeps base d w w2 := (HK1.out.trans hK).swap
  have hb2 : w2.heap[d]? = some (.cells #[v, .int .i64 loose] 48 (0, 0)) := (HK1.out.trans hK).far d _ _ _ HBX.out (by omega) (by decide)
  have g0 : w2.cell? ⟨d, 0, none⟩ = some v := by simp [World.cell?, hb2]
  have g1 : w2.cell? ⟨d, 1, none⟩ = some (.int .i64 loose) := by simp [World.cell?, hb2]
  have k0 : w2.frozen? ⟨d, 0, none⟩ = false := by simp [World.frozen?, hb2]
  have k1 : w2.frozen? ⟨d, 1, none⟩ = false := by simp [World.frozen?, hb2]
  obtain ⟨a0, cp0, hv, hq⟩ := row_cut hD.row b.size (Nat.le_refl _)
  have HD2 := Lib.hid hD
  have HK2 := Lib.hid hK2
  have HB2 := Lib.hid hb2
  clear hD hK hK2 hb2 HD HK1 hq
  subst hv
  go_wp2
  go_ret
  exact ⟨rfl, ⟨_, DiskAt.build HB2.out HD2.out.row hge (Nat.zero_le _) hm⟩, (HK2.out.box hge _ _).box hge _ _⟩

set_option maxRecDepth 100000 in
set_option maxHeartbeats 4000000 in
/-- Replace, by more. -/
theorem replace_full (d : Nat) {w : World} {b : ByteArray} (hm : 200000 < b.size) (hg : Handle w) :
    Calls Tryd.prog 21 #[.pointer (some ⟨d, 0, none⟩), .string b] w fun e w' => ∃ v, e = .returned v ∧ Chain w' v [⟨#[100, 105, 115, 107, 46, 82, 101, 112, 108, 97, 99, 101]⟩] 19 ∧ Below w.heap.size w w' := by
  have hD := beside_disk 0 w (Nat.zero_le _)
  have C := append_full (b := b) hD (by show 200000 < 0 + b.size; omega)
  have HB := Lib.hid (beside_below w)
  have HG := Lib.hid (hg.later (beside_below w))
  have HW := Lib.hid (beside_why w)
  have HS := Lib.hid (beside_size w)
  clear hD hg
  go_enter Tryd.func21, Tryd.ntmps21
  go_wp2_with fail
  go_at_call 8
  refine (diskNew_any _).mono ?_
  rintro e w1 ⟨rfl, rfl⟩
  go_wp2_with fail
  go_at_call 19
  refine C.mono ?_
  rintro e w1 ⟨v, rfl, hch, hb⟩
  obtain ⟨tv, xv, rfl⟩ := hch.shape
  have hbox : w1.heap[w.heap.size + 1]? = some (.cells #[.int .i64 0] 55 (0, 0)) := by rw [hb.block _ (by have := HS.out; omega)]; exact HW.out
  have D := As_num ⟨w.heap.size + 1, 0, none⟩ (.int .i64 0) tv xv _ 19 w1 hch (HG.out.later hb) (cell_of_one hbox) (free_of_one hbox)
  have HB1 := Lib.hid (HB.out.trans (hb.mono HB.out.size))
  have HX := Lib.hid hbox
  clear hch C hb hbox
  go_wp2_with fail
  go_at_call 30
  refine D.mono ?_
  rintro e w2 ⟨rfl, w3, hb, rfl⟩
  have hbox : w3.heap[w.heap.size + 1]? = some (.cells #[.int .i64 0] 55 (0, 0)) := by rw [hb.block _ (lt_of_block HX.out)]; exact HX.out
  have hc : (w3.setCell ⟨w.heap.size + 1, 0, none⟩ (.int .i64 19)).cell? ⟨w.heap.size + 1, 0, none⟩ = some (.int .i64 19) := World.cell?_setCell_same _ _ _ (cell_of_one hbox)
  have HB3 := Lib.hid ((HB1.out.trans (hb.mono HB1.out.size)).setCell (p := ⟨w.heap.size + 1, 0, none⟩) (by simp) (.int .i64 19))
  clear hb hbox D
  generalize w3.setCell ⟨w.heap.size + 1, 0, none⟩ (.int .i64 19) = w4 at hc HB3
  go_wp2_with (go_at_call 28; refine (new_some 19 rfl _ _).mono ?_; rintro e w' ⟨rfl, rfl⟩)
  go_ret
  exact ⟨_, rfl, .fault _ _ _ _ _ (alloc_here _ _) (.num 19), HB3.out.alloc HB3.out.size _⟩
end Go.Proofs.YtckbgggocmbbdaaDoor
