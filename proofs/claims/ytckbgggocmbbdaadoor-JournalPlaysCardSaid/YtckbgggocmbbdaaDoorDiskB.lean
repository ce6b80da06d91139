/-
  The calls of package disk: New, Append, Sync, Bytes, Loose.
-/
import Derived.Test.YtckbgggocmbbdaaDoorDiskA
namespace Go.Proofs.YtckbgggocmbbdaaDoor
open Go.RowKit Go.Extern.Stop Go.Stop Go.Extern

theorem Tryd.infoByte : (Tryd.prog.info? 5).map (fun i => (i.zero, i.size, i.bytes)) = some (some (.int .u8 0), 1, 1) := by kernel_rfl

/-- New. -/
theorem diskNew_any (w : World) : Calls Tryd.prog 8 #[] w fun e w' => e = .returned (.pointer (some ⟨w.heap.size, 0, none⟩)) ∧ w.alloc (.cells #[.slice none 0 0, .int .i64 0] 48) = w' := by
  go_enter Tryd.func8, Tryd.ntmps8
  go_wp2
  go_ret
  exact ⟨rfl, rfl⟩
theorem newDisk (base : Nat) (w : World) (hb : base ≤ w.heap.size) : DiskIs base w.heap.size (w.alloc (.cells #[.slice none 0 0, .int .i64 0] 48)) ByteArray.empty 0 :=
  ⟨_, alloc_here _ _, World.ownsRow_nil _ _ _ _, hb, Nat.le_refl _, by decide⟩

set_option maxRecDepth 100000 in
set_option maxHeartbeats 4000000 in
/-- Append, where there is room. -/
theorem append_ok {base d : Nat} {w : World} {all b : ByteArray} {loose : Nat} (h : DiskIs base d w all loose) (hm : all.size + b.size ≤ 200000) :
    Calls Tryd.prog 19 #[.pointer (some ⟨d, 0, none⟩), .string b] w fun e w' => e = .returned .nilIface ∧ DiskIs base d w' (all ++ b) (loose + b.size) ∧ Keeps base d w w' := by
  obtain ⟨v, h⟩ := h
  obtain ⟨i0, hi, hz0, hz1, hz2⟩ := info_parts Tryd.infoByte
  have hlt := h.lt
  have hge := h.ge
  obtain ⟨v', w1, hap, hrow, hgr⟩ := run_append_own_str (P := Tryd.prog) w base 46 9 46 5 i0 (.int .u8 0) 1 Tryd.underlying46 Tryd.underlying9 hi hz0 hz1 hz2 rfl v all.size (byteCells all) h.row b (by unfold maxLen; omega) (by omega) (by omega)
  obtain ⟨c0, c1, f0, f1⟩ := h.cells
  obtain ⟨a0, cp0, hv, hq⟩ := row_cut h.row all.size (Nat.le_refl _)
  obtain ⟨a1, cp1, hv', hq'⟩ := row_cut hrow (all.size + b.size) (Nat.le_refl _)
  clear hq hq'
  have hbox : w1.heap[d]? = some (.cells #[v, .int .i64 loose] 48 (0, 0)) := by
    rw [hgr.block d hlt (fun e => h.apart e.symm)]; exact h.box
  have K := Keeps.grown h (by omega) hgr
  have g0 : w1.cell? ⟨d, 0, none⟩ = some v := by simp [World.cell?, hbox]
  have g1 : w1.cell? ⟨d, 1, none⟩ = some (.int .i64 loose) := by simp [World.cell?, hbox]
  have k0 : w1.frozen? ⟨d, 0, none⟩ = false := by simp [World.frozen?, hbox]
  have k1 : w1.frozen? ⟨d, 1, none⟩ = false := by simp [World.frozen?, hbox]
  have hle := h.le
  have j1 : ¬ (200000 : Int) - (all.size : Int) < (b.size : Int) := by omega
  have j2 : (loose : Int) + (b.size : Int) ≤ 200000 := by omega
  have H := Lib.hid h
  have HB := Lib.hid hbox
  have HR := Lib.hid hrow
  have HK := Lib.hid K
  have HAP := Lib.hid hap
  clear h hbox hrow K hgr hi hz0 hz1 hz2 hap
  subst hv hv'
  go_enter Tryd.func19, Tryd.ntmps19
  go_wp2_with (at_builtin; refine wpList_append_run rfl (.tmp 19) (.tmp 20) 46 9 rfl _ _ rfl rfl HAP.out ?_)
  go_ret
  have hk := HK.out
  refine ⟨rfl, ⟨_, DiskAt.build (all := all ++ b) HB.out ?_ hge ?_ ?_⟩, (hk.box hge _ _).box hge _ _⟩
  · rw [byteCells_append, ByteArray.size_append]; exact HR.out
  · rw [ByteArray.size_append]; omega
  · rw [ByteArray.size_append]; exact hm

set_option maxRecDepth 100000 in
set_option maxHeartbeats 4000000 in
/-- Append, where there is none. -/
theorem append_full {base d : Nat} {w : World} {all b : ByteArray} {loose : Nat} (h : DiskIs base d w all loose) (hm : 200000 < all.size + b.size) :
    Calls Tryd.prog 19 #[.pointer (some ⟨d, 0, none⟩), .string b] w fun e w' => ∃ v, e = .returned v ∧ Chain w' v [⟨#[100, 105, 115, 107, 46, 65, 112, 112, 101, 110, 100]⟩] 19 ∧ Below w.heap.size w w' := by
  obtain ⟨v, h⟩ := h
  obtain ⟨c0, c1, f0, f1⟩ := h.cells
  obtain ⟨a0, cp0, hv, hq⟩ := row_cut h.row all.size (Nat.le_refl _)
  have hle := h.most
  have j1 : (200000 : Int) - (all.size : Int) < (b.size : Int) := by omega
  clear h hq
  subst hv
  go_enter Tryd.func19, Tryd.ntmps19
  go_wp2_with (go_at_call 28; refine (new_some 19 rfl _ _).mono ?_; rintro e w' ⟨rfl, rfl⟩)
  go_ret
  exact ⟨_, rfl, .fault _ _ _ _ _ (alloc_here _ _) (.num 19), (Below.refl _ _).alloc (Nat.le_refl _) _⟩

/-- Sync: of whatever box. -/
theorem sync_raw {d : Nat} {w : World} {v l0 : Value} (hb : w.heap[d]? = some (.cells #[v, l0] 48 (0, 0))) :
    Calls Tryd.prog 24 #[.pointer (some ⟨d, 0, none⟩)] w fun e w' => e = .returned (.tuple #[]) ∧ w.setCell ⟨d, 1, none⟩ (.int .i64 0) = w' := by
  have c1 : w.cell? ⟨d, 1, none⟩ = some l0 := by simp [World.cell?, hb]
  have f1 : w.frozen? ⟨d, 1, none⟩ = false := by simp [World.frozen?, hb]
  clear hb
  go_enter Tryd.func24, Tryd.ntmps24
  go_wp2
  go_end0
  exact ⟨rfl, rfl⟩
theorem sync_any {base d : Nat} {w : World} {all : ByteArray} {loose : Nat} (h : DiskIs base d w all loose) :
    Calls Tryd.prog 24 #[.pointer (some ⟨d, 0, none⟩)] w fun e w' => e = .returned (.tuple #[]) ∧ DiskIs base d w' all 0 ∧ Keeps base d w w' := by
  obtain ⟨v, h⟩ := h
  refine (sync_raw h.box).mono ?_
  rintro e w' ⟨rfl, rfl⟩
  exact ⟨rfl, ⟨_, DiskAt.loosed h.box h.row h.ge (Nat.zero_le _) h.most⟩, (Keeps.refl _ _ _).box h.ge _ _⟩

/-- Bytes. -/
theorem bytes_any {base d : Nat} {w : World} {all : ByteArray} {loose : Nat} (h : DiskIs base d w all loose) :
    Calls Tryd.prog 17 #[.pointer (some ⟨d, 0, none⟩)] w fun e w' => e = .returned (.string all) ∧ w = w' := by
  obtain ⟨v, h⟩ := h
  obtain ⟨c0, c1, f0, f1⟩ := h.cells
  have ht := h.text
  obtain ⟨a0, cp0, hv, hq⟩ := row_cut h.row all.size (Nat.le_refl _)
  clear h hq
  subst hv
  go_enter Tryd.func17, Tryd.ntmps17
  go_wp2
  go_ret
  exact ⟨rfl, rfl⟩

/-- Loose. -/
theorem loose_any {base d : Nat} {w : World} {all : ByteArray} {loose : Nat} (h : DiskIs base d w all loose) :
    Calls Tryd.prog 12 #[.pointer (some ⟨d, 0, none⟩)] w fun e w' => e = .returned (.int .i64 loose) ∧ w = w' := by
  obtain ⟨v, h⟩ := h
  obtain ⟨c0, c1, f0, f1⟩ := h.cells
  clear h
  go_enter Tryd.func12, Tryd.ntmps12
  go_wp2
  go_ret
  exact ⟨rfl, rfl⟩
end Go.Proofs.YtckbgggocmbbdaaDoor
