/-
  The calls of package disk: Crash, Replace.
-/
import Derived.Test.YtckbgggocmbbdaaDoorDiskB
import Derived.Deep.QuietTactic
import Derived.BigQuiet
import Derived.RegionTactic
namespace Go.Proofs.YtckbgggocmbbdaaDoor
open Go.RowKit Go.Extern.Stop Go.Stop Go.Extern

/-- How many of the loose bytes stay. -/
def stay (n : Int) (loose : Nat) : Nat := (min (max n 0) (loose : Int)).toNat
theorem stay_eq (n : Int) (loose : Nat) : min (max n 0) (loose : Int) = (stay n loose : Int) := by unfold stay; omega
theorem stay_le (n : Int) (loose : Nat) : stay n loose ≤ loose := by unfold stay; omega

set_option maxRecDepth 100000 in
theorem cut_slice (a : Option Addr) (n m c : Nat) (hm : m ≤ c) (W : World) :
    (Instr.slice 46 (.slice a n c) none (some (.int .i64 m)) none).run Tryd.prog W = .ok (.slice a m c) W := by
  have h := run_slice_h (P := Tryd.prog) (w := W) 46 a n c Tryd.underlying46 .i64 (m : Int) (by omega) (by omega)
  rw [h]
  have hs : (sizeOf (Tryd.prog.elem 46)).run Tryd.prog W = .ok 1 W := by kernel_rfl
  rw [hs]
  have ha : (if c = 0 then a else a.map (·.add (0 * 1))) = a := by
    split
    · rfl
    · cases a <;> simp [Addr.add]
  simp only [Result.andThen, sliced, ha, Nat.sub_zero, Int.toNat_natCast]

set_option maxRecDepth 100000 in
set_option maxHeartbeats 4000000 in
/-- Crash. -/
theorem crash_any {base d : Nat} {w : World} {all : ByteArray} {loose : Nat} (n : Int) (h : DiskIs base d w all loose) :
    Calls Tryd.prog 18 #[.pointer (some ⟨d, 0, none⟩), .int .i64 n] w fun e w' => e = .returned (.tuple #[]) ∧ DiskIs base d w' (all.extract 0 (all.size - (loose - stay n loose))) 0 ∧ Keeps base d w w' := by
  obtain ⟨v, h⟩ := h
  obtain ⟨c0, c1, f0, f1⟩ := h.cells
  have hle := h.le
  have hms := h.most
  have hge := h.ge
  have e0 := stay_eq n loose
  have hs := stay_le n loose
  generalize stay n loose = k at e0 hs
  obtain ⟨l, hl⟩ : ∃ l, l = loose - k := ⟨_, rfl⟩
  obtain ⟨m, hm⟩ : ∃ m, m = all.size - l := ⟨_, rfl⟩
  have hml : m ≤ all.size := by omega
  obtain ⟨a0, cp0, hv, hrow, hcp⟩ := row_cut h.row m hml
  have e1 : (loose : Int) - (k : Int) = (l : Int) := by omega
  have e2 : (all.size : Int) - (l : Int) = (m : Int) := by omega
  have hcs := cut_slice a0 all.size m cp0 (by omega)
  have HM := Lib.hid hm
  have HL := Lib.hid hl
  have H := Lib.hid h
  have HR := Lib.hid hrow
  have j1 : (loose : Int) ≤ 200000 := by omega
  have j2 : (all.size : Int) ≤ 200000 := by omega
  have j3 : (l : Int) ≤ 200000 := by omega
  have j4 : (m : Int) ≤ 200000 := by omega
  clear hm hl h hrow hle hms hs hml hcp
  subst hv
  go_enter Tryd.func18, Tryd.ntmps18
  go_wp2
  go_quiet (fail)
  go_wp2
  go_region
  have hb : (w.drewN (nq + 1)).heap[d]? = some (.cells #[.slice a0 all.size cp0, .int .i64 loose] 48 (0, 0)) := H.out.box
  have hb1 := heap_setCell_same (w.drewN (nq + 1)) d 0 _ _ (.slice a0 m cp0) hb
  have hr1 : ((w.drewN (nq + 1)).setCell ⟨d, 0, none⟩ (.slice a0 m cp0)).ownsRow base 5 1 (.slice a0 m cp0) m (List.take m (byteCells all)) :=
    row_box (w := w.drewN (nq + 1)) HR.out hb (by decide)
  have hk : Keeps base d w ((w.drewN (nq + 1)).setCell ⟨d, 0, none⟩ (.slice a0 m cp0)) := Keeps.box (w := w) (w' := w.drewN (nq + 1)) ⟨⟨rfl, rfl, rfl, Nat.le_refl _, fun _ _ => rfl⟩, fun _ _ _ _ hq _ _ => hq⟩ hge _ _
  have HB1 := Lib.hid hb1
  have HR1 := Lib.hid hr1
  have HK := Lib.hid hk
  clear hb hb1 hr1 hk
  generalize (w.drewN (nq + 1)).setCell ⟨d, 0, none⟩ (.slice a0 m cp0) = w1 at HB1 HR1 HK
  go_wp2_with fail
  go_at_call 24
  refine (sync_raw HB1.out).mono ?_
  rintro e w' ⟨rfl, rfl⟩
  go_wp2
  go_end0
  have es : (all.extract 0 m).size = m := by
    have := HM.out
    rw [ByteArray.size_extract]; omega
  have hml : m ≤ 200000 := by omega
  refine ⟨rfl, ?_, HK.out.box hge _ _⟩
  rw [← HL.out, ← HM.out]
  refine ⟨_, DiskAt.loosed (all := all.extract 0 m) HB1.out ?_ hge (Nat.zero_le _) (by rw [es]; exact hml)⟩
  rw [es, ← byteCells_take]
  exact HR1.out
end Go.Proofs.YtckbgggocmbbdaaDoor
