/-
  The known case that each statement of the layer asks first.
-/
import Derived.Test.YtaljaibkmhnleaaDoorDiskD
namespace Go.Proofs.YtaljaibkmhnleaaDoor
open Go.RowKit Go.Extern.Stop Go.Stop Go.Extern

theorem crash_to {base d : Nat} {w : World} {all r : ByteArray} {loose : Nat} (n : Int) (h : DiskIs base d w all loose) (hr : all.extract 0 (all.size - (loose - stay n loose)) = r) :
    Calls Tryd.prog 11 #[.pointer (some ⟨d, 0, none⟩), .int .i64 n] w fun e w' => e = .returned (.tuple #[]) ∧ DiskIs base d w' r 0 ∧ Keeps base d w w' := by
  have C := crash_any n h
  rw [hr] at C
  exact C
theorem append_to {base d : Nat} {w : World} {all b r : ByteArray} {loose : Nat} (h : DiskIs base d w all loose) (hr : all ++ b = r) (hm : all.size + b.size ≤ 200000) :
    Calls Tryd.prog 8 #[.pointer (some ⟨d, 0, none⟩), .string b] w fun e w' => e = .returned .nilIface ∧ DiskIs base d w' r (loose + b.size) ∧ Keeps base d w w' := by
  have C := append_ok h hm
  rw [hr] at C
  exact C

set_option maxRecDepth 100000 in
set_option maxHeartbeats 4000000 in
theorem known_true (w : World) : Calls Tryd.prog 6 #[] w fun e w' => e = .returned (.bool true) ∧ Below w.heap.size w w' := by
  go_enter Tryd.func6, Tryd.ntmps6
  go_wp2_with fail
  go_at_call 7
  refine (diskNew_any _).mono ?_
  rintro e w1 ⟨rfl, rfl⟩
  have hD := newDisk w.heap.size w (Nat.le_refl _)
  have hK : Keeps w.heap.size w.heap.size w (w.alloc (.cells #[.slice none 0 0, .int .i64 0] 43)) := Keeps.of_below ((Below.refl _ _).alloc (Nat.le_refl _) _) (Nat.le_refl _)
  have HD := Lib.hid hD
  have HK := Lib.hid hK
  clear hD hK
  go_wp2_with fail
  go_at_call 8
  refine (append_to (r := ⟨#[97, 98]⟩) HD.out (by decide +kernel) (by decide +kernel)).mono ?_
  rintro e w2 ⟨rfl, hD, hK⟩
  have HD1 := Lib.hid hD
  have HK1 := Lib.hid (HK.out.trans hK)
  clear hD hK HD HK
  go_wp2_with fail
  go_at_call 9
  refine (sync_any HD1.out).mono ?_
  rintro e w3 ⟨rfl, hD, hK⟩
  have HD2 := Lib.hid hD
  have HK2 := Lib.hid (HK1.out.trans hK)
  clear hD hK HD1 HK1
  go_wp2_with fail
  go_at_call 8
  refine (append_to (r := ⟨#[97, 98, 99, 100]⟩) HD2.out (by decide +kernel) (by decide +kernel)).mono ?_
  rintro e w4 ⟨rfl, hD, hK⟩
  have HD3 := Lib.hid (show DiskIs w.heap.size w.heap.size w4 ⟨#[97, 98, 99, 100]⟩ 2 from hD)
  have HK3 := Lib.hid (HK2.out.trans hK)
  clear hD hK HD2 HK2
  go_wp2_with fail
  go_at_call 13
  refine (loose_any HD3.out).mono ?_
  rintro e w5 ⟨rfl, rfl⟩
  go_wp2_with fail
  go_at_call 11
  refine (crash_to (r := ⟨#[97, 98, 99]⟩) 1 HD3.out (by decide +kernel)).mono ?_
  rintro e w5 ⟨rfl, hD, hK⟩
  have HD4 := Lib.hid hD
  have HK4 := Lib.hid (HK3.out.trans hK)
  clear hD hK HD3 HK3
  go_wp2_with fail
  go_at_call 12
  refine (bytes_any HD4.out).mono ?_
  rintro e w6 ⟨rfl, rfl⟩
  go_wp2_with fail
  go_at_call 10
  refine (replace_ok (b := ⟨#[122]⟩) HD4.out (by decide +kernel)).mono ?_
  rintro e w6 ⟨rfl, hD, hK⟩
  have HD5 := Lib.hid hD
  have HK5 := Lib.hid (HK4.out.trans hK)
  clear hD hK HD4 HK4
  go_wp2_with fail
  go_at_call 13
  refine (loose_any HD5.out).mono ?_
  rintro e w7 ⟨rfl, rfl⟩
  go_wp2_with fail
  go_at_call 12
  refine (bytes_any HD5.out).mono ?_
  rintro e w7 ⟨rfl, rfl⟩
  go_wp2
  go_ret
  exact ⟨rfl, HK5.out.below⟩
end Go.Proofs.YtaljaibkmhnleaaDoor
