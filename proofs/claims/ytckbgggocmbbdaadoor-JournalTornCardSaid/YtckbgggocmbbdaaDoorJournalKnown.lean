/-
  The known case that each statement of the layer asks first; a journal by its records.
-/
import Derived.Test.YtckbgggocmbbdaaDoorJournal
namespace Go.Proofs.YtckbgggocmbbdaaDoor
open Go.RowKit Go.Extern.Stop Go.Stop Go.Extern

theorem framesOf_one (ts : List ByteArray) (s : ByteArray) : framesOf (ts ++ [s]) = framesOf ts ++ framed s := by
  rw [framesOf_append]
  simp [framesOf]
/-- Behind these frames so few bytes are no frame. -/
theorem openL_few (p q : ByteArray) (h : q.size < 4) : openL (p ++ q) p.size = .err 11 := by
  unfold openL
  rw [if_pos (by rw [ByteArray.size_append]; omega)]

/-- Add, by the records. -/
theorem add_rec {base d j : Nat} {w : World} {ts : List ByteArray} {s : ByteArray} {loose : Nat} (h : DiskIs base d w (framesOf ts) loose) (hj : JournalAt j d w) (hbase : base ≤ w.heap.size) (hm : (framesOf ts).size + (framed s).size ≤ 200000) :
    Calls Tryd.prog 10 #[.pointer (some ⟨j, 0, none⟩), .string s] w fun e w' => e = .returned .nilIface ∧ DiskIs base d w' (framesOf (ts ++ [s])) (loose + (framed s).size) ∧ Keeps base d w w' ∧ JournalAt j d w' := by
  rw [framesOf_one]
  exact add_ok h hj hbase hm
/-- A new disk is a disk of no records. -/
theorem newRecs (base : Nat) (w : World) (hb : base ≤ w.heap.size) : DiskIs base w.heap.size (w.alloc (.cells #[.slice none 0 0, .int .i64 0] 48)) (framesOf []) 0 := newDisk base w hb
/-- A crash, by the bytes. -/
theorem crash_rec {base d : Nat} {w : World} {all r : ByteArray} {loose : Nat} (n : Int) (h : DiskIs base d w all loose) (hr : all.extract 0 (all.size - (loose - stay n loose)) = r) :
    Calls Tryd.prog 18 #[.pointer (some ⟨d, 0, none⟩), .int .i64 n] w fun e w' => e = .returned (.tuple #[]) ∧ DiskIs base d w' r 0 ∧ Keeps base d w w' := by
  have C := crash_any n h
  rw [hr] at C
  exact C

theorem bytes_below {base d : Nat} {w : World} {all r : ByteArray} {loose : Nat} (h : DiskIs base d w all loose) (hr : all = r) : Calls Tryd.prog 17 #[.pointer (some ⟨d, 0, none⟩)] w fun e w' => e = .returned (.string r) ∧ Below w.heap.size w w' := by
  subst hr
  refine (bytes_any h).mono ?_
  rintro e w' ⟨rfl, rfl⟩
  exact ⟨rfl, Below.refl _ _⟩

set_option maxRecDepth 100000 in
set_option maxHeartbeats 8000000 in
theorem known_true (a : Addr) (w : World) (hg : Handle w) (ho : OnErr w a) : Calls Tryd.prog 7 #[] w fun e w' => e = .returned (.bool true) ∧ Below w.heap.size w w' := by
  have HG := Lib.hid hg
  have HO := Lib.hid ho
  clear hg ho
  go_enter Tryd.func7, Tryd.ntmps7
  go_wp2_with fail
  go_at_call 8
  refine (diskNew_any _).mono ?_
  rintro e w1 ⟨rfl, rfl⟩
  have hD := newRecs w.heap.size w (Nat.le_refl _)
  have hB : Below w.heap.size w (w.alloc (.cells #[.slice none 0 0, .int .i64 0] 48)) := (Below.refl _ _).alloc (Nat.le_refl _) _
  have HD := Lib.hid hD
  have HB := Lib.hid hB
  clear hD hB
  generalize w.alloc (.cells #[.slice none 0 0, .int .i64 0] 48) = w1 at HD HB
  obtain ⟨d, hd⟩ : ∃ d, d = w.heap.size := ⟨_, rfl⟩
  rw [show (⟨w.heap.size, 0, none⟩ : Addr) = ⟨d, 0, none⟩ by rw [hd]]
  have HD := Lib.hid (show DiskIs w.heap.size d w1 (framesOf []) 0 by rw [hd]; exact HD.out)
  clear hd
  go_wp2_with fail
  go_at_call 9
  refine (open_whole HD.out (HG.out.later HB.out) (HO.out.later HB.out) HB.out.size).mono ?_
  rintro e w2 ⟨j, sv, rfl, hj, hr, hD, hb⟩
  obtain ⟨p, c, hs⟩ := hr.shape
  subst hs
  have HJ := Lib.hid hj
  have HD2 := Lib.hid hD
  have HK2 := Lib.hid ((Keeps.of_below (d := d) HB.out (Nat.le_refl _)).trans (Keeps.of_below hb HB.out.size))
  clear hj hr hD hb HD HB
  go_wp2_with fail
  go_at_call 10
  refine (add_rec (s := ⟨#[97]⟩) HD2.out HJ.out HK2.out.size (by decide +kernel)).mono ?_
  rintro e w3 ⟨rfl, hD, hK, hj⟩
  have HD3 := Lib.hid hD
  have HK3 := Lib.hid (HK2.out.trans hK)
  have HJ3 := Lib.hid hj
  clear hD hK hj HD2 HK2 HJ
  go_wp2_with fail
  go_at_call 11
  refine (jsync_any HD3.out HJ3.out).mono ?_
  rintro e w4 ⟨rfl, hD, hK, hj⟩
  have HD4 := Lib.hid hD
  have HK4 := Lib.hid (HK3.out.trans hK)
  have HJ4 := Lib.hid hj
  clear hD hK hj HD3 HK3 HJ3
  go_wp2_with fail
  go_at_call 10
  refine (add_rec (s := ⟨#[98]⟩) HD4.out HJ4.out HK4.out.size (by decide +kernel)).mono ?_
  rintro e w5 ⟨rfl, hD, hK, hj⟩
  have HD5 := Lib.hid hD
  have HK5 := Lib.hid (HK4.out.trans hK)
  have HJ5 := Lib.hid hj
  clear hD hK hj HD4 HK4 HJ4
  go_wp2_with fail
  go_at_call 16
  refine (len_any HD5.out HJ5.out (HG.out.later HK5.out.below) (HO.out.later HK5.out.below)).mono ?_
  rintro e w6 ⟨rfl, hb⟩
  have HD6 := Lib.hid (HD5.out.later hb)
  have HK6 := Lib.hid (HK5.out.trans (Keeps.of_below hb HK5.out.size))
  clear hb HD5 HK5 HJ5
  go_wp2_with fail
  go_at_call 18
  refine (crash_rec (r := framesOf [⟨#[97]⟩] ++ ⟨#[170, 183, 116]⟩) 3 HD6.out (by decide +kernel)).mono ?_
  rintro e w7 ⟨rfl, hD, hK⟩
  have HD7 := Lib.hid hD
  have HK7 := Lib.hid (HK6.out.trans hK)
  clear hD hK HD6 HK6
  go_wp2_with fail
  go_at_call 9
  refine (open_torn HD7.out (by decide) (openL_few _ _ (by decide)) (HG.out.later HK7.out.below) (HO.out.later HK7.out.below) HK7.out.size).mono ?_
  rintro e w8 ⟨k, sv, rfl, hj, hr, hD, hK⟩
  obtain ⟨g, cap, hs, _, hgl⟩ := World.ownsRow.form hr (by decide)
  subst hs
  have c0 : w8.cell? ⟨g, 0, none⟩ = some (.string ⟨#[97]⟩) := by
    have h := World.ownsRow.cells hr rfl 0 _ rfl
    rw [add_at] at h; exact h
  have HK8 := Lib.hid (HK7.out.trans hK)
  have HJ8 := Lib.hid hj
  have HD8 := Lib.hid hD
  clear hj hr hD hK HD7 HK7
  have L := len_any HD8.out HJ8.out (HG.out.later HK8.out.below) (HO.out.later HK8.out.below)
  have R := fun W => refWrap_any ⟨#[97]⟩ W (by decide)
  have B := fun W (hb : Below w8.heap.size w8 W) => bytes_below (r := framed ⟨#[97]⟩) (HD8.out.later hb) (by decide +kernel)
  generalize framed ⟨#[97]⟩ = r at B R
  go_wp2_with fail
  go_at_call 16
  ((with_reducible refine L.mono ?_); rintro e w9 ⟨rfl, hb⟩)
  have B9 := B _ hb
  have HK9 := Lib.hid (HK8.out.below.trans (hb.mono HK8.out.size))
  clear hb B L c0
  go_wp2_with fail
  go_at_call 17
  ((with_reducible refine B9.mono ?_); rintro e w10 ⟨rfl, hb⟩)
  have HK10 := Lib.hid (HK9.out.trans (hb.mono HK9.out.size))
  clear hb B9
  go_wp2_with fail
  go_at_call 15
  ((with_reducible refine (R _).mono ?_); rintro e w11 ⟨rfl, hb⟩)
  go_wp2
  go_ret
  exact ⟨rfl, HK10.out.trans (hb.mono HK10.out.size)⟩
end Go.Proofs.YtckbgggocmbbdaaDoor
