/-
  strconv.Itoa of a number from 100 to 255, whatever its table of powers holds: two calls answer the same text.
-/
import Derived.Test.YtcblodlfijbjeaaDoorSame
import Derived.Test.YtcblodlfijbjeaaDoorShelf2
import Derived.Lib.ItoaWalk
import Derived.Lib.ItoaMem
import Derived.RegionTactic
import Derived.BigRegion
namespace Go.Proofs.YtcblodlfijbjeaaDoor
open Go.RowKit Go.Extern.Stop Go.Stop Go.Extern Go.Lib Go.Sort

theorem two_digits : ∀ u : Nat, u < 256 → 100 ≤ u → Lib.l10 (Lib.bitLen u) = 2 := by decide +kernel
theorem few_bits : ∀ u : Nat, u < 256 → 100 ≤ u → Lib.bitLen u ≤ 64 := by decide +kernel

/-- The table's entry that is looked at. -/
def Entry (w : World) (x : Int) : Prop := w.cell? ⟨1, 2, none⟩ = some (.int .u64 x)
theorem Entry.later {w w' : World} {x : Int} (h : Entry w x) (hb : Below w.heap.size w w') : Entry w' x := by
  have h' : w.cell? ⟨1, 2, none⟩ = _ := h
  show w'.cell? _ = _
  rw [hb.cell (lt_of_cell h')]; exact h'

theorem numDigits_3 (u : Nat) (x : Int) (w : World) (h0 : 100 ≤ u) (h1 : u < 256) (hx : Entry w x) (hle : x ≤ (u : Int)) :
    Calls Tryd.prog 32 #[.int .u64 (u : Int)] w fun e w' => e = .returned (.int .i64 3) ∧ w = w' := by
  have hx' : w.cell? ⟨1, 2, none⟩ = some (.int .u64 x) := hx
  have C1 := Tryd.bits_Len64 (u : Int) w (by omega) (by omega)
  have C2 := Tryd.internal_strconv_log10Pow2 (Lib.bitLen u) (few_bits u h1 h0) w
  rw [two_digits u h1 h0] at C2
  rw [Int.toNat_natCast] at C1
  generalize Lib.bitLen u = bl at C1 C2
  clear hx
  go_enter Tryd.func32, Tryd.ntmps32
  go_wp2_with fail
  go_at_call 36
  ((with_reducible refine C1.mono ?_); rintro e w' ⟨rfl, rfl⟩)
  go_wp2_with fail
  go_at_call 35
  ((with_reducible refine C2.mono ?_); rintro e w' ⟨rfl, rfl⟩)
  go_wp2_with fail
  go_at_call 37
  ((with_reducible refine (Tryd.internal_strconv_bool2_int _ _).mono ?_); rintro e w' ⟨rfl, rfl⟩)
  go_wp2
  go_ret
  exact ⟨rfl, rfl⟩
theorem numDigits_2 (u : Nat) (x : Int) (w : World) (h0 : 100 ≤ u) (h1 : u < 256) (hx : Entry w x) (hle : (u : Int) < x) :
    Calls Tryd.prog 32 #[.int .u64 (u : Int)] w fun e w' => e = .returned (.int .i64 2) ∧ w = w' := by
  have hx' : w.cell? ⟨1, 2, none⟩ = some (.int .u64 x) := hx
  have C1 := Tryd.bits_Len64 (u : Int) w (by omega) (by omega)
  have C2 := Tryd.internal_strconv_log10Pow2 (Lib.bitLen u) (few_bits u h1 h0) w
  rw [two_digits u h1 h0] at C2
  rw [Int.toNat_natCast] at C1
  generalize Lib.bitLen u = bl at C1 C2
  clear hx
  go_enter Tryd.func32, Tryd.ntmps32
  go_wp2_with fail
  go_at_call 36
  ((with_reducible refine C1.mono ?_); rintro e w' ⟨rfl, rfl⟩)
  go_wp2_with fail
  go_at_call 35
  ((with_reducible refine C2.mono ?_); rintro e w' ⟨rfl, rfl⟩)
  go_wp2_with fail
  go_at_call 37
  ((with_reducible refine (Tryd.internal_strconv_bool2_int _ _).mono ?_); rintro e w' ⟨rfl, rfl⟩)
  go_wp2
  go_ret
  exact ⟨rfl, rfl⟩

set_option maxHeartbeats 3200000 in
set_option maxRecDepth 100000 in
theorem format_2 (blk off cap u : Nat) (d : Array UInt8) (w : World) (hd : d.size = 2) (hH : Holds (fun (b : UInt8) => Value.int .u8 (b.toNat : Int)) w blk off d) (h1 : u < 256) :
    Calls Tryd.prog 33 #[.slice (some ⟨blk, off, none⟩) 2 cap, .int .u64 (u : Int)] w fun e w' =>
      e = .returned (.tuple #[]) ∧ (putRow (fun (b : UInt8) => Value.int .u8 (b.toNat : Int)) w blk off ((d.setIfInBounds 1 (sm (u % 100 * 2 + 1))).setIfInBounds 0 (sm (u % 100 * 2)))).drewN 1 = w' := by
  obtain ⟨c0, f0⟩ := hH 0 (by omega)
  obtain ⟨c1, f1⟩ := hH 1 (by omega)
  rw [Nat.add_zero] at c0 f0
  have hself := putRow_self _ _ _ _ _ hH
  have HS := Lib.hid hself
  have HD := Lib.hid hd
  clear hH hself hd
  go_enter Tryd.func33, Tryd.ntmps33
  go_name_bytes SM hSM
  have eSM : SM = Lib.smalls := by rw [← hSM]; decide +kernel
  subst eSM
  clear hSM
  go_wp2
  refine wp_loop_rounds 1 ?_
  rw [rounds_succ]
  go_wp2
  go_name_slot 16 x0 hx0
  have hxe0 : x0 = ((u % 100 * 2 : Nat) : Int) := by omega
  have hXa0 : ∀ w, (Instr.index 9 (.string Lib.smalls) (.int .u32 (x0 + 1))).run Tryd.prog w = .ok (.int .u8 ((sm (u % 100 * 2 + 1)).toNat : Int)) w := idx_smalls 9 Tryd.underlying9 .u32 _ _ (by omega) (by omega)
  have hXb0 : ∀ w, (Instr.index 9 (.string Lib.smalls) (.int .u32 x0)).run Tryd.prog w = .ok (.int .u8 ((sm (u % 100 * 2)).toNat : Int)) w := idx_smalls 9 Tryd.underlying9 .u32 _ _ (by omega) (by omega)
  have hlo0 : 0 ≤ x0 := by omega
  have hhi0 : x0 ≤ 198 := by omega
  clear hx0 hxe0
  go_region
  go_wp2
  go_end0
  refine ⟨rfl, ?_⟩
  have h := store2_world w blk off d 0 1 0 (sm (u % 100 * 2 + 1)) (sm (u % 100 * 2)) (by rw [HD.out]; decide) (by rw [HD.out]; decide)
  rw [HS.out] at h
  exact h.symm

set_option maxHeartbeats 6400000 in
set_option maxRecDepth 100000 in
theorem formatInt_2 (u : Nat) (x : Int) (w : World) (h0 : 100 ≤ u) (h1 : u < 256) (hx : Entry w x) (hlt : (u : Int) < x) :
    Calls Tryd.prog 29 #[.int .i64 (u : Int), .int .i64 10] w fun e w' => e = .returned (.string ⟨#[sm (u % 100 * 2), sm (u % 100 * 2 + 1)]⟩) ∧ Below w.heap.size w w' := by
  have hal : Tryd.prog.arrayLen 81 = 24 := by simp [Program.arrayLen, Tryd.underlying81]
  have hsl1 : ∀ W, (Instr.sliceAt 81 (.pointer (some ⟨w.heap.size, 0, none⟩)) (some (.int .i64 1)) (some (.int .i64 3)) none).run Tryd.prog W = .ok (.slice (some ⟨w.heap.size, 1, none⟩) 2 23) W := fun W => by
    rw [run_sliceAt_array_lh W 81 ⟨w.heap.size, 0, none⟩ (by simp [Program.arrayLen, Program.elem, Tryd.underlying81]) .i64 .i64 1 3 (by omega) (by omega) (by rw [hal]; omega)]
    go_simp
  have hH0 := Lib.holds_zero w 81 2 (by omega)
  have hfmt := format_2 w.heap.size 1 23 u (Array.replicate 2 0) (w.alloc (.cells Lib.zeros24 81)) (by rw [Array.size_replicate]) hH0 h1
  have hx2 : Entry (w.alloc (.cells Lib.zeros24 81)) x := hx.later ((Below.refl _ _).alloc (Nat.le_refl _) _)
  have HX := Lib.hid hx2
  have HH0 := Lib.hid hH0
  have i1 : (100 : Int) ≤ (u : Int) := by omega
  have i2 : (u : Int) < 256 := by omega
  clear hx hx2 hH0 hal
  go_enter Tryd.func29, Tryd.ntmps29
  go_wp2_with fail
  go_at_call 32
  ((refine (numDigits_2 u x _ h0 h1 HX.out hlt).mono ?_); rintro e w' ⟨rfl, rfl⟩)
  go_wp2_with fail
  go_at_call 33
  ((refine hfmt.mono ?_); rintro e w' ⟨rfl, rfl⟩)
  have hcv : (convert 85 9 (.slice (some ⟨w.heap.size, 1, none⟩) 2 23)).run Tryd.prog ((putRow (fun (b : UInt8) => Value.int .u8 (b.toNat : Int)) (w.alloc (.cells Lib.zeros24 81)) w.heap.size 1 (((Array.replicate 2 0).setIfInBounds 1 (sm (u % 100 * 2 + 1))).setIfInBounds 0 (sm (u % 100 * 2)))).drewN 1) = .ok (.string ⟨#[sm (u % 100 * 2), sm (u % 100 * 2 + 1)]⟩) ((putRow (fun (b : UInt8) => Value.int .u8 (b.toNat : Int)) (w.alloc (.cells Lib.zeros24 81)) w.heap.size 1 (((Array.replicate 2 0).setIfInBounds 1 (sm (u % 100 * 2 + 1))).setIfInBounds 0 (sm (u % 100 * 2)))).drewN 1) := by
    refine run_convert_bytes_back (P := Tryd.prog) _ 85 9 5 ⟨w.heap.size, 1, none⟩ 23 [sm (u % 100 * 2), sm (u % 100 * 2 + 1)] Tryd.underlying85 Tryd.underlying5 Tryd.underlying9 (fun j hj => ?_)
    rw [Lib.add_plain, World.cell?_drewN]
    have hj' : j < 2 := by simpa using hj
    rw [cell?_putRow (fun (b : UInt8) => Value.int .u8 (b.toNat : Int)) _ w.heap.size 1 _ _ HH0.out (by simp) j (by simpa using hj')]
    rcases j with _ | _ | j
    · rfl
    · rfl
    · omega
  go_wp2
  go_ret
  obtain ⟨os, eo⟩ := Lib.fin_pos w (.cells Lib.zeros24 81) (((Array.replicate 2 0).setIfInBounds 1 (sm (u % 100 * 2 + 1))).setIfInBounds 0 (sm (u % 100 * 2))) 1
  refine ⟨rfl, ?_⟩
  rw [eo]
  exact below_grow (below_drewN (Below.refl _ _) 1) (by simp) os
theorem three_digits : ∀ u : Nat, u < 256 → 100 ≤ u → Lib.nDigits u = 3 := by decide +kernel

set_option maxHeartbeats 6400000 in
set_option maxRecDepth 100000 in
theorem formatInt_3 (u : Nat) (x : Int) (w : World) (h0 : 100 ≤ u) (h1 : u < 256) (hx : Entry w x) (hlt : x ≤ (u : Int)) :
    Calls Tryd.prog 29 #[.int .i64 (u : Int), .int .i64 10] w fun e w' => e = .returned (.string ⟨(Lib.decDigits u).toArray⟩) ∧ Below w.heap.size w w' := by
  have e3 := three_digits u h1 h0
  have hal : Tryd.prog.arrayLen 81 = 24 := by simp [Program.arrayLen, Tryd.underlying81]
  have hsl1 : ∀ W, (Instr.sliceAt 81 (.pointer (some ⟨w.heap.size, 0, none⟩)) (some (.int .i64 1)) (some (.int .i64 4)) none).run Tryd.prog W = .ok (.slice (some ⟨w.heap.size, 1, none⟩) 3 23) W := fun W => by
    rw [run_sliceAt_array_lh W 81 ⟨w.heap.size, 0, none⟩ (by simp [Program.arrayLen, Program.elem, Tryd.underlying81]) .i64 .i64 1 4 (by omega) (by omega) (by rw [hal]; omega)]
    go_simp
  have hH0 := Lib.holds_zero w 81 3 (by omega)
  have hfmt := Tryd.internal_strconv_formatBase10 w.heap.size 1 23 u (Array.replicate 3 0) (w.alloc (.cells Lib.zeros24 81)) hH0 (by rw [Array.size_replicate]; omega) (by omega) (by rw [Array.size_replicate]; omega)
  rw [Array.size_replicate] at hfmt
  have hx2 : Entry (w.alloc (.cells Lib.zeros24 81)) x := hx.later ((Below.refl _ _).alloc (Nat.le_refl _) _)
  have HX := Lib.hid hx2
  have HH0 := Lib.hid hH0
  have E3 := Lib.hid e3
  have i1 : (100 : Int) ≤ (u : Int) := by omega
  have i2 : (u : Int) < 256 := by omega
  clear hx hx2 hH0 hal e3
  go_enter Tryd.func29, Tryd.ntmps29
  go_wp2_with fail
  go_at_call 32
  ((refine (numDigits_3 u x _ h0 h1 HX.out hlt).mono ?_); rintro e w' ⟨rfl, rfl⟩)
  go_wp2_with fail
  go_at_call 33
  ((refine hfmt.mono ?_); rintro e w' ⟨rfl, k, v', dk, rfl, hF⟩)
  have hlen : (Lib.decDigits u).length = 3 := by rw [Lib.decDigits_length]; exact E3.out
  have hcv : (convert 85 9 (.slice (some ⟨w.heap.size, 1, none⟩) 3 23)).run Tryd.prog ((putRow (fun (b : UInt8) => Value.int .u8 (b.toNat : Int)) (w.alloc (.cells Lib.zeros24 81)) w.heap.size 1 dk).drewN k) = .ok (.string ⟨(Lib.decDigits u).toArray⟩) ((putRow (fun (b : UInt8) => Value.int .u8 (b.toNat : Int)) (w.alloc (.cells Lib.zeros24 81)) w.heap.size 1 dk).drewN k) := by
    have h := run_convert_bytes_back (P := Tryd.prog) ((putRow (fun (b : UInt8) => Value.int .u8 (b.toNat : Int)) (w.alloc (.cells Lib.zeros24 81)) w.heap.size 1 dk).drewN k) 85 9 5 ⟨w.heap.size, 1, none⟩ 23 (Lib.decDigits u) Tryd.underlying85 Tryd.underlying5 Tryd.underlying9 (fun j hj => by
      have hF' : FmtInv (Lib.nDigits u) u 0 v' dk := by rw [E3.out]; exact hF
      rw [Lib.row_is_numeral hF' j hj, Lib.add_plain, World.cell?_drewN]
      exact cell?_putRow (fun (b : UInt8) => Value.int .u8 (b.toNat : Int)) _ w.heap.size 1 _ dk HH0.out (by rw [hF.size, Array.size_replicate]) j (by rw [hF.size]; omega))
    rw [hlen] at h
    exact h
  have HF := Lib.hid hF
  clear hF hlen
  go_wp2
  go_ret
  obtain ⟨os, eo⟩ := Lib.fin_pos w (.cells Lib.zeros24 81) dk k
  refine ⟨rfl, ?_⟩
  rw [eo]
  exact below_grow (below_drewN (Below.refl _ _) k) (by simp) os

/-- The text that strconv.Itoa answers of u, where its table's entry is x. -/
def oddText (u : Nat) (x : Int) : ByteArray := if x ≤ (u : Int) then ⟨(Lib.decDigits u).toArray⟩ else ⟨#[sm (u % 100 * 2), sm (u % 100 * 2 + 1)]⟩
theorem formatInt_any (u : Nat) (x : Int) (w : World) (h0 : 100 ≤ u) (h1 : u < 256) (hx : Entry w x) :
    Calls Tryd.prog 29 #[.int .i64 (u : Int), .int .i64 10] w fun e w' => e = .returned (.string (oddText u x)) ∧ Below w.heap.size w w' := by
  unfold oddText
  by_cases h : x ≤ (u : Int)
  · rw [if_pos h]; exact formatInt_3 u x w h0 h1 hx h
  · rw [if_neg h]; exact formatInt_2 u x w h0 h1 hx (by omega)
theorem oddText_short (u : Nat) (x : Int) (h0 : 100 ≤ u) (h1 : u < 256) : (oddText u x).size ≤ 30 := by
  have e : (Lib.decDigits u).length = 3 := by rw [Lib.decDigits_length]; exact three_digits u h1 h0
  unfold oddText
  split
  · simp [ByteArray.size, e]
  · simp [ByteArray.size]
theorem itoaIs_odd (u : Nat) (x : Int) (w : World) (h0 : 100 ≤ u) (h1 : u < 256) (hx : Entry w x) : ItoaIs w (u : Int) (oddText u x) := fun w' hb => by
  have C := formatInt_any u x w' h0 h1 (hx.later hb)
  generalize oddText u x = t at C
  have C24 : Calls Tryd.prog 24 #[.int .i64 (u : Int)] w' fun e w'' => e = .returned (.string t) ∧ Below w'.heap.size w' w'' := by
    clear hb
    go_enter Tryd.func24, Tryd.ntmps24
    go_wp2_with (go_at_call 29; (with_reducible refine C.mono ?_); rintro e w2 ⟨rfl, hb2⟩)
    go_ret
    exact ⟨rfl, hb2⟩
  clear hb C
  go_enter Tryd.func15, Tryd.ntmps15
  go_wp2_with (go_at_call 24; (with_reducible refine C24.mono ?_); rintro e w2 ⟨rfl, hb2⟩)
  go_ret
  exact ⟨rfl, hb2⟩
end Go.Proofs.YtcblodlfijbjeaaDoor
