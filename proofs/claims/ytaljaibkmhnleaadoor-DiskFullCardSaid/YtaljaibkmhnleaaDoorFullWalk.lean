/-
  DiskFull, walked.
-/
import Derived.Test.YtaljaibkmhnleaaDoorDiskKnown
import Derived.OwnWalk
namespace Go.Proofs.YtaljaibkmhnleaaDoor
open Go.RowKit Go.Extern.Stop Go.Stop Go.Extern

/-- So many zero bytes. -/
def zeros (n : Nat) : ByteArray := ⟨Array.replicate n 0⟩
theorem zeros_size (n : Nat) : (zeros n).size = n := by show (Array.replicate n (0 : UInt8)).size = n; simp
theorem byteCells_zeros (n : Nat) : byteCells (zeros n) = List.replicate n (.int .u8 0) := by
  unfold byteCells zeros
  simp
theorem make_text (n : Nat) (hn : n ≤ 1000000) (w : World) : ∃ w', (Instr.makeSlice 36 (.int .i64 (n : Int)) (.int .i64 (n : Int))).run Tryd.prog w = .ok (.slice (some ⟨w.heap.size, 0, none⟩) n n) w' ∧
    (convert 36 9 (.slice (some ⟨w.heap.size, 0, none⟩) n n)).run Tryd.prog w' = .ok (.string (zeros n)) w' ∧ Below w.heap.size w w' := by
  obtain ⟨i0, hi, hz0, hz1, hz2⟩ := info_parts Tryd.infoByte
  obtain ⟨w', h1, h2, h3⟩ := run_make_full (P := Tryd.prog) w w.heap.size 36 5 i0 (.int .u8 0) 1 Tryd.underlying36 hi hz0 hz1 .i64 .i64 n (by rw [hz2]; omega) (by unfold maxLen; omega) (Nat.le_refl _)
  refine ⟨w', h1, ?_, (Below.refl _ _).grown h3 (Nat.le_refl _) (fun _ h => by cases h)⟩
  have e : (madeCells (Value.int .u8 0).cells (n * 1)).toList = byteCells (zeros n) := by
    rw [byteCells_zeros, Nat.mul_one]
    exact toList_madeCells_one _ _
  rw [e] at h2
  have h4 : w'.ownsRow w.heap.size 5 1 (.slice (some ⟨w.heap.size, 0, none⟩) n n) (zeros n).size (byteCells (zeros n)) := by rw [zeros_size]; exact h2
  exact row_text h4

set_option maxRecDepth 100000 in
set_option maxHeartbeats 8000000 in
theorem full_over (n cut : Nat) (w : World) (hc : cut ≤ 65535) (h2 : n % 3 = 2) (hg : Handle w) :
    Calls Tryd.prog 4 #[.int .u8 (n : Int), .int .u16 (cut : Int)] w fun e w' => e = .returned (.bool true) ∧ Below w.heap.size w w' := by
  have C := known_true w
  have HG := Lib.hid hg
  obtain ⟨a, ha⟩ : ∃ a, a = 200000 - cut := ⟨_, rfl⟩
  obtain ⟨t, ht⟩ : ∃ t, t = n % 3 := ⟨_, rfl⟩
  obtain ⟨k, hk⟩ : ∃ k, k = cut + 1 := ⟨_, rfl⟩
  have HKK := Lib.hid hk
  have HA := Lib.hid ha
  have HT := Lib.hid ht
  have e1 : (200000 : Int) - (cut : Int) = (a : Int) := by omega
  have e2 : n % 3 = t := ht.symm
  have e3 : (n : Int) % 3 = (t : Int) := by omega
  obtain rfl : t = 2 := by omega
  have e4 : (cut : Int) + 2 - 1 = (k : Int) := by omega
  have e5 : (cut : Int) + (2 : Int) = (k : Int) + 1 := by omega
  clear hk h2
  clear ha ht hg
  go_enter Tryd.func4, Tryd.ntmps4
  go_wp2_with fail
  go_at_call 6
  ((with_reducible refine C.mono ?_); rintro e w1 ⟨rfl, hb⟩)
  have H1 := Lib.hid hb; clear hb C
  go_wp2_with fail
  go_at_call 7
  refine (diskNew_any _).mono ?_
  rintro e w2 ⟨rfl, rfl⟩
  have hD := newDisk w.heap.size w1 H1.out.size
  have hB : Below w.heap.size w (w1.alloc (.cells #[.slice none 0 0, .int .i64 0] 43)) := H1.out.alloc H1.out.size _
  have HD := Lib.hid hD
  have HB := Lib.hid hB
  have HG2 := Lib.hid (HG.out.later hB)
  clear hD hB H1
  generalize w1.alloc (.cells #[.slice none 0 0, .int .i64 0] 43) = w2 at HD HB HG2
  generalize w1.heap.size = d at HD
  obtain ⟨w3, hm1, hm2, hm3⟩ := make_text a (by have := HA.out; omega) w2
  have hz := zeros_size a
  generalize zeros a = Z at hm2 hz
  have HM3 := Lib.hid hm3
  have HZ := Lib.hid hz
  have hw3 : w.heap.size ≤ w3.heap.size := (HB.out.trans (hm3.mono HB.out.size)).size
  clear hm3 hz
  go_wp2_with fail
  go_at_call 8
  refine (append_to (r := Z) (HD.out.later HM3.out) (empty_then _) (by rw [HZ.out]; have := HA.out; show 0 + a ≤ 200000; omega)).mono ?_
  rintro e w4 ⟨rfl, hD, hK⟩
  have HD4 := Lib.hid hD
  have HB4 := Lib.hid ((HB.out.trans (HM3.out.mono HB.out.size)).trans hK.below)
  have HG4 := Lib.hid (hK.handle (HG2.out.later HM3.out) (lt_of_cell HG.out))
  clear hD hK HD HB HG2 HM3 hm1 hm2 hw3
  obtain ⟨w5, hm1, hm2, hm3⟩ := make_text k (by have := HKK.out; omega) w4
  have hz := zeros_size k
  generalize zeros k = Y at hm2 hz
  have HM3 := Lib.hid hm3
  have HZ2 := Lib.hid hz
  clear hm3 hz
  go_wp2_with fail
  go_at_call 8
  refine (append_full (HD4.out.later HM3.out) (by rw [HZ.out, HZ2.out]; have := HA.out; have := HKK.out; omega)).mono ?_
  rintro e w6 ⟨v, rfl, hch, hb⟩
  have CC := code_any v _ 19 w6 hch ((HG4.out.later HM3.out).later hb)
  obtain ⟨tv, xv, rfl⟩ := hch.shape
  have HB6 := Lib.hid ((HB4.out.trans (HM3.out.mono HB4.out.size)).trans (hb.mono (HB4.out.trans (HM3.out.mono HB4.out.size)).size))
  have HG6 := Lib.hid ((HG4.out.later HM3.out).later hb)
  clear hch hb HB4 HG4 HM3 hm1 hm2 HD4
  go_wp2_with fail
  go_at_call 14
  refine CC.mono ?_
  rintro e w7 ⟨rfl, hb⟩
  have HB7 := Lib.hid (HB6.out.trans (hb.mono HB6.out.size))
  have HG7 := Lib.hid (HG6.out.later hb)
  clear hb HB6 HG6 CC
  obtain ⟨w8, hm1, hm2, hm3⟩ := make_text 200001 (by omega) w7
  have hz := zeros_size (200001)
  generalize zeros (200001) = X at hm2 hz
  have HM3 := Lib.hid hm3
  have HZ3 := Lib.hid hz
  clear hm3 hz
  replace hm1 : (Instr.makeSlice 36 (.int .i64 200001) (.int .i64 200001)).run Tryd.prog w7 = .ok (.slice (some ⟨w7.heap.size, 0, none⟩) 200001 200001) w8 := hm1
  go_wp2_with fail
  go_at_call 10
  refine (replace_full d (by rw [HZ3.out]; omega) (HG7.out.later HM3.out)).mono ?_
  rintro e w9 ⟨v9, rfl, hch, hb⟩
  have CI := isCode_any v9 _ 19 19 w9 hch ((HG7.out.later HM3.out).later hb)
  obtain ⟨tv9, xv9, rfl⟩ := hch.shape
  have HB9 := Lib.hid ((HB7.out.trans (HM3.out.mono HB7.out.size)).trans (hb.mono (HB7.out.trans (HM3.out.mono HB7.out.size)).size))
  clear hch hb HB7 HG7 HM3 hm1 hm2
  go_wp2_with fail
  go_at_call 15
  refine CI.mono ?_
  rintro e w10 ⟨rfl, hb⟩
  have HB10 := Lib.hid (HB9.out.trans (hb.mono HB9.out.size))
  clear hb HB9 CI
  go_wp2
  go_ret
  exact ⟨rfl, HB10.out⟩

set_option maxRecDepth 100000 in
set_option maxHeartbeats 8000000 in
theorem full_under (n cut : Nat) (w : World) (hc : cut ≤ 65535) (h2 : n % 3 < 2) (h3 : 1 ≤ cut + n % 3) (hg : Handle w) :
    Calls Tryd.prog 4 #[.int .u8 (n : Int), .int .u16 (cut : Int)] w fun e w' => e = .returned (.bool true) ∧ Below w.heap.size w w' := by
  have C := known_true w
  have HG := Lib.hid hg
  obtain ⟨a, ha⟩ : ∃ a, a = 200000 - cut := ⟨_, rfl⟩
  obtain ⟨t, ht⟩ : ∃ t, t = n % 3 := ⟨_, rfl⟩
  obtain ⟨k, hk⟩ : ∃ k, k = cut + t - 1 := ⟨_, rfl⟩
  obtain ⟨m, hm⟩ : ∃ m, m = 200000 + t - 1 := ⟨_, rfl⟩
  have HKK := Lib.hid hk
  have hmm : m ≤ 200000 := by omega
  have HA := Lib.hid ha
  have HT := Lib.hid ht
  have e1 : (200000 : Int) - (cut : Int) = (a : Int) := by omega
  have e2 : n % 3 = t := ht.symm
  have e3 : (n : Int) % 3 = (t : Int) := by omega
  have e4 : (cut : Int) + (t : Int) - 1 = (k : Int) := by omega
  have e5 : (200000 : Int) + (t : Int) - 1 = (m : Int) := by omega
  have e6 : ((t : Int) == 2) = false := by simp; omega
  have e7 : (t : Int) < 2 := by omega
  clear hk h2 h3 hm
  clear ha ht hg
  go_enter Tryd.func4, Tryd.ntmps4
  go_wp2_with fail
  go_at_call 6
  ((with_reducible refine C.mono ?_); rintro e w1 ⟨rfl, hb⟩)
  have H1 := Lib.hid hb; clear hb C
  go_wp2_with fail
  go_at_call 7
  refine (diskNew_any _).mono ?_
  rintro e w2 ⟨rfl, rfl⟩
  have hD := newDisk w.heap.size w1 H1.out.size
  have hB : Below w.heap.size w (w1.alloc (.cells #[.slice none 0 0, .int .i64 0] 43)) := H1.out.alloc H1.out.size _
  have HD := Lib.hid hD
  have HB := Lib.hid hB
  have HG2 := Lib.hid (HG.out.later hB)
  clear hD hB H1
  generalize w1.alloc (.cells #[.slice none 0 0, .int .i64 0] 43) = w2 at HD HB HG2
  generalize w1.heap.size = d at HD
  obtain ⟨w3, hm1, hm2, hm3⟩ := make_text a (by have := HA.out; omega) w2
  have hz := zeros_size a
  generalize zeros a = Z at hm2 hz
  have HM3 := Lib.hid hm3
  have HZ := Lib.hid hz
  have hw3 : w.heap.size ≤ w3.heap.size := (HB.out.trans (hm3.mono HB.out.size)).size
  clear hm3 hz
  go_wp2_with fail
  go_at_call 8
  refine (append_to (r := Z) (HD.out.later HM3.out) (empty_then _) (by rw [HZ.out]; have := HA.out; show 0 + a ≤ 200000; omega)).mono ?_
  rintro e w4 ⟨rfl, hD, hK⟩
  have HD4 := Lib.hid hD
  have HB4 := Lib.hid ((HB.out.trans (HM3.out.mono HB.out.size)).trans hK.below)
  have HG4 := Lib.hid (hK.handle (HG2.out.later HM3.out) (lt_of_cell HG.out))
  clear hD hK HD HB HG2 HM3 hm1 hm2 hw3
  obtain ⟨w5, hm1, hm2, hm3⟩ := make_text k (by have := HKK.out; omega) w4
  have hz := zeros_size k
  generalize zeros k = Y at hm2 hz
  have HM3 := Lib.hid hm3
  have HZ2 := Lib.hid hz
  clear hm3 hz
  go_wp2_with fail
  go_at_call 8
  refine (append_ok (HD4.out.later HM3.out) (by rw [HZ.out, HZ2.out]; have := HA.out; have := HKK.out; omega)).mono ?_
  rintro e w6 ⟨rfl, hD, hK⟩
  have HD6 := Lib.hid hD
  have HB6 := Lib.hid ((HB4.out.trans (HM3.out.mono HB4.out.size)).trans hK.below)
  clear hD hK HB4 HM3 hm1 hm2 HD4
  go_wp2_with fail
  go_at_call 14
  refine (code_nil _).mono ?_
  rintro e w7 ⟨rfl, rfl⟩
  obtain ⟨w8, hm1, hm2, hm3⟩ := make_text m (by omega) w6
  have hz := zeros_size (m)
  generalize zeros (m) = X at hm2 hz
  have HM3 := Lib.hid hm3
  have HZ3 := Lib.hid hz
  clear hm3 hz
  go_wp2_with fail
  go_at_call 10
  refine (replace_ok (HD6.out.later HM3.out) (by rw [HZ3.out]; omega)).mono ?_
  rintro e w9 ⟨rfl, hD, hK⟩
  have HB9 := Lib.hid ((HB6.out.trans (HM3.out.mono HB6.out.size)).trans hK.below)
  clear hD hK HB6 HM3 hm1 hm2 HD6
  go_wp2
  go_ret
  exact ⟨rfl, HB9.out⟩

set_option maxRecDepth 100000 in
set_option maxHeartbeats 8000000 in
theorem full_none (n cut : Nat) (w : World) (h2 : n % 3 = 0) (h3 : cut = 0) (hg : Handle w) :
    Calls Tryd.prog 4 #[.int .u8 (n : Int), .int .u16 (cut : Int)] w fun e w' => e = .returned (.bool true) ∧ Below w.heap.size w w' := by
  have C := known_true w
  have HG := Lib.hid hg
  obtain ⟨a, ha⟩ : ∃ a, a = 200000 - cut := ⟨_, rfl⟩
  obtain ⟨t, ht⟩ : ∃ t, t = n % 3 := ⟨_, rfl⟩
  have HA := Lib.hid ha
  have HT := Lib.hid ht
  have e1 : (200000 : Int) - (cut : Int) = (a : Int) := by omega
  have e2 : n % 3 = t := ht.symm
  have e3 : (n : Int) % 3 = (t : Int) := by omega
  obtain rfl : t = 0 := by omega
  have e4 : (cut : Int) - 1 = -1 := by omega
  clear h2 h3
  clear ha ht hg
  go_enter Tryd.func4, Tryd.ntmps4
  go_wp2_with fail
  go_at_call 6
  ((with_reducible refine C.mono ?_); rintro e w1 ⟨rfl, hb⟩)
  have H1 := Lib.hid hb; clear hb C
  go_wp2_with fail
  go_at_call 7
  refine (diskNew_any _).mono ?_
  rintro e w2 ⟨rfl, rfl⟩
  have hD := newDisk w.heap.size w1 H1.out.size
  have hB : Below w.heap.size w (w1.alloc (.cells #[.slice none 0 0, .int .i64 0] 43)) := H1.out.alloc H1.out.size _
  have HD := Lib.hid hD
  have HB := Lib.hid hB
  have HG2 := Lib.hid (HG.out.later hB)
  clear hD hB H1
  generalize w1.alloc (.cells #[.slice none 0 0, .int .i64 0] 43) = w2 at HD HB HG2
  generalize w1.heap.size = d at HD
  obtain ⟨w3, hm1, hm2, hm3⟩ := make_text a (by have := HA.out; omega) w2
  have hz := zeros_size a
  generalize zeros a = Z at hm2 hz
  have HM3 := Lib.hid hm3
  have HZ := Lib.hid hz
  have hw3 : w.heap.size ≤ w3.heap.size := (HB.out.trans (hm3.mono HB.out.size)).size
  clear hm3 hz
  go_wp2_with fail
  go_at_call 8
  refine (append_to (r := Z) (HD.out.later HM3.out) (empty_then _) (by rw [HZ.out]; have := HA.out; show 0 + a ≤ 200000; omega)).mono ?_
  rintro e w4 ⟨rfl, hD, hK⟩
  have HD4 := Lib.hid hD
  have HB4 := Lib.hid ((HB.out.trans (HM3.out.mono HB.out.size)).trans hK.below)
  have HG4 := Lib.hid (hK.handle (HG2.out.later HM3.out) (lt_of_cell HG.out))
  clear hD hK HD HB HG2 HM3 hm1 hm2 hw3
  obtain ⟨w8, hm1, hm2, hm3⟩ := make_text 199999 (by omega) w4
  have hz := zeros_size (199999)
  generalize zeros (199999) = X at hm2 hz
  have HM3 := Lib.hid hm3
  have HZ3 := Lib.hid hz
  clear hm3 hz
  replace hm1 : (Instr.makeSlice 36 (.int .i64 199999) (.int .i64 199999)).run Tryd.prog w4 = .ok (.slice (some ⟨w4.heap.size, 0, none⟩) 199999 199999) w8 := hm1
  go_wp2_with fail
  go_at_call 10
  refine (replace_ok (HD4.out.later HM3.out) (by rw [HZ3.out]; omega)).mono ?_
  rintro e w9 ⟨rfl, hD, hK⟩
  have HB9 := Lib.hid ((HB4.out.trans (HM3.out.mono HB4.out.size)).trans hK.below)
  clear hD hK HB4 HM3 hm1 hm2 HD4
  go_wp2
  go_ret
  exact ⟨rfl, HB9.out⟩

end Go.Proofs.YtaljaibkmhnleaaDoor
