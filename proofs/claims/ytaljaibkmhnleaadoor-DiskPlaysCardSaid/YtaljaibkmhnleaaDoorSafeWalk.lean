/-
  DiskSafe, walked.
-/
import Derived.Test.YtaljaibkmhnleaaDoorDiskKnown
namespace Go.Proofs.YtaljaibkmhnleaaDoor
open Go.RowKit Go.Extern.Stop Go.Stop Go.Extern

theorem slice_to (s : ByteArray) (j : Nat) (jv : Int) (hj : jv = j) (h2 : j ≤ s.size) (W : World) :
    (Instr.slice 9 (.string s) none (some (.int .i64 jv)) none).run Tryd.prog W = .ok (.string (s.extract 0 j)) W := by
  subst hj
  have := run_slice_string_h (P := Tryd.prog) W 9 s Tryd.underlying9 .i64 (j : Int) (by omega) (by omega)
  simpa using this
/-- What a crash leaves of what was synced and what was loose. -/
theorem cut_loose (k l : ByteArray) (n : Nat) (hn : n ≤ l.size) : (k ++ l).extract 0 ((k ++ l).size - (l.size - n)) = k ++ l.extract 0 n := by
  have h1 : (k ++ l).size - (l.size - n) = k.size + n := by rw [ByteArray.size_append]; omega
  rw [h1, ByteArray.extract_append]
  have h2 : k.extract 0 (k.size + n) = k := by
    apply ByteArray.ext
    rw [ByteArray.data_extract]
    exact Array.extract_eq_self_of_le (by show k.data.size ≤ _; exact Nat.le_add_right _ _)
  rw [h2, Nat.zero_sub, Nat.add_sub_cancel_left]

set_option maxRecDepth 100000 in
set_option maxHeartbeats 4000000 in
theorem safe_out (a b : ByteArray) (ca : Option Addr) (lc cc : Nat) (w : World) (hout : 200 < a.size ∨ 200 < b.size ∨ 10 < lc) :
    Calls Tryd.prog 5 #[.string a, .string b, .slice ca lc cc] w fun e w' => e = .returned (.bool true) ∧ Below w.heap.size w w' := by
  have C := known_true w
  by_cases h1 : 200 < a.size
  · have j1 : (200 : Int) < (a.size : Int) := by omega
    clear hout
    go_enter Tryd.func5, Tryd.ntmps5
    go_wp2_with (go_at_call 6; (with_reducible refine C.mono ?_); rintro e w1 ⟨rfl, hb⟩)
    go_ret
    exact ⟨rfl, hb⟩
  · have j1 : ¬ (200 : Int) < (a.size : Int) := by omega
    by_cases h2 : 200 < b.size
    · have j2 : (200 : Int) < (b.size : Int) := by omega
      clear hout
      go_enter Tryd.func5, Tryd.ntmps5
      go_wp2_with (go_at_call 6; (with_reducible refine C.mono ?_); rintro e w1 ⟨rfl, hb⟩)
      go_ret
      exact ⟨rfl, hb⟩
    · have j2 : ¬ (200 : Int) < (b.size : Int) := by omega
      have j3 : (10 : Int) < (lc : Int) := by omega
      clear hout
      go_enter Tryd.func5, Tryd.ntmps5
      go_wp2_with (go_at_call 6; (with_reducible refine C.mono ?_); rintro e w1 ⟨rfl, hb⟩)
      go_ret
      exact ⟨rfl, hb⟩

/-- What the loop holds behind i crashes. -/
structure SafeAt (a : ByteArray) (lc base d : Nat) (w : World) (k : Nat) (av iv : Value) (wr : World) (i : Nat) (A : ByteArray) : Prop where
  p1 : av = .string A
  p2 : iv = .int .i64 i
  p3 : i + k = lc
  p4 : A.size ≤ 200 * i + 200
  p5 : DiskIs base d wr A 0
  p6 : Keeps base d w wr
  p7 : ∃ r, A = a ++ r
theorem front_of (a r : ByteArray) : (a ++ r).extract 0 a.size = a := by
  rw [ByteArray.extract_append_size_left]
  exact ByteArray.extract_zero_size

set_option maxRecDepth 100000 in
set_option maxHeartbeats 8000000 in
theorem safe_in (a b : ByteArray) (ca : Option Addr) (lc cc : Nat) (ns : List Nat) (w : World) (ha : a.size ≤ 200) (hb : b.size ≤ 200) (hc : lc ≤ 10) (hnl : ns.length = lc)
    (hns : ∀ (j n : Nat), ns[j]? = some n → n ≤ 255 ∧ ∃ sb so, ca = some ⟨sb, so, none⟩ ∧ w.cell? ⟨sb, so + j, none⟩ = some (.int .u8 (n : Int))) :
    Calls Tryd.prog 5 #[.string a, .string b, .slice ca lc cc] w fun e w' => e = .returned (.bool true) ∧ Below w.heap.size w w' := by
  have C := known_true w
  have HNS := Lib.hid hns
  have HNL := Lib.hid hnl
  clear hns hnl
  have j1 : ¬ (200 : Int) < (a.size : Int) := by omega
  have j2 : ¬ (200 : Int) < (b.size : Int) := by omega
  have j3 : ¬ (10 : Int) < (lc : Int) := by omega
  go_enter Tryd.func5, Tryd.ntmps5
  go_wp2_with fail
  go_at_call 6
  ((with_reducible refine C.mono ?_); rintro e w1 ⟨rfl, hb⟩)
  have H1 := Lib.hid hb; clear hb C
  go_wp2_with fail
  go_at_call 7
  refine (diskNew_any _).mono ?_
  rintro e w2 ⟨rfl, rfl⟩
  have hD := newDisk w.heap.size w1 H1.out.size
  have hK : Keeps w.heap.size w1.heap.size w (w1.alloc (.cells #[.slice none 0 0, .int .i64 0] 43)) := Keeps.of_below (H1.out.alloc H1.out.size _) (Nat.le_refl _)
  have HD := Lib.hid hD
  have HK := Lib.hid hK
  clear hD hK H1
  generalize w1.alloc (.cells #[.slice none 0 0, .int .i64 0] 43) = w2 at HD HK
  generalize w1.heap.size = d at HD HK
  go_wp2_with fail
  go_at_call 8
  refine (append_to (r := a) HD.out (empty_then a) (by show 0 + a.size ≤ 200000; omega)).mono ?_
  rintro e w3 ⟨rfl, hD, hK⟩
  have HD1 := Lib.hid hD
  have HK1 := Lib.hid (HK.out.trans hK)
  clear hD hK HD HK
  go_wp2_with fail
  go_at_call 9
  refine (sync_any HD1.out).mono ?_
  rintro e w4 ⟨rfl, hD, hK⟩
  have HD2 := Lib.hid hD
  have HK2 := Lib.hid (HK1.out.trans hK)
  clear hD hK HD1 HK1
  go_wp2_with fail
  go_loopg [8, 9] lc (fun k av iv wr => ∃ i A, SafeAt a lc w.heap.size d w k av iv wr i A)
  case atStart => exact ⟨0, a, rfl, rfl, Nat.zero_add _, by omega, HD2.out, HK2.out, ByteArray.empty, ByteArray.append_empty.symm⟩
  case round =>
    clear HD2 HK2
    obtain ⟨i, A, rfl, rfl, h3, h4, h5, h6, h7⟩ := hrel
    have H3 := Lib.hid h3
    have H5 := Lib.hid h5
    have H6 := Lib.hid h6
    have H7 := Lib.hid h7
    have hin : i ≤ lc := by omega
    clear h3 h5 h6 h7
    by_cases hlt : i < lc
    · have i5 : (i : Int) < (lc : Int) := by omega
      obtain ⟨n, hni⟩ : ∃ n, ns[i]? = some n := ⟨_, List.getElem?_eq_getElem (by rw [HNL.out]; exact hlt)⟩
      obtain ⟨hn, sb, so, hsa, hct⟩ := HNS.out i n hni
      subst hsa
      have hsb : sb < w.heap.size := lt_of_cell hct
      clear hni
      have e0 : min (b.size : Int) (n : Int) = (stay n b.size : Int) := by unfold stay; omega
      have hst := stay_le n b.size
      have hcl := cut_loose A b (stay n b.size) hst
      have hsl := slice_to b (stay n b.size) _ rfl hst
      have hPs : (b.extract 0 (stay n b.size)).size ≤ 200 := by rw [ByteArray.size_extract]; omega
      have CC := fun (W : World) (h : DiskIs w.heap.size d W (A ++ b) b.size) => crash_to (n : Int) h hcl
      generalize b.extract 0 (stay n b.size) = P at hsl hPs CC hcl
      generalize stay n b.size = m at e0 hsl
      have x1 : ¬ 9223372036854775807 < A.size + P.size := by omega
      have CB := Lib.hid CC
      clear hcl CC hst
      go_wp2_with fail
      go_at_call 8
      refine (append_ok H5.out (by omega)).mono ?_
      rintro e w5 ⟨rfl, hD, hK⟩
      rw [Nat.zero_add] at hD
      have HD1 := Lib.hid hD
      have HK1 := Lib.hid (H6.out.trans hK)
      clear hD hK H5 H6
      have ct : w5.cell? ⟨sb, so + i, none⟩ = some (.int .u8 (n : Int)) := by rw [HK1.out.below.cell hsb]; exact hct
      go_wp2_with fail
      go_at_call 11
      refine (CB.out _ HD1.out).mono ?_
      rintro e w6 ⟨rfl, hD, hK⟩
      have HD2 := Lib.hid hD
      have HK2 := Lib.hid (HK1.out.trans hK)
      clear hD hK HD1 HK1 ct
      have ct : w6.cell? ⟨sb, so + i, none⟩ = some (.int .u8 (n : Int)) := by rw [HK2.out.below.cell hsb]; exact hct
      go_wp2_with fail
      go_at_call 12
      refine (bytes_any HD2.out).mono ?_
      rintro e w7 ⟨rfl, rfl⟩
      go_wp2_with fail
      go_at_call 13
      refine (loose_any HD2.out).mono ?_
      rintro e w7 ⟨rfl, rfl⟩
      go_wp2_with fail
      go_at_call 11
      refine (crash_any 0 HD2.out).mono ?_
      rintro e w7 ⟨rfl, hD, hK⟩
      rw [Nat.zero_sub, Nat.sub_zero, ByteArray.extract_zero_size] at hD
      have HD3 := Lib.hid hD
      have HK3 := Lib.hid (HK2.out.trans hK)
      clear hD hK HD2 HK2 ct
      go_wp2
      go_roundg (gk - 1)
      case measure => have := H3.out; omega
      case rel =>
        obtain ⟨r, hr⟩ := H7.out
        refine ⟨i + 1, A ++ P, rfl, by go_num, ?_, ?_, HD3.out, HK3.out, r ++ P, ?_⟩
        · have := H3.out; omega
        · rw [ByteArray.size_append]; omega
        · rw [hr, ByteArray.append_assoc]
    · have i5 : ¬ (i : Int) < (lc : Int) := by omega
      obtain ⟨r, hr⟩ := H7.out
      have hsa : A.extract 0 a.size = a := by rw [hr]; exact front_of a r
      have hle : a.size ≤ A.size := by rw [hr, ByteArray.size_append]; omega
      have hsl := slice_to A a.size _ rfl hle
      rw [hsa] at hsl
      have i6 : (a.size : Int) ≤ (A.size : Int) := by omega
      clear hr hsa hle
      go_wp2_with fail
      go_at_call 12
      refine (bytes_any H5.out).mono ?_
      rintro e w7 ⟨rfl, rfl⟩
      go_wp2
      go_ret
      exact ⟨rfl, H6.out.below⟩
end Go.Proofs.YtaljaibkmhnleaaDoor
