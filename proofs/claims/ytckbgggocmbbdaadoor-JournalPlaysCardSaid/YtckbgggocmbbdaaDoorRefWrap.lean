/-
  The reference's own bytes of a number, of a text, its sum, its frame: they are pack's and frame's.
-/
import Derived.Test.YtckbgggocmbbdaaDoorSum
namespace Go.Proofs.YtckbgggocmbbdaaDoor
open Go.RowKit Go.Extern.Stop Go.Stop Go.Extern

theorem bytes_cons (b : UInt8) (r : List UInt8) : (⟨(b :: r).toArray⟩ : ByteArray) = ⟨#[b]⟩ ++ ⟨r.toArray⟩ := by
  apply ByteArray.ext; simp
theorem conv_one (b : UInt8) (x : Int) (hx : x = b.toNat) (w : World) :
    (convert 46 9 (.slice (some ⟨w.heap.size, 0, none⟩) 1 1)).run Tryd.prog (w.alloc (.cells #[.int .u8 x] 5)) = .ok (.string ⟨#[b]⟩) (w.alloc (.cells #[.int .u8 x] 5)) := by
  subst hx
  refine run_convert_bytes_back (P := Tryd.prog) _ 46 9 5 ⟨w.heap.size, 0, none⟩ 1 [b] Tryd.underlying46 Tryd.underlying5 Tryd.underlying9 fun j hj => ?_
  rcases j with _ | j
  · simp [Addr.add]
  · simp at hj

/-- What the loop holds. -/
structure RefNumAt (w : World) (n : Nat) (g : Nat) (sv kv : Value) (wr : World) (D : ByteArray) (m : Nat) : Prop where
  p1 : sv = .string D
  p2 : kv = .int .i64 m
  p3 : num n = D ++ ⟨(sixes g m).toArray⟩
  p4 : m < 64 ^ (g + 1)
  p5 : m ≤ 9223372036854775807
  p6 : D.size + g ≤ 10
  p7 : Below w.heap.size w wr

set_option maxRecDepth 100000 in
set_option maxHeartbeats 4000000 in
theorem refNum_any (n : Nat) (w : World) (hn : n ≤ 9223372036854775807) :
    Calls Tryd.prog 35 #[.int .i64 n] w fun e w' => e = .returned (.string (num n)) ∧ Below w.heap.size w w' := by
  rcases Nat.eq_zero_or_pos n with h0 | h0
  all_goals
    go_enter Tryd.func35, Tryd.ntmps35
    go_wp2
    go_loopg [3, 4] 10 (fun g sv kv wr => ∃ D m, RefNumAt w n g sv kv wr D m)
    case atStart =>
      refine ⟨ByteArray.empty, n, rfl, by first | rfl | (rw [h0]; rfl), ?_, ?_, hn, by decide, Below.refl _ _⟩
      · rw [ByteArray.empty_append]; rfl
      · have : (64 : Nat) ^ (10 + 1) = 73786976294838206464 := rfl
        omega
    case round =>
      obtain ⟨D, m, rfl, rfl, h3, h4, h5, h6, h7⟩ := hrel
      have H3 := Lib.hid h3
      have H4 := Lib.hid h4
      have H7 := Lib.hid h7
      have x1 : ¬ 9223372036854775807 < D.size + 1 := by omega
      have x2 : ¬ 9223372036854775806 < D.size := by omega
      clear h3 h4 h7
      by_cases hm : 64 ≤ m
      · have hcv := conv_one (UInt8.ofNat (64 + m % 64)) (64 + (m : Int) % 64) (by rw [toNat_small (by omega)]; omega) wr
        obtain ⟨b, hb⟩ : ∃ b, UInt8.ofNat (64 + m % 64) = b := ⟨_, rfl⟩
        rw [hb] at hcv
        have HB := Lib.hid hb
        clear hb
        obtain ⟨k', hk'⟩ : ∃ k', gk = k' + 1 := by
          rcases gk with _ | k'
          · have := H4.out; simp at this; omega
          · exact ⟨k', rfl⟩
        have HK := Lib.hid hk'
        clear hk'
        go_wp2
        clear hcv
        go_roundg (gk - 1)
        case measure => have := HK.out; omega
        case rel =>
          obtain rfl := HK.out
          refine ⟨D ++ ⟨#[b]⟩, m / 64, rfl, by go_num, ?_, ?_, by omega, ?_, ?_⟩
          · rw [H3.out, sixes_more hm, bytes_cons, ByteArray.append_assoc, HB.out]; rfl
          · have h := H4.out
            have p2 : (64 : Nat) ^ (k' + 1 + 1) = 64 * 64 ^ (k' + 1) := by rw [Nat.pow_succ, Nat.mul_comm]
            show m / 64 < 64 ^ (k' + 1)
            omega
          · rw [ByteArray.size_append]
            show D.size + 1 + (k' + 1 - 1) ≤ 10
            omega
          · exact H7.out.alloc H7.out.size _
      · have hcv := conv_one (UInt8.ofNat m) (m : Int) (by rw [toNat_small (by omega)]) wr
        obtain ⟨b, hb⟩ : ∃ b, UInt8.ofNat m = b := ⟨_, rfl⟩
        rw [hb] at hcv
        have HB := Lib.hid hb
        clear hb
        go_wp2
        clear hcv
        go_ret
        refine ⟨?_, H7.out.alloc H7.out.size _⟩
        rw [H3.out, sixes_small (by omega), HB.out]; rfl

set_option maxRecDepth 100000 in
set_option maxHeartbeats 4000000 in
theorem refText_any (s : ByteArray) (w : World) (hs : s.size ≤ 4000000000000000000) :
    Calls Tryd.prog 26 #[.string s] w fun e w' => e = .returned (.string (text s)) ∧ Below w.heap.size w w' := by
  have h11 := num_size_le s.size
  have n1 : ¬ 9223372036854775807 < (num s.size).size + s.size := by omega
  have C := refNum_any s.size w (by omega)
  generalize hq : num s.size = q at C n1 h11
  have HQ := Lib.hid hq
  clear hq
  go_enter Tryd.func26, Tryd.ntmps26
  go_wp2_with (go_at_call 35; (with_reducible refine C.mono ?_); rintro e w' ⟨rfl, hb⟩)
  go_ret
  exact ⟨by unfold text; rw [HQ.out]; rfl, hb⟩

set_option maxRecDepth 100000 in
set_option maxHeartbeats 4000000 in
theorem refSum_any (s : ByteArray) (w : World) (hs : s.size ≤ 4000000000000000000) :
    Calls Tryd.prog 27 #[.string s] w fun e w' => e = .returned (.int .u32 (sumL s.data.toList)) ∧ w = w' := by
  go_enter Tryd.func27, Tryd.ntmps27
  go_wp2
  go_loopg [3, 4] s.size (fun k nv iv wr => ∃ n i, SumAt s w k nv iv wr n i)
  case atStart => exact ⟨2166136261, 0, rfl, rfl, by omega, by decide, rfl, rfl⟩
  case round =>
    obtain ⟨n, i, rfl, rfl, h3, h4, h5, rfl⟩ := hrel
    have H5 := Lib.hid h5
    clear h5
    by_cases hlt : i < s.size
    · have hw := sum_wrap n s[i] h4
      have HW := Lib.hid hw
      have H4 := Lib.hid h4
      have i1 : (i : Int) < (s.size : Int) := by omega
      clear hw h4
      go_wp2
      rw [HW.out]
      go_roundg (gk - 1)
      case measure => omega
      case rel =>
        refine ⟨sumStep n s[i], i + 1, rfl, by go_num, by omega, sumStep_lt _ _, ?_, rfl⟩
        rw [← H5.out, drop_byte s i hlt]; rfl
    · obtain rfl : i = s.size := by omega
      have e1 : sumL s.data.toList = n := by
        rw [← H5.out, List.drop_eq_nil_of_le (by simp)]; rfl
      go_wp2
      go_ret
      exact ⟨by rw [e1]; rfl, rfl⟩

set_option maxRecDepth 100000 in
set_option maxHeartbeats 4000000 in
theorem refWrap_any (s : ByteArray) (w : World) (hs : s.size ≤ 3000000000000000000) :
    Calls Tryd.prog 15 #[.string s] w fun e w' => e = .returned (.string (framed s)) ∧ Below w.heap.size w w' := by
  have h11 := num_size_le s.size
  have hz : (text s).size ≤ 11 + s.size := by rw [text_size]; omega
  have C := refText_any s w (by omega)
  generalize hq : text s = q at C hz
  have HQ := Lib.hid hq
  clear hq
  have D := fun W => refSum_any q W (by omega)
  have hn := sumL_lt q.data.toList
  generalize hr : sumL q.data.toList = n at D hn
  have HR := Lib.hid hr
  clear hr
  have hcv := fun W => conv_four n hn W
  have hsz : (⟨(fourL n).toArray⟩ : ByteArray).size = 4 := rfl
  have HCV := Lib.hid hcv
  clear hcv
  go_enter Tryd.func15, Tryd.ntmps15
  go_wp2_with fail
  go_at_call 26
  ((with_reducible refine C.mono ?_); rintro e w1 ⟨rfl, hb⟩)
  have HB := Lib.hid hb
  clear hb
  have hcv := HCV.out w1
  generalize hf : (⟨(fourL n).toArray⟩ : ByteArray) = r at hcv hsz
  have HF := Lib.hid hf
  clear hf
  have n1 : ¬ 9223372036854775807 < r.size + q.size := by omega
  have n2 : ¬ 9223372036854775807 < 4 + q.size := by omega
  go_wp2_with fail
  go_at_call 27
  ((with_reducible refine (D _).mono ?_); rintro e w2 ⟨rfl, rfl⟩)
  go_wp2
  clear hcv
  go_ret
  refine ⟨?_, HB.out.alloc HB.out.size _⟩
  unfold framed sign
  rw [HQ.out, HR.out, HF.out]; rfl
end Go.Proofs.YtckbgggocmbbdaaDoor
