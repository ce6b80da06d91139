/-
  frame.Sum, frame.mark, frame.Wrap.
-/
import Derived.Test.YtadoonimokpnoaaDoorNum
import Derived.Test.YtadoonimokpnoaaDoorFrameMath
import Derived.Laws.BitsAllLaws
import Derived.IntWalk
import Derived.Deep.QuietTactic
import Derived.BigQuiet
namespace Go.Proofs.YtadoonimokpnoaaDoor
open Go.RowKit Go.Extern.Stop Go.Stop Go.Extern

theorem drop_byte (s : ByteArray) (i : Nat) (h : i < s.size) : s.data.toList.drop i = s[i] :: s.data.toList.drop (i + 1) := by
  rw [List.drop_eq_getElem_cons (by simpa using h)]; rfl

/-- What the loop holds when it has summed i bytes. -/
structure SumAt (s : ByteArray) (w : World) (k : Nat) (nv iv : Value) (wr : World) (n i : Nat) : Prop where
  p1 : nv = .int .u32 n
  p2 : iv = .int .i64 i
  p3 : i + k = s.size
  p4 : n < 4294967296
  p5 : (s.data.toList.drop i).foldl sumStep n = sumL s.data.toList
  p6 : w = wr

theorem sum_wrap (n : Nat) (b : UInt8) (hn : n < 4294967296) : bits .xor .u32 (n : Int) ((b.toNat : Int) % 4294967296) * 16777619 % 4294967296 = ((sumStep n b : Nat) : Int) := by
  have hb : b.toNat < 256 := b.toNat_lt
  have e0 : (b.toNat : Int) % 4294967296 = ((b.toNat : Nat) : Int) := by omega
  rw [e0, u32_xor_nat n b.toNat hn (by omega)]
  unfold sumStep
  omega

set_option maxRecDepth 100000 in
set_option maxHeartbeats 4000000 in
theorem sum_any (s : ByteArray) (w : World) (hs : s.size ≤ 4000000000000000000) :
    Calls Tryd.prog 10 #[.string s] w fun e w' => e = .returned (.int .u32 (sumL s.data.toList)) ∧ w = w' := by
  go_enter Tryd.func10, Tryd.ntmps10
  go_wp2
  go_loopg [3, 7] s.size (fun k nv iv wr => ∃ n i, SumAt s w k nv iv wr n i)
  case atStart => exact ⟨2166136261, 0, rfl, rfl, by omega, by decide, rfl, rfl⟩
  case round =>
    obtain ⟨n, i, rfl, rfl, h3, h4, h5, rfl⟩ := hrel
    have H5 := Lib.hid h5
    clear h5
    by_cases hlt : i < s.size
    · have hw := sum_wrap n s[i] h4
      have HW := Lib.hid hw
      have H4 := Lib.hid h4
      have i1 : (i : Int) < (s.size : Int) := by omega
      clear hw h4
      go_wp2
      rw [HW.out]
      go_roundg (gk - 1)
      case measure => omega
      case rel =>
        refine ⟨sumStep n s[i], i + 1, rfl, by go_num, by omega, sumStep_lt _ _, ?_, rfl⟩
        rw [← H5.out, drop_byte s i hlt]; rfl
    · obtain rfl : i = s.size := by omega
      have e1 : sumL s.data.toList = n := by
        rw [← H5.out, List.drop_eq_nil_of_le (by simp)]; rfl
      go_wp2
      go_ret
      exact ⟨by rw [e1]; rfl, rfl⟩

theorem conv_four (n : Nat) (hn : n < 4294967296) (w : World) :
    (convert 31 9 (.slice (some ⟨w.heap.size, 0, none⟩) 4 4)).run Tryd.prog (w.alloc (.cells #[.int .u8 ((n : Int) % 256), .int .u8 ((n : Int) / 256 % 256), .int .u8 ((n : Int) / 65536 % 256), .int .u8 ((n : Int) / 16777216)] 5))
      = .ok (.string ⟨(fourL n).toArray⟩) (w.alloc (.cells #[.int .u8 ((n : Int) % 256), .int .u8 ((n : Int) / 256 % 256), .int .u8 ((n : Int) / 65536 % 256), .int .u8 ((n : Int) / 16777216)] 5)) := by
  refine run_convert_bytes_back (P := Tryd.prog) _ 31 9 5 ⟨w.heap.size, 0, none⟩ 4 (fourL n) Tryd.underlying31 Tryd.underlying5 Tryd.underlying9 fun j hj => ?_
  rcases j with _ | _ | _ | _ | j
  · simp [fourL, Addr.add]
  · simp [fourL, Addr.add]
  · simp [fourL, Addr.add]
  · simp [fourL, Addr.add]
    omega
  · simp [fourL] at hj
    omega

set_option maxRecDepth 100000 in
set_option maxHeartbeats 4000000 in
theorem mark_any (s : ByteArray) (w : World) (hs : s.size ≤ 4000000000000000000) :
    Calls Tryd.prog 13 #[.string s] w fun e w' => e = .returned (.string (sign s)) ∧ Below w.heap.size w w' := by
  have hn := sumL_lt s.data.toList
  have C := sum_any s w hs
  generalize hq : sumL s.data.toList = n at C hn
  have HQ := Lib.hid hq
  clear hq
  have hcv := conv_four n hn w
  go_enter Tryd.func13, Tryd.ntmps13
  go_wp2_with (go_at_call 10; (with_reducible refine C.mono ?_); rintro e w' ⟨rfl, rfl⟩)
  clear hcv
  go_ret
  exact ⟨by unfold sign; rw [HQ.out]; rfl, (Below.refl _ _).alloc (Nat.le_refl _) _⟩

set_option maxRecDepth 100000 in
set_option maxHeartbeats 4000000 in
theorem wrapF_any (s : ByteArray) (w : World) (hs : s.size ≤ 3000000000000000000) :
    Calls Tryd.prog 6 #[.string s] w fun e w' => e = .returned (.string (framed s)) ∧ Below w.heap.size w w' := by
  have h11 := num_size_le s.size
  have hz : (text s).size ≤ 11 + s.size := by rw [text_size]; omega
  have C := text_any s w (by omega)
  generalize hq : text s = q at C hz
  have HQ := Lib.hid hq
  clear hq
  have D := fun W => mark_any q W (by omega)
  generalize hr : sign q = r at D
  have n1 : ¬ 9223372036854775807 < r.size + q.size := by
    have : r.size = 4 := by rw [← hr]; rfl
    omega
  have HR := Lib.hid hr
  clear hr
  go_enter Tryd.func6, Tryd.ntmps6
  go_wp2_with fail
  go_at_call 12
  ((with_reducible refine C.mono ?_); rintro e w1 ⟨rfl, hb⟩)
  have HB := Lib.hid hb
  clear hb
  go_wp2_with fail
  go_at_call 13
  ((with_reducible refine (D _).mono ?_); rintro e w2 ⟨rfl, hb⟩)
  have HB2 := Lib.hid hb
  clear hb
  go_wp2
  go_ret
  refine ⟨?_, HB.out.trans (HB2.out.mono HB.out.size)⟩
  unfold framed
  rw [HQ.out, HR.out]; rfl
end Go.Proofs.YtadoonimokpnoaaDoor
