/-
  frame.Open; the known case that each statement of the layer asks first.
-/
import Derived.Test.YtadoonimokpnoaaDoorAll
import Derived.Test.YtadoonimokpnoaaDoorBrokenNum
namespace Go.Proofs.YtadoonimokpnoaaDoor
open Go.RowKit Go.Extern.Stop Go.Stop Go.Extern

set_option maxRecDepth 100000 in
set_option maxHeartbeats 4000000 in
theorem open_ok {s t : ByteArray} {e : Nat} {a : Addr} {w : World} (hs : s.size ≤ 4000000000000000000) (ho : OnErr w a) (h : openL s 0 = .ok t e) :
    Calls Tryd.prog 9 #[.string s] w fun x w' => x = .returned (.tuple #[.string t, .string (s.extract e s.size), .nilIface]) ∧ Below w.heap.size w w' := by
  have C := openAt_ok (i := 0) (Nat.zero_le _) hs ho h
  rw [show ((0 : Nat) : Int) = 0 from rfl] at C
  have s1 := slice_from s e (e : Int) rfl (openL_le h)
  generalize s.extract e s.size = r at s1
  clear h ho
  go_enter Tryd.func9, Tryd.ntmps9
  go_wp2_with fail
  go_at_call 14
  ((with_reducible refine C.mono ?_); rintro x w1 ⟨rfl, hb⟩)
  have HB := Lib.hid hb
  clear hb C
  go_wp2_with fail
  go_quiet (fail)
  go_wp2
  go_ret3
  exact ⟨rfl, HB.out.trans ⟨rfl, rfl, rfl, Nat.le_refl _, fun _ _ => rfl⟩⟩

set_option maxRecDepth 100000 in
set_option maxHeartbeats 4000000 in
theorem open_err {s : ByteArray} {c : Int} {a : Addr} {w : World} (hs : s.size ≤ 4000000000000000000) (ho : OnErr w a) (h : openL s 0 = .err c) :
    Calls Tryd.prog 9 #[.string s] w fun x w' => ∃ v, x = .returned (.tuple #[.string ⟨#[]⟩, .string s, v]) ∧ Brk w' v 0 c ∧ Below w.heap.size w w' := by
  have C := openAt_err (i := 0) (Nat.zero_le _) hs ho h
  rw [show ((0 : Nat) : Int) = 0 from rfl] at C
  clear h ho
  go_enter Tryd.func9, Tryd.ntmps9
  go_wp2_with fail
  go_at_call 14
  ((with_reducible refine C.mono ?_); rintro x w1 ⟨v, rfl, ⟨ws, v', rfl, hch⟩, hb⟩)
  have HB := Lib.hid hb
  have HC := Lib.hid hch
  clear hb hch C
  go_wp2
  go_ret3
  exact ⟨_, rfl, ⟨ws, v', rfl, HC.out⟩, HB.out⟩

theorem isCode_brk (v : Value) (i c d : Int) (w : World) (h : Brk w v i c) (hg : Handle w) : Calls Tryd.prog 11 #[v, .int .i64 d] w fun e w' => e = .returned (.bool (c == d)) ∧ Below w.heap.size w w' := by
  obtain ⟨ws, h⟩ := h
  exact isCode_B v i ws c d w h hg

/-! ### the known case -/
theorem wrap_of {s r : ByteArray} (h : framed s = r) (hs : s.size ≤ 1000) (w : World) : Calls Tryd.prog 6 #[.string s] w fun e w' => e = .returned (.string r) ∧ Below w.heap.size w w' := by
  have C := wrapF_any s w (by omega)
  rw [h] at C
  exact C
theorem framed_abc : framed ⟨#[97, 98, 99]⟩ = ⟨#[118, 43, 212, 36, 3, 97, 98, 99]⟩ := by decide +kernel
theorem framed_a : framed ⟨#[97]⟩ = ⟨#[23, 182, 116, 76, 1, 97]⟩ := by decide +kernel
theorem framed_b : framed ⟨#[98]⟩ = ⟨#[170, 183, 116, 77, 1, 98]⟩ := by decide +kernel
theorem framed_none : framed ⟨#[]⟩ = ⟨#[31, 93, 12, 5, 0]⟩ := by decide +kernel
theorem open_abcx (a : Addr) (w : World) (ho : OnErr w a) : Calls Tryd.prog 9 #[.string (⟨#[118, 43, 212, 36, 3, 97, 98, 99]⟩ ++ ⟨#[120]⟩)] w fun x w' => x = .returned (.tuple #[.string ⟨#[97, 98, 99]⟩, .string ⟨#[120]⟩, .nilIface]) ∧ Below w.heap.size w w' := by
  have e1 : openL ((⟨#[118, 43, 212, 36, 3, 97, 98, 99]⟩ : ByteArray) ++ ⟨#[120]⟩) 0 = .ok ⟨#[97, 98, 99]⟩ 8 := by kernel_rfl
  have e2 : ((⟨#[118, 43, 212, 36, 3, 97, 98, 99]⟩ : ByteArray) ++ ⟨#[120]⟩).extract 8 ((⟨#[118, 43, 212, 36, 3, 97, 98, 99]⟩ : ByteArray) ++ ⟨#[120]⟩).size = ⟨#[120]⟩ := by decide +kernel
  have C := open_ok (w := w) (by decide +kernel) ho e1
  rw [e2] at C
  exact C
theorem open_zeros (a : Addr) (w : World) (ho : OnErr w a) : Calls Tryd.prog 9 #[.string ⟨#[0, 0, 0, 0, 0]⟩] w fun x w' => ∃ v, x = .returned (.tuple #[.string ⟨#[]⟩, .string ⟨#[0, 0, 0, 0, 0]⟩, v]) ∧ Brk w' v 0 12 ∧ Below w.heap.size w w' :=
  open_err (by decide +kernel) ho (show openL ⟨#[0, 0, 0, 0, 0]⟩ 0 = .err 12 by kernel_rfl)
theorem open_three (a : Addr) (w : World) (ho : OnErr w a) : Calls Tryd.prog 9 #[.string ⟨#[97, 98, 99]⟩] w fun x w' => ∃ v, x = .returned (.tuple #[.string ⟨#[]⟩, .string ⟨#[97, 98, 99]⟩, v]) ∧ Brk w' v 0 11 ∧ Below w.heap.size w w' :=
  open_err (by decide +kernel) ho (show openL ⟨#[97, 98, 99]⟩ 0 = .err 11 by kernel_rfl)
theorem all_abz (a : Addr) (w : World) (hg : Handle w) (ho : OnErr w a) : Calls Tryd.prog 7 #[.string (⟨#[23, 182, 116, 76, 1, 97]⟩ ++ ⟨#[170, 183, 116, 77, 1, 98]⟩ ++ ⟨#[122]⟩)] w fun e w' => ∃ p c, e = .returned (.tuple #[.slice p 2 c, .int .i64 12]) ∧ Below w.heap.size w w' := by
  have e1 : openL ((⟨#[23, 182, 116, 76, 1, 97]⟩ : ByteArray) ++ ⟨#[170, 183, 116, 77, 1, 98]⟩ ++ ⟨#[122]⟩) 0 = .ok ⟨#[97]⟩ 6 := by kernel_rfl
  have e2 : openL ((⟨#[23, 182, 116, 76, 1, 97]⟩ : ByteArray) ++ ⟨#[170, 183, 116, 77, 1, 98]⟩ ++ ⟨#[122]⟩) 6 = .ok ⟨#[98]⟩ 12 := by kernel_rfl
  have e3 : openL ((⟨#[23, 182, 116, 76, 1, 97]⟩ : ByteArray) ++ ⟨#[170, 183, 116, 77, 1, 98]⟩ ++ ⟨#[122]⟩) 12 = .err 11 := by kernel_rfl
  refine (all_any _ [⟨#[97]⟩, ⟨#[98]⟩] 12 a w (.more e1 (.more e2 (.done e3))) (by decide) (by decide +kernel) hg ho).mono ?_
  rintro e w' ⟨sv, rfl, ⟨p, c, rfl, _⟩, hb⟩
  exact ⟨p, c, rfl, hb⟩
theorem sum_none (w : World) : Calls Tryd.prog 10 #[.string ⟨#[]⟩] w fun e w' => e = .returned (.int .u32 2166136261) ∧ w = w' := sum_any ⟨#[]⟩ w (by decide +kernel)
theorem sum_a (w : World) : Calls Tryd.prog 10 #[.string ⟨#[97]⟩] w fun e w' => e = .returned (.int .u32 3826002220) ∧ w = w' := by
  have C := sum_any ⟨#[97]⟩ w (by decide +kernel)
  have e : sumL (⟨#[97]⟩ : ByteArray).data.toList = 3826002220 := by decide +kernel
  rw [e] at C
  exact C

set_option maxRecDepth 100000 in
set_option maxHeartbeats 4000000 in
theorem known_true (a : Addr) (w : World) (hg : Handle w) (ho : OnErr w a) : Calls Tryd.prog 5 #[] w fun e w' => e = .returned (.bool true) ∧ Below w.heap.size w w' := by
  have HG := Lib.hid hg
  have HO := Lib.hid ho
  clear hg ho
  go_enter Tryd.func5, Tryd.ntmps5
  go_wp2_with fail
  go_at_call 6
  ((with_reducible refine (wrap_of framed_abc (by decide +kernel) _).mono ?_); rintro e w1 ⟨rfl, hb⟩)
  have H1 := Lib.hid hb; clear hb
  go_wp2_with fail
  go_at_call 9
  ((with_reducible refine (open_abcx a _ (HO.out.later H1.out)).mono ?_); rintro e w2 ⟨rfl, hb⟩)
  have H2 := Lib.hid (H1.out.trans (hb.mono H1.out.size)); clear hb H1
  go_wp2_with fail
  go_at_call 9
  ((with_reducible refine (open_zeros a _ (HO.out.later H2.out)).mono ?_); rintro e w3 ⟨v3, rfl, he, hb⟩)
  have E3 := Lib.hid he; clear he
  have H3 := Lib.hid (H2.out.trans (hb.mono H2.out.size)); clear hb H2
  go_wp2_with fail
  go_at_call 9
  ((with_reducible refine (open_three a _ (HO.out.later H3.out)).mono ?_); rintro e w4 ⟨v4, rfl, he, hb⟩)
  have F4 := Lib.hid he; clear he
  have E4 := Lib.hid (E3.out.later hb); clear E3
  have H4 := Lib.hid (H3.out.trans (hb.mono H3.out.size)); clear hb H3
  go_wp2_with fail
  go_at_call 6
  ((with_reducible refine (wrap_of framed_a (by decide +kernel) _).mono ?_); rintro e w5 ⟨rfl, hb⟩)
  have F5 := Lib.hid (F4.out.later hb); clear F4
  have E5 := Lib.hid (E4.out.later hb); clear E4
  have H5 := Lib.hid (H4.out.trans (hb.mono H4.out.size)); clear hb H4
  go_wp2_with fail
  go_at_call 6
  ((with_reducible refine (wrap_of framed_b (by decide +kernel) _).mono ?_); rintro e w6 ⟨rfl, hb⟩)
  have F6 := Lib.hid (F5.out.later hb); clear F5
  have E6 := Lib.hid (E5.out.later hb); clear E5
  have H6 := Lib.hid (H5.out.trans (hb.mono H5.out.size)); clear hb H5
  go_wp2_with fail
  go_at_call 7
  ((with_reducible refine (all_abz a _ (HG.out.later H6.out) (HO.out.later H6.out)).mono ?_); rintro e w7 ⟨p7, c7, rfl, hb⟩)
  have F7 := Lib.hid (F6.out.later hb); clear F6
  have E7 := Lib.hid (E6.out.later hb); clear E6
  have H7 := Lib.hid (H6.out.trans (hb.mono H6.out.size)); clear hb H6
  go_wp2_with fail
  go_at_call 10
  ((with_reducible refine (sum_none _).mono ?_); rintro e w8 ⟨rfl, rfl⟩)
  go_wp2_with fail
  go_at_call 10
  ((with_reducible refine (sum_a _).mono ?_); rintro e w8 ⟨rfl, rfl⟩)
  go_wp2_with fail
  go_at_call 11
  ((with_reducible refine (isCode_brk v3 0 12 12 _ E7.out (HG.out.later H7.out)).mono ?_); rintro e w9 ⟨rfl, hb⟩)
  have F9 := Lib.hid (F7.out.later hb); clear F7
  have H9 := Lib.hid (H7.out.trans (hb.mono H7.out.size)); clear hb H7 E7
  go_wp2_with fail
  go_at_call 11
  ((with_reducible refine (isCode_brk v4 0 11 11 _ F9.out (HG.out.later H9.out)).mono ?_); rintro e w10 ⟨rfl, hb⟩)
  have H10 := Lib.hid (H9.out.trans (hb.mono H9.out.size)); clear hb H9 F9
  go_wp2_with fail
  go_at_call 6
  ((with_reducible refine (wrap_of framed_none (by decide +kernel) _).mono ?_); rintro e w11 ⟨rfl, hb⟩)
  have H11 := Lib.hid (H10.out.trans (hb.mono H10.out.size)); clear hb H10
  go_wp2
  go_ret
  exact ⟨rfl, H11.out⟩
end Go.Proofs.YtadoonimokpnoaaDoor
