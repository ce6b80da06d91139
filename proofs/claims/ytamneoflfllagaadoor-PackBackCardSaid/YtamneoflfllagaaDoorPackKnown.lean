/-
  The known case that each statement of the layer asks first.
-/
import Derived.Test.YtamneoflfllagaaDoorTakeFlag
import Derived.Test.YtamneoflfllagaaDoorNum
namespace Go.Proofs.YtamneoflfllagaaDoor
open Go.RowKit Go.Extern.Stop Go.Stop Go.Extern

theorem num64 : num 64 = ⟨#[64, 1]⟩ := by decide +kernel
theorem text_ab : text ⟨#[97, 98]⟩ = ⟨#[2, 97, 98]⟩ := by decide +kernel
theorem text_abc : text ⟨#[97, 98, 99]⟩ = ⟨#[3, 97, 98, 99]⟩ := by decide +kernel
theorem num_64 (w : World) : Calls Tryd.prog 6 #[.int .i64 64] w fun e w' => e = .returned (.string ⟨#[64, 1]⟩) ∧ Below w.heap.size w w' := by
  have := num_any 64 w (by decide)
  rw [num64] at this
  exact this
/-- An error's number is told by Code. -/
theorem code_err (v : Value) (c : Int) (w : World) (h : Err w v c) (hg : Handle w) : Calls Tryd.prog 13 #[v] w fun e w' => e = .returned (.int .i64 c) ∧ Below w.heap.size w w' := by
  obtain ⟨ws, h⟩ := h
  exact code_any v ws c w h hg

theorem take_64x (a : Addr) (w : World) (ho : OnErr w a) : Calls Tryd.prog 8 #[.string (⟨#[64, 1]⟩ ++ ⟨#[120]⟩)] w fun e w' => e = .returned (.tuple #[.int .i64 64, .string ⟨#[120]⟩, .nilIface]) ∧ Below w.heap.size w w' := by
  have e1 : takeL ((⟨#[64, 1]⟩ : ByteArray) ++ ⟨#[120]⟩).data.toList = .ok 64 2 := by kernel_rfl
  have e2 : ((⟨#[64, 1]⟩ : ByteArray) ++ ⟨#[120]⟩).extract 2 ((⟨#[64, 1]⟩ : ByteArray) ++ ⟨#[120]⟩).size = ⟨#[120]⟩ := by decide +kernel
  exact take_ok (by decide +kernel) ho e1 e2
theorem take_none (a : Addr) (w : World) (ho : OnErr w a) : Calls Tryd.prog 8 #[.string ⟨#[]⟩] w fun e w' => ∃ v, e = .returned (.tuple #[.int .i64 0, .string ⟨#[]⟩, v]) ∧ Err w' v 11 ∧ Below w.heap.size w w' := by
  have h := take_any ⟨#[]⟩ a w (by decide +kernel) ho
  have e1 : takeL (⟨#[]⟩ : ByteArray).data.toList = .short := by kernel_rfl
  rw [e1] at h
  exact h
theorem text_2 (w : World) : Calls Tryd.prog 7 #[.string ⟨#[97, 98]⟩] w fun e w' => e = .returned (.string ⟨#[2, 97, 98]⟩) ∧ Below w.heap.size w w' := by
  have h := text_any ⟨#[97, 98]⟩ w (by decide +kernel)
  rw [text_ab] at h
  exact h
theorem text_3 (w : World) : Calls Tryd.prog 7 #[.string ⟨#[97, 98, 99]⟩] w fun e w' => e = .returned (.string ⟨#[3, 97, 98, 99]⟩) ∧ Below w.heap.size w w' := by
  have h := text_any ⟨#[97, 98, 99]⟩ w (by decide +kernel)
  rw [text_abc] at h
  exact h
theorem takeText_ab (a : Addr) (w : World) (ho : OnErr w a) : Calls Tryd.prog 9 #[.string (⟨#[2, 97, 98]⟩ ++ ⟨#[121]⟩), .int .i64 5] w fun e w' => e = .returned (.tuple #[.string ⟨#[97, 98]⟩, .string ⟨#[121]⟩, .nilIface]) ∧ Below w.heap.size w w' := by
  have h := takeText_any (⟨#[2, 97, 98]⟩ ++ ⟨#[121]⟩) 5 a w (by decide +kernel) ho
  have e1 : textL ((⟨#[2, 97, 98]⟩ : ByteArray) ++ ⟨#[121]⟩) 5 = .ok ⟨#[97, 98]⟩ ⟨#[121]⟩ := by kernel_rfl
  rw [e1] at h
  exact h
theorem takeText_abc (a : Addr) (w : World) (ho : OnErr w a) : Calls Tryd.prog 9 #[.string ⟨#[3, 97, 98, 99]⟩, .int .i64 2] w fun e w' => ∃ v, e = .returned (.tuple #[.string ⟨#[]⟩, .string ⟨#[3, 97, 98, 99]⟩, v]) ∧ Err w' v 13 ∧ Below w.heap.size w w' := by
  have h := takeText_any ⟨#[3, 97, 98, 99]⟩ 2 a w (by decide +kernel) ho
  have e1 : textL (⟨#[3, 97, 98, 99]⟩ : ByteArray) 2 = .err 13 := by kernel_rfl
  rw [e1] at h
  exact h
theorem takeFlag_1 (w : World) : Calls Tryd.prog 11 #[.string ⟨#[1]⟩] w fun e w' => e = .returned (.tuple #[.bool true, .string ⟨#[]⟩, .nilIface]) ∧ Below w.heap.size w w' := by
  have h := takeFlag_any ⟨#[1]⟩ w (by decide +kernel)
  have e1 : flagL (⟨#[1]⟩ : ByteArray) = .ok true ⟨#[]⟩ := by kernel_rfl
  rw [e1] at h
  exact h
theorem takeFlag_2 (w : World) : Calls Tryd.prog 11 #[.string ⟨#[2]⟩] w fun e w' => ∃ v, e = .returned (.tuple #[.bool false, .string ⟨#[2]⟩, v]) ∧ Err w' v 10 ∧ Below w.heap.size w w' := by
  have h := takeFlag_any ⟨#[2]⟩ w (by decide +kernel)
  have e1 : flagL (⟨#[2]⟩ : ByteArray) = .err 10 := by kernel_rfl
  rw [e1] at h
  exact h
theorem flag_1 (w : World) : Calls Tryd.prog 12 #[.bool true] w fun e w' => e = .returned (.string ⟨#[1]⟩) ∧ w = w' := flag_any true w

set_option maxRecDepth 100000 in
set_option maxHeartbeats 4000000 in
theorem known_true (a : Addr) (w : World) (hg : Handle w) (ho : OnErr w a) : Calls Tryd.prog 5 #[] w fun e w' => e = .returned (.bool true) ∧ Below w.heap.size w w' := by
  have HG := Lib.hid hg
  have HO := Lib.hid ho
  clear hg ho
  go_enter Tryd.func5, Tryd.ntmps5
  go_wp2_with fail
  go_at_call 6
  ((with_reducible refine (num_64 _).mono ?_); rintro e w1 ⟨rfl, hb⟩)
  have H1 := Lib.hid hb; clear hb
  go_wp2_with fail
  go_at_call 8
  ((with_reducible refine (take_64x a _ (HO.out.later H1.out)).mono ?_); rintro e w2 ⟨rfl, hb⟩)
  have H2 := Lib.hid (H1.out.trans (hb.mono H1.out.size)); clear hb H1
  go_wp2_with fail
  go_at_call 7
  ((with_reducible refine (text_2 _).mono ?_); rintro e w3 ⟨rfl, hb⟩)
  have H3 := Lib.hid (H2.out.trans (hb.mono H2.out.size)); clear hb H2
  go_wp2_with fail
  go_at_call 9
  ((with_reducible refine (takeText_ab a _ (HO.out.later H3.out)).mono ?_); rintro e w4 ⟨rfl, hb⟩)
  have H4 := Lib.hid (H3.out.trans (hb.mono H3.out.size)); clear hb H3
  go_wp2_with fail
  go_at_call 8
  ((with_reducible refine (take_none a _ (HO.out.later H4.out)).mono ?_); rintro e w5 ⟨v5, rfl, he, hb⟩)
  have E5 := Lib.hid he; clear he
  have H5 := Lib.hid (H4.out.trans (hb.mono H4.out.size)); clear hb H4
  go_wp2_with fail
  go_at_call 7
  ((with_reducible refine (text_3 _).mono ?_); rintro e w6 ⟨rfl, hb⟩)
  have E6 := Lib.hid (E5.out.later hb); clear E5
  have H6 := Lib.hid (H5.out.trans (hb.mono H5.out.size)); clear hb H5
  go_wp2_with fail
  go_at_call 9
  ((with_reducible refine (takeText_abc a _ (HO.out.later H6.out)).mono ?_); rintro e w7 ⟨v7, rfl, he, hb⟩)
  have F7 := Lib.hid he; clear he
  have E7 := Lib.hid (E6.out.later hb); clear E6
  have H7 := Lib.hid (H6.out.trans (hb.mono H6.out.size)); clear hb H6
  go_wp2_with fail
  go_at_call 12
  ((with_reducible refine (flag_1 _).mono ?_); rintro e w8 ⟨rfl, rfl⟩)
  go_wp2_with fail
  go_at_call 11
  ((with_reducible refine (takeFlag_1 _).mono ?_); rintro e w8 ⟨rfl, hb⟩)
  have F8 := Lib.hid (F7.out.later hb); clear F7
  have E8 := Lib.hid (E7.out.later hb); clear E7
  have H8 := Lib.hid (H7.out.trans (hb.mono H7.out.size)); clear hb H7
  go_wp2_with fail
  go_at_call 11
  ((with_reducible refine (takeFlag_2 _).mono ?_); rintro e w9 ⟨v9, rfl, he, hb⟩)
  have G9 := Lib.hid he; clear he
  have F9 := Lib.hid (F8.out.later hb); clear F8
  have E9 := Lib.hid (E8.out.later hb); clear E8
  have H9 := Lib.hid (H8.out.trans (hb.mono H8.out.size)); clear hb H8
  go_wp2_with fail
  go_at_call 6
  ((with_reducible refine (num_64 _).mono ?_); rintro e w10 ⟨rfl, hb⟩)
  have G10 := Lib.hid (G9.out.later hb); clear G9
  have F10 := Lib.hid (F9.out.later hb); clear F9
  have E10 := Lib.hid (E9.out.later hb); clear E9
  have H10 := Lib.hid (H9.out.trans (hb.mono H9.out.size)); clear hb H9
  go_wp2_with fail
  go_at_call 13
  ((with_reducible refine (code_err v5 11 _ E10.out (HG.out.later H10.out)).mono ?_); rintro e w11 ⟨rfl, hb⟩)
  have G11 := Lib.hid (G10.out.later hb); clear G10
  have F11 := Lib.hid (F10.out.later hb); clear F10
  have H11 := Lib.hid (H10.out.trans (hb.mono H10.out.size)); clear hb H10 E10
  go_wp2_with fail
  go_at_call 13
  ((with_reducible refine (code_err v7 13 _ F11.out (HG.out.later H11.out)).mono ?_); rintro e w12 ⟨rfl, hb⟩)
  have G12 := Lib.hid (G11.out.later hb); clear G11
  have H12 := Lib.hid (H11.out.trans (hb.mono H11.out.size)); clear hb H11 F11
  go_wp2_with fail
  go_at_call 13
  ((with_reducible refine (code_err v9 10 _ G12.out (HG.out.later H12.out)).mono ?_); rintro e w13 ⟨rfl, hb⟩)
  have H13 := Lib.hid (H12.out.trans (hb.mono H12.out.size)); clear hb H12 G12
  go_wp2
  go_ret
  exact ⟨rfl, H13.out⟩
end Go.Proofs.YtamneoflfllagaaDoor
