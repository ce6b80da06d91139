/-
  PackBack, walked.
-/
import Derived.Test.YtamneoflfllagaaDoorPackKnown
namespace Go.Proofs.YtamneoflfllagaaDoor
open Go.RowKit Go.Extern.Stop Go.Stop Go.Extern

theorem is_err (v : Value) (c : Int) (w : World) (h : Err w v c) (hg : Handle w) : Calls Tryd.prog 10 #[v, .int .i64 c] w fun e w' => e = .returned (.bool true) ∧ Below w.heap.size w w' := by
  obtain ⟨ws, h⟩ := h
  refine (isCode_any v ws c c w h hg).mono ?_
  rintro e w' ⟨rfl, hb⟩
  exact ⟨by simp, hb⟩

set_option maxRecDepth 100000 in
set_option maxHeartbeats 4000000 in
theorem back_out (n : Int) (s more : ByteArray) (cut : Int) (a : Addr) (w : World) (hg : Handle w) (ho : OnErr w a) (hs : s.size ≤ 140737488351232) (hm : more.size ≤ 140737488351232) (hout : 300 < s.size ∨ (s.size ≤ 300 ∧ 100 < more.size)) :
    Calls Tryd.prog 3 #[.int .u64 n, .string s, .string more, .int .u8 cut] w fun e w' => e = .returned (.bool true) ∧ Below w.heap.size w w' := by
  have C := known_true a w hg ho
  clear hg ho
  rcases hout with h | ⟨h1, h2⟩
  · have j1 : (300 : Int) < (s.size : Int) := by omega
    go_enter Tryd.func3, Tryd.ntmps3
    go_wp2_with (go_at_call 5; (with_reducible refine C.mono ?_); rintro e w1 ⟨rfl, hb⟩)
    go_ret
    exact ⟨rfl, hb⟩
  · have j1 : (s.size : Int) ≤ 300 := by omega
    have j2 : (100 : Int) < (more.size : Int) := by omega
    go_enter Tryd.func3, Tryd.ntmps3
    go_wp2_with (go_at_call 5; (with_reducible refine C.mono ?_); rintro e w1 ⟨rfl, hb⟩)
    go_ret
    exact ⟨rfl, hb⟩

set_option maxRecDepth 100000 in
set_option maxHeartbeats 4000000 in
theorem back_in (n : Nat) (s more : ByteArray) (cut : Nat) (a : Addr) (w : World) (hg : Handle w) (ho : OnErr w a) (hn : n ≤ 18446744073709551615) (hs : s.size ≤ 300) (hm : more.size ≤ 100) (hc : cut ≤ 255) :
    Calls Tryd.prog 3 #[.int .u64 n, .string s, .string more, .int .u8 cut] w fun e w' => e = .returned (.bool true) ∧ Below w.heap.size w w' := by
  have C := known_true a w hg ho
  have HG := Lib.hid hg
  have HO := Lib.hid ho
  clear hg ho
  have j1 : (s.size : Int) ≤ 300 := by omega
  have j2 : (more.size : Int) ≤ 100 := by omega
  go_enter Tryd.func3, Tryd.ntmps3
  go_wp2_with fail
  go_at_call 5
  ((with_reducible refine C.mono ?_); rintro e w1 ⟨rfl, hb⟩)
  have H1 := Lib.hid hb; clear hb C
  go_wp2_with fail
  obtain ⟨k, hk, ek⟩ : ∃ k : Nat, k < 281474976710656 ∧ (n : Int) / 131072 = (k : Int) := ⟨n / 131072, by omega, by omega⟩
  rw [ek]
  have EK := Lib.hid ek
  clear ek
  have b1 := num_size_pos k
  have b2 := num_size_le k
  have t1 : 0 < (text s).size := by rw [text_size]; have := num_size_pos s.size; omega
  have t2 : (text s).size ≤ 311 := by rw [text_size]; have := num_size_le s.size; omega
  have CN := num_any k w1 (by omega)
  have CT := fun w => text_any s w (by omega)
  have q1 : takeL (num k ++ more).data.toList = .ok k (num k).size := take_num_bytes k hk more
  have q2 := append_extract_right (num k) more
  have q3 := textL_text s more 300 j1 (by omega)
  have q4 : takeL ((num k).extract 0 (cut % (num k).size)).data.toList = .short := take_num_short k _ hk (Nat.mod_lt _ b1)
  have q5 : textL ((text s).extract 0 (cut % (text s).size)) 300 = .err 11 := textL_cut s _ 300 j1 (by omega) (Nat.mod_lt _ t1)
  generalize num k = B at b1 b2 CN q1 q2 q4
  generalize text s = T at t1 t2 CT q3 q5
  have Q1 := Lib.hid q1
  have Q2 := Lib.hid q2
  have Q3 := Lib.hid q3
  have Q4 := Lib.hid q4
  have Q5 := Lib.hid q5
  clear q1 q2 q3 q4 q5
  have nb : ¬ B = ByteArray.empty := fun h => by subst h; simp at b1
  have nt : ¬ T = ByteArray.empty := fun h => by subst h; simp at t1
  have z1 : ((B.size : Int) == 0) = false := by simp; omega
  have z2 : ((T.size : Int) == 0) = false := by simp; omega
  have x1 : ¬ 9223372036854775807 < B.size + more.size := by omega
  have x2 : ¬ 9223372036854775807 < T.size + more.size := by omega
  go_at_call 6
  ((with_reducible refine CN.mono ?_); rintro e w2 ⟨rfl, hb⟩)
  have H2 := Lib.hid (H1.out.trans (hb.mono H1.out.size)); clear hb CN H1
  go_wp2_with fail
  go_at_call 7
  ((with_reducible refine (CT _).mono ?_); rintro e w3 ⟨rfl, hb⟩)
  have H3 := Lib.hid (H2.out.trans (hb.mono H2.out.size)); clear hb CT H2
  go_wp2_with fail
  go_at_call 8
  ((with_reducible refine (take_ok (by simp; omega) (HO.out.later H3.out) Q1.out Q2.out).mono ?_); rintro e w4 ⟨rfl, hb⟩)
  have H4 := Lib.hid (H3.out.trans (hb.mono H3.out.size)); clear hb H3
  go_wp2_with fail
  go_at_call 9
  ((with_reducible refine (takeText_ok (by simp; omega) (HO.out.later H4.out) Q3.out).mono ?_); rintro e w5 ⟨rfl, hb⟩)
  have H5 := Lib.hid (H4.out.trans (hb.mono H4.out.size)); clear hb H4
  have y2 : cut % B.size < B.size := Nat.mod_lt _ b1
  go_wp2_with fail
  go_at_call 8
  ((with_reducible refine (take_short (by simp; omega) (HO.out.later H5.out) Q4.out).mono ?_); rintro e w6 ⟨v6, rfl, he, hb⟩)
  have E6 := Lib.hid he; clear he
  have H6 := Lib.hid (H5.out.trans (hb.mono H5.out.size)); clear hb H5 y2
  have y3 : cut % T.size < T.size := Nat.mod_lt _ t1
  go_wp2_with fail
  go_at_call 9
  ((with_reducible refine (takeText_err (by simp; omega) (HO.out.later H6.out) Q5.out).mono ?_); rintro e w7 ⟨v7, rfl, he, hb⟩)
  have F7 := Lib.hid he; clear he
  have E7 := Lib.hid (E6.out.later hb); clear E6
  have H7 := Lib.hid (H6.out.trans (hb.mono H6.out.size)); clear hb H6 y3
  go_wp2_with fail
  go_at_call 10
  ((with_reducible refine (is_err v6 11 _ E7.out (HG.out.later H7.out)).mono ?_); rintro e w8 ⟨rfl, hb⟩)
  have F8 := Lib.hid (F7.out.later hb); clear F7
  have H8 := Lib.hid (H7.out.trans (hb.mono H7.out.size)); clear hb H7 E7
  go_wp2_with fail
  go_at_call 10
  ((with_reducible refine (is_err v7 11 _ F8.out (HG.out.later H8.out)).mono ?_); rintro e w9 ⟨rfl, hb⟩)
  have H9 := Lib.hid (H8.out.trans (hb.mono H8.out.size)); clear hb H8 F8
  go_wp2_with fail
  go_at_call 6
  ((with_reducible refine (num_neg _ _ (by omega)).mono ?_); rintro e w10 ⟨rfl, hb⟩)
  have H10 := Lib.hid (H9.out.trans (hb.mono H9.out.size)); clear hb H9
  have CZ : Calls Tryd.prog 6 #[.int .i64 0] w10 fun e w' => e = .returned (.string (num 0)) ∧ Below w10.heap.size w10 w' := num_any 0 w10 (by omega)
  generalize num 0 = Z at CZ ⊢
  go_wp2_with fail
  go_at_call 6
  ((with_reducible refine CZ.mono ?_); rintro e w11 ⟨rfl, hb⟩)
  have H11 := Lib.hid (H10.out.trans (hb.mono H10.out.size)); clear hb H10 CZ
  go_wp2
  go_ret
  exact ⟨rfl, H11.out⟩
end Go.Proofs.YtamneoflfllagaaDoor
