/-
  pack.TakeText, pack.TakeFlag.
-/
import Derived.Test.YtckbgggocmbbdaaDoorTake
namespace Go.Proofs.YtckbgggocmbbdaaDoor
open Go.RowKit Go.Extern.Stop Go.Stop Go.Extern

theorem mid_size {s : ByteArray} {i : Nat} (_h : i ≤ s.size) : (s.extract i s.size).size = s.size - i := by
  simp [ByteArray.size_extract]
theorem mid_left {s : ByteArray} {i n : Nat} (_h : i + n ≤ s.size) : (s.extract i s.size).extract 0 n = s.extract i (i + n) := by
  rw [ByteArray.extract_extract]; congr 1 <;> omega
theorem mid_right {s : ByteArray} {i n : Nat} (_h : i + n ≤ s.size) : (s.extract i s.size).extract n (s.size - i) = s.extract (i + n) s.size := by
  rw [ByteArray.extract_extract]; congr 1 <;> omega

theorem take_ok {s r : ByteArray} {a : Addr} {w : World} {n i : Nat} (hs : s.size ≤ 4000000000000000000) (ho : OnErr w a) (h : takeL s.data.toList = .ok n i) (hr : s.extract i s.size = r) :
    Calls Tryd.prog 44 #[.string s] w fun e w' => e = .returned (.tuple #[.int .i64 n, .string r, .nilIface]) ∧ Below w.heap.size w w' := by
  have C := take_any s a w hs ho
  rw [h] at C
  subst hr
  exact C
theorem take_short {s : ByteArray} {a : Addr} {w : World} (hs : s.size ≤ 4000000000000000000) (ho : OnErr w a) (h : takeL s.data.toList = .short) :
    Calls Tryd.prog 44 #[.string s] w fun e w' => ∃ v, e = .returned (.tuple #[.int .i64 0, .string s, v]) ∧ Err w' v 11 ∧ Below w.heap.size w w' := by
  have C := take_any s a w hs ho
  rw [h] at C
  exact C

/-- What TakeText answers. -/
def TextTaken (s : ByteArray) (w : World) (e : Ending) (w' : World) : Tx → Prop
  | .ok t r => e = .returned (.tuple #[.string t, .string r, .nilIface]) ∧ Below w.heap.size w w'
  | .err c => ∃ v, e = .returned (.tuple #[.string ⟨#[]⟩, .string s, v]) ∧ Err w' v c ∧ Below w.heap.size w w'

/-- Wrap of an error keeps its number. -/
def Wrapped (w : World) (c : Int) (e : Ending) (w' : World) : Prop := ∃ v, e = .returned v ∧ Err w' v c ∧ Below w.heap.size w w'
theorem wrap_err (v : Value) (c : Int) (s : ByteArray) (w : World) (h : Err w v c) : Calls Tryd.prog 36 #[v, .string s] w (Wrapped w c) := by
  obtain ⟨t, x, rfl⟩ := h.shape
  obtain ⟨ws, h⟩ := h
  refine (wrap_some t x s w).mono ?_
  rintro e w' ⟨rfl, rfl⟩
  have hb : Below w.heap.size w (w.alloc (.cells #[.string s, .iface t x] 100)) := (Below.refl _ _).alloc (Nat.le_refl _) _
  exact ⟨_, rfl, ⟨_, .fault _ _ _ _ _ (alloc_here _ _) (h.later hb)⟩, hb⟩
theorem err_num (w : World) (c : Int) : Err w (.iface 55 (.int .i64 c)) c := ⟨[], .num c⟩

set_option maxRecDepth 100000 in
set_option maxHeartbeats 4000000 in
theorem text_bad (s : ByteArray) (most : Int) (a : Addr) (w : World) (c : Int) (hs : s.size ≤ 4000000000000000000) (ho : OnErr w a) (ht : (takeL s.data.toList = .form ∧ c = 10) ∨ (takeL s.data.toList = .short ∧ c = 11)) :
    Calls Tryd.prog 37 #[.string s, .int .i64 most] w fun e w' => TextTaken s w e w' (.err c) := by
  have C := take_any s a w hs ho
  have C2 : Calls Tryd.prog 44 #[.string s] w fun e w' => ∃ v, e = .returned (.tuple #[.int .i64 0, .string s, v]) ∧ Err w' v c ∧ Below w.heap.size w w' := by
    rcases ht with ⟨h, rfl⟩ | ⟨h, rfl⟩
    · rw [h] at C; exact C
    · rw [h] at C; exact C
  clear C ht
  go_enter Tryd.func37, Tryd.ntmps37
  go_wp2_with fail
  go_at_call 44
  ((with_reducible refine C2.mono ?_); rintro e w1 ⟨v, rfl, he, hb⟩)
  have C3 := wrap_err v c ⟨#[112, 97, 99, 107, 46, 84, 97, 107, 101, 84, 101, 120, 116]⟩ w1 he
  obtain ⟨tv, xv, rfl⟩ := he.shape
  have HB := Lib.hid hb
  clear he hb
  go_wp2_with fail
  go_at_call 36
  ((with_reducible refine C3.mono ?_); rintro e w2 ⟨v2, rfl, he, hb⟩)
  have HE := Lib.hid he
  have HB2 := Lib.hid hb
  clear he hb
  go_wp2
  go_ret3
  exact ⟨_, rfl, HE.out, HB.out.trans (HB2.out.mono HB.out.size)⟩

set_option maxRecDepth 100000 in
set_option maxHeartbeats 4000000 in
theorem text_large (s : ByteArray) (most : Int) (a : Addr) (w : World) (n i : Nat) (hs : s.size ≤ 4000000000000000000) (ho : OnErr w a) (ht : takeL s.data.toList = .ok n i) (hm : most < n) :
    Calls Tryd.prog 37 #[.string s, .int .i64 most] w fun e w' => TextTaken s w e w' (.err 13) := by
  have C := take_any s a w hs ho
  rw [ht] at C
  clear ht
  go_enter Tryd.func37, Tryd.ntmps37
  go_wp2_with fail
  go_at_call 44
  ((with_reducible refine C.mono ?_); rintro e w1 ⟨rfl, hb⟩)
  have C3 := wrap_err _ 13 ⟨#[112, 97, 99, 107, 46, 84, 97, 107, 101, 84, 101, 120, 116]⟩ w1 (err_num w1 13)
  have HB := Lib.hid hb
  clear hb
  go_wp2_with fail
  go_at_call 36
  ((with_reducible refine C3.mono ?_); rintro e w2 ⟨v2, rfl, he, hb⟩)
  have HE := Lib.hid he
  have HB2 := Lib.hid hb
  clear he hb
  go_wp2
  go_ret3
  exact ⟨_, rfl, HE.out, HB.out.trans (HB2.out.mono HB.out.size)⟩

set_option maxRecDepth 100000 in
set_option maxHeartbeats 4000000 in
theorem text_short (s : ByteArray) (most : Int) (a : Addr) (w : World) (n i : Nat) (hs : s.size ≤ 4000000000000000000) (ho : OnErr w a) (ht : takeL s.data.toList = .ok n i) (hm : ¬ most < n) (hn : s.size - i < n) :
    Calls Tryd.prog 37 #[.string s, .int .i64 most] w fun e w' => TextTaken s w e w' (.err 11) := by
  have C := take_any s a w hs ho
  rw [ht] at C
  replace C : Calls Tryd.prog 44 #[.string s] w fun e w' => e = .returned (.tuple #[.int .i64 n, .string (s.extract i s.size), .nilIface]) ∧ Below w.heap.size w w' := C
  have hi := (takeL_le ht).2
  rw [Array.length_toList] at hi
  have hi' : i ≤ s.size := hi
  have hz : (s.extract i s.size).size = s.size - i := mid_size hi'
  have hz2 : (s.extract i s.size).size < n := by rw [hz]; exact hn
  have hz3 : (s.extract i s.size).size ≤ 4000000000000000000 := by omega
  generalize s.extract i s.size = r at C hz2 hz3 hz
  clear ht hi hz
  go_enter Tryd.func37, Tryd.ntmps37
  go_wp2_with fail
  go_at_call 44
  ((with_reducible refine C.mono ?_); rintro e w1 ⟨rfl, hb⟩)
  have C3 := wrap_err _ 11 ⟨#[112, 97, 99, 107, 46, 84, 97, 107, 101, 84, 101, 120, 116]⟩ w1 (err_num w1 11)
  have HB := Lib.hid hb
  clear hb
  go_wp2_with fail
  go_at_call 36
  ((with_reducible refine C3.mono ?_); rintro e w2 ⟨v2, rfl, he, hb⟩)
  have HE := Lib.hid he
  have HB2 := Lib.hid hb
  clear he hb
  go_wp2
  go_ret3
  exact ⟨_, rfl, HE.out, HB.out.trans (HB2.out.mono HB.out.size)⟩

set_option maxRecDepth 100000 in
set_option maxHeartbeats 4000000 in
theorem text_ok (s : ByteArray) (most : Int) (a : Addr) (w : World) (n i : Nat) (hs : s.size ≤ 4000000000000000000) (ho : OnErr w a) (ht : takeL s.data.toList = .ok n i) (hm : ¬ most < n) (hn : ¬ s.size - i < n) :
    Calls Tryd.prog 37 #[.string s, .int .i64 most] w fun e w' => TextTaken s w e w' (.ok (s.extract i (i + n)) (s.extract (i + n) s.size)) := by
  have C := take_any s a w hs ho
  rw [ht] at C
  replace C : Calls Tryd.prog 44 #[.string s] w fun e w' => e = .returned (.tuple #[.int .i64 n, .string (s.extract i s.size), .nilIface]) ∧ Below w.heap.size w w' := C
  have hi := (takeL_le ht).2
  rw [Array.length_toList] at hi
  have hi' : i ≤ s.size := hi
  have hz : (s.extract i s.size).size = s.size - i := mid_size hi'
  have hz2 : n ≤ (s.extract i s.size).size := by rw [hz]; omega
  have hz3 : (s.extract i s.size).size ≤ 4000000000000000000 := by omega
  have e1 := mid_left (s := s) (i := i) (n := n) (by omega)
  have e2 := mid_right (s := s) (i := i) (n := n) (by omega)
  rw [← hz] at e2
  generalize s.extract i s.size = r at C hz2 hz3 hz e1 e2
  have E1 := Lib.hid e1
  have E2 := Lib.hid e2
  clear ht hi hz e1 e2
  go_enter Tryd.func37, Tryd.ntmps37
  go_wp2_with fail
  go_at_call 44
  ((with_reducible refine C.mono ?_); rintro e w1 ⟨rfl, hb⟩)
  have HB := Lib.hid hb
  clear hb
  go_wp2_with fail
  go_quiet (fail)
  go_wp2
  go_ret3
  rw [← E1.out, ← E2.out]
  exact ⟨rfl, HB.out.trans ⟨rfl, rfl, rfl, Nat.le_refl _, fun _ _ => rfl⟩⟩

/-- TakeText at every text. -/
theorem takeText_any (s : ByteArray) (most : Int) (a : Addr) (w : World) (hs : s.size ≤ 4000000000000000000) (ho : OnErr w a) :
    Calls Tryd.prog 37 #[.string s, .int .i64 most] w fun e w' => TextTaken s w e w' (textL s most) := by
  unfold textL
  cases ht : takeL s.data.toList with
  | form => exact text_bad s most a w 10 hs ho (.inl ⟨ht, rfl⟩)
  | short => exact text_bad s most a w 11 hs ho (.inr ⟨ht, rfl⟩)
  | ok n i =>
    simp only
    split
    · exact text_large s most a w n i hs ho ht (by assumption)
    · split
      · exact text_short s most a w n i hs ho ht (by assumption) (by assumption)
      · exact text_ok s most a w n i hs ho ht (by assumption) (by assumption)
theorem takeText_ok {s t r : ByteArray} {most : Int} {a : Addr} {w : World} (hs : s.size ≤ 4000000000000000000) (ho : OnErr w a) (h : textL s most = .ok t r) :
    Calls Tryd.prog 37 #[.string s, .int .i64 most] w fun e w' => e = .returned (.tuple #[.string t, .string r, .nilIface]) ∧ Below w.heap.size w w' := by
  have C := takeText_any s most a w hs ho
  rw [h] at C
  exact C
theorem takeText_err {s : ByteArray} {most c : Int} {a : Addr} {w : World} (hs : s.size ≤ 4000000000000000000) (ho : OnErr w a) (h : textL s most = .err c) :
    Calls Tryd.prog 37 #[.string s, .int .i64 most] w fun e w' => ∃ v, e = .returned (.tuple #[.string ⟨#[]⟩, .string s, v]) ∧ Err w' v c ∧ Below w.heap.size w w' := by
  have C := takeText_any s most a w hs ho
  rw [h] at C
  exact C
end Go.Proofs.YtckbgggocmbbdaaDoor
