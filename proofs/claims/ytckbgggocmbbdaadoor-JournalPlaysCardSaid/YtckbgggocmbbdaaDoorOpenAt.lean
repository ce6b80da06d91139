/-
  frame.openAt: the frame at a place of a text, or what is wrong with it.
-/
import Derived.Test.YtckbgggocmbbdaaDoorBroken
import Derived.Test.YtckbgggocmbbdaaDoorTakeText
import Derived.Test.YtckbgggocmbbdaaDoorSum
namespace Go.Proofs.YtckbgggocmbbdaaDoor
open Go.RowKit Go.Extern.Stop Go.Stop Go.Extern

/-- Frame's own error of place i and number c. -/
def Brk (w : World) (v : Value) (i c : Int) : Prop := ∃ ws, Broke w v i ws c
theorem Brk.later {w w' : World} {v : Value} {i c : Int} (h : Brk w v i c) (hb : Below w.heap.size w w') : Brk w' v i c := by
  obtain ⟨ws, h⟩ := h
  exact ⟨ws, h.later hb⟩
/-- What openAt answers. -/
def OpenedAt (w : World) (i : Nat) (e : Ending) (w' : World) : Od → Prop
  | .ok t n => e = .returned (.tuple #[.string t, .int .i64 n, .nilIface]) ∧ Below w.heap.size w w'
  | .err c => ∃ v, e = .returned (.tuple #[.string ⟨#[]⟩, .int .i64 0, v]) ∧ Brk w' v i c ∧ Below w.heap.size w w'

set_option maxRecDepth 100000 in
set_option maxHeartbeats 4000000 in
theorem openAt_short (s : ByteArray) (i : Nat) (w : World) (hi : i ≤ s.size) (h : s.size - i < 4) :
    Calls Tryd.prog 29 #[.string s, .int .i64 i] w fun e w' => OpenedAt w i e w' (.err 11) := by
  have h1 : (s.size : Int) - (i : Int) < 4 := by omega
  go_enter Tryd.func29, Tryd.ntmps29
  go_wp2
  go_ret3
  exact ⟨_, rfl, ⟨[], _, rfl, .num 11⟩, Below.refl _ _⟩

theorem toList_ne {a b : ByteArray} (h : ¬ a = b) : (a.toList == b.toList) = false := by
  rw [ByteArray.toList_eq, ByteArray.toList_eq]
  have : ¬ a.data.toList = b.data.toList := fun e => h (ByteArray.ext (Array.toList_inj.1 e))
  simpa using this
/-- Slices of a text, in the form the walk meets them. -/
theorem slice_two (s : ByteArray) (i j : Nat) (iv jv : Int) (hi : iv = i) (hj : jv = j) (h1 : i ≤ j) (h2 : j ≤ s.size) (W : World) :
    (Instr.slice 9 (.string s) (some (.int .i64 iv)) (some (.int .i64 jv)) none).run Tryd.prog W = .ok (.string (s.extract i j)) W := by
  subst hi hj
  have := run_slice_string (P := Tryd.prog) W 9 s .i64 .i64 (i : Int) (j : Int) Tryd.underlying9 (by omega) (by omega) (by omega)
  simpa using this
theorem slice_from (s : ByteArray) (i : Nat) (iv : Int) (hi : iv = i) (h1 : i ≤ s.size) (W : World) :
    (Instr.slice 9 (.string s) (some (.int .i64 iv)) none none).run Tryd.prog W = .ok (.string (s.extract i s.size)) W := by
  subst hi
  have := run_slice_string_l (P := Tryd.prog) W 9 s Tryd.underlying9 .i64 (i : Int) (by omega) (by omega)
  simpa using this

set_option maxRecDepth 100000 in
set_option maxHeartbeats 4000000 in
theorem openAt_text (s : ByteArray) (i : Nat) (a : Addr) (c : Int) (w : World) (hi : i ≤ s.size) (hs : s.size ≤ 4000000000000000000) (ho : OnErr w a) (h : ¬ s.size - i < 4) (ht : textL (s.extract (i + 4) s.size) 200000 = .err c) :
    Calls Tryd.prog 29 #[.string s, .int .i64 i] w fun e w' => OpenedAt w i e w' (.err c) := by
  have h1 : ¬ (s.size : Int) - (i : Int) < 4 := by omega
  have hz : (s.extract (i + 4) s.size).size ≤ 4000000000000000000 := by rw [ByteArray.size_extract]; omega
  have s1 := slice_two s i (i + 4) (i : Int) ((i : Int) + 4) rfl (by omega) (by omega) (by omega)
  have s2 := slice_from s (i + 4) ((i : Int) + 4) (by omega) (by omega)
  have C := fun W (h : OnErr W a) => takeText_err (most := 200000) (w := W) hz h ht
  generalize s.extract i (i + 4) = H at s1
  generalize s.extract (i + 4) s.size = R at s2 C
  have HO := Lib.hid ho
  clear ho hz ht
  go_enter Tryd.func29, Tryd.ntmps29
  go_wp2_with fail
  go_quiet (fail)
  clear s1 s2
  have HD : Below w.heap.size w (w.drewN nq) := ⟨rfl, rfl, rfl, Nat.le_refl _, fun _ _ => rfl⟩
  go_wp2_with fail
  go_at_call 37
  ((with_reducible refine (C _ (HO.out.later HD)).mono ?_); rintro e w1 ⟨v, rfl, he, hb⟩)
  obtain ⟨ws, hch⟩ := he
  have HC := Lib.hid hch
  obtain ⟨tv, xv, rfl⟩ := hch.shape
  have HB := Lib.hid (HD.trans (hb.mono HD.size))
  clear hb hch C
  go_wp2
  go_ret3
  exact ⟨_, rfl, ⟨ws, _, rfl, HC.out⟩, HB.out⟩

set_option maxRecDepth 100000 in
set_option maxHeartbeats 4000000 in
theorem openAt_read (s t r : ByteArray) (i : Nat) (a : Addr) (w : World) (hi : i ≤ s.size) (hs : s.size ≤ 4000000000000000000) (ho : OnErr w a) (_h : ¬ s.size - i < 4) (ht : textL (s.extract (i + 4) s.size) 200000 = .ok t r) (hr : i + 4 + r.size ≤ s.size) :
    Calls Tryd.prog 29 #[.string s, .int .i64 i] w fun e w' => OpenedAt w i e w' (if sign (s.extract (i + 4) (s.size - r.size)) = s.extract i (i + 4) then .ok t (s.size - r.size) else .err 12) := by
  have h1 : ¬ (s.size : Int) - (i : Int) < 4 := by omega
  have hz : (s.extract (i + 4) s.size).size ≤ 4000000000000000000 := by rw [ByteArray.size_extract]; omega
  have s1 := slice_two s i (i + 4) (i : Int) ((i : Int) + 4) rfl (by omega) (by omega) (by omega)
  have s2 := slice_from s (i + 4) ((i : Int) + 4) (by omega) (by omega)
  have s3 := slice_two s (i + 4) (s.size - r.size) ((i : Int) + 4) ((s.size : Int) - (r.size : Int)) (by omega) (by omega) (by omega) (by omega)
  have C := fun W (h : OnErr W a) => takeText_ok (most := 200000) (w := W) hz h ht
  have D := fun W => mark_any (s.extract (i + 4) (s.size - r.size)) W (by rw [ByteArray.size_extract]; omega)
  have en : ((s.size : Int) - (r.size : Int)) = ((s.size - r.size : Nat) : Int) := by omega
  generalize s.extract i (i + 4) = H at s1
  generalize s.extract (i + 4) s.size = R at s2 C
  generalize s.extract (i + 4) (s.size - r.size) = M at s3 D
  have HO := Lib.hid ho
  have HN := Lib.hid en
  clear ho hz ht en
  by_cases hq : sign M = H
  · rw [if_pos hq]
    go_enter Tryd.func29, Tryd.ntmps29
    go_wp2_with fail
    go_quiet (fail)
    clear s1 s2
    have HD : Below w.heap.size w (w.drewN nq) := ⟨rfl, rfl, rfl, Nat.le_refl _, fun _ _ => rfl⟩
    go_wp2_with fail
    go_at_call 37
    ((with_reducible refine (C _ (HO.out.later HD)).mono ?_); rintro e w1 ⟨rfl, hb⟩)
    have HB := Lib.hid (HD.trans (hb.mono HD.size))
    clear hb C
    go_wp2_with fail
    go_at_call 32
    ((with_reducible refine (D _).mono ?_); rintro e w2 ⟨rfl, hb⟩)
    have HB2 := Lib.hid hb
    clear hb D s3
    go_wp2
    go_ret3
    exact ⟨by rw [HN.out]; rfl, HB.out.trans (HB2.out.mono HB.out.size)⟩
  · rw [if_neg hq]
    have hq' := toList_ne hq
    go_enter Tryd.func29, Tryd.ntmps29
    go_wp2_with fail
    go_quiet (fail)
    clear s1 s2
    have HD : Below w.heap.size w (w.drewN nq) := ⟨rfl, rfl, rfl, Nat.le_refl _, fun _ _ => rfl⟩
    go_wp2_with fail
    go_at_call 37
    ((with_reducible refine (C _ (HO.out.later HD)).mono ?_); rintro e w1 ⟨rfl, hb⟩)
    have HB := Lib.hid (HD.trans (hb.mono HD.size))
    clear hb C
    go_wp2_with fail
    go_at_call 32
    ((with_reducible refine (D _).mono ?_); rintro e w2 ⟨rfl, hb⟩)
    have HB2 := Lib.hid hb
    clear hb D s3
    go_wp2
    go_ret3
    exact ⟨_, rfl, ⟨[], _, rfl, .num 12⟩, HB.out.trans (HB2.out.mono HB.out.size)⟩

/-- openAt at every place of every text. -/
theorem openAt_any (s : ByteArray) (i : Nat) (a : Addr) (w : World) (hi : i ≤ s.size) (hs : s.size ≤ 4000000000000000000) (ho : OnErr w a) :
    Calls Tryd.prog 29 #[.string s, .int .i64 i] w fun e w' => OpenedAt w i e w' (openL s i) := by
  unfold openL
  by_cases h : s.size - i < 4
  · rw [if_pos h]; exact openAt_short s i w hi h
  · rw [if_neg h]
    cases ht : textL (s.extract (i + 4) s.size) 200000 with
    | err c => exact openAt_text s i a c w hi hs ho h ht
    | ok t r =>
      have hr : i + 4 + r.size ≤ s.size := by
        have := textL_le ht
        rw [ByteArray.size_extract] at this
        omega
      exact openAt_read s t r i a w hi hs ho h ht hr
theorem openAt_ok {s t : ByteArray} {i e : Nat} {a : Addr} {w : World} (hi : i ≤ s.size) (hs : s.size ≤ 4000000000000000000) (ho : OnErr w a) (h : openL s i = .ok t e) :
    Calls Tryd.prog 29 #[.string s, .int .i64 i] w fun x w' => x = .returned (.tuple #[.string t, .int .i64 e, .nilIface]) ∧ Below w.heap.size w w' := by
  have C := openAt_any s i a w hi hs ho
  rw [h] at C
  exact C
theorem openAt_err {s : ByteArray} {i : Nat} {c : Int} {a : Addr} {w : World} (hi : i ≤ s.size) (hs : s.size ≤ 4000000000000000000) (ho : OnErr w a) (h : openL s i = .err c) :
    Calls Tryd.prog 29 #[.string s, .int .i64 i] w fun x w' => ∃ v, x = .returned (.tuple #[.string ⟨#[]⟩, .int .i64 0, v]) ∧ Brk w' v i c ∧ Below w.heap.size w w' := by
  have C := openAt_any s i a w hi hs ho
  rw [h] at C
  exact C
end Go.Proofs.YtckbgggocmbbdaaDoor
