/-
  pack.Take: the number at the front, or what is wrong with it.
-/
import Derived.Test.YtckbgggocmbbdaaDoorIsOn
import Derived.KernelRfl
import Derived.IntWalk
namespace Go.Proofs.YtckbgggocmbbdaaDoor
open Go.RowKit Go.Extern.Stop Go.Stop Go.Extern

/-- An error of this number, however it was wrapped. -/
def Err (w : World) (v : Value) (c : Int) : Prop := ∃ ws, Chain w v ws c
theorem Err.later {w w' : World} {v : Value} {c : Int} (h : Err w v c) (hb : Below w.heap.size w w') : Err w' v c := by
  obtain ⟨ws, h⟩ := h
  exact ⟨ws, h.later hb⟩
theorem Err.shape {w : World} {v : Value} {c : Int} (h : Err w v c) : ∃ t x, v = .iface t x := by
  obtain ⟨ws, h⟩ := h
  exact h.shape
/-- What Take answers. -/
def Taken (s : ByteArray) (w : World) (e : Ending) (w' : World) : Tk → Prop
  | .ok n i => e = .returned (.tuple #[.int .i64 n, .string (s.extract i s.size), .nilIface]) ∧ Below w.heap.size w w'
  | .form => ∃ v, e = .returned (.tuple #[.int .i64 0, .string s, v]) ∧ Err w' v 10 ∧ Below w.heap.size w w'
  | .short => ∃ v, e = .returned (.tuple #[.int .i64 0, .string s, v]) ∧ Err w' v 11 ∧ Below w.heap.size w w'
/-- What the loop holds. -/
structure TakeAt (s : ByteArray) (w : World) (a : Addr) (k : Nat) (nv iv : Value) (wr : World) (n i : Nat) : Prop where
  p1 : nv = .int .i64 n
  p2 : iv = .int .i64 i
  p3 : i + k = 7
  p4 : i ≤ s.size
  p5 : n < 64 ^ i
  p6 : takeL s.data.toList = takeFrom i n (s.data.toList.drop i)
  p7 : OnErr wr a
  p8 : Below w.heap.size w wr

theorem wrap_part {n b i : Nat} (hi : i ≤ 7) (hn : n < 64 ^ i) (hb : b < 64) : wrap64 ((n : Int) + wrap64 ((b : Int) * 2 ^ (6 * i))) = ((n + b * 64 ^ i : Nat) : Int) := by
  have h : i = 0 ∨ i = 1 ∨ i = 2 ∨ i = 3 ∨ i = 4 ∨ i = 5 ∨ i = 6 ∨ i = 7 := by omega
  rcases h with rfl | rfl | rfl | rfl | rfl | rfl | rfl | rfl <;> (unfold wrap64; simp at hn ⊢; omega)
theorem part_lt {n b i : Nat} (hi : i ≤ 7) (hn : n < 64 ^ i) (hb : b < 64) : n + b * 64 ^ i < 64 ^ (i + 1) ∧ n + b * 64 ^ i < 281474976710656 := by
  have h : i = 0 ∨ i = 1 ∨ i = 2 ∨ i = 3 ∨ i = 4 ∨ i = 5 ∨ i = 6 ∨ i = 7 := by omega
  rcases h with rfl | rfl | rfl | rfl | rfl | rfl | rfl | rfl <;> (simp at hn ⊢; omega)
theorem drop_at (s : ByteArray) (i : Nat) (h : i < s.size) : s.data.toList.drop i = s[i] :: s.data.toList.drop (i + 1) := by
  rw [List.drop_eq_getElem_cons (by simpa using h)]; rfl

set_option maxRecDepth 100000 in
set_option maxHeartbeats 4000000 in
theorem take_any (s : ByteArray) (a : Addr) (w : World) (_hs : s.size ≤ 4000000000000000000) (ho : OnErr w a) :
    Calls Tryd.prog 44 #[.string s] w fun e w' => Taken s w e w' (takeL s.data.toList) := by
  go_enter Tryd.func44, Tryd.ntmps44
  go_wp2
  go_loopg [5, 6] 7 (fun k nv iv wr => ∃ n i, TakeAt s w a k nv iv wr n i)
  case atStart => exact ⟨0, 0, rfl, rfl, rfl, Nat.zero_le _, by decide, rfl, ho, Below.refl _ _⟩
  case round =>
    obtain ⟨n, i, rfl, rfl, h3, h4, h5, h6, h7, h8⟩ := hrel
    have H3 := Lib.hid h3
    have H5 := Lib.hid h5
    have H6 := Lib.hid h6
    have H7 := Lib.hid h7
    have H8 := Lib.hid h8
    have hi8 : i ≤ 7 := by omega
    clear h3 h5 h6 h7 h8
    have hc : wr.cell? ⟨1, 0, none⟩ = some (.iface 110 (.pointer (some a))) := H7.out
    have i6 : 0 ≤ 6 * (i : Int) := by omega
    by_cases hlt : i < s.size
    · have hlt8 : s[i].toNat < 256 := s[i].toNat_lt
      by_cases hbad : 128 ≤ s[i].toNat ∨ (s[i].toNat = 0 ∧ 0 < i) ∨ (64 ≤ s[i].toNat ∧ i = 7)
      · have e0 : Hid (takeL s.data.toList = .form) := Lib.hid (by rw [H6.out, drop_at s i hlt]; exact step_form hbad)
        have C := six_bad s i wr hlt hbad
        clear hbad
        go_wp2_with fail
        go_at_call 47
        ((with_reducible refine C.mono ?_); rintro e w1 ⟨rfl, rfl⟩)
        go_wp2_with fail
        go_at_call 25
        ((with_reducible refine (Is_notOn a 10 _).mono ?_); rintro e w1 ⟨rfl, rfl⟩)
        go_wp2_with fail
        go_at_call 36
        ((with_reducible refine (wrap_some _ _ _ _).mono ?_); rintro e w1 ⟨rfl, rfl⟩)
        go_wp2
        go_ret3
        rw [e0.out]
        exact ⟨_, rfl, ⟨_, .fault _ _ _ _ _ (alloc_here _ _) (.num 10)⟩, H8.out.alloc H8.out.size _⟩
      · by_cases h64 : 64 ≤ s[i].toNat
        · have h7 : ¬ i = 7 := by omega
          have h128 : s[i].toNat < 128 := by omega
          clear hbad
          obtain ⟨c, hcc⟩ : ∃ c, s[i].toNat = c + 64 := ⟨s[i].toNat - 64, by omega⟩
          have hc64 : c < 64 := by omega
          have e0 := Lib.hid (show takeL s.data.toList = takeFrom (i + 1) (n + c * 64 ^ i) (s.data.toList.drop (i + 1)) by rw [H6.out, drop_at s i hlt]; have := step_on (n := n) (r := s.data.toList.drop (i + 1)) h64 h128 h7; rw [this, hcc, Nat.add_sub_cancel])
          have C := six_onN s i c a _ hlt hcc h128 h7 H7.out
          clear hcc
          have W := wrap_part hi8 H5.out hc64
          have L := Lib.hid (part_lt hi8 H5.out hc64)
          generalize n + c * 64 ^ i = n1 at W L e0
          have HW := Lib.hid W
          clear W
          go_wp2_with fail
          go_at_call 47
          ((with_reducible refine C.mono ?_); rintro e w1 ⟨rfl, hb⟩)
          have hc1 : w1.cell? ⟨1, 0, none⟩ = some (.iface 110 (.pointer (some a))) := OnErr.later H7.out hb
          have HB1 := Lib.hid hb
          clear hb
          go_wp2_with fail
          go_at_call 25
          ((with_reducible refine (Is_on a _).mono ?_); rintro e w2 ⟨rfl, rfl⟩)
          go_wp2
          rw [HW.out]
          go_roundg (gk - 1)
          case measure => have := H3.out; omega
          case rel =>
            have := H3.out
            exact ⟨n1, i + 1, rfl, by go_num, by omega, by omega, L.out.1, e0.out, hc1, H8.out.trans (HB1.out.mono H8.out.size)⟩
        · have h1 : s[i].toNat < 64 := by omega
          have h2 : s[i].toNat ≠ 0 ∨ i = 0 := by omega
          clear hbad
          have e0 := Lib.hid (show takeL s.data.toList = .ok (n + s[i].toNat * 64 ^ i) (i + 1) by rw [H6.out, drop_at s i hlt]; exact step_last h1 h2)
          have C := six_last s i wr hlt h1 h2
          clear h2
          have W := wrap_part hi8 H5.out h1
          have L := Lib.hid (part_lt hi8 H5.out h1)
          generalize n + s[i].toNat * 64 ^ i = n1 at W L e0
          have HW := Lib.hid W
          clear W
          go_wp2_with fail
          go_at_call 47
          ((with_reducible refine C.mono ?_); rintro e w1 ⟨rfl, rfl⟩)
          go_wp2_with fail
          rw [HW.out]
          have q1 : IntKind.i64.wrap ((i : Int) + 1) = (i : Int) + 1 := IntWalk.i64_in _ (by omega)
          go_quiet (fail)
          go_wp2
          clear q1
          go_ret3
          rw [e0.out]
          exact ⟨rfl, H8.out.trans ⟨rfl, rfl, rfl, Nat.le_refl _, fun _ _ => rfl⟩⟩
    · have e0 : Hid (takeL s.data.toList = .short) := Lib.hid (by rw [H6.out, List.drop_eq_nil_of_le (by simp; omega)]; rfl)
      have hge : s.size ≤ i := by omega
      go_wp2_with fail
      go_at_call 47
      ((with_reducible refine (six_end s i _ hge).mono ?_); rintro e w1 ⟨rfl, rfl⟩)
      go_wp2_with fail
      go_at_call 25
      ((with_reducible refine (Is_notOn a 11 _).mono ?_); rintro e w1 ⟨rfl, rfl⟩)
      go_wp2_with fail
      go_at_call 36
      ((with_reducible refine (wrap_some _ _ _ _).mono ?_); rintro e w1 ⟨rfl, rfl⟩)
      go_wp2
      go_ret3
      rw [e0.out]
      exact ⟨_, rfl, ⟨_, .fault _ _ _ _ _ (alloc_here _ _) (.num 11)⟩, H8.out.alloc H8.out.size _⟩
end Go.Proofs.YtckbgggocmbbdaaDoor
