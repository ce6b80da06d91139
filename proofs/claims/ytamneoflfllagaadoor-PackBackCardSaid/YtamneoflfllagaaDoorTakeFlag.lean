/-
  pack.TakeFlag.
-/
import Derived.Test.YtamneoflfllagaaDoorTakeText
namespace Go.Proofs.YtamneoflfllagaaDoor
open Go.RowKit Go.Extern.Stop Go.Stop Go.Extern

theorem new_err (c : Int) (hc : (c == 0) = false) (s : ByteArray) (w : World) : Calls Tryd.prog 17 #[.int .i64 c, .string s] w (Wrapped w c) := by
  refine (new_some c hc s w).mono ?_
  rintro e w' ⟨rfl, rfl⟩
  exact ⟨_, rfl, ⟨_, .fault _ _ _ _ _ (alloc_here _ _) (.num c)⟩, (Below.refl _ _).alloc (Nat.le_refl _) _⟩
/-- What TakeFlag answers: the flag and what is behind it, or the error's number. -/
inductive Tb where
  | ok (b : Bool) (r : ByteArray)
  | err (c : Int)
def flagL (s : ByteArray) : Tb :=
  match s.data.toList with
  | [] => .err 11
  | b :: _ => if 1 < b.toNat then .err 10 else .ok (b.toNat == 1) (s.extract 1 s.size)
def FlagTaken (s : ByteArray) (w : World) (e : Ending) (w' : World) : Tb → Prop
  | .ok b r => e = .returned (.tuple #[.bool b, .string r, .nilIface]) ∧ Below w.heap.size w w'
  | .err c => ∃ v, e = .returned (.tuple #[.bool false, .string s, v]) ∧ Err w' v c ∧ Below w.heap.size w w'

set_option maxRecDepth 100000 in
set_option maxHeartbeats 1000000 in
theorem flag_none (w : World) : Calls Tryd.prog 11 #[.string ⟨#[]⟩] w fun e w' => FlagTaken ⟨#[]⟩ w e w' (.err 11) := by
  go_enter Tryd.func11, Tryd.ntmps11
  go_wp2_with fail
  go_at_call 17
  ((with_reducible refine (new_err 11 rfl _ _).mono ?_); rintro e w2 ⟨v2, rfl, he, hb⟩)
  have HE := Lib.hid he
  have HB2 := Lib.hid hb
  clear he hb
  go_wp2
  go_ret3
  exact ⟨_, rfl, HE.out, HB2.out⟩

theorem some_bytes {s : ByteArray} (h : 0 < s.size) : s.toList.isEmpty = false := by
  rw [ByteArray.toList_eq]
  cases e : s.data.toList with
  | nil =>
    have : s.data.toList.length = 0 := by rw [e]; rfl
    rw [Array.length_toList] at this
    have h2 : s.size = s.data.size := rfl
    omega
  | cons b r => rfl

set_option maxRecDepth 100000 in
set_option maxHeartbeats 1000000 in
theorem flag_form (s : ByteArray) (w : World) (h : 0 < s.size) (h1 : 1 < s[0].toNat) : Calls Tryd.prog 11 #[.string s] w fun e w' => FlagTaken s w e w' (.err 10) := by
  have hne := some_bytes h
  go_enter Tryd.func11, Tryd.ntmps11
  go_wp2_with fail
  go_at_call 17
  ((with_reducible refine (new_err 10 rfl _ _).mono ?_); rintro e w2 ⟨v2, rfl, he, hb⟩)
  have HE := Lib.hid he
  have HB2 := Lib.hid hb
  clear he hb
  go_wp2
  go_ret3
  exact ⟨_, rfl, HE.out, HB2.out⟩

set_option maxRecDepth 100000 in
set_option maxHeartbeats 1000000 in
theorem flag_ok (s : ByteArray) (w : World) (h : 0 < s.size) (hs : s.size ≤ 4000000000000000000) (h1 : ¬ 1 < s[0].toNat) : Calls Tryd.prog 11 #[.string s] w fun e w' => FlagTaken s w e w' (.ok (s[0].toNat == 1) (s.extract 1 s.size)) := by
  have hne := some_bytes h
  have h2 : s[0].toNat = 0 ∨ s[0].toNat = 1 := by omega
  rcases h2 with h2 | h2
  · have H2 := Lib.hid h2
    go_enter Tryd.func11, Tryd.ntmps11
    go_wp2_with fail
    go_quiet (fail)
    go_wp2
    go_ret3
    rw [H2.out]
    exact ⟨rfl, (Below.refl _ _).trans ⟨rfl, rfl, rfl, Nat.le_refl _, fun _ _ => rfl⟩⟩
  · have H2 := Lib.hid h2
    go_enter Tryd.func11, Tryd.ntmps11
    go_wp2_with fail
    go_quiet (fail)
    go_wp2
    go_ret3
    rw [H2.out]
    exact ⟨rfl, (Below.refl _ _).trans ⟨rfl, rfl, rfl, Nat.le_refl _, fun _ _ => rfl⟩⟩

/-- TakeFlag at every text. -/
theorem takeFlag_any (s : ByteArray) (w : World) (hs : s.size ≤ 4000000000000000000) :
    Calls Tryd.prog 11 #[.string s] w fun e w' => FlagTaken s w e w' (flagL s) := by
  unfold flagL
  split
  · next e =>
    obtain rfl : s = ⟨#[]⟩ := by
      apply ByteArray.ext; exact Array.toList_inj.1 e
    exact flag_none w
  · next b r e =>
    have h0 : 0 < s.size := by
      have h1 : s.data.toList.length = r.length + 1 := by rw [e]; rfl
      rw [Array.length_toList] at h1
      show 0 < s.data.size
      omega
    have hb : s[0] = b := by
      have h1 : s.data.toList[0]? = some b := by rw [e]; rfl
      have h2 : s.data.toList[0]? = some s[0] := by
        rw [List.getElem?_eq_getElem (by rw [Array.length_toList]; exact h0)]; rfl
      rw [h2] at h1
      exact Option.some.inj h1
    rw [← hb]
    split
    · exact flag_form s w h0 (by assumption)
    · exact flag_ok s w h0 hs (by assumption)
end Go.Proofs.YtamneoflfllagaaDoor
