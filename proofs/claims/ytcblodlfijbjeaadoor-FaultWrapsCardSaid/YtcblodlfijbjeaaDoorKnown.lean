/-
  The known case that each statement asks first.
-/
import Derived.Test.YtcblodlfijbjeaaDoorSame
namespace Go.Proofs.YtcblodlfijbjeaaDoor
open Go.RowKit Go.Extern.Stop Go.Stop Go.Extern

def tA : ByteArray := ⟨#[97]⟩
def tB : ByteArray := ⟨#[98]⟩

theorem text14 : textOf [⟨#[97]⟩, ⟨#[98]⟩] (errorWord ++ ⟨(Lib.decDigits 14).toArray⟩) = ⟨#[97, 58, 32, 98, 58, 32, 101, 114, 114, 111, 114, 32, 49, 52]⟩ := by decide +kernel

set_option maxRecDepth 100000 in
set_option maxHeartbeats 4000000 in
theorem known_true (w : World) (hg : Handle w) : Calls Tryd.prog 5 #[] w fun e w' => e = .returned (.bool true) ∧ Below w.heap.size w w' := by
  have W2 : Below w.heap.size w ((w.alloc (.cells #[.string ⟨#[98]⟩, .iface 24 (.int .i64 14)] 42)).alloc (.cells #[.string ⟨#[97]⟩, .iface 40 (.pointer (some ⟨w.heap.size, 0, none⟩))] 42)) := ((Below.refl _ _).alloc (Nat.le_refl _) _).alloc (by simp) _
  have hch : Chain ((w.alloc (.cells #[.string ⟨#[98]⟩, .iface 24 (.int .i64 14)] 42)).alloc (.cells #[.string ⟨#[97]⟩, .iface 40 (.pointer (some ⟨w.heap.size, 0, none⟩))] 42)) (.iface 40 (.pointer (some ⟨w.heap.size + 1, 0, none⟩))) [⟨#[97]⟩, ⟨#[98]⟩] 14 := by
    refine .fault _ _ (.iface 40 (.pointer (some ⟨w.heap.size, 0, none⟩))) _ _ (by have := alloc_here (w.alloc (.cells #[.string ⟨#[98]⟩, .iface 24 (.int .i64 14)] 42)) (.cells #[.string ⟨#[97]⟩, .iface 40 (.pointer (some ⟨w.heap.size, 0, none⟩))] 42); simpa using this) ?_
    refine .fault _ _ (.iface 24 (.int .i64 14)) _ _ ?_ (.num 14)
    rw [((Below.refl (w.heap.size + 1) _).alloc (by simp) _).block w.heap.size (by omega)]
    exact alloc_here _ _
  have HG := Lib.hid (hg.later W2)
  have HC := Lib.hid hch
  have HW := Lib.hid W2
  clear hg hch W2
  go_enter Tryd.func5, Tryd.ntmps5
  go_wp2_with fail
  go_at_call 6
  ((with_reducible refine (new_some 14 (by decide) _ _).mono ?_); rintro e w' ⟨rfl, rfl⟩)
  go_wp2_with fail
  go_at_call 8
  ((with_reducible refine (wrap_some _ _ _ _).mono ?_); rintro e w' ⟨rfl, rfl⟩)
  go_wp2_with fail
  go_at_call 6
  ((with_reducible refine (new_ok _ _).mono ?_); rintro e w' ⟨rfl, rfl⟩)
  go_wp2_with fail
  go_at_call 8
  ((with_reducible refine (wrap_nil _ _).mono ?_); rintro e w' ⟨rfl, rfl⟩)
  go_wp2_with fail
  go_at_call 11
  ((with_reducible refine (code_nil _).mono ?_); rintro e w' ⟨rfl, rfl⟩)
  go_wp2_with fail
  generalize ((w.alloc (.cells #[.string ⟨#[98]⟩, .iface 24 (.int .i64 14)] 42)).alloc (.cells #[.string ⟨#[97]⟩, .iface 40 (.pointer (some ⟨w.heap.size, 0, none⟩))] 42)) = W at HC HG HW ⊢
  go_at_call 11
  ((with_reducible refine (code_any _ _ 14 _ HC.out HG.out).mono ?_); rintro e w1 ⟨rfl, hb⟩)
  have HB1 := Lib.hid hb; clear hb
  go_wp2_with fail
  go_at_call 10
  ((with_reducible refine (Is_num 14 _ _ 14 _ (HC.out.later HB1.out)).mono ?_); rintro e w2 ⟨rfl, hb⟩)
  have HB2 := Lib.hid (HB1.out.trans (hb.mono HB1.out.size)); clear hb HB1
  go_wp2_with fail
  go_at_call 10
  ((with_reducible refine (Is_num 19 _ _ 14 _ (HC.out.later HB2.out)).mono ?_); rintro e w3 ⟨rfl, hb⟩)
  have HB3 := Lib.hid (HB2.out.trans (hb.mono HB2.out.size)); clear hb HB2
  go_wp2_with fail
  go_at_call 14
  ((with_reducible refine (where_any _ _ 14 _ (by decide) (HC.out.later HB3.out) (HG.out.later HB3.out)).mono ?_); rintro e w4 ⟨sv, rfl, ho, hb⟩)
  obtain ⟨g, cap, rfl, hg0, hgl⟩ := ho.form (by decide)
  have HB4 := Lib.hid (HB3.out.trans (hb.mono HB3.out.size)); clear hb HB3
  have HO : Hid (w4.ownsRow w3.heap.size 9 1 (.slice (some ⟨g, 0, none⟩) 2 cap) 2 ([(⟨#[97]⟩ : ByteArray), ⟨#[98]⟩].map .string)) := Lib.hid ho
  clear ho
  go_wp2_with fail
  go_at_call 13
  ((with_reducible refine (same_true w3.heap.size w4.heap.size g w4.heap.size 2 cap 2 [⟨#[97]⟩, ⟨#[98]⟩] _ (by decide) (HO.out.alloc _) (World.ownsRow_lit w4 #[.string ⟨#[97]⟩, .string ⟨#[98]⟩] 2 (Nat.le_refl _) (by decide) (by decide))).mono ?_); rintro e w5 ⟨rfl, hb⟩)
  have HB5 := Lib.hid ((HB4.out.alloc HB4.out.size _).trans (hb.mono (by have := HB4.out.size; simp; omega))); clear hb HB4
  go_wp2_with fail
  go_at_call 12
  ((with_reducible refine (isCode_any _ _ 14 14 _ (HC.out.later HB5.out) (HG.out.later HB5.out)).mono ?_); rintro e w6 ⟨rfl, hb⟩)
  have HB6 := Lib.hid (HB5.out.trans (hb.mono HB5.out.size)); clear hb HB5
  go_wp2_with fail
  go_at_call 12
  ((with_reducible refine (isCode_nil _ _).mono ?_); rintro e w7 ⟨rfl, rfl⟩)
  obtain ⟨v1, hv, hc1⟩ := (HC.out.later HB6.out).head
  have mE := Tryd.methodError hv
  have nE := Tryd.nilError
  have HC1 := Lib.hid hc1
  clear hc1 hv
  go_wp2_with fail
  go_at_call 59
  ((with_reducible refine (error_any _ _ _ 14 ⟨(Lib.decDigits 14).toArray⟩ _ (by decide) HC1.out (HG.out.later HB6.out) (itoaIs_small 14 (by decide) _) (by decide +kernel) (by rw [text14]; decide)).mono ?_); rintro e w8 ⟨he, hb⟩)
  rw [text14] at he
  subst he
  have HB8 := Lib.hid (HB6.out.trans (hb.mono HB6.out.size)); clear hb HB6 HC1
  go_wp2_with fail
  go_at_call 14
  ((with_reducible refine (where_nil _).mono ?_); rintro e w9 ⟨rfl, hb⟩)
  have HB9 := Lib.hid (HB8.out.trans (hb.mono HB8.out.size)); clear hb HB8
  go_wp2
  go_ret
  exact ⟨rfl, HW.out.trans (HB9.out.mono HW.out.size)⟩
end Go.Proofs.YtcblodlfijbjeaaDoor
