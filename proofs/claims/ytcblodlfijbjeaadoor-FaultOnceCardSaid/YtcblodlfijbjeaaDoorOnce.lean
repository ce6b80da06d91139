/-
  FaultOnce, walked.
-/
import Derived.Test.YtcblodlfijbjeaaDoorWraps
import Derived.Test.YtcblodlfijbjeaaDoorItoa
namespace Go.Proofs.YtcblodlfijbjeaaDoor
open Go.RowKit Go.Extern.Stop Go.Stop Go.Extern

theorem once_out (c : Int) (a b : ByteArray) (w : World) (hg : Handle w) (ha : a.size ≤ 140737488351232) (hb : b.size ≤ 140737488351232) (hout : (c == 0) = true ∨ ((c == 0) = false ∧ 30 < a.size) ∨ ((c == 0) = false ∧ a.size ≤ 30 ∧ 30 < b.size)) :
    Calls Tryd.prog 4 #[.int .u8 c, .string a, .string b] w fun e w' => e = .returned (.bool true) ∧ Below w.heap.size w w' := by
  have C := known_true w hg
  clear hg
  rcases hout with h | ⟨h, h1⟩ | ⟨h, h1, h2⟩
  · go_enter Tryd.func4, Tryd.ntmps4
    go_wp2_with (go_at_call 5; (with_reducible refine C.mono ?_); rintro e w1 ⟨rfl, hb⟩)
    go_ret
    exact ⟨rfl, hb⟩
  · have j1 : (30 : Int) < (a.size : Int) := by omega
    go_enter Tryd.func4, Tryd.ntmps4
    go_wp2_with (go_at_call 5; (with_reducible refine C.mono ?_); rintro e w1 ⟨rfl, hb⟩)
    go_ret
    exact ⟨rfl, hb⟩
  · have j1 : (a.size : Int) ≤ 30 := by omega
    have j2 : (30 : Int) < (b.size : Int) := by omega
    go_enter Tryd.func4, Tryd.ntmps4
    go_wp2_with (go_at_call 5; (with_reducible refine C.mono ?_); rintro e w1 ⟨rfl, hb⟩)
    go_ret
    exact ⟨rfl, hb⟩

set_option maxRecDepth 100000 in
set_option maxHeartbeats 4000000 in
theorem once_in (c : Int) (a b : ByteArray) (t : ByteArray) (w : World) (h0 : (c == 0) = false) (h1 : 0 ≤ c) (h2 : c ≤ 255) (ha : a.size ≤ 30) (hb : b.size ≤ 30) (hg : Handle w) (hi : ItoaIs w c t) (hts : t.size ≤ 30) :
    Calls Tryd.prog 4 #[.int .u8 c, .string a, .string b] w fun e w' => e = .returned (.bool true) ∧ Below w.heap.size w w' := by
  have C := known_true w hg
  obtain ⟨u, hu⟩ : ∃ u, errorWord ++ t = u := ⟨_, rfl⟩
  have hus : u.size ≤ 40 := by
    have h6 : errorWord.size = 6 := rfl
    rw [← hu, ByteArray.size_append, h6]; omega
  have j1 : (a.size : Int) ≤ 30 := by omega
  have j2 : (b.size : Int) ≤ 30 := by omega
  have HG := Lib.hid hg
  have HI := Lib.hid hi
  have HU := Lib.hid hu
  clear hg hi hu
  go_enter Tryd.func4, Tryd.ntmps4
  go_wp2_with fail
  go_at_call 5
  ((with_reducible refine C.mono ?_); rintro e w1 ⟨rfl, hb1⟩)
  have HB1 := Lib.hid hb1
  have hch1 : Chain (w1.alloc (.cells #[.string a, .iface 24 (.int .i64 c)] 42)) (.iface 40 (.pointer (some ⟨w1.heap.size, 0, none⟩))) [a] c := Chain.fault _ _ _ _ _ (alloc_here _ _) (Chain.num c)
  have hbb : Below (w1.heap.size + 1) (w1.alloc (.cells #[.string a, .iface 24 (.int .i64 c)] 42)) ((w1.alloc (.cells #[.string a, .iface 24 (.int .i64 c)] 42)).alloc (.cells #[.string b, .iface 40 (.pointer (some ⟨w1.heap.size, 0, none⟩))] 42)) := (Below.refl _ _).alloc (by simp) _
  have hfa : ((w1.alloc (.cells #[.string a, .iface 24 (.int .i64 c)] 42)).alloc (.cells #[.string b, .iface 40 (.pointer (some ⟨w1.heap.size, 0, none⟩))] 42)).heap[w1.heap.size]? = some (.cells #[.string a, .iface 24 (.int .i64 c)] 42 (0, 0)) := by
    rw [hbb.block w1.heap.size (by omega)]; exact alloc_here _ _
  have hfb : ((w1.alloc (.cells #[.string a, .iface 24 (.int .i64 c)] 42)).alloc (.cells #[.string b, .iface 40 (.pointer (some ⟨w1.heap.size, 0, none⟩))] 42)).heap[w1.heap.size + 1]? = some (.cells #[.string b, .iface 40 (.pointer (some ⟨w1.heap.size, 0, none⟩))] 42 (0, 0)) := by
    have := alloc_here (w1.alloc (.cells #[.string a, .iface 24 (.int .i64 c)] 42)) (.cells #[.string b, .iface 40 (.pointer (some ⟨w1.heap.size, 0, none⟩))] 42)
    simpa using this
  have HB2 := Lib.hid (show Below w.heap.size w ((w1.alloc (.cells #[.string a, .iface 24 (.int .i64 c)] 42)).alloc (.cells #[.string b, .iface 40 (.pointer (some ⟨w1.heap.size, 0, none⟩))] 42)) from (hb1.alloc hb1.size _).alloc (by have := hb1.size; simp; omega) _)
  have HFA := Lib.hid hfa
  have HFB := Lib.hid hfb
  clear hb1 hch1 hbb hfa hfb C
  go_wp2_with fail
  go_at_call 6
  ((with_reducible refine (new_some c h0 _ _).mono ?_); rintro e w2 ⟨rfl, rfl⟩)
  go_wp2_with fail
  go_at_call 8
  ((with_reducible refine (wrap_some _ _ _ _).mono ?_); rintro e w2 ⟨rfl, rfl⟩)
  go_wp2_with fail
  generalize (w1.alloc (.cells #[.string a, .iface 24 (.int .i64 c)] 42)).alloc (.cells #[.string b, .iface 40 (.pointer (some ⟨w1.heap.size, 0, none⟩))] 42) = W at HB2 HFA HFB ⊢
  generalize w1.heap.size = q at HFA HFB ⊢
  have he : Chain W (.iface 40 (.pointer (some ⟨q, 0, none⟩))) [a] c := Chain.fault _ _ _ _ _ HFA.out (Chain.num c)
  have hf : Chain W (.iface 40 (.pointer (some ⟨q + 1, 0, none⟩))) [b, a] c := Chain.fault _ _ _ _ _ HFB.out he
  have HE := Lib.hid he
  have HF := Lib.hid hf
  clear he hf HB1
  go_at_call 10
  ((with_reducible refine (Is_inner q (q + 1) b a _ _ (by omega) HFB.out HFA.out).mono ?_); rintro e w2 ⟨rfl, rfl⟩)
  have H2 := Lib.hid (show Below W.heap.size W (W.alloc (.cells #[.string b, .iface 40 (.pointer (some ⟨q, 0, none⟩))] 42)) from (Below.refl _ _).alloc (Nat.le_refl _) _)
  generalize W.alloc (.cells #[.string b, .iface 40 (.pointer (some ⟨q, 0, none⟩))] 42) = w2 at H2 ⊢
  go_wp2_with fail
  go_at_call 11
  ((with_reducible refine (code_any _ _ c _ (HF.out.later H2.out) ((HG.out.later HB2.out).later H2.out)).mono ?_); rintro e w3 ⟨rfl, hb3⟩)
  have H3 := Lib.hid (H2.out.trans (hb3.mono H2.out.size)); clear hb3 H2
  go_wp2_with fail
  go_at_call 11
  ((with_reducible refine (code_any _ _ c _ (HE.out.later H3.out) ((HG.out.later HB2.out).later H3.out)).mono ?_); rintro e w4 ⟨rfl, hb4⟩)
  have H4 := Lib.hid (H3.out.trans (hb4.mono H3.out.size)); clear hb4 H3
  go_wp2_with fail
  go_at_call 14
  ((with_reducible refine (where_any _ _ c _ (by simp) (HF.out.later H4.out) ((HG.out.later HB2.out).later H4.out)).mono ?_); rintro e w5 ⟨sv, rfl, ho, hb5⟩)
  obtain ⟨g, cap, rfl, _, _⟩ := ho.form (by simp)
  have H5 := Lib.hid (H4.out.trans (hb5.mono H4.out.size)); clear hb5 H4 ho
  go_wp2_with fail
  go_at_call 14
  ((with_reducible refine (where_any _ _ c _ (by simp) (HF.out.later H5.out) ((HG.out.later HB2.out).later H5.out)).mono ?_); rintro e w6 ⟨sv, rfl, ho, hb6⟩)
  obtain ⟨g6, cap6, rfl, _, _⟩ := ho.form (by simp)
  have k0 : w6.cell? ⟨g6, 0, none⟩ = some (.string b) := ownsRow_cell ho 0 b rfl
  have H6 := Lib.hid (H5.out.trans (hb6.mono H5.out.size)); clear hb6 H5 ho
  go_wp2_with fail
  clear k0
  go_at_call 14
  ((with_reducible refine (where_any _ _ c _ (by simp) (HF.out.later H6.out) ((HG.out.later HB2.out).later H6.out)).mono ?_); rintro e w7 ⟨sv, rfl, ho, hb7⟩)
  obtain ⟨g7, cap7, rfl, _, _⟩ := ho.form (by simp)
  have k1 : w7.cell? ⟨g7, 1, none⟩ = some (.string a) := ownsRow_cell ho 1 a rfl
  have H7 := Lib.hid (H6.out.trans (hb7.mono H6.out.size)); clear hb7 H6 ho
  go_wp2_with fail
  clear k1
  go_at_call 14
  ((with_reducible refine (where_any _ _ c _ (by simp) (HE.out.later H7.out) ((HG.out.later HB2.out).later H7.out)).mono ?_); rintro e w8 ⟨sv, rfl, ho, hb8⟩)
  obtain ⟨g8, cap8, rfl, _, _⟩ := ho.form (by simp)
  have H8 := Lib.hid (H7.out.trans (hb8.mono H7.out.size)); clear hb8 H7 ho
  have hfb8 : w8.heap[q + 1]? = some (.cells #[.string b, .iface 40 (.pointer (some ⟨q, 0, none⟩))] 42 (0, 0)) := by
    rw [H8.out.block _ (Array.getElem?_eq_some_iff.1 HFB.out).1]; exact HFB.out
  have mE := Tryd.methodError hfb8
  have nE := Tryd.nilError
  have e1 : textOf [a] u = (a ++ sep) ++ u := by rw [textOf_cons, textOf_nil]
  have e2 : textOf [b, a] u = (b ++ ⟨#[58, 32]⟩) ++ textOf [a] u := by rw [textOf_cons]; rfl
  have hT : (textOf [a] u).size ≤ 200 := by
    have hs : sep.size = 2 := rfl
    rw [e1, ByteArray.size_append, ByteArray.size_append, hs]; omega
  have hT2 : (textOf [b, a] u).size ≤ 300 := by
    have hs : (⟨#[58, 32]⟩ : ByteArray).size = 2 := rfl
    rw [e2, ByteArray.size_append, ByteArray.size_append, hs]; omega
  have C9 := errorIs b _ [a] c t u _ (by simp) (HE.out.later H8.out) ((HG.out.later HB2.out).later H8.out) ((HI.out.later HB2.out).later H8.out) HU.out (by omega) (by omega)
  rw [e2] at C9
  obtain ⟨T, hTe⟩ : ∃ T, textOf [a] u = T := ⟨_, rfl⟩
  rw [hTe] at C9 hT
  have HT := Lib.hid hTe
  clear e1 e2 hT2 hTe hfb8
  go_wp2_with fail
  go_at_call 59
  ((with_reducible refine C9.mono ?_); rintro e w9 ⟨rfl, hb9⟩)
  have H9 := Lib.hid (H8.out.trans (hb9.mono H8.out.size)); clear hb9 H8 C9 mE
  have hfa9 : w9.heap[q]? = some (.cells #[.string a, .iface 24 (.int .i64 c)] 42 (0, 0)) := by
    rw [H9.out.block _ (Array.getElem?_eq_some_iff.1 HFA.out).1]; exact HFA.out
  have mE := Tryd.methodError hfa9
  have C10 := errorIs a _ [] c t u _ (by simp) (Chain.num c) ((HG.out.later HB2.out).later H9.out) ((HI.out.later HB2.out).later H9.out) HU.out (by omega) (by rw [HT.out]; omega)
  rw [HT.out] at C10
  have k1 : b.size ≤ 9223372036854775805 := by omega
  have k2 : b.size + 2 + T.size ≤ 9223372036854775807 := by omega
  have n1 : ¬ 9223372036854775805 < b.size := by omega
  have n2 : ¬ 9223372036854775807 < b.size + 2 + T.size := by omega
  have n3 : ¬ 9223372036854775807 < b.size + 2 := by omega
  clear hfa9
  go_wp2_with fail
  go_at_call 59
  ((with_reducible refine C10.mono ?_); rintro e w10 ⟨rfl, hb10⟩)
  have H10 := Lib.hid (H9.out.trans (hb10.mono H9.out.size)); clear hb10 H9 C10 mE
  go_wp2
  go_ret
  exact ⟨rfl, HB2.out.trans (H10.out.mono HB2.out.size)⟩
end Go.Proofs.YtcblodlfijbjeaaDoor
