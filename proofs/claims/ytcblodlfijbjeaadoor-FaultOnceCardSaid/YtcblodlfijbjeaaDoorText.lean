/-
  A chain's text: the wheres and the number's text, with a colon and a blank between.
-/
import Derived.Test.YtcblodlfijbjeaaDoorFault
import Derived.Test.YtcblodlfijbjeaaDoorShelf
import Derived.Lib.Join
import Derived.OwnWalk
namespace Go.Proofs.YtcblodlfijbjeaaDoor
open Go.RowKit Go.Extern.Stop Go.Stop Go.Extern

def sep : ByteArray := ⟨#[58, 32]⟩
def errorWord : ByteArray := ⟨#[101, 114, 114, 111, 114, 32]⟩
def textOf (ws : List ByteArray) (t : ByteArray) : ByteArray := ⟨(Lib.join ((ws ++ [t]).map (fun x => x.data.toList)) [58, 32]).toArray⟩
theorem textOf_nil (t : ByteArray) : textOf [] t = t := by
  simp [textOf, Lib.join, List.intercalate]
theorem intercalate_cons (s : List UInt8) (x : List UInt8) (xs : List (List UInt8)) (h : xs ≠ []) : s.intercalate (x :: xs) = x ++ (s ++ s.intercalate xs) := by
  cases xs with
  | nil => exact absurd rfl h
  | cons y ys => simp [List.intercalate]
theorem textOf_cons (s : ByteArray) (ws : List ByteArray) (t : ByteArray) : textOf (s :: ws) t = (s ++ sep) ++ textOf ws t := by
  apply ByteArray.ext
  simp [textOf, Lib.join, sep]
  rw [intercalate_cons _ _ _ (by simp)]
  simp
def lens (ws : List ByteArray) : Nat := (ws.map (fun x => x.size + 2)).sum
theorem textOf_size (ws : List ByteArray) (t : ByteArray) : (textOf ws t).size = lens ws + t.size := by
  induction ws with
  | nil => simp [textOf_nil, lens]
  | cons s ws ih =>
    rw [textOf_cons]
    have h2 : sep.size = 2 := rfl
    have e : lens (s :: ws) = s.size + 2 + lens ws := by simp [lens]
    rw [e]
    simp only [ByteArray.size_append, ih, h2]
    omega

/-- What strconv.Itoa answers of c, now and later. -/
def ItoaIs (w : World) (c : Int) (t : ByteArray) : Prop := ∀ w', Below w.heap.size w w' → Calls Tryd.prog 15 #[.int .i64 c] w' (fun e w'' => e = .returned (.string t) ∧ Below w'.heap.size w' w'')
theorem ItoaIs.later {w w' : World} {c : Int} {t : ByteArray} (h : ItoaIs w c t) (hb : Below w.heap.size w w') : ItoaIs w' c t :=
  fun w2 h2 => h w2 (hb.trans (h2.mono hb.size))

theorem errno_any (c : Int) (t : ByteArray) (w : World) (h : ItoaIs w c t) (ht : t.size ≤ 1000) : Calls Tryd.prog 7 #[.int .i64 c] w fun e w' => e = .returned (.string (errorWord ++ t)) ∧ Below w.heap.size w w' := by
  have C := h w (Below.refl _ _)
  clear h
  go_enter Tryd.func7, Tryd.ntmps7
  go_wp2_with (go_at_call 15; refine C.mono ?_; rintro e w' ⟨rfl, hb⟩)
  go_ret
  exact ⟨rfl, hb⟩

theorem join_own (base g n cap : Nat) (xs : List ByteArray) (w : World) (hown : w.ownsRow base 9 1 (.slice (some ⟨g, 0, none⟩) n cap) n (xs.map .string)) (hlen : xs.length ≤ 140737488355328) (hsum : (Lib.join (xs.map (fun x => x.data.toList)) [58, 32]).length ≤ 140737488355328) :
    Calls Tryd.prog 61 #[.slice (some ⟨g, 0, none⟩) n cap, .string ⟨#[58, 32]⟩] w fun e w' => e = .returned (.string ⟨(Lib.join (xs.map (fun x => x.data.toList)) [58, 32]).toArray⟩) ∧ Below w.heap.size w w' := by
  obtain rfl : n = xs.length := by have := hown.1; simp at this; exact this.symm
  have hcap : xs.length ≤ cap := by
    rcases hown.2 with ⟨h0, _⟩ | ⟨g', cap', cur, h1, _, _, h4, _⟩
    · simp at h0
    · injection h1 with _ _ h1; omega
  have hcell := hown.cells (g := g) rfl
  have hlt := (hown.lt g rfl).2
  exact Tryd.strings_Join g 0 cap xs ⟨#[58, 32]⟩ w (fun j x hx => by
    have := hcell j (.string x) (by simp [hx])
    have e : (⟨g, 0, none⟩ : Addr).add j = ⟨g, 0 + j, none⟩ := by unfold Addr.add; split <;> simp_all
    rw [← e]; exact this) hlt hlen hcap hsum

set_option maxRecDepth 100000 in
set_option maxHeartbeats 4000000 in
theorem error_any (s : ByteArray) (v : Value) (ws : List ByteArray) (c : Int) (t : ByteArray) (w : World) (hlen : ws.length ≤ 1000) (hch : Chain w v ws c) (hg : Handle w) (hi : ItoaIs w c t) (ht : t.size ≤ 1000) (hsum : (textOf (s :: ws) (errorWord ++ t)).size ≤ 140737488355328) :
    Calls Tryd.prog 59 #[.agg #[.string s, v]] w fun e w' => e = .returned (.string (textOf (s :: ws) (errorWord ++ t))) ∧ Below w.heap.size w w' := by
  obtain ⟨i0, hi0, hz0, hz1, hz2⟩ := info_parts Tryd.info9
  have hW : Below w.heap.size w (w.alloc (.cells #[.string s, v] 42)) := (Below.refl _ _).alloc (Nat.le_refl _) _
  have hch2 : Chain (w.alloc (.cells #[.string s, v] 42)) (.iface 40 (.pointer (some ⟨w.heap.size, 0, none⟩))) (s :: ws) c := .fault _ _ _ _ _ (alloc_here _ _) (hch.later hW)
  have C1 := walk_any _ (s :: ws) c _ (by simp; omega) hch2 (hg.later hW)
  have HW := Lib.hid hW
  have HG := Lib.hid (hg.later hW)
  have HI := Lib.hid (hi.later hW)
  have HC := Lib.hid hch2
  have HS := Lib.hid hsum
  clear hch hg hi hW hch2 hsum
  go_enter Tryd.func59, Tryd.ntmps59
  go_wp2_with (first | (go_at_call 23; refine C1.mono ?_; rintro e w1 ⟨sv, rfl, ho, hb1⟩; obtain ⟨g, cap, rfl, hg0, hgl⟩ := ho.form (by simp); have HO := Lib.hid ho; clear ho) | (go_at_call 22; refine (find_num _ (s :: ws) c _ (HC.out.later hb1) (HG.out.later hb1)).mono ?_; rintro e w2 ⟨rfl, hb2⟩))
  go_at_call 7
  refine (errno_any c t _ ((HI.out.later hb1).later hb2) ht).mono ?_
  rintro e w3 ⟨rfl, hb3⟩
  have hown3 : w3.ownsRow (w.heap.size + 1) 9 1 (.slice (some ⟨g, 0, none⟩) (ws.length + 1) cap) (ws.length + 1) ((s :: ws).map .string) := (by have := ownsRow_below (ownsRow_below HO.out hb2) hb3; simpa using this)
  have hob : ∀ k, (Value.slice (some ⟨g, 0, none⟩) (ws.length + 1) cap).ownBlock = some k → w.heap.size ≤ k := fun k hk => by have := (hown3.lt k hk).1; omega
  have HOB := Lib.hid hob
  have HO3 := Lib.hid hown3
  clear hown3 hob
  have hs1 : w.heap.size + 1 ≤ w1.heap.size := by have := hb1.size; simpa using this
  have hs3 : w.heap.size + 1 ≤ w3.heap.size := Nat.le_trans hs1 (Nat.le_trans hb2.size hb3.size)
  have hB3 : Below w.heap.size w w3 := ((HW.out.trans (hb1.mono HW.out.size)).trans (hb2.mono (by omega))).trans (hb3.mono (by have := hb2.size; omega))
  have HB3 := Lib.hid hB3
  clear hB3 hb1 hb2 hb3
  go_wp2_with (at_builtin; refine wpList_append_lies _ rfl (.tmp 25) (.tmp 28) 22 rfl (w.heap.size + 1) 9 i0 _ 1 16 Tryd.underlying22 hi0 hz0 hz1 hz2 rfl (by decide) (.slice (some ⟨g, 0, none⟩) (ws.length + 1) cap) (ws.length + 1) _ rfl (HO3.out.alloc _) ⟨w3.heap.size, 0, none⟩ 1 1 [.string (errorWord ++ t)] rfl rfl (World.news_of_block (cs := #[.string (errorWord ++ t)]) (t := 9) (fr := (0, 0)) (alloc_here w3 _)) (by simp [Value.oneCell']) (by decide) (by simp [maxLen]; omega) (by omega) (by simp; omega) (w3.heap.size + 1) (by simp) ?_; intro gg cap2 w4 hown4 hgrow hat hlt4)
  have hB4 : Below w.heap.size w w4 := (HB3.out.alloc (by omega) _).grown hgrow (by simp; omega) HOB.out
  go_at_call 61
  refine (join_own (w.heap.size + 1) gg _ cap2 (s :: ws ++ [errorWord ++ t]) w4 (by simpa using hown4) (by simp; omega) ?_).mono ?_
  · have h5 : (textOf (s :: ws) (errorWord ++ t)).size = (Lib.join (((s :: ws) ++ [errorWord ++ t]).map (fun x => x.data.toList)) [58, 32]).length := by
      simp [textOf, ByteArray.size]
    rw [← h5]; exact HS.out
  rintro e w5 ⟨he, hb5⟩
  obtain rfl : e = .returned (.string (textOf (s :: ws) (errorWord ++ t))) := he
  have HB5 := Lib.hid (hB4.trans (hb5.mono hB4.size))
  clear hown4 hgrow hat hlt4 hB4 hb5
  go_wp2
  go_ret
  exact ⟨rfl, HB5.out⟩
end Go.Proofs.YtcblodlfijbjeaaDoor
