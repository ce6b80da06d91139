/-
  fault's walk over a chain: the wheres, and what is below the innermost one.
-/
import Derived.Test.YtcblodlfijbjeaaDoorFind
import Derived.Deep.RegionHeld3
import Derived.Deep.AppendLies
import Derived.KernelRfl
namespace Go.Proofs.YtcblodlfijbjeaaDoor
open Go.RowKit Go.Extern.Stop Go.Stop Go.Extern

theorem ownsRow_below {w w' : World} {base e size n : Nat} {v : Value} {xs : List Value} (h : w.ownsRow base e size v n xs) (hb : Below w.heap.size w w') : w'.ownsRow base e size v n xs := by
  refine ⟨h.1, ?_⟩
  rcases h.2 with h0 | ⟨g, cap, cur, h1, h2, h3, h4⟩
  · exact .inl h0
  · refine .inr ⟨g, cap, cur, h1, h2, ?_, h4⟩
    rw [hb.block g (Array.getElem?_eq_some_iff.1 h3).1]; exact h3

theorem Tryd.info9 : (Tryd.prog.info? 9).map (fun i => (i.zero, i.size, i.bytes)) = some (some (.string ⟨#[]⟩), 1, 16) := by kernel_rfl

/-- What walk hands back: a row of its own with the wheres, and the number below. -/
def Walked (w : World) (ws : List ByteArray) (c : Int) (e : Ending) (w' : World) : Prop :=
  ∃ sv, e = .returned (.tuple #[sv, .iface 24 (.int .i64 c)]) ∧ w'.ownsRow w.heap.size 9 1 sv ws.length (ws.map .string) ∧ Below w.heap.size w w'

set_option maxRecDepth 100000 in
set_option maxHeartbeats 4000000 in
theorem walk_any (v : Value) (ws : List ByteArray) (c : Int) (w : World) (hlen : ws.length ≤ 1000000) (hch : Chain w v ws c) (hg : w.cell? ⟨0, 0, none⟩ = some (.iface 62 (.agg #[.pointer (some ⟨5, 26, none⟩)]))) :
    Calls Tryd.prog 23 #[v] w (Walked w ws c) := by
  obtain ⟨i0, hi0, hz0, hz1, hz2⟩ := info_parts Tryd.info9
  go_enter Tryd.func23, Tryd.ntmps23
  go_wp2
  go_loopg [0, 4] ws.length (fun k p sv wr => ∃ done todo, ws = done ++ todo ∧ todo.length = k ∧ Chain w p todo c ∧ wr.ownsRow w.heap.size 9 1 sv done.length (done.map .string) ∧ Below w.heap.size w wr)
  case atStart => exact ⟨[], ws, rfl, rfl, hch, World.ownsRow_nil _ _ _ _, Below.refl _ _⟩
  case round =>
    obtain ⟨done, todo, hws, hk, hc, hown, hb⟩ := hrel
    have A : Aside (ws = done ++ todo ∧ todo.length = gk) := ⟨hws, hk⟩
    have hlen' : done.length + todo.length ≤ 1000000 := by rw [hws] at hlen; simpa using hlen
    clear hws hk hlen
    have HB := Lib.hid hb
    have hgr : wr.cell? ⟨0, 0, none⟩ = some (.iface 62 (.agg #[.pointer (some ⟨5, 26, none⟩)])) := by rw [hb.cell (lt_of_cell hg)]; exact hg
    rcases hc.parts with ⟨rfl, rfl⟩ | ⟨b, s, v, todo, rfl, rfl, h0, hc⟩
    · have C := find_none c wr hgr
      have HO := Lib.hid hown
      clear hb hgr hg hown hch
      go_wp2_with (go_at_call 28; refine C.mono ?_; rintro e w' ⟨rfl, hb1⟩)
      go_ret2
      have e := A.out.1
      simp only [List.append_nil] at e
      subst e
      exact ⟨_, rfl, ownsRow_below HO.out hb1, HB.out.trans (hb1.mono HB.out.size)⟩
    · have C := find_fault ⟨b, 0, none⟩ wr hgr
      have HO := Lib.hid hown
      have H0 := Lib.hid h0
      clear hb hgr hg hown hch h0
      go_wp2_with (go_at_call 28; refine C.mono ?_; rintro e w' ⟨rfl, hb1⟩)
      have hb2 : Below w.heap.size w w' := HB.out.trans (hb1.mono HB.out.size)
      have hbl : b < w.heap.size := (Array.getElem?_eq_some_iff.1 H0.out).1
      obtain ⟨c0, c1⟩ := cells_of_block H0.out
      have d0 : w'.cell? ⟨b, 0, none⟩ = some (.string s) := by rw [hb2.cell hbl]; exact c0
      have d1 : w'.cell? ⟨b, 1, none⟩ = some v := by rw [hb2.cell hbl]; exact c1
      have hown1 := ownsRow_below HO.out hb1
      have hsz : w.heap.size ≤ w'.heap.size := hb2.size
      have hnb : u4.ownBlock ≠ some b := fun hh => absurd (hown1.lt _ hh).1 (by omega)
      have HOB := Lib.hid (show ∀ k, u4.ownBlock = some k → w.heap.size ≤ k from fun k hk => (hown1.lt k hk).1)
      have HB2 := Lib.hid hb2
      have HC := Lib.hid hc
      clear hb1 hb2 c0 c1 hc
      go_region_held3 (fun W => W.cell? ⟨b, 0, none⟩ = some (.string s) ∧ W.cell? ⟨b, 1, none⟩ = some v)
        (first
          | go_keep
          | (go_split_ands
             refine ⟨?_, ?_⟩
             · (rw [hgrow.cell_far _ (by simp; omega) (Ne.symm hnb)]; assumption)
             · (rw [hgrow.cell_far _ (by simp; omega) (Ne.symm hnb)]; assumption)))
        ((refine step_append_lies _ (by rfl) _ _ _ (by rfl) w.heap.size 9 i0 _ 1 16 Tryd.underlying22 hi0 hz0 hz1 hz2 rfl (by omega) u4 done.length (done.map .string) (by rfl) ((hown1.alloc _).drew)
            ⟨w'.heap.size, 0, none⟩ 1 1 [.string s] (by rfl) (by rfl) (World.news_of_block (cs := #[.string s]) (t := 9) (fr := (0, 0)) (heap_alloc_new w' _)) (by simp [Value.oneCell'])
            (by omega) (by simp [maxLen]; omega) (by omega) (by simp; omega) (w'.heap.size + 1) (by simp) ?_; intro gg cap w1 hown1 hgrow hat hlt))
      all_goals
        go_wp2
        go_roundg todo.length
        case measure => have := A.out.2; simp at this; omega
        case rel =>
          refine ⟨done ++ [s], todo, by rw [A.out.1]; simp, rfl, HC.out, ?_, ?_⟩
          · simpa using hown1
          · exact ((HB2.out.alloc hsz _).drew).grown hgrow (by simp; omega) HOB.out
end Go.Proofs.YtcblodlfijbjeaaDoor
