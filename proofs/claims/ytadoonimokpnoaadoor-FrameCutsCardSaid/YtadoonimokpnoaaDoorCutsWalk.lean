/-
  FrameCuts, walked.
-/
import Derived.Test.YtadoonimokpnoaaDoorFrameKnown
namespace Go.Proofs.YtadoonimokpnoaaDoor
open Go.RowKit Go.Extern.Stop Go.Stop Go.Extern

theorem Tryd.infoInt : (Tryd.prog.info? 3).map (fun i => (i.zero, i.size, i.bytes)) = some (some (.int .i64 0), 1, 8) := by kernel_rfl
/-- Where the frames end, as the law's row of numbers has it. -/
def endsV (ss : List ByteArray) (i : Nat) : List Value := (List.range i).map fun j => .int .i64 (endsAt ss (j + 1) : Nat)
theorem endsV_snoc (ss : List ByteArray) (i : Nat) : endsV ss i ++ [.int .i64 (endsAt ss (i + 1) : Nat)] = endsV ss (i + 1) := by
  simp [endsV, List.range_succ]
theorem endsV_at (ss : List ByteArray) (i k : Nat) (h : k < i) : (endsV ss i)[k]? = some (.int .i64 (endsAt ss (k + 1) : Nat)) := by
  simp [endsV, h]

theorem framesOf_pos {ss : List ByteArray} (h : ss ≠ []) : 0 < (framesOf ss).size := by
  cases ss with
  | nil => exact absurd rfl h
  | cons t r =>
    simp only [framesOf, ByteArray.size_append, framed_size]
    omega
theorem slice_to (s : ByteArray) (j : Nat) (jv : Int) (hj : jv = j) (h2 : j ≤ s.size) (W : World) :
    (Instr.slice 9 (.string s) none (some (.int .i64 jv)) none).run Tryd.prog W = .ok (.string (s.extract 0 j)) W := by
  subst hj
  have := run_slice_string_h (P := Tryd.prog) W 9 s Tryd.underlying9 .i64 (j : Int) (by omega) (by omega)
  simpa using this

set_option maxRecDepth 100000 in
set_option maxHeartbeats 4000000 in
theorem cuts_out (sa : Option Addr) (l lc : Nat) (cut : Int) (a : Addr) (w : World) (hg : Handle w) (ho : OnErr w a) (hl : l ≤ 9223372036854775807) (hout : 10 < l) :
    Calls Tryd.prog 3 #[.slice sa l lc, .int .u16 cut] w fun e w' => e = .returned (.bool true) ∧ Below w.heap.size w w' := by
  have C := known_true a w hg ho
  clear hg ho
  have j1 : (10 : Int) < (l : Int) := by omega
  clear hout
  go_enter Tryd.func3, Tryd.ntmps3
  go_wp2_with (go_at_call 5; (with_reducible refine C.mono ?_); rintro e w1 ⟨rfl, hb⟩)
  go_ret
  exact ⟨rfl, hb⟩

/-- What the first loop holds when it has laid i frames. -/
structure CutLaid (w : World) (ss : List ByteArray) (k : Nat) (bv ev iv : Value) (wr : World) (i : Nat) (b : ByteArray) : Prop where
  p1 : bv = .string b
  p2 : iv = .int .i64 i
  p3 : i + k = ss.length
  p4 : b = framesOf (ss.take i)
  p5 : b.size ≤ 95 * i
  p6 : ∀ j x, j < i → ss[j]? = some x → x.size ≤ 80
  p7 : Below w.heap.size w wr
  p8 : wr.ownsRow w.heap.size 3 1 ev i (endsV ss i)

set_option maxRecDepth 100000 in
set_option maxHeartbeats 8000000 in
theorem cuts_in (sa : Option Addr) (l lc cut : Nat) (ss : List ByteArray) (a : Addr) (w : World) (hg : Handle w) (ho : OnErr w a) (hl : l ≤ 10) (hlc : l ≤ lc) (hc : cut ≤ 65535) (hsl : ss.length = l)
    (hs : ∀ (j : Nat) (x : ByteArray), ss[j]? = some x → ∃ sb so, sa = some ⟨sb, so, none⟩ ∧ w.cell? ⟨sb, so + j, none⟩ = some (.string x)) :
    Calls Tryd.prog 3 #[.slice sa l lc, .int .u16 cut] w fun e w' => e = .returned (.bool true) ∧ Below w.heap.size w w' := by
  have C := known_true a w hg ho
  obtain ⟨i0, hi0, hz0, hz1, hz2⟩ := info_parts Tryd.infoInt
  have HG := Lib.hid hg
  have HO := Lib.hid ho
  have HS := Lib.hid hs
  have HSL := Lib.hid hsl
  clear hg ho hs hsl
  have j1 : (l : Int) ≤ 10 := by omega
  go_enter Tryd.func3, Tryd.ntmps3
  go_wp2_with fail
  go_at_call 5
  ((with_reducible refine C.mono ?_); rintro e w1 ⟨rfl, hb⟩)
  have H1 := Lib.hid hb; clear hb C
  go_wp2_with fail
  go_loopg [5, 6, 7] l (fun k bv ev iv wr => ∃ i b, CutLaid w ss k bv ev iv wr i b)
  case atStart => exact ⟨0, ByteArray.empty, rfl, rfl, by rw [Nat.zero_add, HSL.out], rfl, by simp, fun _ _ h => absurd h (Nat.not_lt_zero _), H1.out, World.ownsRow_nil _ _ _ _⟩
  case round =>
    clear H1
    obtain ⟨i, b, rfl, rfl, h3, h4, h5, h6, h7, h8⟩ := hrel
    have H3 := Lib.hid h3
    have H4 := Lib.hid h4
    have H6 := Lib.hid h6
    have H7 := Lib.hid h7
    have H8 := Lib.hid h8
    have hin : i ≤ l := by have := HSL.out; omega
    have hsz : w.heap.size ≤ wr.heap.size := h7.size
    clear h3 h4 h6 h7 h8
    by_cases hlt : i < l
    · have i5 : (i : Int) < (l : Int) := by omega
      obtain ⟨t, hti⟩ : ∃ t, ss[i]? = some t := ⟨_, List.getElem?_eq_getElem (by rw [HSL.out]; exact hlt)⟩
      have HTI := Lib.hid hti
      clear hti
      obtain ⟨sb, so, hsa, hct⟩ := HS.out i t HTI.out
      subst hsa
      have hsb : sb < w.heap.size := lt_of_cell hct
      have ct : wr.cell? ⟨sb, so + i, none⟩ = some (.string t) := by rw [H7.out.cell hsb]; exact hct
      clear hct
      by_cases h80 : 80 < t.size
      · have j3 : (80 : Int) < (t.size : Int) := by omega
        go_wp2
        go_ret
        exact ⟨rfl, H7.out⟩
      · have j3 : (t.size : Int) ≤ 80 := by omega
        have CT := wrapF_any t wr (by omega)
        have hTs := framed_le t
        obtain ⟨T, hT⟩ : ∃ T, framed t = T := ⟨_, rfl⟩
        rw [hT] at CT hTs
        have HT := Lib.hid hT
        clear hT
        have x2 : ¬ 9223372036854775807 < b.size + T.size := by omega
        go_wp2_with fail
        go_at_call 6
        ((with_reducible refine CT.mono ?_); rintro e w3 ⟨rfl, hb⟩)
        have H3' := Lib.hid (H7.out.trans (hb.mono H7.out.size))
        have H8' := Lib.hid (row_below H8.out hb)
        clear hb CT ct
        have hsz3 : w.heap.size ≤ w3.heap.size := H3'.out.size
        go_wp2_with (at_builtin; refine wpList_append_lies _ rfl (.tmp 37) (.tmp 40) 25 rfl w.heap.size 3 i0 _ 1 8 Tryd.underlying25 hi0 hz0 hz1 hz2 rfl (by decide) u6 i (endsV ss i) rfl (World.ownsRow.alloc H8'.out _) ⟨w3.heap.size, 0, none⟩ 1 1 [.int .i64 ((b.size : Int) + (T.size : Int))] rfl rfl (World.news_of_block (cs := #[.int .i64 ((b.size : Int) + (T.size : Int))]) (t := 3) (fr := (0, 0)) (alloc_here w3 _)) (by simp [Value.oneCell']) (by decide) (by simp [maxLen]; omega) (by omega) (by simp; omega) (w3.heap.size + 1) (by simp) ?_; intro gg cap w4 hown1 hgrow hat hlt)
        have eS : b ++ T = framesOf (ss.take (i + 1)) := by rw [framesOf_snoc HTI.out, ← H4.out, HT.out]
        have eN : (b.size : Int) + (T.size : Int) = ((endsAt ss (i + 1) : Nat) : Int) := by
          unfold endsAt
          rw [← eS, ByteArray.size_append]; omega
        rw [eN, endsV_snoc] at hown1
        have hb4 : Below w.heap.size w w4 := (H3'.out.alloc hsz3 _).grown hgrow (by simp; omega) (fun q hq => (World.ownsRow.lt H8'.out q hq).1)
        go_roundg (l - (i + 1))
        case measure => have := H3.out; have := HSL.out; omega
        case rel =>
          refine ⟨i + 1, b ++ T, rfl, by go_num, ?_, eS, ?_, ?_, hb4, hown1⟩
          · have := HSL.out; omega
          · simp only [ByteArray.size_append]; omega
          · intro j y hj hy
            rcases Nat.lt_or_ge j i with h | h
            · exact H6.out j y h hy
            · obtain rfl : j = i := by omega
              rw [HTI.out] at hy
              obtain rfl := Option.some.inj hy
              omega
    · have i5 : ¬ (i : Int) < (l : Int) := by omega
      obtain rfl : l = i := by omega
      have e4 : b = framesOf ss := by rw [H4.out, ← HSL.out, List.take_length]
      have H80 := Lib.hid (show ∀ t ∈ ss, t.size ≤ 200000 from fun t ht => by
        obtain ⟨j, hj, rfl⟩ := List.getElem_of_mem ht
        have := H6.out j _ (by have := HSL.out; omega) (List.getElem?_eq_getElem hj)
        omega)
      have E4 := Lib.hid e4
      have hbs : b.size ≤ 950 := by omega
      clear H4 H6 H3 e4
      by_cases hl0 : l = 0
      · subst hl0
        have e0 : ss = [] := List.eq_nil_of_length_eq_zero HSL.out
        subst e0
        have e1 : b = ByteArray.empty := E4.out
        subst e1
        have C := all_any ByteArray.empty [] 0 a wr (.done (c := 11) (by kernel_rfl)) (by decide) (by decide +kernel) (HG.out.later H7.out) (HO.out.later H7.out)
        have s1 := slice_to ByteArray.empty 0 (0 : Int) rfl (by decide)
        have e2 : (ByteArray.empty : ByteArray).extract 0 0 = ByteArray.empty := by decide +kernel
        rw [e2] at s1
        have z1 : (ByteArray.empty : ByteArray).size = 0 := rfl
        have T0 : ∀ W, Texts W (.slice sa 0 lc) [] := fun W => ⟨sa, lc, rfl, fun j x h => by simp at h⟩
        have HE := H8.out.2
        clear H8 E4 H80 HSL HS
        rcases HE with ⟨rfl, _⟩ | ⟨g, cap, cur, rfl, _⟩
        all_goals
          go_wp2_with fail
          refine wp_loop_rounds 1 ?_
          rw [rounds_succ]
          go_wp2_with fail
          go_at_call 7
          ((with_reducible refine C.mono ?_); rintro e w3 ⟨sv, rfl, ht, hb⟩)
          have HB := Lib.hid (H7.out.trans (hb.mono H7.out.size))
          have D := sameTexts_true sv (.slice sa 0 lc) [] w3 (by decide) ht (T0 w3)
          clear hb ht
          go_wp2_with fail
          go_at_call 8
          ((with_reducible refine D.mono ?_); rintro e w4 ⟨rfl, hb⟩)
          have HB4 := Lib.hid (HB.out.trans (hb.mono HB.out.size))
          clear hb
          go_wp2
          go_ret
          exact ⟨rfl, HB4.out⟩
      · have hb0 : 0 < b.size := by
          rw [E4.out]
          exact framesOf_pos (fun h => hl0 (by have := HSL.out; rw [h] at this; simpa using this.symm))
        have i7 : (0 : Int) < (b.size : Int) := by omega
        have hcz : cut % (b.size + 1) < b.size + 1 := Nat.mod_lt _ (by omega)
        have hX : (cut : Int) % ((b.size : Int) + 1) = ((cut % (b.size + 1) : Nat) : Int) := by simp
        have HX := Lib.hid hX
        obtain ⟨g, cap, hu6, _, _⟩ := H8.out.form (by omega)
        subst hu6
        obtain ⟨sb, so, hsa, _⟩ := HS.out 0 _ (List.getElem?_eq_getElem (by have := HSL.out; omega))
        subst hsa
        clear hX
        go_wp2_with fail
        rw [HX.out]
        clear HX
        generalize cut % (b.size + 1) = c at hcz ⊢
        go_loopg [9] l (fun k iv wq => ∃ j, iv = .int .i64 (j : Nat) ∧ j + k = l ∧ endsAt ss j ≤ c ∧ wr = wq)
        case atStart => exact ⟨0, rfl, by omega, by rw [endsAt_zero]; omega, rfl⟩
        case round =>
          obtain ⟨j, rfl, h3, h4, rfl⟩ := hrel
          have H3 := Lib.hid h3
          have hjl : j ≤ l := by omega
          clear h3
          by_cases hlt : j < l ∧ endsAt ss (j + 1) ≤ c
          · obtain ⟨hlt, hle⟩ := hlt
            have ce : wr.cell? ⟨g, j, none⟩ = some (.int .i64 (endsAt ss (j + 1) : Nat)) := by rw [H8.out.cellAt j (by omega)]; exact endsV_at ss l j hlt
            have HLE := Lib.hid hle
            clear h4
            generalize endsAt ss (j + 1) = E at ce hle
            have i8 : (j : Int) < (l : Int) := by omega
            have i9 : (E : Int) ≤ (c : Int) := by omega
            go_wp2
            go_roundg (gk - 1)
            case measure => have := H3.out; omega
            case rel => exact ⟨j + 1, by go_num, by have := H3.out; omega, HLE.out, rfl⟩
          · have hfr := frames_cut ss c j H80.out (by have := HSL.out; omega) (by rw [← E4.out]; omega) h4 (fun h => by have := HSL.out; omega)
            rw [← E4.out] at hfr
            have C := all_any (b.extract 0 c) (ss.take j) (endsAt ss j) a wr hfr (by rw [List.length_take]; have := HSL.out; omega) (by rw [ByteArray.size_extract]; omega) (HG.out.later H7.out) (HO.out.later H7.out)
            have s1 := slice_to b c (c : Int) rfl (by omega)
            have hT : ∀ W, Below w.heap.size w W → Texts W (.slice (some ⟨sb, so, none⟩) l lc) ss := fun W hb => by
              have := HSL.out
              subst this
              exact (Texts.later ⟨some ⟨sb, so, none⟩, lc, rfl, HS.out⟩ hb)
            have HT := Lib.hid hT
            generalize b.extract 0 c = q at C s1
            clear hfr hT
            rcases Nat.eq_zero_or_pos j with hj0 | hj0
            · subst hj0
              have ez : endsAt ss 0 = 0 := endsAt_zero ss
              rw [ez] at C
              have ce : wr.cell? ⟨g, 0, none⟩ = some (.int .i64 (endsAt ss (0 + 1) : Nat)) := by rw [H8.out.cellAt 0 (by omega)]; exact endsV_at ss l 0 (by omega)
              have hle : ¬ endsAt ss (0 + 1) ≤ c := fun h => hlt ⟨by omega, h⟩
              generalize endsAt ss (0 + 1) = E at ce hle
              have i9 : ¬ (E : Int) ≤ (c : Int) := by omega
              clear hlt
              go_wp2_with fail
              go_at_call 7
              ((with_reducible refine C.mono ?_); rintro e w3 ⟨sv, rfl, ht, hb⟩)
              have HB := Lib.hid (H7.out.trans (hb.mono H7.out.size))
              have D := sameTexts_true sv (.slice (some ⟨sb, so, none⟩) 0 lc) (ss.take (0)) w3 (by rw [List.length_take]; have := HSL.out; omega) ht ((HT.out w3 HB.out).take' (0) lc (by have := HSL.out; omega))
              clear hb ht
              go_wp2_with fail
              go_at_call 8
              ((with_reducible refine D.mono ?_); rintro e w4 ⟨rfl, hb⟩)
              have HB4 := Lib.hid (HB.out.trans (hb.mono HB.out.size))
              clear hb
              go_wp2
              go_ret
              exact ⟨rfl, HB4.out⟩
            · obtain ⟨m, rfl⟩ : ∃ m, j = m + 1 := ⟨j - 1, by omega⟩
              have hgd : (∃ E : Nat, wr.cell? ⟨g, m + 1, none⟩ = some (.int .i64 (E : Nat)) ∧ m + 1 < l ∧ ((m : Int) + 1 < (l : Int)) ∧ ¬ (E : Int) ≤ (c : Int)) ∨ (m + 1 = l ∧ ¬ ((m : Int) + 1 < (l : Int))) := by
                rcases Nat.lt_or_ge (m + 1) l with h | h
                · refine .inl ⟨endsAt ss (m + 1 + 1), ?_, h, by omega, fun hE => hlt ⟨h, by omega⟩⟩
                  rw [H8.out.cellAt (m + 1) (by omega)]; exact endsV_at ss l (m + 1) h
                · exact .inr ⟨by omega, by omega⟩
              have cm : wr.cell? ⟨g, m, none⟩ = some (.int .i64 (endsAt ss (m + 1) : Nat)) := by rw [H8.out.cellAt m (by omega)]; exact endsV_at ss l m (by omega)
              have CM := Lib.hid cm
              clear hlt h4 cm
              generalize endsAt ss (m + 1) = N at C CM
              have hgl : g < wr.heap.size := lt_of_cell CM.out
              rcases hgd with ⟨E, ce, h8, i8, i9⟩ | ⟨rfl, i8⟩
              all_goals
                go_wp2_with fail
                go_at_call 7
                ((with_reducible refine C.mono ?_); rintro e w3 ⟨sv, rfl, ht, hb⟩)
                have HB := Lib.hid (H7.out.trans (hb.mono H7.out.size))
                have D := sameTexts_true sv (.slice (some ⟨sb, so, none⟩) (m + 1) lc) (ss.take (m + 1)) w3 (by rw [List.length_take]; have := HSL.out; omega) ht ((HT.out w3 HB.out).take' (m + 1) lc (by have := HSL.out; omega))
                have cm : w3.cell? ⟨g, m, none⟩ = some (.int .i64 (N : Nat)) := by rw [hb.cell hgl]; exact CM.out
                clear hb ht
                go_wp2_with fail
                go_at_call 8
                ((with_reducible refine D.mono ?_); rintro e w4 ⟨rfl, hb⟩)
                have HB4 := Lib.hid (HB.out.trans (hb.mono HB.out.size))
                clear hb
                go_wp2
                go_ret
                exact ⟨rfl, HB4.out⟩
end Go.Proofs.YtadoonimokpnoaaDoor
