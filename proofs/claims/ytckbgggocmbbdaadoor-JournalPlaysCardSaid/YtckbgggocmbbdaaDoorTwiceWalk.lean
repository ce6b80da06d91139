/-
  JournalTwice, walked.
-/
import Derived.Test.YtckbgggocmbbdaaDoorJournalKnown
namespace Go.Proofs.YtckbgggocmbbdaaDoor
open Go.RowKit Go.Extern.Stop Go.Stop Go.Extern

set_option maxRecDepth 100000 in
set_option maxHeartbeats 4000000 in
theorem twice_out (sa : Option Addr) (l lc : Nat) (junk : ByteArray) (a : Addr) (w : World) (hg : Handle w) (ho : OnErr w a) (hout : 10 < l ∨ 3 < junk.size) :
    Calls Tryd.prog 6 #[.slice sa l lc, .string junk] w fun e w' => e = .returned (.bool true) ∧ Below w.heap.size w w' := by
  have C := known_true a w hg ho
  clear hg ho
  by_cases h1 : 10 < l
  · have j1 : (10 : Int) < (l : Int) := by omega
    clear hout
    go_enter Tryd.func6, Tryd.ntmps6
    go_wp2_with (go_at_call 7; (with_reducible refine C.mono ?_); rintro e w1 ⟨rfl, hb⟩)
    go_ret
    exact ⟨rfl, hb⟩
  · have j1 : ¬ (10 : Int) < (l : Int) := by omega
    have j2 : (3 : Int) < (junk.size : Int) := by omega
    clear hout
    go_enter Tryd.func6, Tryd.ntmps6
    go_wp2_with (go_at_call 7; (with_reducible refine C.mono ?_); rintro e w1 ⟨rfl, hb⟩)
    go_ret
    exact ⟨rfl, hb⟩

/-- What the loop holds when i records were added. -/
structure AddedAt (base d j : Nat) (ss : List ByteArray) (w : World) (k : Nat) (iv : Value) (wr : World) (i L : Nat) : Prop where
  p1 : iv = .int .i64 i
  p2 : i + k = ss.length
  p3 : DiskIs base d wr (framesOf (ss.take i)) L
  p4 : JournalAt j d wr
  p5 : Keeps base d w wr
  p6 : (framesOf (ss.take i)).size ≤ 115 * i

set_option maxRecDepth 100000 in
set_option maxHeartbeats 16000000 in
theorem twice_in (sa : Option Addr) (lc : Nat) (ss : List ByteArray) (junk : ByteArray) (a : Addr) (w : World) (hg : Handle w) (ho : OnErr w a) (hl : ss.length ≤ 10) (hj : junk.size ≤ 3) (ht : Texts w (.slice sa ss.length lc) ss) :
    Calls Tryd.prog 6 #[.slice sa ss.length lc, .string junk] w fun e w' => e = .returned (.bool true) ∧ Below w.heap.size w w' := by
  have C := known_true a w hg ho
  have HG := Lib.hid hg
  have HO := Lib.hid ho
  have HT := Lib.hid ht
  obtain ⟨p, c, e, hts⟩ := ht
  injection e with e1 e2 e3
  subst e1 e3
  have HTS := Lib.hid hts
  obtain ⟨l, hsl⟩ : ∃ l, l = ss.length := ⟨_, rfl⟩
  rw [← hsl] at hl
  have HSL := Lib.hid hsl
  clear hg ho hts
  rw [← hsl]
  clear hsl
  have j1 : ¬ (10 : Int) < (l : Int) := by omega
  have j2 : ¬ (3 : Int) < (junk.size : Int) := by omega
  go_enter Tryd.func6, Tryd.ntmps6
  go_wp2_with fail
  go_at_call 7
  ((with_reducible refine C.mono ?_); rintro e w1 ⟨rfl, hb⟩)
  have H1 := Lib.hid hb; clear hb C
  go_wp2_with fail
  go_at_call 8
  refine (diskNew_any _).mono ?_
  rintro e w2 ⟨rfl, rfl⟩
  have hD := newRecs w.heap.size w1 H1.out.size
  have hK : Keeps w.heap.size w1.heap.size w (w1.alloc (.cells #[.slice none 0 0, .int .i64 0] 48)) := Keeps.of_below (H1.out.alloc H1.out.size _) (Nat.le_refl _)
  have HD := Lib.hid hD
  have HK := Lib.hid hK
  clear hD hK H1
  generalize w1.alloc (.cells #[.slice none 0 0, .int .i64 0] 48) = w2 at HD HK
  generalize w1.heap.size = d at HD HK
  go_wp2_with fail
  go_at_call 9
  refine (open_whole HD.out (HG.out.later HK.out.below) (HO.out.later HK.out.below) HK.out.size).mono ?_
  rintro e w3 ⟨j, sv, rfl, hj, hr, hD, hb⟩
  have HJ := Lib.hid hj
  have HD2 := Lib.hid hD
  have HK2 := Lib.hid (HK.out.trans (Keeps.of_below hb HK.out.size))
  clear hj hr hD hb HD HK
  go_wp2_with fail
  go_loopg [9] l (fun k iv wr => ∃ i L, AddedAt w.heap.size d j ss w k iv wr i L)
  case atStart => exact ⟨0, 0, rfl, by rw [Nat.zero_add]; exact HSL.out, HD2.out, HJ.out, HK2.out, by simp [framesOf]⟩
  case round =>
    clear HD2 HJ HK2
    obtain ⟨i, L, rfl, h2, h3, h4, h5, h6⟩ := hrel
    have H2 := Lib.hid h2
    have H3 := Lib.hid h3
    have H4 := Lib.hid h4
    have H5 := Lib.hid h5
    have hin : i ≤ l := by have := HSL.out; omega
    clear h2 h3 h4 h5
    by_cases hlt : i < l
    · have i5 : (i : Int) < (l : Int) := by omega
      obtain ⟨x, hx⟩ : ∃ x, ss[i]? = some x := ⟨_, List.getElem?_eq_getElem (by rw [← HSL.out]; exact hlt)⟩
      obtain ⟨sb, so, hp, hc⟩ := HTS.out i x hx
      subst hp
      have ct : wr.cell? ⟨sb, so + i, none⟩ = some (.string x) := by rw [H5.out.below.cell (lt_of_cell hc)]; exact hc
      have HX := Lib.hid hx
      clear hc hx
      by_cases h100 : 100 < x.size
      · have j3 : (100 : Int) < (x.size : Int) := by omega
        go_wp2
        go_ret
        exact ⟨rfl, H5.out.below⟩
      · have j3 : ¬ (100 : Int) < (x.size : Int) := by omega
        have hfl := framed_le x
        go_wp2_with fail
        go_at_call 10
        refine (add_ok H3.out H4.out H5.out.size (by omega)).mono ?_
        rintro e w4 ⟨rfl, hD, hK, hj⟩
        rw [← framesOf_snoc HX.out] at hD
        have HD := Lib.hid hD
        have HK := Lib.hid (H5.out.trans hK)
        have HJ := Lib.hid hj
        clear hD hK hj ct
        go_wp2
        go_roundg (gk - 1)
        case measure => have := H2.out; have := HSL.out; omega
        case rel =>
          refine ⟨i + 1, _, by go_num, ?_, HD.out, HJ.out, HK.out, ?_⟩
          · have := H2.out; have := HSL.out; omega
          · rw [framesOf_snoc HX.out, ByteArray.size_append]; omega
    · obtain rfl : i = l := by omega
      have i5 : ¬ (i : Int) < (i : Int) := by omega
      have hD1 : DiskIs w.heap.size d wr (framesOf ss) L := by
        have := H3.out
        rw [HSL.out, List.take_length] at this
        exact this
      have h7 : (framesOf ss).size ≤ 115 * i := by
        rw [HSL.out, List.take_length] at h6
        rw [HSL.out]; exact h6
      have HD1 := Lib.hid hD1
      clear hD1 H3 h6
      go_wp2_with fail
      go_at_call 17
      refine (bytes_any HD1.out).mono ?_
      rintro e w4 ⟨rfl, rfl⟩
      go_wp2_with fail
      go_at_call 19
      refine (append_ok (b := junk) HD1.out (by omega)).mono ?_
      rintro e w4 ⟨rfl, hD, hK⟩
      have HK4 := Lib.hid (H5.out.trans hK)
      have op : Calls Tryd.prog 9 #[.pointer (some ⟨d, 0, none⟩)] w4 fun e w' => ∃ j sv, e = .returned (.tuple #[.pointer (some ⟨j, 0, none⟩), sv, .nilIface]) ∧ OwnTexts w.heap.size w' sv ss ∧ (∃ L', DiskIs w.heap.size d w' (framesOf ss) L') ∧ Keeps w.heap.size d w4 w' := by
        rcases Nat.eq_zero_or_pos junk.size with h0 | h0
        · have ej : junk = ByteArray.empty := ByteArray.ext (Array.eq_empty_of_size_eq_zero h0)
          rw [ej, ByteArray.append_empty] at hD
          refine (open_whole hD (HG.out.later HK4.out.below) (HO.out.later HK4.out.below) HK4.out.size).mono ?_
          rintro e w5 ⟨j, sv, rfl, _, hr, hD, hb⟩
          exact ⟨j, sv, rfl, hr, ⟨_, hD⟩, Keeps.of_below hb HK4.out.size⟩
        · refine (open_torn hD h0 (openL_few _ _ (by omega)) (HG.out.later HK4.out.below) (HO.out.later HK4.out.below) HK4.out.size).mono ?_
          rintro e w5 ⟨j, sv, rfl, _, hr, hD, hK⟩
          exact ⟨j, sv, rfl, hr, ⟨_, hD⟩, hK⟩
      have OP := Lib.hid op
      clear op hD hK HD1
      go_wp2_with fail
      go_at_call 9
      refine OP.out.mono ?_
      rintro e w5 ⟨j1, sv1, rfl, hr, ⟨L1, hD⟩, hK⟩
      have HD5 := Lib.hid hD
      have HR5 := Lib.hid hr
      have HK5 := Lib.hid (HK4.out.trans hK)
      clear hD hr hK OP HK4
      go_wp2_with fail
      go_at_call 9
      refine (open_whole HD5.out (HG.out.later HK5.out.below) (HO.out.later HK5.out.below) HK5.out.size).mono ?_
      rintro e w6 ⟨j2, sv2, rfl, _, hr, hD, hb⟩
      have HD6 := Lib.hid hD
      have HR6 := Lib.hid hr
      have HS6 := Lib.hid (HR5.out.later hb)
      have HK6 := Lib.hid (HK5.out.below.trans (hb.mono HK5.out.size))
      clear hD hr hb HD5 HR5 HK5
      have D1 := sameTexts_true sv1 (.slice sa ss.length lc) ss w6 (by rw [← HSL.out]; omega) HS6.out.texts (HT.out.later HK6.out)
      rw [← HSL.out] at D1
      go_wp2_with fail
      go_at_call 14
      ((with_reducible refine D1.mono ?_); rintro e w7 ⟨rfl, hb⟩)
      have D2 := sameTexts_true sv2 (.slice sa ss.length lc) ss w7 (by rw [← HSL.out]; omega) (HR6.out.texts.later hb) ((HT.out.later HK6.out).later hb)
      rw [← HSL.out] at D2
      have HD7 := Lib.hid (HD6.out.later hb)
      have HK7 := Lib.hid (HK6.out.trans (hb.mono HK6.out.size))
      clear hb D1
      go_wp2_with fail
      go_at_call 14
      ((with_reducible refine D2.mono ?_); rintro e w8 ⟨rfl, hb⟩)
      have HD8 := Lib.hid (HD7.out.later hb)
      have HK8 := Lib.hid (HK7.out.trans (hb.mono HK7.out.size))
      clear hb D2
      go_wp2_with fail
      go_at_call 17
      refine (bytes_any HD8.out).mono ?_
      rintro e w9 ⟨rfl, rfl⟩
      go_wp2
      go_ret
      exact ⟨rfl, HK8.out⟩
end Go.Proofs.YtckbgggocmbbdaaDoor
