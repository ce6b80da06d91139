/-
  JournalTrims, walked.
-/
import Derived.Test.YtckbgggocmbbdaaDoorTwiceWalk
namespace Go.Proofs.YtckbgggocmbbdaaDoor
open Go.RowKit Go.Extern.Stop Go.Stop Go.Extern

set_option maxRecDepth 100000 in
set_option maxHeartbeats 4000000 in
theorem trims_out (sa : Option Addr) (la ca : Nat) (sb : Option Addr) (lb cb : Nat) (next : ByteArray) (a : Addr) (w : World) (hg : Handle w) (ho : OnErr w a) (hout : 10 < la ∨ 10 < lb ∨ 100 < next.size) :
    Calls Tryd.prog 5 #[.slice sa la ca, .slice sb lb cb, .string next] w fun e w' => e = .returned (.bool true) ∧ Below w.heap.size w w' := by
  have C := known_true a w hg ho
  clear hg ho
  by_cases h1 : 10 < la
  · have j1 : (10 : Int) < (la : Int) := by omega
    clear hout
    go_enter Tryd.func5, Tryd.ntmps5
    go_wp2_with (go_at_call 7; (with_reducible refine C.mono ?_); rintro e w1 ⟨rfl, hb⟩)
    go_ret
    exact ⟨rfl, hb⟩
  · have j1 : ¬ (10 : Int) < (la : Int) := by omega
    by_cases h2 : 10 < lb
    · have j2 : (10 : Int) < (lb : Int) := by omega
      clear hout
      go_enter Tryd.func5, Tryd.ntmps5
      go_wp2_with (go_at_call 7; (with_reducible refine C.mono ?_); rintro e w1 ⟨rfl, hb⟩)
      go_ret
      exact ⟨rfl, hb⟩
    · have j2 : ¬ (10 : Int) < (lb : Int) := by omega
      have j3 : (100 : Int) < (next.size : Int) := by omega
      clear hout
      go_enter Tryd.func5, Tryd.ntmps5
      go_wp2_with (go_at_call 7; (with_reducible refine C.mono ?_); rintro e w1 ⟨rfl, hb⟩)
      go_ret
      exact ⟨rfl, hb⟩

theorem framesOf_most (m : Nat) (ts : List ByteArray) (h : ∀ t ∈ ts, t.size ≤ m) : (framesOf ts).size ≤ (15 + m) * ts.length := by
  induction ts with
  | nil => simp [framesOf]
  | cons x r ih =>
    have h1 := ih fun t ht => h t (List.mem_cons_of_mem _ ht)
    have h2 := framed_le x
    have h3 := h x (List.mem_cons_self ..)
    simp only [framesOf, ByteArray.size_append, List.length_cons, Nat.mul_succ]
    omega

set_option maxRecDepth 100000 in
set_option maxHeartbeats 16000000 in
theorem trims_in (sa : Option Addr) (ca : Nat) (sb : Option Addr) (cb : Nat) (ss us : List ByteArray) (next : ByteArray) (a : Addr) (w : World) (hg : Handle w) (ho : OnErr w a) (hla : ss.length ≤ 10) (hlb : us.length ≤ 10) (hn : next.size ≤ 100)
    (ht : Texts w (.slice sa ss.length ca) ss) (hu : Texts w (.slice sb us.length cb) us) :
    Calls Tryd.prog 5 #[.slice sa ss.length ca, .slice sb us.length cb, .string next] w fun e w' => e = .returned (.bool true) ∧ Below w.heap.size w w' := by
  have C := known_true a w hg ho
  have HG := Lib.hid hg
  have HO := Lib.hid ho
  have HU := Lib.hid hu
  obtain ⟨p, c, e, hts⟩ := ht
  injection e with e1 e2 e3
  subst e1 e3
  obtain ⟨q, c', e, hus⟩ := hu
  injection e with e1 e2 e3
  subst e1 e3
  have HTS := Lib.hid hts
  have HUS := Lib.hid hus
  obtain ⟨l, hsl⟩ : ∃ l, l = ss.length := ⟨_, rfl⟩
  rw [← hsl] at hla
  have HSL := Lib.hid hsl
  obtain ⟨m, hsm⟩ : ∃ m, m = us.length := ⟨_, rfl⟩
  rw [← hsm] at hlb
  have HSM := Lib.hid hsm
  clear hg ho hts hus
  rw [← hsl, ← hsm]
  clear hsl hsm
  have j1 : ¬ (10 : Int) < (l : Int) := by omega
  have j2 : ¬ (10 : Int) < (m : Int) := by omega
  have j3 : ¬ (100 : Int) < (next.size : Int) := by omega
  go_enter Tryd.func5, Tryd.ntmps5
  go_wp2_with fail
  go_at_call 7
  ((with_reducible refine C.mono ?_); rintro e w1 ⟨rfl, hb⟩)
  have H1 := Lib.hid hb; clear hb C
  go_wp2_with fail
  go_at_call 8
  refine (diskNew_any _).mono ?_
  rintro e w2 ⟨rfl, rfl⟩
  have hD := newRecs w.heap.size w1 H1.out.size
  have hK : Keeps w.heap.size w1.heap.size w (w1.alloc (.cells #[.slice none 0 0, .int .i64 0] 48)) := Keeps.of_below (H1.out.alloc H1.out.size _) (Nat.le_refl _)
  have HD := Lib.hid hD
  have HK := Lib.hid hK
  clear hD hK H1
  generalize w1.alloc (.cells #[.slice none 0 0, .int .i64 0] 48) = w2 at HD HK
  generalize w1.heap.size = d at HD HK
  go_wp2_with fail
  go_at_call 9
  refine (open_whole HD.out (HG.out.later HK.out.below) (HO.out.later HK.out.below) HK.out.size).mono ?_
  rintro e w3 ⟨j, sv, rfl, hj, hr, hD, hb⟩
  have HJ := Lib.hid hj
  have HD2 := Lib.hid hD
  have HK2 := Lib.hid (HK.out.trans (Keeps.of_below hb HK.out.size))
  clear hj hr hD hb HD HK
  go_wp2_with fail
  go_loopg [11] l (fun k iv wr => ∃ i L, AddedAt w.heap.size d j ss w k iv wr i L)
  case atStart => exact ⟨0, 0, rfl, by rw [Nat.zero_add]; exact HSL.out, HD2.out, HJ.out, HK2.out, by simp [framesOf]⟩
  case round =>
    clear HD2 HJ HK2
    obtain ⟨i, L, rfl, h2, h3, h4, h5, h6⟩ := hrel
    have H2 := Lib.hid h2
    have H3 := Lib.hid h3
    have H4 := Lib.hid h4
    have H5 := Lib.hid h5
    have hin : i ≤ l := by have := HSL.out; omega
    clear h2 h3 h4 h5
    by_cases hlt : i < l
    · have i5 : (i : Int) < (l : Int) := by omega
      obtain ⟨x, hx⟩ : ∃ x, ss[i]? = some x := ⟨_, List.getElem?_eq_getElem (by rw [← HSL.out]; exact hlt)⟩
      obtain ⟨gb, go, hp, hc⟩ := HTS.out i x hx
      subst hp
      have ct : wr.cell? ⟨gb, go + i, none⟩ = some (.string x) := by rw [H5.out.below.cell (lt_of_cell hc)]; exact hc
      have HX := Lib.hid hx
      clear hc hx
      by_cases h100 : 100 < x.size
      · have j3 : (100 : Int) < (x.size : Int) := by omega
        go_wp2
        go_ret
        exact ⟨rfl, H5.out.below⟩
      · have j3 : ¬ (100 : Int) < (x.size : Int) := by omega
        have hfl := framed_le x
        go_wp2_with fail
        go_at_call 10
        refine (add_ok H3.out H4.out H5.out.size (by omega)).mono ?_
        rintro e w4 ⟨rfl, hD, hK, hj⟩
        rw [← framesOf_snoc HX.out] at hD
        have HD := Lib.hid hD
        have HK := Lib.hid (H5.out.trans hK)
        have HJ := Lib.hid hj
        clear hD hK hj ct
        go_wp2
        go_roundg (gk - 1)
        case measure => have := H2.out; have := HSL.out; omega
        case rel =>
          refine ⟨i + 1, _, by go_num, ?_, HD.out, HJ.out, HK.out, ?_⟩
          · have := H2.out; have := HSL.out; omega
          · rw [framesOf_snoc HX.out, ByteArray.size_append]; omega
    · obtain rfl : i = l := by omega
      have i5 : ¬ (i : Int) < (i : Int) := by omega
      have hD1 : DiskIs w.heap.size d wr (framesOf ss) L := by
        have := H3.out
        rw [HSL.out, List.take_length] at this
        exact this
      have HD1 := Lib.hid hD1
      clear hD1 H3 h6 H2
      go_wp2_with fail
      go_loopg [12] m (fun k iv wq => wr = wq ∧ ∃ n : Nat, iv = .int .i64 n ∧ n + k = m ∧ ∀ t ∈ us.take n, t.size ≤ 100)
      case atStart => exact ⟨rfl, 0, rfl, Nat.zero_add _, by simp⟩
      case round =>
        obtain ⟨rfl, n, rfl, h2, h3⟩ := hrel
        have H2 := Lib.hid h2
        have H3 := Lib.hid h3
        have hnm : n ≤ m := by omega
        clear h2 h3
        by_cases hlt : n < m
        · have i6 : (n : Int) < (m : Int) := by omega
          obtain ⟨x, hx⟩ : ∃ x, us[n]? = some x := ⟨_, List.getElem?_eq_getElem (by rw [← HSM.out]; exact hlt)⟩
          obtain ⟨gb, go, hp, hc⟩ := HUS.out n x hx
          subst hp
          have ct : wr.cell? ⟨gb, go + n, none⟩ = some (.string x) := by rw [H5.out.below.cell (lt_of_cell hc)]; exact hc
          have HX := Lib.hid hx
          clear hc hx
          by_cases h100 : 100 < x.size
          · have j3 : (100 : Int) < (x.size : Int) := by omega
            go_wp2
            go_ret
            exact ⟨rfl, H5.out.below⟩
          · have j3 : ¬ (100 : Int) < (x.size : Int) := by omega
            go_wp2
            go_roundg (gk - 1)
            case measure => have := H2.out; omega
            case rel =>
              refine ⟨rfl, n + 1, by go_num, by have := H2.out; omega, fun t ht => ?_⟩
              rw [take_snoc HX.out] at ht
              rcases List.mem_append.1 ht with h | h
              · exact H3.out t h
              · obtain rfl := List.mem_singleton.1 h
                omega
        · obtain rfl : n = m := by omega
          have i6 : ¬ (n : Int) < (n : Int) := by omega
          have h100 : ∀ t ∈ us, t.size ≤ 100 := by
            have := H3.out
            rw [HSM.out, List.take_length] at this
            exact this
          have hfm := framesOf_most 100 us h100
          rw [← HSM.out] at hfm
          have hfn := framed_le next
          have hUW := HU.out.later H5.out.below
          have T := trim_ok HD1.out H4.out H5.out.size hUW (by omega)
          rw [← HSM.out] at T
          clear hUW H3 h100
          go_wp2_with fail
          go_at_call 13
          refine T.mono ?_
          rintro e w4 ⟨rfl, hD, hK, hj⟩
          have HD4 := Lib.hid hD
          have HK4 := Lib.hid (H5.out.trans hK)
          have HJ4 := Lib.hid hj
          clear hD hK hj HD1 H4 H5 T
          go_wp2_with fail
          go_at_call 12
          refine (loose_any HD4.out).mono ?_
          rintro e w5 ⟨rfl, rfl⟩
          have LN := len_any HD4.out HJ4.out (HG.out.later HK4.out.below) (HO.out.later HK4.out.below)
          rw [← HSM.out] at LN
          go_wp2_with fail
          go_at_call 16
          refine LN.mono ?_
          rintro e w5 ⟨rfl, hb⟩
          have HD5 := Lib.hid (HD4.out.later hb)
          have HJ5 := Lib.hid (HJ4.out.later hb)
          have HK5 := Lib.hid (HK4.out.trans (Keeps.of_below hb HK4.out.size))
          clear hb LN HD4 HJ4 HK4
          go_wp2_with fail
          go_at_call 10
          refine (add_ok HD5.out HJ5.out HK5.out.size (by omega)).mono ?_
          rintro e w6 ⟨rfl, hD, hK, hj⟩
          have HD6 := Lib.hid hD
          have HK6 := Lib.hid (HK5.out.trans hK)
          clear hD hK hj HD5 HJ5 HK5
          go_wp2_with fail
          go_at_call 18
          refine (crash_rec (r := framesOf us) 0 HD6.out ?_).mono ?_
          · have e0 : stay 0 (0 + (framed next).size) = 0 := by unfold stay; omega
            rw [e0, ByteArray.size_append]
            have e1 : (framesOf us).size + (framed next).size - (0 + (framed next).size - 0) = (framesOf us).size := by omega
            rw [e1]; exact front_left _ _
          rintro e w7 ⟨rfl, hD, hK⟩
          have HD7 := Lib.hid hD
          have HK7 := Lib.hid (HK6.out.trans hK)
          clear hD hK HD6 HK6
          go_wp2_with fail
          go_at_call 9
          refine (open_whole HD7.out (HG.out.later HK7.out.below) (HO.out.later HK7.out.below) HK7.out.size).mono ?_
          rintro e w8 ⟨k, kv, rfl, hj, hr, hD, hb⟩
          have HK8 := Lib.hid (HK7.out.below.trans (hb.mono HK7.out.size))
          have HJ8 := Lib.hid hj
          have HD8 := Lib.hid hD
          have D1 := sameTexts_true kv (.slice sb us.length cb) us w8 (by rw [← HSM.out]; omega) hr.texts (HU.out.later HK8.out)
          rw [← HSM.out] at D1
          clear hj hr hD hb HD7 HK7
          go_wp2_with fail
          go_at_call 14
          ((with_reducible refine D1.mono ?_); rintro e w9 ⟨rfl, hb⟩)
          have HK9 := Lib.hid (HK8.out.trans (hb.mono HK8.out.size))
          have LN := len_any (HD8.out.later hb) (HJ8.out.later hb) (HG.out.later HK9.out) (HO.out.later HK9.out)
          rw [← HSM.out] at LN
          clear hb D1
          go_wp2_with fail
          go_at_call 16
          refine LN.mono ?_
          rintro e w10 ⟨rfl, hb⟩
          go_wp2
          go_ret
          exact ⟨rfl, HK9.out.trans (hb.mono HK9.out.size)⟩
end Go.Proofs.YtckbgggocmbbdaaDoor
