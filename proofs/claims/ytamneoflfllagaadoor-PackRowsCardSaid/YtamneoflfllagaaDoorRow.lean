/-
  PackRows, walked.
-/
import Derived.Test.YtamneoflfllagaaDoorPackKnown
import Derived.Test.YtamneoflfllagaaDoorRowsMath
namespace Go.Proofs.YtamneoflfllagaaDoor
open Go.RowKit Go.Extern.Stop Go.Stop Go.Extern

set_option maxRecDepth 100000 in
set_option maxHeartbeats 4000000 in
theorem rows_out (na sa : Option Addr) (n nc l lc : Nat) (a : Addr) (w : World) (hg : Handle w) (ho : OnErr w a) (hn : n ≤ 9223372036854775807) (hl : l ≤ 9223372036854775807) (hout : n = 0 ∨ 20 < n ∨ 20 < l) :
    Calls Tryd.prog 4 #[.slice na n nc, .slice sa l lc] w fun e w' => e = .returned (.bool true) ∧ Below w.heap.size w w' := by
  have C := known_true a w hg ho
  clear hg ho
  by_cases h1 : 20 < n
  · have j1 : (20 : Int) < (n : Int) := by omega
    clear hout
    go_enter Tryd.func4, Tryd.ntmps4
    go_wp2_with (go_at_call 5; (with_reducible refine C.mono ?_); rintro e w1 ⟨rfl, hb⟩)
    go_ret
    exact ⟨rfl, hb⟩
  · have j1 : (n : Int) ≤ 20 := by omega
    by_cases h2 : 20 < l
    · have j2 : (20 : Int) < (l : Int) := by omega
      clear hout
      go_enter Tryd.func4, Tryd.ntmps4
      go_wp2_with (go_at_call 5; (with_reducible refine C.mono ?_); rintro e w1 ⟨rfl, hb⟩)
      go_ret
      exact ⟨rfl, hb⟩
    · have j2 : (l : Int) ≤ 20 := by omega
      obtain rfl : n = 0 := by omega
      clear hout
      go_enter Tryd.func4, Tryd.ntmps4
      go_wp2_with (go_at_call 5; (with_reducible refine C.mono ?_); rintro e w1 ⟨rfl, hb⟩)
      refine wp_loop_rounds 1 ?_
      rw [rounds_succ]
      go_wp2
      refine wp_loop_rounds 1 ?_
      rw [rounds_succ]
      go_wp2
      go_ret
      exact ⟨rfl, hb⟩

/-- What the first loop holds when it has laid i rows. -/
structure LaidAt (w : World) (zs : List Nat) (ss : List ByteArray) (k : Nat) (bv iv : Value) (wr : World) (i : Nat) (b : ByteArray) : Prop where
  p1 : bv = .string b
  p2 : iv = .int .i64 i
  p3 : i + k = zs.length
  p4 : b ++ packed (zs.drop i) (ss.drop i) = packed zs ss
  p5 : b.size ≤ 100 * i
  p6 : ∀ j x, j < i → ss[j]? = some x → x.size ≤ 60
  p7 : Below w.heap.size w wr

/-- What the second loop holds when it has taken i rows. -/
structure LeftAt (w : World) (zs : List Nat) (ss : List ByteArray) (k : Nat) (bv iv : Value) (wr : World) (i : Nat) (b : ByteArray) : Prop where
  p1 : bv = .string b
  p2 : iv = .int .i64 i
  p3 : i + k = zs.length
  p4 : b = packed (zs.drop i) (ss.drop i)
  p5 : b.size ≤ 2000
  p7 : Below w.heap.size w wr

set_option maxRecDepth 100000 in
set_option maxHeartbeats 8000000 in
theorem rows_in (nb no n nc : Nat) (sa : Option Addr) (l lc : Nat) (zs : List Nat) (ss : List ByteArray) (a : Addr) (w : World) (hg : Handle w) (ho : OnErr w a) (hn : n ≤ 20) (hl : l ≤ 20) (hzl : zs.length = n) (hsl : ss.length = l)
    (hz : ∀ (j z : Nat), zs[j]? = some z → w.cell? ⟨nb, no + j, none⟩ = some (.int .u32 (z : Int)) ∧ z ≤ 4294967295)
    (hs : ∀ (j : Nat) (x : ByteArray), ss[j]? = some x → ∃ sb so, sa = some ⟨sb, so, none⟩ ∧ w.cell? ⟨sb, so + j, none⟩ = some (.string x)) :
    Calls Tryd.prog 4 #[.slice (some ⟨nb, no, none⟩) n nc, .slice sa l lc] w fun e w' => e = .returned (.bool true) ∧ Below w.heap.size w w' := by
  have C := known_true a w hg ho
  have HG := Lib.hid hg
  have HO := Lib.hid ho
  have HZ := Lib.hid hz
  have HS := Lib.hid hs
  have HZL := Lib.hid hzl
  have HSL := Lib.hid hsl
  clear hg ho hz hs hzl hsl
  have j1 : (n : Int) ≤ 20 := by omega
  have j2 : (l : Int) ≤ 20 := by omega
  go_enter Tryd.func4, Tryd.ntmps4
  go_wp2_with fail
  go_at_call 5
  ((with_reducible refine C.mono ?_); rintro e w1 ⟨rfl, hb⟩)
  have H1 := Lib.hid hb; clear hb C
  go_wp2_with fail
  go_loopg [5, 6] n (fun k bv iv wr => ∃ i b, LaidAt w zs ss k bv iv wr i b)
  case atStart => exact ⟨0, ByteArray.empty, rfl, rfl, by rw [Nat.zero_add, HZL.out], by simp, by simp, fun _ _ h => absurd h (Nat.not_lt_zero _), H1.out⟩
  case round =>
    obtain ⟨i, b, rfl, rfl, h3, h4, h5, h6, h7⟩ := hrel
    have H3 := Lib.hid h3
    have H4 := Lib.hid h4
    have H6 := Lib.hid h6
    have H7 := Lib.hid h7
    have hin : i ≤ n := by have := HZL.out; omega
    clear h3 h4 h6 h7
    by_cases hlt : i < n
    · have i5 : (i : Int) < (n : Int) := by omega
      obtain ⟨z, hzi⟩ : ∃ z, zs[i]? = some z := ⟨_, List.getElem?_eq_getElem (by rw [HZL.out]; exact hlt)⟩
      have HZI := Lib.hid hzi
      clear hzi
      obtain ⟨hc, hz32⟩ := HZ.out i z HZI.out
      have cz : wr.cell? ⟨nb, no + i, none⟩ = some (.int .u32 (z : Int)) := by rw [H7.out.cell (lt_of_cell hc)]; exact hc
      clear hc
      have CN := num_any z wr (by omega)
      obtain ⟨B, hB⟩ : ∃ B, num z = B := ⟨_, rfl⟩
      have hBs := num_size_le z
      rw [hB] at CN hBs
      have HB := Lib.hid hB
      clear hB
      have x1 : ¬ 9223372036854775807 < b.size + B.size := by omega
      by_cases hls : i < l
      · have i6 : (i : Int) < (l : Int) := by omega
        obtain ⟨t, hti⟩ : ∃ t, ss[i]? = some t := ⟨_, List.getElem?_eq_getElem (by rw [HSL.out]; exact hls)⟩
        have HTI := Lib.hid hti
        clear hti
        obtain ⟨sb, so, hsa, hct⟩ := HS.out i t HTI.out
        subst hsa
        have hsb : sb < w.heap.size := lt_of_cell hct
        have ct : wr.cell? ⟨sb, so + i, none⟩ = some (.string t) := by rw [H7.out.cell hsb]; exact hct
        clear hct
        go_wp2_with fail
        go_at_call 6
        ((with_reducible refine CN.mono ?_); rintro e w2 ⟨rfl, hb⟩)
        have H2 := Lib.hid (H7.out.trans (hb.mono H7.out.size))
        have ct2 : w2.cell? ⟨sb, so + i, none⟩ = some (.string t) := by rw [hb.cell (Nat.lt_of_lt_of_le hsb H7.out.size)]; exact ct
        clear hb cz ct CN
        by_cases h60 : 60 < t.size
        · have j3 : (60 : Int) < (t.size : Int) := by omega
          go_wp2
          go_ret
          exact ⟨rfl, H2.out⟩
        · have j3 : (t.size : Int) ≤ 60 := by omega
          have CT := text_any t w2 (by omega)
          obtain ⟨T, hT⟩ : ∃ T, text t = T := ⟨_, rfl⟩
          have hTs : (text t).size ≤ 71 := by rw [text_size]; have := num_size_le t.size; omega
          rw [hT] at CT hTs
          have HT := Lib.hid hT
          clear hT
          have x2 : ¬ 9223372036854775807 < b.size + B.size + T.size := by omega
          go_wp2_with fail
          go_at_call 7
          ((with_reducible refine CT.mono ?_); rintro e w3 ⟨rfl, hb⟩)
          have H3' := Lib.hid (H2.out.trans (hb.mono H2.out.size))
          clear hb CT ct2
          go_wp2
          go_roundg (n - (i + 1))
          case measure => have := H3.out; have := HZL.out; omega
          case rel =>
            refine ⟨i + 1, b ++ B ++ T, rfl, by go_num, ?_, ?_, ?_, ?_, H3'.out⟩
            · have := HZL.out; omega
            · rw [← H4.out, packed_some HZI.out HTI.out, HB.out, HT.out, ByteArray.append_assoc, ByteArray.append_assoc]
            · simp only [ByteArray.size_append]; omega
            · intro j y hj hy
              rcases Nat.lt_or_ge j i with h | h
              · exact H6.out j y h hy
              · obtain rfl : j = i := by omega
                rw [HTI.out] at hy
                obtain rfl := Option.some.inj hy
                omega
      · have i6 : ¬ (i : Int) < (l : Int) := by omega
        go_wp2_with fail
        go_at_call 6
        ((with_reducible refine CN.mono ?_); rintro e w2 ⟨rfl, hb⟩)
        have H2 := Lib.hid (H7.out.trans (hb.mono H7.out.size))
        clear hb cz CN
        go_wp2
        go_roundg (n - (i + 1))
        case measure => have := H3.out; have := HZL.out; omega
        case rel =>
          refine ⟨i + 1, b ++ B, rfl, by go_num, ?_, ?_, ?_, ?_, H2.out⟩
          · have := HZL.out; omega
          · rw [← H4.out, packed_none HZI.out (by have := HSL.out; omega), HB.out, ByteArray.append_assoc]
          · simp only [ByteArray.size_append]; omega
          · intro j y hj hy
            rcases Nat.lt_or_ge j i with h | h
            · exact H6.out j y h hy
            · obtain rfl : j = i := by omega
              have := (List.getElem?_eq_some_iff.1 hy).1
              have := HSL.out
              omega
    · have hbp : b = packed zs ss := by
        rw [← H4.out, packed_end (by have := HZL.out; omega), ByteArray.append_empty]
      have i5 : ¬ (i : Int) < (n : Int) := by omega
      obtain rfl : n = i := by omega
      have H60 := Lib.hid (show ∀ j y, ss[j]? = some y → j < n → y.size ≤ 60 from fun j y hy hj => H6.out j y hj hy)
      have hbs : b.size ≤ 2000 := by omega
      have HBP := Lib.hid hbp
      clear hbp H6 H4 H3
      go_wp2_with fail
      go_loopg [5, 7] n (fun k bv iv wr => ∃ i b, LeftAt w zs ss k bv iv wr i b)
      case atStart => exact ⟨0, b, rfl, rfl, by rw [Nat.zero_add, HZL.out], HBP.out, hbs, H7.out⟩
      case round =>
        clear H7 HBP
        clear hbs
        obtain ⟨i, c, rfl, rfl, h3, h4, h5, h7⟩ := hrel
        have H3 := Lib.hid h3
        have H4 := Lib.hid h4
        have H7 := Lib.hid h7
        have hin : i ≤ n := by have := HZL.out; omega
        clear h3 h4 h7
        by_cases hlt : i < n
        · have i6 : (i : Int) < (n : Int) := by omega
          obtain ⟨z, hzi⟩ : ∃ z, zs[i]? = some z := ⟨_, List.getElem?_eq_getElem (by rw [HZL.out]; exact hlt)⟩
          have HZI := Lib.hid hzi
          clear hzi
          obtain ⟨hc, hz32⟩ := HZ.out i z HZI.out
          have hnb : nb < w.heap.size := lt_of_cell hc
          by_cases hls : i < l
          · have i7 : (i : Int) < (l : Int) := by omega
            obtain ⟨t, hti⟩ : ∃ t, ss[i]? = some t := ⟨_, List.getElem?_eq_getElem (by rw [HSL.out]; exact hls)⟩
            have HTI := Lib.hid hti
            clear hti
            have ht60 := H60.out i t HTI.out hlt
            obtain ⟨sb, so, hsa, hct⟩ := HS.out i t HTI.out
            subst hsa
            have hsb : sb < w.heap.size := lt_of_cell hct
            have e1 := packed_some HZI.out HTI.out
            rw [← H4.out] at e1
            generalize hR : packed (zs.drop (i + 1)) (ss.drop (i + 1)) = R at e1
            have q1 : takeL c.data.toList = .ok z (num z).size := by rw [e1]; exact take_num_bytes z (by omega) _
            have q2 : c.extract (num z).size c.size = text t ++ R := by rw [e1]; exact append_extract_right _ _
            have q3 : textL (text t ++ R) 60 = .ok t R := textL_text t R 60 (by omega) (by omega)
            have q4 : (text t ++ R).size ≤ 2000 := by
              have : c.size = (num z).size + (text t ++ R).size := by rw [e1, ByteArray.size_append]
              omega
            have q5 : R.size ≤ 2000 := by
              have : (text t ++ R).size = (text t).size + R.size := by rw [ByteArray.size_append]
              omega
            generalize text t ++ R = M at q2 q3 q4
            have Q1 := Lib.hid q1
            have Q2 := Lib.hid q2
            have Q3 := Lib.hid q3
            have HR := Lib.hid hR
            clear q1 q2 q3 e1 hR
            go_wp2_with fail
            go_at_call 8
            ((with_reducible refine (take_ok (by omega) (HO.out.later H7.out) Q1.out Q2.out).mono ?_); rintro e w2 ⟨rfl, hb⟩)
            have H2 := Lib.hid (H7.out.trans (hb.mono H7.out.size))
            clear hb
            have cz : w2.cell? ⟨nb, no + i, none⟩ = some (.int .u32 (z : Int)) := by rw [H2.out.cell hnb]; exact hc
            go_wp2_with fail
            go_at_call 9
            clear cz
            ((with_reducible refine (takeText_ok (by omega) (HO.out.later H2.out) Q3.out).mono ?_); rintro e w3 ⟨rfl, hb⟩)
            have H3' := Lib.hid (H2.out.trans (hb.mono H2.out.size))
            clear hb
            have ct : w3.cell? ⟨sb, so + i, none⟩ = some (.string t) := by rw [H3'.out.cell hsb]; exact hct
            go_wp2
            go_roundg (n - (i + 1))
            case measure => have := H3.out; have := HZL.out; omega
            case rel =>
              refine ⟨i + 1, R, rfl, by go_num, ?_, HR.out.symm, q5, H3'.out⟩
              have := HZL.out; omega
          · have i7 : ¬ (i : Int) < (l : Int) := by omega
            have e1 := packed_none (zs := zs) (ss := ss) HZI.out (by have := HSL.out; omega)
            rw [← H4.out] at e1
            generalize hR : packed (zs.drop (i + 1)) (ss.drop (i + 1)) = R at e1
            have q1 : takeL c.data.toList = .ok z (num z).size := by rw [e1]; exact take_num_bytes z (by omega) _
            have q2 : c.extract (num z).size c.size = R := by rw [e1]; exact append_extract_right _ _
            have q5 : R.size ≤ 2000 := by
              have : c.size = (num z).size + R.size := by rw [e1, ByteArray.size_append]
              omega
            have Q1 := Lib.hid q1
            have Q2 := Lib.hid q2
            have HR := Lib.hid hR
            clear q1 q2 e1 hR
            go_wp2_with fail
            go_at_call 8
            ((with_reducible refine (take_ok (by omega) (HO.out.later H7.out) Q1.out Q2.out).mono ?_); rintro e w2 ⟨rfl, hb⟩)
            have H2 := Lib.hid (H7.out.trans (hb.mono H7.out.size))
            clear hb
            have cz : w2.cell? ⟨nb, no + i, none⟩ = some (.int .u32 (z : Int)) := by rw [H2.out.cell hnb]; exact hc
            go_wp2
            go_roundg (n - (i + 1))
            case measure => have := H3.out; have := HZL.out; omega
            case rel =>
              refine ⟨i + 1, R, rfl, by go_num, ?_, HR.out.symm, q5, H2.out⟩
              have := HZL.out; omega
        · have hc0 : c = ByteArray.empty := by
            rw [H4.out, packed_end (by have := HZL.out; omega)]
          have i6 : ¬ (i : Int) < (n : Int) := by omega
          subst hc0
          clear H4
          go_wp2
          go_ret
          exact ⟨rfl, H7.out⟩
end Go.Proofs.YtamneoflfllagaaDoor
