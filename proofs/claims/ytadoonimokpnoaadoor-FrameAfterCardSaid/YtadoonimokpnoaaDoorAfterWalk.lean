/-
  FrameAfter, walked.
-/
import Derived.Test.YtadoonimokpnoaaDoorFrameKnown
namespace Go.Proofs.YtadoonimokpnoaaDoor
open Go.RowKit Go.Extern.Stop Go.Stop Go.Extern

/-- At block g stand these bytes, and they may be written. -/
def BytesAt (w : World) (g : Nat) (l : List UInt8) : Prop := ∀ (j : Nat) (b : UInt8), l[j]? = some b → w.cell? ⟨g, j, none⟩ = some (byteV b) ∧ w.frozen? ⟨g, j, none⟩ = false
theorem conv_bytes (s : ByteArray) (w : World) : ∃ cap w', (convert 9 31 (.string s)).run Tryd.prog w = .ok (.slice (some ⟨w.heap.size, 0, none⟩) s.size cap) w' ∧ Below w.heap.size w w' ∧ BytesAt w' w.heap.size s.data.toList := by
  refine ⟨_, _, run_bytes_of_string w 9 31 5 s Tryd.underlying9 Tryd.underlying31 Tryd.underlying5, ((Below.refl _ _).drew).alloc (Nat.le_refl _) _, fun j b hj => ?_⟩
  have hj' : j < s.data.size := by simpa using (List.getElem?_eq_some_iff.1 hj).1
  have hb : s.data[j] = b := by simpa using (List.getElem?_eq_some_iff.1 hj).2
  generalize grownCap w s.size 0 5 = cap
  have hr := bytesRow_at s cap j hj'
  have hlt : j < (bytesRow s cap).size := (Array.getElem?_eq_some_iff.1 hr).1
  generalize bytesRow s cap = cs at hr hlt
  rw [hb] at hr
  have hh : (w.drew.alloc (.cells cs 5 (cs.size, cs.size + 1))).heap[w.heap.size]? = some (.cells cs 5 (cs.size, cs.size + 1)) := alloc_here w.drew _
  generalize w.drew.alloc (.cells cs 5 (cs.size, cs.size + 1)) = W at hh
  refine ⟨?_, ?_⟩
  · unfold World.cell?
    simp only [hh]
    exact hr
  · unfold World.frozen?
    simp only [hh]
    simp
    omega
theorem BytesAt.conv {w : World} {g cap : Nat} {l : List UInt8} (h : BytesAt w g l) : (convert 31 9 (.slice (some ⟨g, 0, none⟩) l.length cap)).run Tryd.prog w = .ok (.string ⟨l.toArray⟩) w := by
  refine run_convert_bytes_back (P := Tryd.prog) w 31 9 5 ⟨g, 0, none⟩ cap l Tryd.underlying31 Tryd.underlying5 Tryd.underlying9 fun j hj => ?_
  have e : (⟨g, 0, none⟩ : Addr).add j = ⟨g, j, none⟩ := by unfold Addr.add; split <;> simp_all
  rw [e]
  exact (h j l[j] (List.getElem?_eq_getElem hj)).1
theorem BytesAt.set {w : World} {g : Nat} {l : List UInt8} (h : BytesAt w g l) (p : Nat) (x : UInt8) (v : Value) (hv : v = byteV x) : BytesAt (w.setCell ⟨g, p, none⟩ v) g (l.set p x) := by
  subst hv
  intro j b hj
  by_cases hp : p = j
  · subst hp
    have hlt : p < l.length := by have := (List.getElem?_eq_some_iff.1 hj).1; simpa using this
    have hx : b = x := by rw [List.getElem?_set_self hlt] at hj; exact (Option.some.inj hj).symm
    subst hx
    obtain ⟨h1, h2⟩ := h p l[p] (List.getElem?_eq_getElem hlt)
    exact ⟨World.cell?_setCell_same _ _ _ h1, by rw [World.frozen?_setCell]; exact h2⟩
  · rw [List.getElem?_set_ne hp] at hj
    obtain ⟨h1, h2⟩ := h j b hj
    exact ⟨(World.cell?_setCell_other _ ⟨g, p, none⟩ ⟨g, j, none⟩ _ (fun e => hp (congrArg Addr.off e))).trans h1, by rw [World.frozen?_setCell]; exact h2⟩

/-! ### the frame of which one byte is turned -/
def midL : List UInt8 := [116, 69, 21, 115, 6, 109, 105, 100, 100, 108, 101]
def turnL (n : Nat) : List UInt8 := midL.set (5 + n % 6) (midL.getD (5 + n % 6) 0 ^^^ UInt8.ofNat n)
def turnB (n : Nat) : ByteArray := ⟨(turnL n).toArray⟩
theorem turnL_length (n : Nat) : (turnL n).length = 11 := by simp [turnL, midL]
theorem turnB_size (n : Nat) : (turnB n).size = 11 := by simp [turnB, ByteArray.size, turnL_length]
theorem turnL_eq : ∀ n, n < 256 → turnL n = fourL (sumL (6 :: middle)) ++ 6 :: turned n := by decide +kernel
theorem turnB_eq (n : Nat) (hn : n < 256) : turnB n = sign (text middleB) ++ text (turnedB n) := by
  have e2 : (text middleB).data.toList = 6 :: middle := by decide +kernel
  apply ByteArray.ext
  rw [text_turned]
  unfold turnB sign
  rw [turnL_eq n hn, e2]
  simp
theorem midL_at (n : Nat) : midL[5 + n % 6]? = some (midL.getD (5 + n % 6) 0) := by
  have h : 5 + n % 6 < midL.length := by
    have : midL.length = 11 := rfl
    omega
  rw [List.getD_eq_getElem?_getD, List.getElem?_eq_getElem h]; rfl
theorem xor_byte (b : UInt8) (n : Nat) (hn : n < 256) : Value.int .u8 (bits .xor .u8 (b.toNat : Int) (n : Int)) = byteV (b ^^^ UInt8.ofNat n) := by
  have hb : b.toNat < 256 := b.toNat_lt
  rw [u8_xor_nat b.toNat n hb hn]
  unfold byteV
  rw [UInt8.toNat_xor, toNat_small hn]
theorem turn_frames (us : List ByteArray) (d : ByteArray) (n : Nat) (hn : n < 256) (h0 : n ≠ 0) (hs : ∀ t ∈ us, t.size ≤ 200000) : Frames ((framesOf us ++ turnB n) ++ d) 0 us (framesOf us).size := by
  rw [ByteArray.append_assoc]
  refine frames_then us (turnB n ++ d) 12 hs ?_
  rw [turnB_eq n hn, ByteArray.append_assoc]
  exact openL_spoilt (framesOf us) (sign (text middleB)) (turnedB n) d (sign_size _) (by rw [turned_size]; omega) (sign_turned n hn h0)

theorem framed_middle : framed ⟨#[109, 105, 100, 100, 108, 101]⟩ = ⟨#[116, 69, 21, 115, 6, 109, 105, 100, 100, 108, 101]⟩ := by decide +kernel

set_option maxRecDepth 100000 in
set_option maxHeartbeats 4000000 in
theorem after_out (aa ba : Option Addr) (la ca lb cb : Nat) (spoil : Int) (more : ByteArray) (a : Addr) (w : World) (hg : Handle w) (ho : OnErr w a) (hout : 8 < la ∨ 8 < lb ∨ 50 < more.size) :
    Calls Tryd.prog 4 #[.slice aa la ca, .slice ba lb cb, .int .u8 spoil, .string more] w fun e w' => e = .returned (.bool true) ∧ Below w.heap.size w w' := by
  have C := known_true a w hg ho
  clear hg ho
  by_cases h1 : 8 < la
  · have j1 : (8 : Int) < (la : Int) := by omega
    clear hout
    go_enter Tryd.func4, Tryd.ntmps4
    go_wp2_with (go_at_call 5; (with_reducible refine C.mono ?_); rintro e w1 ⟨rfl, hb⟩)
    go_ret
    exact ⟨rfl, hb⟩
  · have j1 : (la : Int) ≤ 8 := by omega
    by_cases h2 : 8 < lb
    · have j2 : (8 : Int) < (lb : Int) := by omega
      clear hout
      go_enter Tryd.func4, Tryd.ntmps4
      go_wp2_with (go_at_call 5; (with_reducible refine C.mono ?_); rintro e w1 ⟨rfl, hb⟩)
      go_ret
      exact ⟨rfl, hb⟩
    · have j2 : (lb : Int) ≤ 8 := by omega
      have j3 : (50 : Int) < (more.size : Int) := by omega
      clear hout
      go_enter Tryd.func4, Tryd.ntmps4
      go_wp2_with (go_at_call 5; (with_reducible refine C.mono ?_); rintro e w1 ⟨rfl, hb⟩)
      go_ret
      exact ⟨rfl, hb⟩

/-- What a loop holds when it has laid i frames. -/
structure AfterLaid (w : World) (ss : List ByteArray) (k : Nat) (bv iv : Value) (wr : World) (i : Nat) (b : ByteArray) : Prop where
  p1 : bv = .string b
  p2 : iv = .int .i64 i
  p3 : i + k = ss.length
  p4 : b = framesOf (ss.take i)
  p5 : b.size ≤ 75 * i
  p6 : ∀ j x, j < i → ss[j]? = some x → x.size ≤ 60
  p7 : Below w.heap.size w wr

set_option maxRecDepth 100000 in
set_option maxHeartbeats 8000000 in
theorem after_in (aa ba : Option Addr) (la ca lb cb spoil : Nat) (more : ByteArray) (us vs : List ByteArray) (a : Addr) (w : World) (hg : Handle w) (ho : OnErr w a) (hla : la ≤ 8) (hlb : lb ≤ 8) (hm : more.size ≤ 50) (hc : spoil ≤ 255) (hal : us.length = la) (hbl : vs.length = lb)
    (has : ∀ (j : Nat) (x : ByteArray), us[j]? = some x → ∃ sb so, aa = some ⟨sb, so, none⟩ ∧ w.cell? ⟨sb, so + j, none⟩ = some (.string x))
    (hbs : ∀ (j : Nat) (x : ByteArray), vs[j]? = some x → ∃ sb so, ba = some ⟨sb, so, none⟩ ∧ w.cell? ⟨sb, so + j, none⟩ = some (.string x)) :
    Calls Tryd.prog 4 #[.slice aa la ca, .slice ba lb cb, .int .u8 spoil, .string more] w fun e w' => e = .returned (.bool true) ∧ Below w.heap.size w w' := by
  have C := known_true a w hg ho
  have HG := Lib.hid hg
  have HO := Lib.hid ho
  have HAS := Lib.hid has
  have HBS := Lib.hid hbs
  have HAL := Lib.hid hal
  have HBL := Lib.hid hbl
  clear hg ho has hbs hal hbl
  have j1 : (la : Int) ≤ 8 := by omega
  have j2 : (lb : Int) ≤ 8 := by omega
  have j3 : (more.size : Int) ≤ 50 := by omega
  clear hm
  go_enter Tryd.func4, Tryd.ntmps4
  go_wp2_with fail
  go_at_call 5
  ((with_reducible refine C.mono ?_); rintro e w1 ⟨rfl, hb⟩)
  have H1 := Lib.hid hb; clear hb C
  go_wp2_with fail
  go_loopg [9, 11] la (fun k bv iv wr => ∃ i b, AfterLaid w us k bv iv wr i b)
  case atStart => exact ⟨0, ByteArray.empty, rfl, rfl, by rw [Nat.zero_add, HAL.out], rfl, by simp, fun _ _ h => absurd h (Nat.not_lt_zero _), H1.out⟩
  case round =>
    clear H1
    obtain ⟨i, b, rfl, rfl, h3, h4, h5, h6, h7⟩ := hrel
    have H3 := Lib.hid h3
    have H4 := Lib.hid h4
    have H6 := Lib.hid h6
    have H7 := Lib.hid h7
    have hin : i ≤ la := by have := HAL.out; omega
    clear h3 h4 h6 h7
    by_cases hlt : i < la
    · have i5 : (i : Int) < (la : Int) := by omega
      obtain ⟨t, hti⟩ : ∃ t, us[i]? = some t := ⟨_, List.getElem?_eq_getElem (by rw [HAL.out]; exact hlt)⟩
      have HTI := Lib.hid hti
      clear hti
      obtain ⟨sb, so, hsa, hct⟩ := HAS.out i t HTI.out
      subst hsa
      have hsb : sb < w.heap.size := lt_of_cell hct
      have ct : wr.cell? ⟨sb, so + i, none⟩ = some (.string t) := by rw [H7.out.cell hsb]; exact hct
      clear hct
      by_cases h60 : 60 < t.size
      · have j4 : (60 : Int) < (t.size : Int) := by omega
        go_wp2
        go_ret
        exact ⟨rfl, H7.out⟩
      · have j4 : (t.size : Int) ≤ 60 := by omega
        have CT := wrapF_any t wr (by omega)
        have hTs := framed_le t
        obtain ⟨T, hT⟩ : ∃ T, framed t = T := ⟨_, rfl⟩
        rw [hT] at CT hTs
        have HT := Lib.hid hT
        clear hT
        have x2 : ¬ 9223372036854775807 < b.size + T.size := by omega
        go_wp2_with fail
        go_at_call 6
        ((with_reducible refine CT.mono ?_); rintro e w3 ⟨rfl, hb⟩)
        have H3' := Lib.hid (H7.out.trans (hb.mono H7.out.size))
        clear hb CT ct
        go_wp2
        have eS : b ++ T = framesOf (us.take (i + 1)) := by rw [framesOf_snoc HTI.out, ← H4.out, HT.out]
        go_roundg (la - (i + 1))
        case measure => have := H3.out; have := HAL.out; omega
        case rel =>
          refine ⟨i + 1, b ++ T, rfl, by go_num, ?_, eS, ?_, ?_, H3'.out⟩
          · have := HAL.out; omega
          · simp only [ByteArray.size_append]; omega
          · intro j y hj hy
            rcases Nat.lt_or_ge j i with h | h
            · exact H6.out j y h hy
            · obtain rfl : j = i := by omega
              rw [HTI.out] at hy
              obtain rfl := Option.some.inj hy
              omega
    · have i5 : ¬ (i : Int) < (la : Int) := by omega
      obtain rfl : la = i := by omega
      have e4 : b = framesOf us := by rw [H4.out, ← HAL.out, List.take_length]
      have A60 := Lib.hid (show ∀ t ∈ us, t.size ≤ 200000 from fun t ht => by
        obtain ⟨j, hj, rfl⟩ := List.getElem_of_mem ht
        have := H6.out j _ (by have := HAL.out; omega) (List.getElem?_eq_getElem hj)
        omega)
      have EA := Lib.hid e4
      have hbz : b.size ≤ 600 := by omega
      clear H4 H6 H3 e4
      go_wp2_with fail
      go_loopg [10, 12] lb (fun k bv iv wr => ∃ i b, AfterLaid w vs k bv iv wr i b)
      case atStart => exact ⟨0, ByteArray.empty, rfl, rfl, by rw [Nat.zero_add, HBL.out], rfl, by simp, fun _ _ h => absurd h (Nat.not_lt_zero _), H7.out⟩
      case round =>
        clear H7
        obtain ⟨i, d, rfl, rfl, h3, h4, h5, h6, h7⟩ := hrel
        have H3 := Lib.hid h3
        have H4 := Lib.hid h4
        have H6 := Lib.hid h6
        have H7 := Lib.hid h7
        have hin : i ≤ lb := by have := HBL.out; omega
        clear h3 h4 h6 h7
        by_cases hlt : i < lb
        · have i6 : (i : Int) < (lb : Int) := by omega
          obtain ⟨t, hti⟩ : ∃ t, vs[i]? = some t := ⟨_, List.getElem?_eq_getElem (by rw [HBL.out]; exact hlt)⟩
          have HTI := Lib.hid hti
          clear hti
          obtain ⟨sb, so, hsa, hct⟩ := HBS.out i t HTI.out
          subst hsa
          have hsb : sb < w.heap.size := lt_of_cell hct
          have ct : wr.cell? ⟨sb, so + i, none⟩ = some (.string t) := by rw [H7.out.cell hsb]; exact hct
          clear hct
          by_cases h60 : 60 < t.size
          · have j4 : (60 : Int) < (t.size : Int) := by omega
            go_wp2
            go_ret
            exact ⟨rfl, H7.out⟩
          · have j4 : (t.size : Int) ≤ 60 := by omega
            have CT := wrapF_any t wr (by omega)
            have hTs := framed_le t
            obtain ⟨T, hT⟩ : ∃ T, framed t = T := ⟨_, rfl⟩
            rw [hT] at CT hTs
            have HT := Lib.hid hT
            clear hT
            have x2 : ¬ 9223372036854775807 < d.size + T.size := by omega
            go_wp2_with fail
            go_at_call 6
            ((with_reducible refine CT.mono ?_); rintro e w3 ⟨rfl, hb⟩)
            have H3' := Lib.hid (H7.out.trans (hb.mono H7.out.size))
            clear hb CT ct
            go_wp2
            have eS : d ++ T = framesOf (vs.take (i + 1)) := by rw [framesOf_snoc HTI.out, ← H4.out, HT.out]
            go_roundg (lb - (i + 1))
            case measure => have := H3.out; have := HBL.out; omega
            case rel =>
              refine ⟨i + 1, d ++ T, rfl, by go_num, ?_, eS, ?_, ?_, H3'.out⟩
              · have := HBL.out; omega
              · simp only [ByteArray.size_append]; omega
              · intro j y hj hy
                rcases Nat.lt_or_ge j i with h | h
                · exact H6.out j y h hy
                · obtain rfl : j = i := by omega
                  rw [HTI.out] at hy
                  obtain rfl := Option.some.inj hy
                  omega
        · have i6 : ¬ (i : Int) < (lb : Int) := by omega
          obtain rfl : lb = i := by omega
          have e4 : d = framesOf vs := by rw [H4.out, ← HBL.out, List.take_length]
          have B60 := Lib.hid (show ∀ t ∈ vs, t.size ≤ 200000 from fun t ht => by
            obtain ⟨j, hj, rfl⟩ := List.getElem_of_mem ht
            have := H6.out j _ (by have := HBL.out; omega) (List.getElem?_eq_getElem hj)
            omega)
          have EB := Lib.hid e4
          have hdz : d.size ≤ 600 := by omega
          clear H4 H6 H3 e4
          go_wp2_with fail
          go_at_call 6
          ((with_reducible refine (wrap_of framed_middle (by decide +kernel) _).mono ?_); rintro e w3 ⟨rfl, hb⟩)
          have HB3 := Lib.hid (H7.out.trans (hb.mono H7.out.size))
          clear hb
          obtain ⟨cap, w4, hcv, hb, hby⟩ := conv_bytes ⟨#[116, 69, 21, 115, 6, 109, 105, 100, 100, 108, 101]⟩ w3
          rw [show (⟨#[116, 69, 21, 115, 6, 109, 105, 100, 100, 108, 101]⟩ : ByteArray).size = 11 from rfl] at hcv
          have HB4 := Lib.hid (HB3.out.trans (hb.mono HB3.out.size))
          have HBY := Lib.hid hby
          have hge : w.heap.size ≤ w3.heap.size := HB3.out.size
          generalize w3.heap.size = g at hcv HBY hge
          clear hb hby
          by_cases hs0 : spoil = 0
          · subst hs0
            go_wp2
            go_ret
            exact ⟨rfl, HB4.out⟩
          · have i7 : ¬ (spoil : Int) = 0 := by omega
            obtain ⟨hcb, hfb⟩ := HBY.out _ _ (midL_at spoil)
            have hst := xor_byte (midL.getD (5 + spoil % 6) 0) spoil (by omega)
            have hbt := HBY.out.set (5 + spoil % 6) (midL.getD (5 + spoil % 6) 0 ^^^ UInt8.ofNat spoil) _ hst
            have hcv2 := BytesAt.conv (cap := cap) (l := turnL spoil) hbt
            rw [turnL_length] at hcv2
            have hfr := turn_frames us d spoil (by omega) hs0 A60.out
            have hfr2 := frames_whole (us ++ vs) (fun t ht => (List.mem_append.1 ht).elim (A60.out t) (B60.out t))
            rw [framesOf_append] at hfr2
            rw [← EA.out] at hfr hfr2
            rw [← EB.out] at hfr2
            have hq : (⟨(turnL spoil).toArray⟩ : ByteArray) = turnB spoil := rfl
            rw [hq] at hcv2
            have hqz := turnB_size spoil
            generalize turnB spoil = Q at hcv2 hfr hqz hq
            have HFR := Lib.hid hfr
            have HFR2 := Lib.hid hfr2
            have x1 : ¬ 9223372036854775807 < b.size + Q.size := by omega
            have x2 : ¬ 9223372036854775807 < b.size + Q.size + d.size := by omega
            have x3 : ¬ 9223372036854775807 < b.size + d.size := by omega
            have HB5 := Lib.hid (HB4.out.setCell (p := ⟨g, 5 + spoil % 6, none⟩) hge (.int .u8 (bits .xor .u8 ((midL.getD (5 + spoil % 6) 0).toNat : Int) (spoil : Int))))
            unfold byteV at hcb
            clear hst hbt hfr hfr2 hq
            generalize midL.getD (5 + spoil % 6) 0 = B at hcb hcv2 HB5
            go_wp2_with fail
            generalize w4.setCell ⟨g, 5 + spoil % 6, none⟩ (.int .u8 (bits .xor .u8 (B.toNat : Int) (spoil : Int))) = w5 at hcv2 HB5 ⊢
            clear hcb hfb hcv2
            have C1 := all_any (b ++ Q ++ d) us b.size a w5 HFR.out (by have := HAL.out; omega) (by simp only [ByteArray.size_append]; omega) (HG.out.later HB5.out) (HO.out.later HB5.out)
            go_at_call 7
            ((with_reducible refine C1.mono ?_); rintro e w6 ⟨sv1, rfl, ht, hb⟩)
            have HB6 := Lib.hid (HB5.out.trans (hb.mono HB5.out.size))
            have HT1 := Lib.hid ht
            clear hb ht C1
            have C2 := all_any (b ++ d) (us ++ vs) (b ++ d).size a w6 HFR2.out (by have := HAL.out; have := HBL.out; rw [List.length_append]; omega) (by simp only [ByteArray.size_append]; omega) (HG.out.later HB6.out) (HO.out.later HB6.out)
            rw [ByteArray.size_append] at C2
            go_wp2_with fail
            go_at_call 7
            ((with_reducible refine C2.mono ?_); rintro e w7 ⟨sv2, rfl, ⟨p2, c2, hsv2, _⟩, hb⟩)
            rw [List.length_append, HAL.out, HBL.out] at hsv2
            subst hsv2
            have HB7 := Lib.hid (HB6.out.trans (hb.mono HB6.out.size))
            have HT7 := Lib.hid (HT1.out.later hb)
            clear hb C2
            have hT : Texts w7 (.slice aa la ca) us := by
              have := HAL.out
              subst this
              exact Texts.later ⟨aa, ca, rfl, HAS.out⟩ HB7.out
            have C3 := sameTexts_true sv1 (.slice aa la ca) us w7 (by have := HAL.out; omega) HT7.out hT
            clear hT
            go_wp2_with fail
            go_at_call 8
            ((with_reducible refine C3.mono ?_); rintro e w8 ⟨rfl, hb⟩)
            have HB8 := Lib.hid (HB7.out.trans (hb.mono HB7.out.size))
            clear hb C3
            go_wp2
            go_ret
            exact ⟨rfl, HB8.out⟩
end Go.Proofs.YtadoonimokpnoaaDoor
