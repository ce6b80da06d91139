/-
  JournalTorn, walked.
-/
import Derived.Test.YtckbgggocmbbdaaDoorTornMath
namespace Go.Proofs.YtckbgggocmbbdaaDoor
open Go.RowKit Go.Extern.Stop Go.Stop Go.Extern

set_option maxRecDepth 100000 in
set_option maxHeartbeats 4000000 in
theorem torn_out (sa : Option Addr) (la ca : Nat) (sb : Option Addr) (lb cb : Nat) (keep : Int) (next : ByteArray) (a : Addr) (w : World) (hg : Handle w) (ho : OnErr w a) (hout : 8 < la ∨ 8 < lb ∨ 100 < next.size) :
    Calls Tryd.prog 4 #[.slice sa la ca, .slice sb lb cb, .int .u16 keep, .string next] w fun e w' => e = .returned (.bool true) ∧ Below w.heap.size w w' := by
  have C := known_true a w hg ho
  clear hg ho
  by_cases h1 : 8 < la
  · have j1 : (8 : Int) < (la : Int) := by omega
    clear hout
    go_enter Tryd.func4, Tryd.ntmps4
    go_wp2_with (go_at_call 7; (with_reducible refine C.mono ?_); rintro e w1 ⟨rfl, hb⟩)
    go_ret
    exact ⟨rfl, hb⟩
  · have j1 : ¬ (8 : Int) < (la : Int) := by omega
    by_cases h2 : 8 < lb
    · have j2 : (8 : Int) < (lb : Int) := by omega
      clear hout
      go_enter Tryd.func4, Tryd.ntmps4
      go_wp2_with (go_at_call 7; (with_reducible refine C.mono ?_); rintro e w1 ⟨rfl, hb⟩)
      go_ret
      exact ⟨rfl, hb⟩
    · have j2 : ¬ (8 : Int) < (lb : Int) := by omega
      have j3 : (100 : Int) < (next.size : Int) := by omega
      clear hout
      go_enter Tryd.func4, Tryd.ntmps4
      go_wp2_with (go_at_call 7; (with_reducible refine C.mono ?_); rintro e w1 ⟨rfl, hb⟩)
      go_ret
      exact ⟨rfl, hb⟩

/-- What the loop holds when i records were added, those of A synced. -/
structure TornAt (A B : List ByteArray) (base d j K : Nat) (w : World) (av : Value) (k : Nat) (sv nv iv : Value) (wr : World) (i L S N t : Nat) : Prop where
  p1 : sv = .int .i64 S
  p2 : nv = .int .i64 N
  p3 : iv = .int .i64 i
  p4 : i + k = A.length + B.length
  p5 : OwnTexts base wr av (A ++ B)
  p6 : DiskIs base d wr (framesOf ((A ++ B).take i)) L
  p7 : JournalAt j d wr
  p8 : Below base w wr
  p9 : (framesOf ((A ++ B).take i)).size ≤ 115 * i
  q1 : N = A.length + t
  q2 : S = endsAt B (i - A.length)
  q3 : t ≤ i - A.length
  q4 : endsAt B t ≤ K
  q5 : t < i - A.length → K < endsAt B (t + 1)
  q6 : A.length < i → L = S

theorem endsAt_next {B : List ByteArray} {i l : Nat} {x : ByteArray} (h : l ≤ i) (hx : B[i - l]? = some x) : endsAt B (i + 1 - l) = endsAt B (i - l) + (framed x).size := by
  have e : i + 1 - l = i - l + 1 := by omega
  rw [e]; exact endsAt_succ hx

set_option maxRecDepth 100000 in
set_option maxHeartbeats 32000000 in
theorem torn_in (sa : Option Addr) (ca : Nat) (sb : Option Addr) (cb : Nat) (A B : List ByteArray) (keep : Nat) (next : ByteArray) (a : Addr) (w : World) (hg : Handle w) (ho : OnErr w a) (hk : keep ≤ 65535) (hla : A.length ≤ 8) (hlb : B.length ≤ 8) (hn : next.size ≤ 100)
    (ht : Texts w (.slice sa A.length ca) A) (hu : Texts w (.slice sb B.length cb) B) :
    Calls Tryd.prog 4 #[.slice sa A.length ca, .slice sb B.length cb, .int .u16 (keep : Int), .string next] w fun e w' => e = .returned (.bool true) ∧ Below w.heap.size w w' := by
  have C := known_true a w hg ho
  have HG := Lib.hid hg
  have HO := Lib.hid ho
  have HT := Lib.hid ht
  have HU := Lib.hid hu
  obtain ⟨l, hsl⟩ : ∃ l, l = A.length := ⟨_, rfl⟩
  rw [← hsl] at hla
  have HLA := Lib.hid hsl
  obtain ⟨m, hsm⟩ : ∃ m, m = B.length := ⟨_, rfl⟩
  rw [← hsm] at hlb
  have HLB := Lib.hid hsm
  obtain ⟨K, hK⟩ : ∃ K, keep % 1000 = K := ⟨_, rfl⟩
  have hK9 : K ≤ 999 := by omega
  have hK2 : (keep : Int) % 1000 = (K : Int) := by omega
  clear hg ho ht hu
  rw [← hsl, ← hsm]
  clear hsl hsm
  have j1 : ¬ (8 : Int) < (l : Int) := by omega
  have j2 : ¬ (8 : Int) < (m : Int) := by omega
  have j3 : ¬ (100 : Int) < (next.size : Int) := by omega
  go_enter Tryd.func4, Tryd.ntmps4
  go_wp2_with fail
  go_at_call 7
  ((with_reducible refine C.mono ?_); rintro e w1 ⟨rfl, hb⟩)
  have H1 := Lib.hid hb; clear hb C
  go_wp2_with fail
  go_at_call 8
  refine (diskNew_any _).mono ?_
  rintro e w2 ⟨rfl, rfl⟩
  have hD := newRecs w.heap.size w1 H1.out.size
  have hK : Keeps w.heap.size w1.heap.size w (w1.alloc (.cells #[.slice none 0 0, .int .i64 0] 48)) := Keeps.of_below (H1.out.alloc H1.out.size _) (Nat.le_refl _)
  have HD := Lib.hid hD
  have HK := Lib.hid hK
  clear hD hK H1
  generalize w1.alloc (.cells #[.slice none 0 0, .int .i64 0] 48) = w2 at HD HK
  generalize w1.heap.size = d at HD HK
  go_wp2_with fail
  go_at_call 9
  refine (open_whole HD.out (HG.out.later HK.out.below) (HO.out.later HK.out.below) HK.out.size).mono ?_
  rintro e w3 ⟨j, sv, rfl, hj, hr, hD, hb⟩
  have hB3 : Below w.heap.size w w3 := HK.out.below.trans (hb.mono HK.out.size)
  obtain ⟨v1, w4, hap1, ho1, hg1⟩ := run_append_texts w3 w.heap.size (.slice none 0 0) (.slice sa A.length ca) [] A (OwnTexts.nil _ _) (HT.out.later hB3) (by simp; have := HLA.out; omega) hB3.size
  rw [List.nil_append] at ho1
  have hB4 : Below w.heap.size w w4 := hB3.grown hg1 hB3.size (fun q hq => by simp [Value.ownBlock] at hq)
  have hD4 := hD.grown (OwnTexts.nil w.heap.size w3) hg1
  have hj4 := hj.grown (OwnTexts.nil w.heap.size w3) hg1
  obtain ⟨v2, w5, hap2, ho2, hg2⟩ := run_append_texts w4 w.heap.size v1 (.slice sb B.length cb) A B ho1 (HU.out.later hB4) (by have := HLA.out; have := HLB.out; omega) hB4.size
  have hB5 : Below w.heap.size w w5 := hB4.grown hg2 hB4.size (fun q hq => (World.ownsRow.lt ho1 q hq).1)
  have hD5 := hD4.grown ho1 hg2
  have hj5 := hj4.grown ho1 hg2
  obtain ⟨p, cc, hsh⟩ := ho2.shape
  subst hsh
  rw [← HLA.out] at hap1
  rw [← HLB.out] at hap2
  obtain ⟨T, hT⟩ : ∃ T, (A ++ B).length = T := ⟨_, rfl⟩
  rw [hT] at hap2 ho2
  have hT2 : T = l + m := by rw [← hT, List.length_append, HLA.out, HLB.out]
  have HTT := Lib.hid hT
  have HAP1 := Lib.hid hap1
  have HAP2 := Lib.hid hap2
  have HB5 := Lib.hid hB5
  have HO5 := Lib.hid ho2
  have HD5 := Lib.hid hD5
  have HJ5 := Lib.hid hj5
  clear hj hr hD hb HD HK hB3 hap1 ho1 hg1 hB4 hD4 hj4 hap2 ho2 hg2 hB5 hD5 hj5 hT
  have t0 : ¬ (T : Int) < 0 := by omega
  have HT2 := Lib.hid hT2
  have hT16 : T ≤ 16 := by omega
  clear hT2
  go_wp2_with (first
    | (at_builtin; refine wpList_append_run rfl (.const (.slice none 0 0)) (.tmp 51) 27 27 rfl _ _ rfl rfl HAP1.out ?_)
    | (at_builtin; refine wpList_append_run rfl (.tmp 52) (.tmp 53) 27 27 rfl _ _ rfl rfl HAP2.out ?_))
  clear HAP1 HAP2
  go_loopg [14, 15, 16] T (fun k sv nv iv wr => ∃ i L S N t, TornAt A B w.heap.size d j K w (.slice p T cc) k sv nv iv wr i L S N t)
  case atStart =>
    refine ⟨0, 0, 0, l, 0, rfl, rfl, rfl, ?_, HO5.out, HD5.out, HJ5.out, HB5.out, by simp [framesOf], by rw [HLA.out]; rfl, by simp [endsAt, framesOf], Nat.zero_le _, by simp [endsAt, framesOf], fun h => by omega, fun h => by omega⟩
    rw [Nat.zero_add, ← HLA.out, ← HLB.out]; exact HT2.out
  case round =>
    clear HO5 HD5 HJ5 HB5
    obtain ⟨i, L, S, N, t, rfl, rfl, rfl, h4, h5, h6, h7, h8, h9, g1, g2, g3, g4, g5, g6⟩ := hrel
    rw [← HLA.out, ← HLB.out] at h4
    rw [← HLA.out] at g1 g2 g3 g5 g6
    have H4 := Lib.hid h4
    have H5 := Lib.hid h5
    have H6 := Lib.hid h6
    have H7 := Lib.hid h7
    have H8 := Lib.hid h8
    have G1 := Lib.hid g1
    have G2 := Lib.hid g2
    have G3 := Lib.hid g3
    have G4 := Lib.hid g4
    have G5 := Lib.hid g5
    have G6 := Lib.hid g6
    have hin : i ≤ T := by have := HT2.out; omega
    have hS : S ≤ 2000 := by
      have e1 : endsAt B (i - l) ≤ (framesOf ((A ++ B).take i)).size ∨ i ≤ l := by
        rcases Nat.le_total i l with h | h
        · exact .inr h
        · left
          have e2 : (A ++ B).take i = A ++ B.take (i - l) := by
            have := take_both A B (i - l)
            rw [← HLA.out, show l + (i - l) = i by omega] at this
            exact this
          rw [e2, framesOf_append, ByteArray.size_append]
          show (framesOf (B.take (i - l))).size ≤ _
          omega
      rcases e1 with h | h
      · omega
      · have e3 : i - l = 0 := by omega
        rw [g2, e3, endsAt_zero]; omega
    clear h4 h5 h6 h7 h8 g1 g2 g3 g4 g5 g6
    by_cases hlt : i < T
    · have i5 : (i : Int) < (T : Int) := by omega
      obtain ⟨x, hx⟩ : ∃ x, (A ++ B)[i]? = some x := ⟨_, List.getElem?_eq_getElem (by rw [HTT.out]; exact hlt)⟩
      obtain ⟨p', c', e, hts⟩ := H5.out.texts
      injection e with e1 e2 e3
      subst e1
      obtain ⟨gb, go, hp, ct⟩ := hts i x hx
      subst hp
      have HX := Lib.hid hx
      clear hx hts e2 e3
      by_cases h100 : 100 < x.size
      · have j4 : (100 : Int) < (x.size : Int) := by omega
        go_wp2
        go_ret
        exact ⟨rfl, H8.out⟩
      · have j4 : ¬ (100 : Int) < (x.size : Int) := by omega
        have hfl := framed_le x
        rcases Nat.lt_trichotomy i l with hil | hil | hil
        · -- one of A
          have k1 : ((i : Int) == (l : Int)) = false := by simp; omega
          have k2 : ¬ (l : Int) ≤ (i : Int) := by omega
          go_wp2_with fail
          go_at_call 10
          refine (add_ok H6.out H7.out H8.out.size (by omega)).mono ?_
          rintro e w6 ⟨rfl, hD, hK, hj⟩
          rw [← framesOf_snoc HX.out] at hD
          have HR := Lib.hid (H5.out.beside H6.out hK)
          have HD := Lib.hid hD
          have HB := Lib.hid (H8.out.trans hK.below)
          have HJ := Lib.hid hj
          clear hD hK hj ct
          go_wp2
          go_roundg (gk - 1)
          case measure => have := H4.out; have := HT2.out; omega
          case rel =>
            refine ⟨i + 1, _, S, N, t, rfl, rfl, by go_num, ?_, HR.out, HD.out, HJ.out, HB.out, ?_, by rw [← HLA.out]; exact G1.out, ?_, ?_, G4.out, ?_, ?_⟩
            · rw [← HLA.out, ← HLB.out]; have := H4.out; have := HT2.out; omega
            · rw [framesOf_snoc HX.out, ByteArray.size_append]; omega
            · rw [← HLA.out, G2.out]; congr 1; omega
            · rw [← HLA.out]; have := G3.out; omega
            · rw [← HLA.out]; intro h; omega
            · rw [← HLA.out]; intro h; omega
        · -- the first one of B
          subst hil
          have k1 : ((i : Int) == (i : Int)) = true := by simp
          have hxB : B[i - i]? = some x := by
            have h := at_second (A := A) (B := B) (i := i) (by rw [← HLA.out]; omega) HX.out
            rw [← HLA.out] at h; exact h
          have hb2 := endsAt_next (l := i) (by omega) hxB
          have HN := Lib.hid hb2
          have W0 := fun W => refWrap_any x W (by omega)
          obtain ⟨F, hF⟩ : ∃ F, framed x = F := ⟨_, rfl⟩
          rw [hF] at W0 hfl
          have HF := Lib.hid hF
          clear hb2 hF hxB
          go_wp2_with fail
          go_at_call 11
          refine (jsync_any H6.out H7.out).mono ?_
          rintro e w6 ⟨rfl, hD, hK, hj⟩
          have HR0 := Lib.hid (H5.out.beside H6.out hK)
          have HD0 := Lib.hid hD
          have HB0 := Lib.hid (H8.out.trans hK.below)
          have HJ0 := Lib.hid hj
          obtain ⟨p', c', e, hts⟩ := HR0.out.texts
          injection e with e1 e2 e3
          subst e1
          obtain ⟨gb', go', hp, ct'⟩ := hts i x HX.out
          injection hp with hp
          injection hp with hp1 hp2
          subst hp1 hp2
          clear hD hK hj hts e2 e3 ct
          go_wp2_with fail
          go_at_call 10
          refine (add_ok HD0.out HJ0.out HB0.out.size (by rw [HF.out]; omega)).mono ?_
          rintro e w7 ⟨rfl, hD, hK, hj⟩
          rw [← framesOf_snoc HX.out, HF.out] at hD
          have HR := Lib.hid (HR0.out.beside HD0.out hK)
          have HD := Lib.hid hD
          have HB := Lib.hid (HB0.out.trans hK.below)
          have HJ := Lib.hid hj
          obtain ⟨p', c', e, hts⟩ := HR.out.texts
          injection e with e1 e2 e3
          subst e1
          obtain ⟨gb', go', hp, ct⟩ := hts i x HX.out
          injection hp with hp
          injection hp with hp1 hp2
          subst hp1 hp2
          clear hD hK hj hts e2 e3 ct' HR0 HD0 HB0 HJ0
          go_wp2_with fail
          go_at_call 15
          ((with_reducible refine (W0 _).mono ?_); rintro e w8 ⟨rfl, hb⟩)
          have HR8 := Lib.hid (HR.out.later hb)
          have HD8 := Lib.hid (HD.out.later hb)
          have HB8 := Lib.hid (HB.out.trans (hb.mono HB.out.size))
          have HJ8 := Lib.hid (HJ.out.later hb)
          clear hb HR HD HB HJ W0 ct
          by_cases hSK : S + F.size ≤ K
          · have k3 : (S : Int) + (F.size : Int) ≤ (K : Int) := by omega
            go_wp2
            go_roundg (gk - 1)
            case measure => have := H4.out; have := HT2.out; omega
            case rel =>
              refine ⟨i + 1, _, S + F.size, i + 1, i + 1 - i, by go_num, by go_num, by go_num, ?_, HR8.out, HD8.out, HJ8.out, HB8.out, ?_, ?_, ?_, ?_, ?_, ?_, ?_⟩
              · rw [← HLA.out, ← HLB.out]; have := H4.out; have := HT2.out; omega
              · rw [framesOf_snoc HX.out, ByteArray.size_append, HF.out]; omega
              · rw [← HLA.out]; omega
              · rw [← HLA.out, HN.out, ← G2.out, HF.out]
              · rw [← HLA.out]; omega
              · rw [HN.out, ← G2.out, HF.out]; exact hSK
              · rw [← HLA.out]; intro h; omega
              · intro _
                have e0 : i - i = 0 := by omega
                have := G2.out
                rw [e0, endsAt_zero] at this
                omega
          · have k3 : ¬ (S : Int) + (F.size : Int) ≤ (K : Int) := by omega
            go_wp2
            go_roundg (gk - 1)
            case measure => have := H4.out; have := HT2.out; omega
            case rel =>
              refine ⟨i + 1, _, S + F.size, N, t, by go_num, rfl, by go_num, ?_, HR8.out, HD8.out, HJ8.out, HB8.out, ?_, by rw [← HLA.out]; exact G1.out, ?_, ?_, G4.out, ?_, ?_⟩
              · rw [← HLA.out, ← HLB.out]; have := H4.out; have := HT2.out; omega
              · rw [framesOf_snoc HX.out, ByteArray.size_append, HF.out]; omega
              · rw [← HLA.out, HN.out, ← G2.out, HF.out]
              · rw [← HLA.out]; have := G3.out; omega
              · intro _
                have e1 : t + 1 = i + 1 - i := by have := G3.out; omega
                rw [e1, HN.out, ← G2.out, HF.out]; omega
              · intro _
                have e0 : i - i = 0 := by omega
                have := G2.out
                rw [e0, endsAt_zero] at this
                omega
        · -- one of B, behind the first one
          have k1 : ((i : Int) == (l : Int)) = false := by simp; omega
          have k2 : (l : Int) ≤ (i : Int) := by omega
          have hxB : B[i - l]? = some x := by
            have h := at_second (A := A) (B := B) (i := i) (by rw [← HLA.out]; omega) HX.out
            rw [← HLA.out] at h; exact h
          have hb2 := endsAt_next (l := l) (by omega) hxB
          have HN := Lib.hid hb2
          have W0 := fun W => refWrap_any x W (by omega)
          obtain ⟨F, hF⟩ : ∃ F, framed x = F := ⟨_, rfl⟩
          rw [hF] at W0 hfl
          have HF := Lib.hid hF
          clear hb2 hF hxB
          go_wp2_with fail
          go_at_call 10
          refine (add_ok H6.out H7.out H8.out.size (by rw [HF.out]; omega)).mono ?_
          rintro e w7 ⟨rfl, hD, hK, hj⟩
          rw [← framesOf_snoc HX.out, HF.out] at hD
          have HR := Lib.hid (H5.out.beside H6.out hK)
          have HD := Lib.hid hD
          have HB := Lib.hid (H8.out.trans hK.below)
          have HJ := Lib.hid hj
          obtain ⟨p', c', e, hts⟩ := HR.out.texts
          injection e with e1 e2 e3
          subst e1
          obtain ⟨gb', go', hp, ct'⟩ := hts i x HX.out
          injection hp with hp
          injection hp with hp1 hp2
          subst hp1 hp2
          clear hD hK hj hts e2 e3 ct
          go_wp2_with fail
          go_at_call 15
          ((with_reducible refine (W0 _).mono ?_); rintro e w8 ⟨rfl, hb⟩)
          have HR8 := Lib.hid (HR.out.later hb)
          have HD8 := Lib.hid (HD.out.later hb)
          have HB8 := Lib.hid (HB.out.trans (hb.mono HB.out.size))
          have HJ8 := Lib.hid (HJ.out.later hb)
          clear hb HR HD HB HJ W0 ct'
          by_cases hSK : S + F.size ≤ K
          · have k3 : (S : Int) + (F.size : Int) ≤ (K : Int) := by omega
            go_wp2
            go_roundg (gk - 1)
            case measure => have := H4.out; have := HT2.out; omega
            case rel =>
              refine ⟨i + 1, _, S + F.size, i + 1, i + 1 - l, by go_num, by go_num, by go_num, ?_, HR8.out, HD8.out, HJ8.out, HB8.out, ?_, ?_, ?_, ?_, ?_, ?_, ?_⟩
              · rw [← HLA.out, ← HLB.out]; have := H4.out; have := HT2.out; omega
              · rw [framesOf_snoc HX.out, ByteArray.size_append, HF.out]; omega
              · rw [← HLA.out]; omega
              · rw [← HLA.out, HN.out, ← G2.out, HF.out]
              · rw [← HLA.out]; omega
              · rw [HN.out, ← G2.out, HF.out]; exact hSK
              · rw [← HLA.out]; intro h; omega
              · intro _
                rw [G6.out hil]
          · have k3 : ¬ (S : Int) + (F.size : Int) ≤ (K : Int) := by omega
            go_wp2
            go_roundg (gk - 1)
            case measure => have := H4.out; have := HT2.out; omega
            case rel =>
              refine ⟨i + 1, _, S + F.size, N, t, by go_num, rfl, by go_num, ?_, HR8.out, HD8.out, HJ8.out, HB8.out, ?_, by rw [← HLA.out]; exact G1.out, ?_, ?_, G4.out, ?_, ?_⟩
              · rw [← HLA.out, ← HLB.out]; have := H4.out; have := HT2.out; omega
              · rw [framesOf_snoc HX.out, ByteArray.size_append, HF.out]; omega
              · rw [← HLA.out, HN.out, ← G2.out, HF.out]
              · rw [← HLA.out]; have := G3.out; omega
              · rw [← HLA.out]
                intro h
                rcases Nat.lt_or_ge t (i - l) with h1 | h1
                · exact G5.out h1
                · have e1 : t + 1 = i + 1 - l := by have := G3.out; omega
                  rw [e1, HN.out, ← G2.out, HF.out]; omega
              · intro _
                rw [G6.out hil]
    · obtain rfl : i = T := by omega
      have hT2 := HT2.out
      have hD1 : DiskIs w.heap.size d wr (framesOf (A ++ B)) L := by
        have := H6.out
        rw [← HTT.out, List.take_length] at this
        exact this
      have h7 : (framesOf (A ++ B)).size ≤ 115 * i := by
        have := h9
        rw [← HTT.out, List.take_length] at this
        rw [HTT.out] at this
        exact this
      have hmost := hD1.most
      have hBm : ∀ t ∈ B, t.size ≤ 200000 := (few_of (ts := B) (by rw [framesOf_append, ByteArray.size_append] at hmost; omega)).2
      have htm : t ≤ B.length := by rw [← HLB.out]; have := G3.out; omega
      have hSB : S = (framesOf B).size := by
        have e1 : i - l = B.length := by rw [← HLB.out]; omega
        rw [G2.out, e1, endsAt_all]
      obtain ⟨q, hq, hop⟩ := crash_math A B K t hBm htm G4.out (fun h => G5.out (by rw [← HLB.out] at h; omega))
      obtain ⟨P, hP⟩ : ∃ P, A ++ B.take t = P := ⟨_, rfl⟩
      rw [hP] at hq hop
      have hPt : (A ++ B).take N = P := by rw [G1.out, HLA.out, take_both, hP]
      have hPl : P.length = N := by rw [← hP, List.length_append, List.length_take, ← HLA.out, Nat.min_eq_left htm, G1.out]
      have hPs : (framesOf P).size ≤ 115 * i := by
        have := framesOf_take_le (A ++ B) N
        rw [hPt] at this
        omega
      have hNi : N ≤ i := by rw [G1.out]; have := G3.out; omega
      have hcc := H5.out.cap.2
      have hcut := fun W => cut_texts p i N cc (N : Int) rfl (by omega) W
      have hfn := framed_le next
      have hNs : N ≤ 16 := by omega
      have i5 : ¬ (i : Int) < (i : Int) := by omega
      have HQ := Lib.hid hq
      have HOP := Lib.hid hop
      have HPT := Lib.hid hPt
      have HPL := Lib.hid hPl
      have HPS := Lib.hid hPs
      have HSB := Lib.hid hSB
      have HD1 := Lib.hid hD1
      clear hq hop hP hPt hPl hPs hSB hD1 h7 h9 hmost hBm htm hcc HTT G3 G4 G5 G2 H6 H4
      clear hT2
      rcases Nat.eq_zero_or_pos m with hm | hm
      case' inl =>
        subst hm
        have B0 := Lib.hid (show B = [] from List.eq_nil_of_length_eq_zero HLB.out.symm)
        go_wp2_with fail
        go_at_call 11
        refine (jsync_any HD1.out H7.out).mono ?_
        rintro e wz ⟨rfl, hD, hK, hj⟩
        have HOz := Lib.hid (H5.out.beside HD1.out hK)
        have HDz := Lib.hid (show DiskIs w.heap.size d wz (framesOf (A ++ B)) (framesOf B).size by rw [B0.out] at hD ⊢; exact hD)
        have HBz := Lib.hid (H8.out.trans hK.below)
        clear hD hK hj B0
      case' inr =>
        have k1 : ((m : Int) == 0) = false := by simp; omega
        have hLS := G6.out (by have := HT2.out; omega)
        have HOz := H5
        have HDz := Lib.hid (show DiskIs w.heap.size d wr (framesOf (A ++ B)) (framesOf B).size by rw [← HSB.out, ← hLS]; exact HD1.out)
        have HBz := H8
        clear hLS
      all_goals
        clear H5 H7 H8 HD1 G6
        go_wp2_with fail
        go_at_call 18
        refine (crash_rec (K : Int) HDz.out HQ.out).mono ?_
        rintro e w6 ⟨rfl, hD, hK⟩
        have HO6 := Lib.hid (HOz.out.beside HDz.out hK)
        have HB6 := Lib.hid (HBz.out.trans hK.below)
        have HD6 := Lib.hid hD
        have op : Calls Tryd.prog 9 #[.pointer (some ⟨d, 0, none⟩)] w6 fun e w' => ∃ k sv, e = .returned (.tuple #[.pointer (some ⟨k, 0, none⟩), sv, .nilIface]) ∧ JournalAt k d w' ∧ OwnTexts w.heap.size w' sv P ∧ DiskIs w.heap.size d w' (framesOf P) 0 ∧ Keeps w.heap.size d w6 w' := by
          have hD := HD6.out
          have ho := HOP.out
          rcases Nat.eq_zero_or_pos q.size with h0 | h0
          · have ej : q = ByteArray.empty := ByteArray.ext (Array.eq_empty_of_size_eq_zero h0)
            rw [ej, ByteArray.append_empty] at hD
            refine (open_whole hD (HG.out.later HB6.out) (HO.out.later HB6.out) HB6.out.size).mono ?_
            rintro e w5 ⟨k, sv, rfl, hj, hr, hD, hb⟩
            exact ⟨k, sv, rfl, hj, hr, hD, Keeps.of_below hb HB6.out.size⟩
          · exact open_torn hD h0 ho (HG.out.later HB6.out) (HO.out.later HB6.out) HB6.out.size
        clear hD hK HDz HOz HBz HQ HOP
        go_wp2_with fail
        go_at_call 9
        refine op.mono ?_
        rintro e w7 ⟨kb, rv, rfl, hj, hr, hD, hK⟩
        have HO7 := Lib.hid (HO6.out.beside HD6.out hK)
        have HB7 := Lib.hid (HB6.out.trans hK.below)
        have HD7 := Lib.hid hD
        have HJ7 := Lib.hid hj
        have hT7 : Texts w7 (.slice p N cc) P := by
          have := (HO7.out.texts).take' N cc (by have := HO7.out.cap.1; omega)
          rw [HPT.out] at this
          exact this
        have D1 := sameTexts_true rv (.slice p N cc) P w7 (by rw [HPL.out]; omega) hr.texts hT7
        clear hj hr hD hK hT7 op HO6 HB6 HD6
        go_wp2_with fail
        go_at_call 14
        ((with_reducible refine D1.mono ?_); rintro e w8 ⟨rfl, hb⟩)
        have HO8 := Lib.hid (HO7.out.later hb)
        have HB8 := Lib.hid (HB7.out.trans (hb.mono HB7.out.size))
        have HD8 := Lib.hid (HD7.out.later hb)
        have HJ8 := Lib.hid (HJ7.out.later hb)
        clear hb D1 HO7 HB7 HD7 HJ7
        go_wp2_with fail
        go_at_call 10
        refine (add_rec HD8.out HJ8.out HB8.out.size (by have := HPS.out; omega)).mono ?_
        rintro e w9 ⟨rfl, hD, hK, hj⟩
        have HO9 := Lib.hid (HO8.out.beside HD8.out hK)
        have HB9 := Lib.hid (HB8.out.trans hK.below)
        have HD9 := Lib.hid hD
        have HJ9 := Lib.hid hj
        clear hD hK hj HO8 HB8 HD8 HJ8
        go_wp2_with fail
        go_at_call 11
        refine (jsync_any HD9.out HJ9.out).mono ?_
        rintro e w10 ⟨rfl, hD, hK, hj⟩
        have HO10 := Lib.hid (HO9.out.beside HD9.out hK)
        have HB10 := Lib.hid (HB9.out.trans hK.below)
        have HD10 := Lib.hid hD
        clear hD hK hj HO9 HB9 HD9 HJ9
        go_wp2_with fail
        go_at_call 9
        refine (open_whole HD10.out (HG.out.later HB10.out) (HO.out.later HB10.out) HB10.out.size).mono ?_
        rintro e wq ⟨kq, tv, rfl, _, hr, _, hb⟩
        have hO : Texts wq (.slice p N cc) P := by
          have := (HO10.out.texts).take' N cc (by have := HO10.out.cap.1; omega)
          rw [HPT.out] at this
          exact this.later hb
        have hBq : Below w.heap.size w wq := HB10.out.trans (hb.mono HB10.out.size)
        obtain ⟨v1, wa, hap1, ho1, hg1⟩ := run_append_texts wq wq.heap.size (.slice none 0 0) (.slice p N cc) [] P (OwnTexts.nil _ _) hO (by rw [HPL.out]; simp; omega) (Nat.le_refl _)
        rw [List.nil_append] at ho1
        have hba : Below wq.heap.size wq wa := (Below.refl _ _).grown hg1 (Nat.le_refl _) (fun q hq => by simp [Value.ownBlock] at hq)
        have hbb : Below wa.heap.size wa (wa.alloc (.cells #[.string next] 9)) := (Below.refl _ _).alloc (Nat.le_refl _) _
        have hTn : Texts (wa.alloc (.cells #[.string next] 9)) (.slice (some ⟨wa.heap.size, 0, none⟩) 1 1) [next] := by
          refine ⟨_, 1, rfl, fun j x hx => ⟨wa.heap.size, 0, rfl, ?_⟩⟩
          rcases j with _ | j
          · obtain rfl := Option.some.inj hx
            simp
          · simp at hx
        obtain ⟨v2, wc, hap2, ho2, hg2⟩ := run_append_texts _ wq.heap.size v1 _ P [next] (ho1.later hbb) hTn (by rw [HPL.out]; simp; omega) (by rw [World.size_alloc]; exact Nat.le_succ_of_le hba.size)
        have hbc : Below wq.heap.size wq wc := (hba.trans (hbb.mono hba.size)).grown hg2 (Nat.le_trans hba.size hbb.size) (fun q hq => (World.ownsRow.lt (ho1.later hbb) q hq).1)
        have D2 := sameTexts_true tv v2 (P ++ [next]) wc (by rw [List.length_append, HPL.out]; simp; omega) (hr.texts.later hbc) ho2.texts
        have HBC := Lib.hid (hBq.trans (hbc.mono hBq.size))
        have HAP1 := Lib.hid hap1
        have HAP2 := Lib.hid hap2
        clear hr hb hO hBq hap1 ho1 hg1 hba hbb hTn hap2 ho2 hg2 hbc HO10 HB10 HD10
        go_wp2_with (first
          | (at_builtin; refine wpList_append_want rfl (.const (.slice none 0 0)) (.tmp 151) 27 27 rfl _ _ rfl rfl HAP1.out ?_)
          | (at_builtin; refine wpList_append_want rfl (.tmp 152) (.tmp 154) 27 27 rfl _ _ rfl rfl HAP2.out ?_))
        go_at_call 14
        ((with_reducible refine D2.mono ?_); rintro e w11 ⟨rfl, hb⟩)
        go_wp2
        go_ret
        exact ⟨rfl, HBC.out.trans (hb.mono HBC.out.size)⟩
end Go.Proofs.YtckbgggocmbbdaaDoor
