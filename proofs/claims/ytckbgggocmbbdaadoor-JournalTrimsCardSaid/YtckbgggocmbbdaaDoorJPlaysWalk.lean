/-
  JournalPlays, walked.
-/
import Derived.Test.YtckbgggocmbbdaaDoorTornMath
namespace Go.Proofs.YtckbgggocmbbdaaDoor
open Go.RowKit Go.Extern.Stop Go.Stop Go.Extern

set_option maxRecDepth 100000 in
set_option maxHeartbeats 4000000 in
theorem plays_out (sa : Option Addr) (l lc : Nat) (a : Addr) (w : World) (hg : Handle w) (ho : OnErr w a) (hout : 60 < l) :
    Calls Tryd.prog 3 #[.slice sa l lc] w fun e w' => e = .returned (.bool true) ∧ Below w.heap.size w w' := by
  have C := known_true a w hg ho
  clear hg ho
  have j1 : (60 : Int) < (l : Int) := by omega
  clear hout
  go_enter Tryd.func3, Tryd.ntmps3
  go_wp2_with (go_at_call 7; (with_reducible refine C.mono ?_); rintro e w1 ⟨rfl, hb⟩)
  go_ret
  exact ⟨rfl, hb⟩

/-- The i-th step as it lies in memory. -/
structure JStepAt (w : World) (sa : Option Addr) (i : Nat) (s : Int × ByteArray) : Prop where
  at_ : ∃ sb so, sa = some ⟨sb, so, none⟩ ∧ w.cell? ⟨sb, so + i * 2, none⟩ = some (.int .i64 s.1) ∧ w.cell? ⟨sb, so + i * 2 + 1, none⟩ = some (.string s.2)

/-- What the loop holds behind i steps. -/
structure JPlayAt (l base d : Nat) (w : World) (k : Nat) (jv mv iv : Value) (wr : World) (i j L : Nat) (ms : List ByteArray) : Prop where
  p1 : jv = .pointer (some ⟨j, 0, none⟩)
  p2 : OwnTexts base wr mv ms
  p3 : iv = .int .i64 i
  p4 : i + k = l
  p5 : DiskIs base d wr (framesOf ms) L
  p6 : JournalAt j d wr
  p7 : Below base w wr
  p8 : ∀ t ∈ ms, t.size ≤ 200
  p9 : ms.length ≤ 2 * i
/-- What the inner loop holds when r records are wrapped. -/
structure WantAt (ms : List ByteArray) (w : World) (k : Nat) (sv kv : Value) (wr : World) (r : Nat) (S : ByteArray) : Prop where
  p1 : sv = .string S
  p2 : kv = .int .i64 r
  p3 : r + k = ms.length
  p4 : S = framesOf (ms.take r)
  p5 : Below w.heap.size w wr

theorem own_two (base : Nat) (w : World) (b : ByteArray) (hb : base ≤ w.heap.size) : OwnTexts base (w.alloc (.cells #[.string b, .string b] 9)) (.slice (some ⟨w.heap.size, 0, none⟩) 2 2) [b, b] :=
  owns_of (zs := []) hb (alloc_here _ _) rfl (by decide) rfl rfl
theorem texts_one (w : World) (b : ByteArray) : Texts (w.alloc (.cells #[.string b] 9)) (.slice (some ⟨w.heap.size, 0, none⟩) 1 1) [b] := by
  refine ⟨_, 1, rfl, fun j x hx => ⟨w.heap.size, 0, rfl, ?_⟩⟩
  rcases j with _ | j
  · obtain rfl := Option.some.inj hx
    simp
  · simp at hx

set_option maxRecDepth 100000 in
set_option maxHeartbeats 32000000 in
theorem plays_in (sa : Option Addr) (l lc : Nat) (ss : List (Int × ByteArray)) (a : Addr) (w : World) (hg : Handle w) (ho : OnErr w a) (hl : l ≤ 60) (hsl : ss.length = l) (hss : ∀ (j : Nat) s, ss[j]? = some s → JStepAt w sa j s) :
    Calls Tryd.prog 3 #[.slice sa l lc] w fun e w' => e = .returned (.bool true) ∧ Below w.heap.size w w' := by
  have C := known_true a w hg ho
  have HG := Lib.hid hg
  have HO := Lib.hid ho
  have HSL := Lib.hid hsl
  have HSS := Lib.hid hss
  clear hg ho hsl hss
  have j1 : ¬ (60 : Int) < (l : Int) := by omega
  go_enter Tryd.func3, Tryd.ntmps3
  go_wp2_with fail
  go_at_call 7
  ((with_reducible refine C.mono ?_); rintro e w1 ⟨rfl, hb⟩)
  have H1 := Lib.hid hb; clear hb C
  go_wp2_with fail
  go_at_call 8
  refine (diskNew_any _).mono ?_
  rintro e w2 ⟨rfl, rfl⟩
  have hD := newRecs w.heap.size w1 H1.out.size
  have hB : Below w.heap.size w (w1.alloc (.cells #[.slice none 0 0, .int .i64 0] 48)) := H1.out.alloc H1.out.size _
  have HD := Lib.hid hD
  have HB := Lib.hid hB
  clear hD hB H1
  generalize w1.alloc (.cells #[.slice none 0 0, .int .i64 0] 48) = w2 at HD HB
  generalize w1.heap.size = d at HD HB
  go_wp2_with fail
  go_at_call 9
  refine (open_whole HD.out (HG.out.later HB.out) (HO.out.later HB.out) HB.out.size).mono ?_
  rintro e w3 ⟨j, sv, rfl, hj, hr, hD, hb⟩
  have HJ := Lib.hid hj
  have HD2 := Lib.hid hD
  have HB2 := Lib.hid (HB.out.trans (hb.mono HB.out.size))
  clear hj hr hD hb HD HB
  go_wp2_with fail
  go_loopg [4, 7, 8] l (fun k jv mv iv wr => ∃ i j L ms, JPlayAt l w.heap.size d w k jv mv iv wr i j L ms)
  case atStart => exact ⟨0, j, 0, [], rfl, OwnTexts.nil _ _, rfl, Nat.zero_add _, HD2.out, HJ.out, HB2.out, by simp, by simp⟩
  case round =>
    clear HD2 HJ HB2
    obtain ⟨i, j, L, ms, rfl, h2, rfl, h4, h5, h6, h7, h8, h9⟩ := hrel
    obtain ⟨p, c, hsh⟩ := h2.shape
    subst hsh
    have H2 := Lib.hid h2
    have H4 := Lib.hid h4
    have H5 := Lib.hid h5
    have H6 := Lib.hid h6
    have H7 := Lib.hid h7
    have H8 := Lib.hid h8
    have hin : i ≤ l := by omega
    have hfm := framesOf_most 200 ms h8
    clear h2 h4 h5 h6 h7 h8
    by_cases hlt : i < l
    · have i5 : (i : Int) < (l : Int) := by omega
      obtain ⟨s, hsi⟩ : ∃ s, ss[i]? = some s := ⟨_, List.getElem?_eq_getElem (by rw [HSL.out]; exact hlt)⟩
      obtain ⟨sb, so, hsa, hc0, hc1⟩ := (HSS.out i s hsi).at_
      subst hsa
      obtain ⟨t, b⟩ := s
      have hsb : sb < w.heap.size := lt_of_cell hc0
      have q0 : wr.cell? ⟨sb, so + i * 2, none⟩ = some (.int .i64 t) := by rw [H7.out.cell hsb]; exact hc0
      have q1 : wr.cell? ⟨sb, so + i * 2 + 1, none⟩ = some (.string b) := by rw [H7.out.cell hsb]; exact hc1
      clear hc0 hc1 hsi
      have hqd : wr.heap.size ≠ d := Nat.ne_of_gt H5.out.lt
      have hbx : (wr.alloc (.cells #[.int .i64 t, .string b] 33)).heap[wr.heap.size]? = some (.cells #[.int .i64 t, .string b] 33 (0, 0)) := alloc_here _ _
      have hbl : Below wr.heap.size wr (wr.alloc (.cells #[.int .i64 t, .string b] 33)) := (Below.refl _ _).alloc (Nat.le_refl wr.heap.size) _
      have hB := H7.out.trans (hbl.mono H7.out.size)
      by_cases hb2 : 200 < b.size
      · have j4 : (200 : Int) < (b.size : Int) := by omega
        go_wp2
        go_ret
        exact ⟨rfl, hB⟩
      · have j4 : ¬ (200 : Int) < (b.size : Int) := by omega
        have HBX := Lib.hid hbx
        have HDX := Lib.hid (H5.out.later hbl)
        have HJX := Lib.hid (H6.out.later hbl)
        have HOX := Lib.hid (H2.out.later hbl)
        have HB := Lib.hid hB
        have HQD := Lib.hid hqd
        have hfb := framed_le b
        have hw1 : (wr.alloc (.cells #[.int .i64 t, .string b] 33)).heap.size = wr.heap.size + 1 := by simp
        have HW1 := Lib.hid hw1
        clear hbx hB hbl H2 H5 H6 H7 hqd hw1
        have ht4 : t ≤ 5 ∨ (¬ t ≤ 5 ∧ t ≤ 7) ∨ t = 8 ∨ (¬ t ≤ 7 ∧ ¬ t = 8) := by omega
        rcases ht4 with t5 | ⟨t5, t7⟩ | t8 | ⟨t7, t8⟩
        case inl =>
          go_wp2_with fail
          go_at_call 10
          refine (add_rec HDX.out HJX.out HB.out.size (by omega)).mono ?_
          rintro e w3 ⟨rfl, hD, hK, hj⟩
          have hbx := hK.cell HBX.out HQD.out (by decide)
          have hO3 := HOX.out.beside HDX.out hK
          have hB3 := HB.out.trans hK.below
          have hba : Below w3.heap.size w3 (w3.alloc (.cells #[.string b] 9)) := (Below.refl _ _).alloc (Nat.le_refl _) _
          obtain ⟨v', W, hap, ho, hg⟩ := run_append_texts (w3.alloc (.cells #[.string b] 9)) w.heap.size _ _ ms [b] (hO3.later hba) (texts_one w3 b) (by simp; omega) (Nat.le_trans hB3.size hba.size)
          have HO' := Lib.hid ho
          have HD' := Lib.hid ((hD.later hba).grown (hO3.later hba) hg)
          have HJ' := Lib.hid ((hj.later hba).grown (hO3.later hba) hg)
          have HB' := Lib.hid ((hB3.trans (hba.mono hB3.size)).grown hg (Nat.le_trans hB3.size hba.size) (fun q hq => (World.ownsRow.lt (hO3.later hba) q hq).1))
          have H8' := Lib.hid (show ∀ t ∈ ms ++ [b], t.size ≤ 200 from fun t ht => by
            rcases List.mem_append.1 ht with h | h
            · exact H8.out t h
            · obtain rfl := List.mem_singleton.1 h
              omega)
          have H9' := Lib.hid (show (ms ++ [b]).length ≤ 2 * (i + 1) by simp; omega)
          obtain ⟨p', c', hsh⟩ := HO'.out.shape
          subst hsh
          have HAP := Lib.hid hap
          clear hD hK hj hO3 hB3 hba hap ho hg HBX HDX HJX HOX HB q0 q1 H8 h9 hfm
          generalize wr.heap.size = q at hbx HQD
          have b1 : w3.cell? ⟨q, 1, none⟩ = some (.string b) := by simp [World.cell?, hbx]
          clear hbx
          obtain ⟨n, hn⟩ : ∃ n, (ms ++ [b]).length = n := ⟨_, rfl⟩
          rw [hn] at HO' HAP H9'
          have HN := Lib.hid hn
          generalize ms ++ [b] = ms' at HO' HD' H8' HN
          clear hn
          go_wp2_with (at_builtin; refine wpList_append_run rfl (.tmp 75) (.tmp 78) 27 27 rfl _ _ rfl rfl HAP.out ?_)
          go_loopg [13, 14] n (fun k sv kv wq => ∃ r S, WantAt ms' W k sv kv wq r S)
          case atStart => exact ⟨0, ByteArray.empty, rfl, rfl, by rw [Nat.zero_add]; exact HN.out.symm, by simp [framesOf], Below.refl _ _⟩
          case round =>
            obtain ⟨r, S, rfl, rfl, g3, g4, g5⟩ := hrel
            rw [HN.out] at g3
            have hS : S.size ≤ 30000 := by
              rw [g4]
              have h1 := framesOf_take_le ms' r
              have h2 := framesOf_most 200 ms' H8'.out
              rw [HN.out] at h2
              have h3 := H9'.out
              omega
            have G3 := Lib.hid g3
            have G4 := Lib.hid g4
            have G5 := Lib.hid g5
            have hrn : r ≤ n := by omega
            have hn120 : n ≤ 120 := by have := H9'.out; omega
            clear g3 g4 g5
            by_cases hlt2 : r < n
            · have i6 : (r : Int) < (n : Int) := by omega
              obtain ⟨x, hx⟩ : ∃ x, ms'[r]? = some x := ⟨_, List.getElem?_eq_getElem (by rw [HN.out]; exact hlt2)⟩
              obtain ⟨pp, cp, e, hts⟩ := (HO'.out.later G5.out).texts
              injection e with e1 e2 e3
              subst e1
              obtain ⟨gb, go, hp, ct⟩ := hts r x hx
              have hx200 := H8'.out x (List.mem_of_getElem? hx)
              have hfx := framed_le x
              have R := refWrap_any x wr (by omega)
              have hsn := framesOf_snoc hx
              obtain ⟨F, hF⟩ : ∃ F, framed x = F := ⟨_, rfl⟩
              rw [hF] at R hsn hfx
              have x1 : ¬ 9223372036854775807 < S.size + F.size := by omega
              have HSN := Lib.hid hsn
              clear hF hsn hts hx e2 e3
              subst hp
              go_wp2_with fail
              go_at_call 15
              ((with_reducible refine R.mono ?_); rintro e w9 ⟨rfl, hb⟩)
              have HB9 := Lib.hid (G5.out.trans (hb.mono G5.out.size))
              clear hb R ct
              go_wp2
              go_roundg (gk - 1)
              case measure => have := G3.out; omega
              case rel => exact ⟨r + 1, S ++ F, rfl, by go_num, by rw [HN.out]; have := G3.out; omega, by rw [HSN.out, ← G4.out], HB9.out⟩
            · obtain rfl : r = n := by omega
              have i6 : ¬ (r : Int) < (r : Int) := by omega
              have eS : S = framesOf ms' := by rw [G4.out, ← HN.out, List.take_length]
              subst eS
              have hBW := HB'.out.trans (G5.out.mono HB'.out.size)
              have LN := len_any (HD'.out.later G5.out) (HJ'.out.later G5.out) (HG.out.later hBW) (HO.out.later hBW)
              rw [HN.out] at LN
              have HBW := Lib.hid hBW
              clear hBW hS
              go_wp2_with fail
              go_at_call 16
              refine LN.mono ?_
              rintro e w9 ⟨rfl, hb⟩
              have HD9 := Lib.hid ((HD'.out.later G5.out).later hb)
              have HJ9 := Lib.hid ((HJ'.out.later G5.out).later hb)
              have HO9 := Lib.hid ((HO'.out.later G5.out).later hb)
              have HB9 := Lib.hid (HBW.out.trans (hb.mono HBW.out.size))
              clear hb LN HBW
              go_wp2_with fail
              go_at_call 17
              refine (bytes_any HD9.out).mono ?_
              rintro e w10 ⟨rfl, rfl⟩
              go_wp2
              go_roundg (l - (i + 1))
              case measure => have := H4.out; omega
              case rel => exact ⟨i + 1, j, _, ms', rfl, HO9.out, by go_num, by omega, HD9.out, HJ9.out, HB9.out, H8'.out, by rw [HN.out]; exact H9'.out⟩
        case inr.inl =>
          go_wp2_with fail
          go_at_call 11
          refine (jsync_any HDX.out HJX.out).mono ?_
          rintro e W ⟨rfl, hD, hK, hj⟩
          have HO' := Lib.hid (HOX.out.beside HDX.out hK)
          have HD' := Lib.hid hD
          have HJ' := Lib.hid hj
          have HB' := Lib.hid (HB.out.trans hK.below)
          have H8' := Lib.hid H8.out
          have H9' := Lib.hid (show ms.length ≤ 2 * (i + 1) by omega)
          have p' := p
          have c' := c
          clear hD hK hj HBX HDX HJX HOX HB q0 q1 H8 h9 hfm
          go_wp2_with fail
          go_at_call 12
          refine (loose_any HD'.out).mono ?_
          rintro e w5 ⟨rfl, rfl⟩
          obtain ⟨n, hn⟩ : ∃ n, ms.length = n := ⟨_, rfl⟩
          rw [hn] at HO' H9'
          have HN := Lib.hid hn
          rw [hn]
          clear hn
          go_wp2_with fail
          go_loopg [13, 14] n (fun k sv kv wq => ∃ r S, WantAt ms W k sv kv wq r S)
          case atStart => exact ⟨0, ByteArray.empty, rfl, rfl, by rw [Nat.zero_add]; exact HN.out.symm, by simp [framesOf], Below.refl _ _⟩
          case round =>
            obtain ⟨r, S, rfl, rfl, g3, g4, g5⟩ := hrel
            rw [HN.out] at g3
            have hS : S.size ≤ 30000 := by
              rw [g4]
              have h1 := framesOf_take_le ms r
              have h2 := framesOf_most 200 ms H8'.out
              rw [HN.out] at h2
              have h3 := H9'.out
              omega
            have G3 := Lib.hid g3
            have G4 := Lib.hid g4
            have G5 := Lib.hid g5
            have hrn : r ≤ n := by omega
            have hn120 : n ≤ 120 := by have := H9'.out; omega
            clear g3 g4 g5
            by_cases hlt2 : r < n
            · have i6 : (r : Int) < (n : Int) := by omega
              obtain ⟨x, hx⟩ : ∃ x, ms[r]? = some x := ⟨_, List.getElem?_eq_getElem (by rw [HN.out]; exact hlt2)⟩
              obtain ⟨pp, cp, e, hts⟩ := (HO'.out.later G5.out).texts
              injection e with e1 e2 e3
              subst e1
              obtain ⟨gb, go, hp, ct⟩ := hts r x hx
              have hx200 := H8'.out x (List.mem_of_getElem? hx)
              have hfx := framed_le x
              have R := refWrap_any x wr (by omega)
              have hsn := framesOf_snoc hx
              obtain ⟨F, hF⟩ : ∃ F, framed x = F := ⟨_, rfl⟩
              rw [hF] at R hsn hfx
              have x1 : ¬ 9223372036854775807 < S.size + F.size := by omega
              have HSN := Lib.hid hsn
              clear hF hsn hts hx e2 e3
              subst hp
              go_wp2_with fail
              go_at_call 15
              ((with_reducible refine R.mono ?_); rintro e w9 ⟨rfl, hb⟩)
              have HB9 := Lib.hid (G5.out.trans (hb.mono G5.out.size))
              clear hb R ct
              go_wp2
              go_roundg (gk - 1)
              case measure => have := G3.out; omega
              case rel => exact ⟨r + 1, S ++ F, rfl, by go_num, by rw [HN.out]; have := G3.out; omega, by rw [HSN.out, ← G4.out], HB9.out⟩
            · obtain rfl : r = n := by omega
              have i6 : ¬ (r : Int) < (r : Int) := by omega
              have eS : S = framesOf ms := by rw [G4.out, ← HN.out, List.take_length]
              subst eS
              have hBW := HB'.out.trans (G5.out.mono HB'.out.size)
              have LN := len_any (HD'.out.later G5.out) (HJ'.out.later G5.out) (HG.out.later hBW) (HO.out.later hBW)
              rw [HN.out] at LN
              have HBW := Lib.hid hBW
              clear hBW hS
              go_wp2_with fail
              go_at_call 16
              refine LN.mono ?_
              rintro e w9 ⟨rfl, hb⟩
              have HD9 := Lib.hid ((HD'.out.later G5.out).later hb)
              have HJ9 := Lib.hid ((HJ'.out.later G5.out).later hb)
              have HO9 := Lib.hid ((HO'.out.later G5.out).later hb)
              have HB9 := Lib.hid (HBW.out.trans (hb.mono HBW.out.size))
              clear hb LN HBW
              go_wp2_with fail
              go_at_call 17
              refine (bytes_any HD9.out).mono ?_
              rintro e w10 ⟨rfl, rfl⟩
              go_wp2
              go_roundg (l - (i + 1))
              case measure => have := H4.out; omega
              case rel => exact ⟨i + 1, j, _, ms, rfl, HO9.out, by go_num, by omega, HD9.out, HJ9.out, HB9.out, H8'.out, by rw [HN.out]; exact H9'.out⟩
        case inr.inr.inl =>
          subst t8
          have hla : Below (wr.alloc (.cells #[.int .i64 8, .string b] 33)).heap.size (wr.alloc (.cells #[.int .i64 8, .string b] 33)) ((wr.alloc (.cells #[.int .i64 8, .string b] 33)).alloc (.cells #[.string b, .string b] 9)) := (Below.refl _ _).alloc (Nat.le_refl _) _
          have hT := (own_two 0 (wr.alloc (.cells #[.int .i64 8, .string b] 33)) b (Nat.zero_le _)).texts
          rw [HW1.out] at hT
          have T := trim_ok (HDX.out.later hla) (HJX.out.later hla) (Nat.le_trans HB.out.size hla.size) hT (by simp only [framesOf, ByteArray.size_append]; simp; omega)
          have HBX1 := Lib.hid (show ((wr.alloc (.cells #[.int .i64 8, .string b] 33)).alloc (.cells #[.string b, .string b] 9)).heap[wr.heap.size]? = some (.cells #[.int .i64 8, .string b] 33 (0, 0)) by rw [hla.block _ (Array.getElem?_eq_some_iff.1 HBX.out).1]; exact HBX.out)
          have HB1 := Lib.hid (HB.out.trans (hla.mono HB.out.size))
          clear hla hT
          go_wp2_with fail
          go_at_call 13
          refine T.mono ?_
          rintro e w3 ⟨rfl, hD, hK, hj⟩
          have hbx := hK.cell HBX1.out HQD.out (by decide)
          have hB3 := HB1.out.trans hK.below
          have hbl : Below w3.heap.size w3 (w3.alloc (.cells #[.string b, .string b] 9)) := (Below.refl _ _).alloc (Nat.le_refl _) _
          have HO' := Lib.hid (own_two w.heap.size w3 b hB3.size)
          have HD' := Lib.hid (hD.later hbl)
          have HJ' := Lib.hid (hj.later hbl)
          have HB' := Lib.hid (hB3.trans (hbl.mono hB3.size))
          have H8' := Lib.hid (show ∀ t ∈ [b, b], t.size ≤ 200 from fun t ht => by
            simp at ht
            rw [ht]; omega)
          have H9' := Lib.hid (show 2 ≤ 2 * (i + 1) by omega)
          clear hD hK hj hB3 hbl T HBX HBX1 HDX HJX HOX HB HB1 q0 q1 H8 h9 hfm
          generalize wr.heap.size = q at hbx HQD
          have b1 : w3.cell? ⟨q, 1, none⟩ = some (.string b) := by simp [World.cell?, hbx]
          clear hbx
          have HN := Lib.hid (show [b, b].length = 2 from rfl)
          go_wp2_with fail
          generalize (some ⟨w3.heap.size, 0, none⟩ : Option Addr) = p' at HO' ⊢
          generalize w3.alloc (.cells #[.string b, .string b] 9) = W at HO' HD' HJ' HB' ⊢
          generalize [b, b] = ms' at HO' HD' H8' HN
          go_loopg [13, 14] 2 (fun k sv kv wq => ∃ r S, WantAt ms' W k sv kv wq r S)
          case atStart => exact ⟨0, ByteArray.empty, rfl, rfl, by rw [Nat.zero_add]; exact HN.out.symm, by simp [framesOf], Below.refl _ _⟩
          case round =>
            obtain ⟨r, S, rfl, rfl, g3, g4, g5⟩ := hrel
            rw [HN.out] at g3
            have hS : S.size ≤ 30000 := by
              rw [g4]
              have h1 := framesOf_take_le ms' r
              have h2 := framesOf_most 200 ms' H8'.out
              rw [HN.out] at h2
              have h3 := H9'.out
              omega
            have G3 := Lib.hid g3
            have G4 := Lib.hid g4
            have G5 := Lib.hid g5
            have hrn : r ≤ 2 := by omega
            have hn120 : 2 ≤ 120 := by have := H9'.out; omega
            clear g3 g4 g5
            by_cases hlt2 : r < 2
            · have i6 : (r : Int) < (2 : Int) := by omega
              obtain ⟨x, hx⟩ : ∃ x, ms'[r]? = some x := ⟨_, List.getElem?_eq_getElem (by rw [HN.out]; exact hlt2)⟩
              obtain ⟨pp, cp, e, hts⟩ := (HO'.out.later G5.out).texts
              injection e with e1 e2 e3
              subst e1
              obtain ⟨gb, go, hp, ct⟩ := hts r x hx
              have hx200 := H8'.out x (List.mem_of_getElem? hx)
              have hfx := framed_le x
              have R := refWrap_any x wr (by omega)
              have hsn := framesOf_snoc hx
              obtain ⟨F, hF⟩ : ∃ F, framed x = F := ⟨_, rfl⟩
              rw [hF] at R hsn hfx
              have x1 : ¬ 9223372036854775807 < S.size + F.size := by omega
              have HSN := Lib.hid hsn
              clear hF hsn hts hx e2 e3
              subst hp
              go_wp2_with fail
              go_at_call 15
              ((with_reducible refine R.mono ?_); rintro e w9 ⟨rfl, hb⟩)
              have HB9 := Lib.hid (G5.out.trans (hb.mono G5.out.size))
              clear hb R ct
              go_wp2
              go_roundg (gk - 1)
              case measure => have := G3.out; omega
              case rel => exact ⟨r + 1, S ++ F, rfl, by go_num, by rw [HN.out]; have := G3.out; omega, by rw [HSN.out, ← G4.out], HB9.out⟩
            · obtain rfl : r = 2 := by omega
              have i6 : ¬ (2 : Int) < (2 : Int) := by omega
              have eS : S = framesOf ms' := by rw [G4.out, ← HN.out, List.take_length]
              subst eS
              have hBW := HB'.out.trans (G5.out.mono HB'.out.size)
              have LN := len_any (HD'.out.later G5.out) (HJ'.out.later G5.out) (HG.out.later hBW) (HO.out.later hBW)
              rw [HN.out] at LN
              have HBW := Lib.hid hBW
              clear hBW hS
              go_wp2_with fail
              go_at_call 16
              refine LN.mono ?_
              rintro e w9 ⟨rfl, hb⟩
              have HD9 := Lib.hid ((HD'.out.later G5.out).later hb)
              have HJ9 := Lib.hid ((HJ'.out.later G5.out).later hb)
              have HO9 := Lib.hid ((HO'.out.later G5.out).later hb)
              have HB9 := Lib.hid (HBW.out.trans (hb.mono HBW.out.size))
              clear hb LN HBW
              go_wp2_with fail
              go_at_call 17
              refine (bytes_any HD9.out).mono ?_
              rintro e w10 ⟨rfl, rfl⟩
              go_wp2
              go_roundg (l - (i + 1))
              case measure => have := H4.out; omega
              case rel => exact ⟨i + 1, j, _, ms', rfl, HO9.out, by go_num, by omega, HD9.out, HJ9.out, HB9.out, H8'.out, by rw [HN.out]; exact H9'.out⟩
        case inr.inr.inr =>
          go_wp2_with fail
          go_at_call 9
          refine (open_whole HDX.out (HG.out.later HB.out) (HO.out.later HB.out) HB.out.size).mono ?_
          rintro e w3 ⟨kb, rv, rfl, hj, hr, hD, hb⟩
          have D1 := sameTexts_true rv _ ms w3 (by omega) hr.texts (HOX.out.later hb).texts
          have HO3 := Lib.hid (HOX.out.later hb)
          have HB3 := Lib.hid (HB.out.trans (hb.mono HB.out.size))
          have HD3 := Lib.hid hD
          have HJ3 := Lib.hid hj
          have H8' := Lib.hid H8.out
          have H9' := Lib.hid (show ms.length ≤ 2 * (i + 1) by omega)
          clear hj hr hD hb HBX HDX HJX HOX HB q0 q1 H8 h9 hfm
          go_wp2_with fail
          go_at_call 14
          ((with_reducible refine D1.mono ?_); rintro e W ⟨rfl, hb⟩)
          have HO' := Lib.hid (HO3.out.later hb)
          have HD' := Lib.hid (HD3.out.later hb)
          have HJ' := Lib.hid (HJ3.out.later hb)
          have HB' := Lib.hid (HB3.out.trans (hb.mono HB3.out.size))
          clear hb D1 HO3 HB3 HD3 HJ3
          obtain ⟨n, hn⟩ : ∃ n, ms.length = n := ⟨_, rfl⟩
          rw [hn] at HO' H9'
          have HN := Lib.hid hn
          rw [hn]
          clear hn
          go_wp2_with fail
          go_loopg [13, 14] n (fun k sv kv wq => ∃ r S, WantAt ms W k sv kv wq r S)
          case atStart => exact ⟨0, ByteArray.empty, rfl, rfl, by rw [Nat.zero_add]; exact HN.out.symm, by simp [framesOf], Below.refl _ _⟩
          case round =>
            obtain ⟨r, S, rfl, rfl, g3, g4, g5⟩ := hrel
            rw [HN.out] at g3
            have hS : S.size ≤ 30000 := by
              rw [g4]
              have h1 := framesOf_take_le ms r
              have h2 := framesOf_most 200 ms H8'.out
              rw [HN.out] at h2
              have h3 := H9'.out
              omega
            have G3 := Lib.hid g3
            have G4 := Lib.hid g4
            have G5 := Lib.hid g5
            have hrn : r ≤ n := by omega
            have hn120 : n ≤ 120 := by have := H9'.out; omega
            clear g3 g4 g5
            by_cases hlt2 : r < n
            · have i6 : (r : Int) < (n : Int) := by omega
              obtain ⟨x, hx⟩ : ∃ x, ms[r]? = some x := ⟨_, List.getElem?_eq_getElem (by rw [HN.out]; exact hlt2)⟩
              obtain ⟨pp, cp, e, hts⟩ := (HO'.out.later G5.out).texts
              injection e with e1 e2 e3
              subst e1
              obtain ⟨gb, go, hp, ct⟩ := hts r x hx
              have hx200 := H8'.out x (List.mem_of_getElem? hx)
              have hfx := framed_le x
              have R := refWrap_any x wr (by omega)
              have hsn := framesOf_snoc hx
              obtain ⟨F, hF⟩ : ∃ F, framed x = F := ⟨_, rfl⟩
              rw [hF] at R hsn hfx
              have x1 : ¬ 9223372036854775807 < S.size + F.size := by omega
              have HSN := Lib.hid hsn
              clear hF hsn hts hx e2 e3
              subst hp
              go_wp2_with fail
              go_at_call 15
              ((with_reducible refine R.mono ?_); rintro e w9 ⟨rfl, hb⟩)
              have HB9 := Lib.hid (G5.out.trans (hb.mono G5.out.size))
              clear hb R ct
              go_wp2
              go_roundg (gk - 1)
              case measure => have := G3.out; omega
              case rel => exact ⟨r + 1, S ++ F, rfl, by go_num, by rw [HN.out]; have := G3.out; omega, by rw [HSN.out, ← G4.out], HB9.out⟩
            · obtain rfl : r = n := by omega
              have i6 : ¬ (r : Int) < (r : Int) := by omega
              have eS : S = framesOf ms := by rw [G4.out, ← HN.out, List.take_length]
              subst eS
              have hBW := HB'.out.trans (G5.out.mono HB'.out.size)
              have LN := len_any (HD'.out.later G5.out) (HJ'.out.later G5.out) (HG.out.later hBW) (HO.out.later hBW)
              rw [HN.out] at LN
              have HBW := Lib.hid hBW
              clear hBW hS
              go_wp2_with fail
              go_at_call 16
              refine LN.mono ?_
              rintro e w9 ⟨rfl, hb⟩
              have HD9 := Lib.hid ((HD'.out.later G5.out).later hb)
              have HJ9 := Lib.hid ((HJ'.out.later G5.out).later hb)
              have HO9 := Lib.hid ((HO'.out.later G5.out).later hb)
              have HB9 := Lib.hid (HBW.out.trans (hb.mono HBW.out.size))
              clear hb LN HBW
              go_wp2_with fail
              go_at_call 17
              refine (bytes_any HD9.out).mono ?_
              rintro e w10 ⟨rfl, rfl⟩
              go_wp2
              go_roundg (l - (i + 1))
              case measure => have := H4.out; omega
              case rel => exact ⟨i + 1, kb, _, ms, rfl, HO9.out, by go_num, by omega, HD9.out, HJ9.out, HB9.out, H8'.out, by rw [HN.out]; exact H9'.out⟩
    · have i5 : ¬ (i : Int) < (l : Int) := by omega
      go_wp2
      go_ret
      exact ⟨rfl, H7.out⟩
end Go.Proofs.YtckbgggocmbbdaaDoor
