/-
  DiskPlays, walked.
-/
import Derived.Test.YtaljaibkmhnleaaDoorSafeWalk
namespace Go.Proofs.YtaljaibkmhnleaaDoor
open Go.RowKit Go.Extern.Stop Go.Stop Go.Extern

set_option maxRecDepth 100000 in
set_option maxHeartbeats 4000000 in
theorem plays_out (sa : Option Addr) (l lc : Nat) (w : World) (hout : 100 < l) :
    Calls Tryd.prog 3 #[.slice sa l lc] w fun e w' => e = .returned (.bool true) ∧ Below w.heap.size w w' := by
  have C := known_true w
  have j1 : (100 : Int) < (l : Int) := by omega
  clear hout
  go_enter Tryd.func3, Tryd.ntmps3
  go_wp2_with (go_at_call 6; (with_reducible refine C.mono ?_); rintro e w1 ⟨rfl, hb⟩)
  go_ret
  exact ⟨rfl, hb⟩

/-- The i-th step as it lies in memory. -/
structure StepAt (w : World) (sa : Option Addr) (i : Nat) (s : Int × Int × ByteArray) : Prop where
  at_ : ∃ sb so, sa = some ⟨sb, so, none⟩ ∧ w.cell? ⟨sb, so + i * 3, none⟩ = some (.int .i64 s.1) ∧ w.cell? ⟨sb, so + i * 3 + 1, none⟩ = some (.int .i64 s.2.1) ∧ w.cell? ⟨sb, so + i * 3 + 2, none⟩ = some (.string s.2.2)

/-- What the loop holds behind i steps. -/
structure PlayAt (l base d : Nat) (w : World) (k : Nat) (kv lv iv : Value) (wr : World) (i : Nat) (K L : ByteArray) : Prop where
  p1 : kv = .string K
  p2 : lv = .string L
  p3 : iv = .int .i64 i
  p4 : i + k = l
  p5 : (K ++ L).size ≤ 300 * i
  p6 : DiskIs base d wr (K ++ L) L.size
  p7 : Keeps base d w wr

set_option maxRecDepth 100000 in
set_option maxHeartbeats 16000000 in
theorem plays_in (sa : Option Addr) (l lc : Nat) (ss : List (Int × Int × ByteArray)) (w : World) (hl : l ≤ 100) (hsl : ss.length = l) (hss : ∀ (j : Nat) s, ss[j]? = some s → StepAt w sa j s) :
    Calls Tryd.prog 3 #[.slice sa l lc] w fun e w' => e = .returned (.bool true) ∧ Below w.heap.size w w' := by
  have C := known_true w
  have HSL := Lib.hid hsl
  have HSS := Lib.hid hss
  clear hsl hss
  have j1 : ¬ (100 : Int) < (l : Int) := by omega
  go_enter Tryd.func3, Tryd.ntmps3
  go_wp2_with fail
  go_at_call 6
  ((with_reducible refine C.mono ?_); rintro e w1 ⟨rfl, hb⟩)
  have H1 := Lib.hid hb; clear hb C
  go_wp2_with fail
  go_at_call 7
  refine (diskNew_any _).mono ?_
  rintro e w2 ⟨rfl, rfl⟩
  have hD := newDisk w.heap.size w1 H1.out.size
  have hK : Keeps w.heap.size w1.heap.size w (w1.alloc (.cells #[.slice none 0 0, .int .i64 0] 43)) := Keeps.of_below (H1.out.alloc H1.out.size _) (Nat.le_refl _)
  have HD := Lib.hid hD
  have HK := Lib.hid hK
  clear hD hK H1
  generalize w1.alloc (.cells #[.slice none 0 0, .int .i64 0] 43) = w2 at HD HK
  generalize w1.heap.size = d at HD HK
  go_wp2_with fail
  go_loopg [4, 5, 6] l (fun k kv lv iv wr => ∃ i K L, PlayAt l w.heap.size d w k kv lv iv wr i K L)
  case atStart => exact ⟨0, ByteArray.empty, ByteArray.empty, rfl, rfl, rfl, Nat.zero_add _, by decide, HD.out, HK.out⟩
  case round =>
    clear HD HK
    obtain ⟨i, K, L, rfl, rfl, rfl, h4, h5, h6, h7⟩ := hrel
    have H4 := Lib.hid h4
    have H6 := Lib.hid h6
    have H7 := Lib.hid h7
    have hin : i ≤ l := by omega
    have hKL : K.size + L.size ≤ 300 * i := by rw [ByteArray.size_append] at h5; exact h5
    clear h4 h5 h6 h7
    by_cases hlt : i < l
    · have i5 : (i : Int) < (l : Int) := by omega
      obtain ⟨s, hsi⟩ : ∃ s, ss[i]? = some s := ⟨_, List.getElem?_eq_getElem (by rw [HSL.out]; exact hlt)⟩
      obtain ⟨sb, so, hsa, hc0, hc1, hc2⟩ := (HSS.out i s hsi).at_
      subst hsa
      obtain ⟨t, n, b⟩ := s
      have hsb : sb < w.heap.size := lt_of_cell hc0
      have q0 : wr.cell? ⟨sb, so + i * 3, none⟩ = some (.int .i64 t) := by rw [H7.out.below.cell hsb]; exact hc0
      have q1 : wr.cell? ⟨sb, so + i * 3 + 1, none⟩ = some (.int .i64 n) := by rw [H7.out.below.cell hsb]; exact hc1
      have q2 : wr.cell? ⟨sb, so + i * 3 + 2, none⟩ = some (.string b) := by rw [H7.out.below.cell hsb]; exact hc2
      clear hc0 hc1 hc2 hsi
      have hqd : wr.heap.size ≠ d := Nat.ne_of_gt H6.out.lt
      have hbx : (wr.alloc (.cells #[.int .i64 t, .int .i64 n, .string b] 27)).heap[wr.heap.size]? = some (.cells #[.int .i64 t, .int .i64 n, .string b] 27 (0, 0)) := alloc_here _ _
      have hD := H6.out.later ((Below.refl _ _).alloc (Nat.le_refl wr.heap.size) (.cells #[.int .i64 t, .int .i64 n, .string b] 27))
      have hK := H7.out.trans (Keeps.of_below (base := w.heap.size) (d := d) ((Below.refl _ _).alloc (Nat.le_refl wr.heap.size) (.cells #[.int .i64 t, .int .i64 n, .string b] 27)) H7.out.size)
      by_cases hb3 : 300 < b.size
      · have j4 : (300 : Int) < (b.size : Int) := by omega
        go_wp2
        go_ret
        exact ⟨rfl, hK.below⟩
      · have j4 : ¬ (300 : Int) < (b.size : Int) := by omega
        have HBX := Lib.hid hbx
        have HDX := Lib.hid hD
        have HKX := Lib.hid hK
        have HQD := Lib.hid hqd
        clear hbx hD hK H6 H7 hqd
        by_cases t4 : t ≤ 4
        · obtain ⟨M, hM⟩ : ∃ M, L ++ b = M := ⟨_, rfl⟩
          have hMs : M.size = L.size + b.size := by rw [← hM, ByteArray.size_append]
          have HMS := Lib.hid hMs
          have hKM : (K ++ L) ++ b = K ++ M := by rw [ByteArray.append_assoc, hM]
          have HKM := Lib.hid hKM
          have x1 : ¬ 9223372036854775807 < L.size + b.size := by omega
          have x2 : ¬ 9223372036854775807 < K.size + M.size := by omega
          clear hMs hKM
          go_wp2_with fail
          go_at_call 8
          refine (append_to (r := K ++ M) HDX.out HKM.out (by rw [ByteArray.size_append]; omega)).mono ?_
          rintro e w3 ⟨rfl, hD, hK⟩
          have hbx := hK.cell HBX.out HQD.out (by decide)
          have HD3 := Lib.hid (show DiskIs w.heap.size d w3 (K ++ M) M.size by rw [HMS.out]; exact hD)
          have HK3 := Lib.hid (HKX.out.trans hK)
          clear hD hK HBX HDX HKX q0 q1 q2
          generalize wr.heap.size = q at hbx HQD
          have b1 : w3.cell? ⟨q, 1, none⟩ = some (.int .i64 n) := by simp [World.cell?, hbx]
          have b2 : w3.cell? ⟨q, 2, none⟩ = some (.string b) := by simp [World.cell?, hbx]
          clear hbx
          go_wp2_with fail
          go_at_call 12
          refine (bytes_any HD3.out).mono ?_
          rintro e w4 ⟨rfl, rfl⟩
          go_wp2_with fail
          go_at_call 13
          refine (loose_any HD3.out).mono ?_
          rintro e w4 ⟨rfl, rfl⟩
          go_wp2
          go_roundg (gk - 1)
          case measure => have := H4.out; omega
          case rel =>
            refine ⟨i + 1, K, M, rfl, rfl, by go_num, ?_, ?_, ?_, HK3.out⟩
            · have := H4.out; omega
            · rw [ByteArray.size_append, HMS.out]; omega
            · exact HD3.out
        · by_cases t6 : t ≤ 6
          · obtain ⟨M, hM⟩ : ∃ M, K ++ L = M := ⟨_, rfl⟩
            have HM := Lib.hid hM
            have x1 : ¬ 9223372036854775807 < K.size + L.size := by omega
            have x2 : ¬ 9223372036854775807 < M.size := by rw [← hM, ByteArray.size_append]; omega
            have e1 : M ++ ByteArray.empty = M := ByteArray.append_empty
            have e2 : M ++ (⟨#[]⟩ : ByteArray) = M := ByteArray.append_empty
            go_wp2_with fail
            go_at_call 9
            refine (sync_any HDX.out).mono ?_
            rintro e w3 ⟨rfl, hD, hK⟩
            have hbx := hK.cell HBX.out HQD.out (by decide)
            have HD3 := Lib.hid (hD)
            have HK3 := Lib.hid (HKX.out.trans hK)
            clear hD hK HBX HDX HKX q0 q1 q2
            generalize wr.heap.size = q at hbx HQD
            have b1 : w3.cell? ⟨q, 1, none⟩ = some (.int .i64 n) := by simp [World.cell?, hbx]
            have b2 : w3.cell? ⟨q, 2, none⟩ = some (.string b) := by simp [World.cell?, hbx]
            clear hbx
            go_wp2_with fail
            go_at_call 12
            refine (bytes_any HD3.out).mono ?_
            rintro e w4 ⟨rfl, rfl⟩
            go_wp2_with fail
            go_at_call 13
            refine (loose_any HD3.out).mono ?_
            rintro e w4 ⟨rfl, rfl⟩
            go_wp2
            go_roundg (gk - 1)
            case measure => have := H4.out; omega
            case rel =>
              refine ⟨i + 1, M, ByteArray.empty, rfl, rfl, by go_num, ?_, ?_, ?_, HK3.out⟩
              · have := H4.out; omega
              · rw [e1, ← HM.out, ByteArray.size_append]; omega
              · rw [e1, ← HM.out]; exact HD3.out
          · by_cases t7 : t = 7
            · subst t7
              have e1 : b ++ ByteArray.empty = b := ByteArray.append_empty
              have e2 : b ++ (⟨#[]⟩ : ByteArray) = b := ByteArray.append_empty
              have x2 : ¬ 9223372036854775807 < b.size := by omega
              go_wp2_with fail
              go_at_call 10
              refine (replace_ok HDX.out (b := b) (by omega)).mono ?_
              rintro e w3 ⟨rfl, hD, hK⟩
              have hbx := hK.cell HBX.out HQD.out (by decide)
              have HD3 := Lib.hid (hD)
              have HK3 := Lib.hid (HKX.out.trans hK)
              clear hD hK HBX HDX HKX q0 q1 q2
              generalize wr.heap.size = q at hbx HQD
              have b1 : w3.cell? ⟨q, 1, none⟩ = some (.int .i64 n) := by simp [World.cell?, hbx]
              have b2 : w3.cell? ⟨q, 2, none⟩ = some (.string b) := by simp [World.cell?, hbx]
              clear hbx
              go_wp2_with fail
              go_at_call 12
              refine (bytes_any HD3.out).mono ?_
              rintro e w4 ⟨rfl, rfl⟩
              go_wp2_with fail
              go_at_call 13
              refine (loose_any HD3.out).mono ?_
              rintro e w4 ⟨rfl, rfl⟩
              go_wp2
              go_roundg (gk - 1)
              case measure => have := H4.out; omega
              case rel =>
                refine ⟨i + 1, b, ByteArray.empty, rfl, rfl, by go_num, ?_, ?_, ?_, HK3.out⟩
                · have := H4.out; omega
                · rw [e1]; omega
                · rw [e1]; exact HD3.out
            · have hst := stay_le n L.size
              have e0 : max 0 (min n (L.size : Int)) = (stay n L.size : Int) := by unfold stay; omega
              have hcl := cut_loose K L (stay n L.size) hst
              have hsl := slice_to L (stay n L.size) _ rfl hst
              have hPs : (L.extract 0 (stay n L.size)).size ≤ L.size := by rw [ByteArray.size_extract]; omega
              have CC := crash_to n HDX.out hcl
              generalize L.extract 0 (stay n L.size) = P at hsl hPs CC hcl
              generalize stay n L.size = m at e0 hsl hcl hst
              obtain ⟨M, hM⟩ : ∃ M, K ++ P = M := ⟨_, rfl⟩
              have HM := Lib.hid hM
              have x1 : ¬ 9223372036854775807 < K.size + P.size := by omega
              have x2 : ¬ 9223372036854775807 < M.size := by rw [← hM, ByteArray.size_append]; omega
              have e1 : M ++ ByteArray.empty = M := ByteArray.append_empty
              have e2 : M ++ (⟨#[]⟩ : ByteArray) = M := ByteArray.append_empty
              rw [hM] at CC
              have CB := Lib.hid CC
              clear CC hcl hst
              go_wp2_with fail
              go_at_call 11
              refine (CB.out).mono ?_
              rintro e w3 ⟨rfl, hD, hK⟩
              have hbx := hK.cell HBX.out HQD.out (by decide)
              have HD3 := Lib.hid (hD)
              have HK3 := Lib.hid (HKX.out.trans hK)
              clear hD hK HBX HDX HKX q0 q1 q2
              generalize wr.heap.size = q at hbx HQD
              have b1 : w3.cell? ⟨q, 1, none⟩ = some (.int .i64 n) := by simp [World.cell?, hbx]
              have b2 : w3.cell? ⟨q, 2, none⟩ = some (.string b) := by simp [World.cell?, hbx]
              clear hbx
              go_wp2_with fail
              go_at_call 12
              refine (bytes_any HD3.out).mono ?_
              rintro e w4 ⟨rfl, rfl⟩
              go_wp2_with fail
              go_at_call 13
              refine (loose_any HD3.out).mono ?_
              rintro e w4 ⟨rfl, rfl⟩
              go_wp2
              go_roundg (gk - 1)
              case measure => have := H4.out; omega
              case rel =>
                refine ⟨i + 1, M, ByteArray.empty, rfl, rfl, by go_num, ?_, ?_, ?_, HK3.out⟩
                · have := H4.out; omega
                · rw [e1, ← HM.out, ByteArray.size_append]; omega
                · rw [e1]; exact HD3.out
    · have i5 : ¬ (i : Int) < (l : Int) := by omega
      go_wp2
      go_ret
      exact ⟨rfl, H7.out.below⟩
end Go.Proofs.YtaljaibkmhnleaaDoor
